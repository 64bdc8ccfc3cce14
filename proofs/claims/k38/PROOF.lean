import PyProof.Rows.All
import Wide.All
import OpenK.AllK
import Wide.FinOn
import Lean
import PyProof.EqAt
import PyProof.EqKinds
import PyProof.TupleCall
import PyProof.FString
import OpenK.KOwn
import KE.KTryMore
import PyProof.NsDelKeeps
import PyProof.StrBlock2
import PyProof.AutoListH
import KE.KIntText
import PyProof.Rows.StrIntSpec
import KE.KRevIter
import PyProof.StrWalks
import PyProof.CompUse
import PyProof.NeKinds
import PyProof.Rows.Range3
import PyProof.Rows.EnumRows
import PyProof.ConsumeWalk
import PyProof.Rows.SeqGen
import PyProof.StrLawsRepr
import PyProof.ZipIter
import PyProof.Rows.FactsT2
import PyProof.EnumMake
import PyProof.DictWalks
import PyProof.DictTruth
import PyProof.ListRange
import PyProof.ListStr
import PyProof.TupleOfGen
import PyProof.TupleOfSeq
import PyProof.MinMaxWalk
import PyProof.WalkInts
import KE.KSortAsk
import PyProof.MeetsSeq3
import KE.KRevSl
import PyProof.Rows.SeqMore
import PyProof.ListMulRoad
import PyProof.Rows.SumAny
import PyProof.SeqI3
import PyProof.AttrMissSeq
import KE.KDictOf
import PyProof.Rows.StrCut
import PyProof.Rows.StrSplitCount
import PyProof.DictItems
import PyProof.Rows.SortWalk
import PySem.Challenge.RW_cosetyard_k38_whole_limits
set_option Elab.async false
set_option linter.all false
set_option maxRecDepth 100000
set_option compiler.extract_closed false
set_option compiler.small 0
set_option genSizeOfSpec false
set_option maxHeartbeats 4000000
noncomputable section
local macro_rules|`(tactic|decide)=>`(tactic|decide +kernel)
local macro_rules|`(tactic|ac_rfl)=>`(tactic|exact⟨2224244⟩)
local macro_rules|`(⟨$x,*⟩)=>do
  let q:=#[←`(_),←`(rfl),←`(∅),←`(⋯),←`(?_)]
  let r:Array Lean.Term:=x.getElems.flatMap λe=>match e.raw.isNatLit? with|some n=>(toString n).toList.toArray.map λc=>q[c.toNat-49]!|_=>#[e]
  if x.getElems.any λe=>e.raw.isNatLit?.isSome then`(⟨$r,*⟩)else Lean.Macro.throwUnsupported
local macro_rules|`(tactic|erw[$r,*])=>do let a:=r.getElems.map λe=>(⟨e.raw[1]⟩:Lean.Term);`(tactic|refine⟨$a,*, ?_⟩)
local macro_rules|`(tactic|rwa[$r,*])=>do let a:=r.getElems.map λe=>(⟨e.raw[1]⟩:Lean.Term);if a.size=1&&(a[0]!).raw.isNatLit?.isNone then`(tactic|refine $(a[0]!))else`(tactic|exact⟨$a,*⟩)
local macro_rules|`([$x,*]▸$e)=>do let a←x.getElems.mapM λt=>do match(⟨t⟩:Lean.Term)with|`(-$s)=>`(Lean.Parser.Tactic.rwRule|←$s:term)|s=>`(Lean.Parser.Tactic.rwRule|$s:term)
                                   `(by rw[$a,*];exact $e)
def CVP:Nat→Lean.Term→Lean.MacroM (Lean.TSyntax `rcasesPat)
|0,_=>Lean.Macro.throwUnsupported
|n+1,t=>do match t with
  |`(⟨$x,*⟩)=>let a←x.getElems.mapM λt=>do`(Lean.Parser.Tactic.rcasesPatLo|$(←CVP n t):rcasesPat)
              `(rcasesPat|⟨$a,*⟩)
  |`($i:ident)=>`(rcasesPat|$i:ident)
  |`(_)=>`(rcasesPat|_)
  |_=>Lean.Macro.throwUnsupported
def RN(x:Lean.Syntax):Lean.Syntax:=if x.getId=`rfl then Lean.mkIdent (.num `r (x.getPos?.getD 0).byteIdx)else x
def HR:Nat→Lean.Syntax→Array Lean.Ident
|0,_=>#[]
|n+1,s=>if s.getId=`rfl then#[⟨RN s⟩]else s.getArgs.flatMap (HR n)
theorem GL {p:Prop}(h:let q:Prop:=p;q):p:=h
local macro_rules|`(tactic|let $d:letDecl)=>`(tactic|have $d:letDecl)
local macro_rules|`(tactic|let $p:term:=$e)=>do match p with|`(⟨$x,*⟩)=>if x.getElems.size<3 then`(tactic|obtain $(←CVP 9 p):rcasesPat:=$e)else let n:=HR 9 p;let o←n.mapM λn=>`(tactic|obtain $(Lean.mkIdent `rfl):ident:=$n);let o:=#[←`(tactic|refine GL ?_),←`(tactic|intro q),←`(tactic|obtain $(←CVP 9 ⟨p.raw.rewriteBottomUp RN⟩):rcasesPat:=$e),←`(tactic|subst q)]++o;`(tactic|($[$o]*))|_=>Lean.Macro.throwUnsupported
local macro_rules|`(∅)=>`(by omega)
local macro_rules|`(⋯)=>`(by decide)
local macro_rules|`(tactic|omega)=>`(tactic|lia)
local macro_rules|`($a\$b)=>`($a=some $b)
local macro_rules|`($a^$b)=>match b.raw.isNatLit? with|some _=>Lean.Macro.throwUnsupported|_=>`($a _ _ $b)
local macro_rules|`(↥$s)=>`(($s).heap.objs.size)
local macro_rules|`(#v[$x,*])=>do let a←x.getElems.mapM λe=>do if e.raw.isOfKind `coeNotation||e.raw.isOfKind ``Lean.Parser.Term.dotIdent||e.raw[0].isOfKind ``Lean.Parser.Term.dotIdent then`(some $e)else pure e
                                  `([$a,*])
local macro_rules|`(s!"")=>`(by intro _ z;cases z)
local macro_rules|`(f!"")=>`(by intro z;cases z)
local macro_rules|`($s<*$h)=>`({ $s with heap:=$h })
local macro_rules|`(⇑$s)=>`(($s).length)
local macro_rules|`(↑$s)=>`(.ref $s)
local macro_rules|`(tactic|trivial)=>`(tactic|first|exact .inl rfl|exact .inr rfl|exact .inr (.inl rfl)|exact .inr (.inr rfl)|assumption)
local macro_rules|`(tactic|cbv)=>`(tactic|grind -abstractProof)
local macro_rules|`(tactic|ext $p*)=>match p with|#[]=>`(tactic|omega)|_=>let i:Lean.Ident:=⟨p[0]!.raw[0][0]⟩;`(tactic|cases $i:ident)
local macro_rules|`($a:str>>>$b)=>`({ cls:=.type $a,data:=$b })
local macro_rules|`($x⁻¹)=>`(PySem.wpAny (PySem.model ($x).prog ($x).w))
local macro_rules|`($x<|>$y)=>`(PySem.wpAny (PySem.model $x $y))
local macro_rules|`(universe $x*)=>do return Lean.mkNullNode (←x.mapM λi=>do return(←`(command|def $i:ident:=Nat)).raw)
local macro_rules|`(tactic|cases $h:ident:$p)=>`(tactic|by_cases $h:ident:$p)
local macro_rules|`(tactic|change $t$[$l]?)=>match t with|`($e=$x:ident)=>`(tactic|generalize $e:term=$x:ident$[$l]?)|_=>Lean.Macro.throwUnsupported
local macro_rules|`($s•$b)=>`(($s).heap.get? $b)
local macro_rules|`(~~~$n)=>`(List.range $n)
abbrev Zg:=List Int
abbrev Zh:=List Nat
abbrev Zi:=Option Nat
abbrev Zj:=Option Int
abbrev Zk:=List PySem.Value
abbrev Zl:=Option PySem.Value
abbrev Zm:=Array PySem.Value
abbrev Zn:=List PySem.Addr
abbrev Zo:=Option PySem.Addr
abbrev Zp:=List PySem.Str
abbrev Zq:=List PySem.Env
abbrev Zr:=List PySem.Expr
abbrev Zs:=PySem.Addr
abbrev Zt:=PySem.Value
abbrev Zu:=PySem.Shared
abbrev Za0:=@Option.some.inj
abbrev Za1:=PySem.W.Frag
abbrev Za2:=Nat->Int->Nat->Prop
abbrev Za3:=List Zg
def Za4 (n:Nat)(h:n<=PySem.sizeLine:=by decide):n<=PySem.sizeLine:=h
abbrev ahy:=@PySem.wpAny_bind
abbrev ahz:=@PySem.Heap.get?_push_of_some
abbrev ahA:=@List.length_append
abbrev ahB:=@List.mem_of_getElem?
abbrev ahC:=@List.getElem?_eq_getElem
abbrev ahD:=@List.getElem?_eq_some_iff
abbrev ahE:=@List.length_map
abbrev ahF:=@PySem.wpAny_pure
abbrev ahG:=@Nat.le_refl
abbrev ahH:=@List.mem_singleton
abbrev ahI:=@List.mem_append_right
abbrev ahJ:=@List.getD_eq_getElem?_getD
abbrev ahK:=@Nat.lt_of_le_of_lt
abbrev ahL:=@List.mem_append
abbrev ahM:=@PySem.F.plainAttrs_list
abbrev ahN:=@List.getElem?_append_left
abbrev ahO:=@List.getElem?_append_right
abbrev ahP:=@Nat.le_trans
abbrev ahQ:=@PySem.Heap.get?_push_size
abbrev ahR:=@List.mem_cons
abbrev ahS:=@List.size_toArray
abbrev ahT:=@PySem.Heap.lt_size
abbrev ahU:=@List.mem_cons_self
abbrev ahV:=@PySem.F.slot_list_append
abbrev ahW:=@PySem.F.type_list_append
abbrev ahX:=@beq_eq_false_iff_ne
abbrev ahY:=@if_neg
abbrev ahZ:=@List.getElem?_map
abbrev ah0:=@List.length_cons
abbrev ah1:=@PyProof.Rows.boot_isinstance
abbrev ah2:=@Nat.zero_le
abbrev ah3:=@List.mem_append_left
abbrev ah4:=@if_pos
abbrev ah5:=@Nat.lt_of_lt_of_le
abbrev ah6:=@List.length_set
abbrev ah7:=@PySem.PassesOwn.never
abbrev ah8:=@Nat.ne_of_lt
abbrev ah9:=@decide_eq_true
abbrev aia:=@of_decide_eq_true
abbrev aib:=@List.append_nil
abbrev aic:=@Int.toNat_natCast
abbrev aid:=@List.map_append
abbrev aie:=@List.mem_cons_of_mem
abbrev aif:=@List.length_take
abbrev aih:=@List.nodup_cons
abbrev aii:=@PySem.Heap.get?_update_self
abbrev aij:=@PySem.Heap.get?_update_other
abbrev aik:=@decide_eq_false
abbrev ail:=@List.not_mem_nil
abbrev aim:=@List.getElem?_eq_none
abbrev ain:=@Bool.false_ne_true
abbrev aio:=@decide_eq_true_iff
abbrev aip:=@List.map_map
abbrev aiq:=@PySem.Calls.spliced_cons
abbrev air:=@List.length_range
abbrev ais:=@List.mem_range
abbrev ait:=@List.getElem?_set_self
abbrev aiu:=@List.getElem?_of_mem
abbrev aiv:=@PySem.wpAny_mono
abbrev aiw:=@PySem.wpAny_holding
abbrev aix:=@PySem.boot_len
abbrev aiy:=@PySem.wpAny_newObj_type
abbrev aiz:=@PySem.wpAny_Call_Name_kw
abbrev aiA:=@PyProof.Rows.callWith_type1
abbrev aiB:=@List.mem_map
abbrev aiC:=@List.length_drop
abbrev aiD:=@List.nodup_append
abbrev aiE:=@PySem.wpAny_callSpecial?_slot
abbrev aiF:=@PySem.wpAny_field
abbrev aiG:=@List.map_congr_left
abbrev aiH:=@PySem.Calls.callWith_builtin
abbrev aiI:=@Option.map_eq_some_iff
abbrev aiJ:=@PySem.wpAny_call_entry
abbrev aiK:=@PyProof.Rows.slot_tuple_getitem
abbrev aiL:=@List.append_assoc
abbrev aiM:=@List.length_singleton
abbrev aiN:=@congrArg
abbrev aiO:=@Nat.ne_of_gt
abbrev aiP:=@PySem.codeAny_call_builtin
abbrev aiQ:=@PyProof.Rows.boot_list
abbrev aiR:=@Nat.lt_irrefl
abbrev aiS:=@List.map_cons
abbrev aiT:=@PySem.wpAny_setField_rec
abbrev aiU:=@Ne.symm
abbrev aiV:=@Bool.eq_iff_iff
abbrev aiW:=@PySem.W.kia_one
abbrev aiX:=@PySem.Calls.spliced_nil
abbrev aiY:=@PySem.F.plainAttrs_dict
abbrev aiZ:=@List.getElem?_set_ne
abbrev ai0:=@PySem.Calls.evalArgs_plain
abbrev ai1:=@Int.emod_lt_of_pos
abbrev ai2:=@Nat.lt_succ_self
abbrev ai3:=@List.take_length
abbrev ai4:=@List.eq_nil_of_length_eq_zero
abbrev ai5:=@PySem.F.slot_dict_itemiterator_next
abbrev ai6:=@Array.length_toList
abbrev ai7:=@PySem.mem_of_lookup
abbrev ai8:=@PySem.Heap.SameBut.update
abbrev ai9:=@PySem.wpAny_truthy_bool
abbrev aja:=@Nat.lt_succ_of_lt
abbrev ajb:=@PySem.F.slot_dict_keyiterator_next
abbrev ajc:=@Int.emod_nonneg
abbrev ajd:=@List.length_nil
abbrev aje:=@PySem.Obj.data_mapFields
abbrev ajf:=@List.range_succ
abbrev ajg:=@List.countP_append
abbrev ajh:=@Bool.and_eq_true
abbrev aji:=@List.mem_flatMap
abbrev ajj:=@Array.getElem?_eq_some_iff
abbrev ajk:=@PySem.F.excBase_ValueError
abbrev ajl:=@List.pairwise_map
abbrev ajm:=@PySem.Heap.size_push
abbrev ajn:=@List.nodup_nil
abbrev ajo:=@List.mem_filter
abbrev ajp:=@PySem.F.slot_dict_get
abbrev ajq:=@List.countP_singleton
abbrev ajr:=@PySem.wpAny_typeNameOfWhole_itemiter
abbrev ajs:=@List.take_append_drop
abbrev ajt:=@PySem.wpAny_call
abbrev aju:=@PySem.wpAny_typeNameOfWhole_keyiter
abbrev ajv:=@Int.neg_neg
abbrev ajw:=@List.mem_iff_getElem
abbrev ajx:=@List.dropLast_concat_getLast
abbrev ajy:=@PySem.F.slot_dict_setdefault
abbrev ajz:=@PySem.codeAny_mono
abbrev ajA:=@List.take_succ
abbrev ajB:=@Nat.lt_or_ge
abbrev ajC:=@Nat.sub_self
abbrev ajD:=@PySem.wpAny_dictEntries
abbrev ajE:=@Nat.le_succ
abbrev ajF:=@List.replicate_succ
abbrev ajG:=@List.filter_sublist
abbrev ajH:=@PySem.F.slot_tuple_iterator_next
abbrev ajI:=@List.lookup_cons
abbrev ajJ:=@PySem.W.callWith_K
abbrev ajK:=@List.length_filter_le
abbrev ajL:=@PySem.tupleKind_room_in1
abbrev ajM:=@PySem.Obj.isFreed_of_fields
abbrev ajN:=@or_false
abbrev ajO:=@List.countP_le_length
abbrev ajP:=@PySem.wpAny_setField
abbrev ajQ:=@List.mem_or_eq_of_mem_set
abbrev ajR:=@PySem.wpAny_typeNameOf_itemiter
abbrev ajS:=@Nat.mul_le_mul_right
abbrev ajT:=@PySem.wpAny_execs_nil
abbrev ajU:=@PySem.wpAny_passesOwn
abbrev ajV:=@PySem.wpAny_pyIter_list
abbrev ajW:=@beq_iff_eq
abbrev ajX:=@List.ext_getElem?
abbrev ajY:=@PySem.wpAny_Call_method
abbrev ajZ:=@PySem.wpAny_loadPart'
abbrev aj0:=@PySem.wpAny_typeNameOf_keyiter
abbrev aj1:=@PySem.wpAny_updateSeq
abbrev aj2:=@not_false_eq_true
abbrev aj3:=@List.length_erase_of_mem
abbrev aj4:=@Nat.min_eq_left
abbrev aj5:=@PySem.wpAny_typeOf
abbrev aj6:=@PySem.call_meetsIn
abbrev aj7:=@PySem.wpAny_attempt
abbrev aj8:=@PySem.plainId_quiet
abbrev aj9:=@List.mem_map_of_mem
abbrev aka:=@PyProof.Rows.boot_tuple
abbrev akb:=@List.cons_append
abbrev akc:=@PySem.F.plain_min_loop
abbrev akd:=@PySem.wpAny_seqItems
abbrev ake:=@PySem.F.entry_dict_get
abbrev akf:=@List.take_of_length_le
abbrev akg:=@List.find?_cons_of_neg
abbrev akh:=@Bool.false_eq_true
abbrev aki:=@Array.getElem?_toList
abbrev akj:=@List.nil_append
abbrev akk:=@List.find?_cons
abbrev akl:=@PySem.F.slot_dict_pop
abbrev akm:=@PySem.F.slot_enumerate_next
abbrev akn:=@PySem.codeAny_builtin
abbrev ako:=@PySem.F.slot_enumerate_iter
abbrev akp:=@PySem.wpAny_notOrdered_dict
abbrev akq:=@PySem.wpAny_dictEpoch
abbrev akr:=@PySem.wpAny_standAt
abbrev aks:=@if_false
abbrev akt:=@List.flatten_cons
abbrev aku:=@List.foldl_append
abbrev akv:=@Decidable.not_not
abbrev akw:=@PySem.wpAny_loadPart_at
abbrev akx:=@PySem.Around.under_plainId
abbrev aky:=@List.drop_eq_getElem_cons
abbrev akz:=@Classical.byContradiction
abbrev akA:=@Nat.mul_le_mul
abbrev akB:=@Nat.min_eq_right
abbrev akC:=@PySem.W.hideAll_get
abbrev akD:=@List.getElem?_range
abbrev akE:=@List.flatMap_append
abbrev akF:=@Nat.le_of_lt
abbrev akG:=@Nat.le_of_eq
abbrev akH:=@Option.isSome_iff_exists
abbrev akI:=@List.getElem?_take_of_lt
abbrev akJ:=@PySem.F.args_tuple_add_2
abbrev akK:=@PySem.call_meets
abbrev akL:=@Nat.lt_trans
abbrev akM:=@Nat.le_total
abbrev akN:=@List.Pairwise.imp_of_mem
abbrev akO:=@List.mem_filterMap
abbrev akP:=@PySem.F.entry_tuple_add
abbrev akQ:=@List.foldl_cons
abbrev akR:=@Bool.or_eq_true
abbrev akS:=@PySem.Code.quiet_builtin
abbrev akT:=@PySem.wpAny_ite_split
abbrev akU:=@Nat.max_eq_left
abbrev akV:=@List.filter_cons_of_pos
abbrev akW:=@List.getElem?_drop
abbrev akX:=@PySem.W.cellsFrom_some
abbrev akY:=@PySem.F.slot_tuple_add
abbrev akZ:=@Array.getElem?_eq_none
abbrev ak0:=@Option.map_eq_none_iff
abbrev ak1:=@List.pairwise_lt_range
abbrev ak2:=@PyProof.Rows.boot_dict
abbrev ak3:=@PySem.wpAny_rule
abbrev ak4:=@PySem.wpAny_letGo
abbrev ak5:=@List.filter_congr
abbrev ak6:=@Nat.add_mul
abbrev ak7:=@List.findIdx_cons
abbrev ak8:=@PySem.wpAny_tryCatch
abbrev ak9:=@Nat.max_eq_right
abbrev ala:=@List.countP_cons
abbrev alb:=@List.nodup_range
abbrev alc:=@if_true
namespace Lake
namespace L2
open PySem PySem.Spec PyProof.Rows
abbrev Key:=Sum Int Str
abbrev Zd:=List Key
noncomputable def sY:Key->Zt->Bool
 |.inl k,v=>Value.isInt k v
 |.inr x,v=>Value.isStrOf x v
noncomputable def aal (w:World):Key->Int
 |.inl k=>hashInt k
 |.inr x=>hashStr w x
theorem dX:∀{k:Key} {v:Zt},sY k v=true->(∃i t,k=Sum.inl i/\v=Value.int i t)\/(∃x t,k=Sum.inr x/\v=Value.str x t)
 |.inl i,v,h=>by
  let⟨t,e⟩:=Value.isInt_shape (k:=i) (v:=v) h;rwa[.inl ⟨i,t,2,e⟩]
 |.inr x,v,h=>by
  let⟨t,e⟩:=Value.isStrOf_shape (x:=x) (v:=v) h;rwa[.inr ⟨x,t,2,e⟩]
def Hg (i:Int)(t:Tok):sY (.inl i) (.int i t)=true:=by simp[sY,Value.isInt]
def Hh (x:Str)(t:Tok):sY (.inr x) (.str x t)=true:=by simp[sY,Value.isStrOf]
def QZ (a b:Int):decide ((Sum.inl a:Key)=Sum.inl b)=(a==b):=by
 cbv
def Q0 (a b:Str):decide ((Sum.inr a:Key)=Sum.inr b)=decide (a=b):=by
 cbv
def Q5 (a:Int)(b:Str):decide ((Sum.inl a:Key)=Sum.inr b)=false:=aik (λq=>nomatch q)
def Q6 (a:Str)(b:Int):decide ((Sum.inr a:Key)=Sum.inl b)=false:=aik (λq=>nomatch q)
def bO (c:Program)(w:World):PySem.KeyKind c w Key where
 is:=sY
 hash:=aal w
 inj:=λv a b l f=>by
  rcases dX l with ⟨i,t,rfl,rfl⟩|⟨x,t,rfl,rfl⟩
  ·rcases dX f with ⟨j,u,rfl,e⟩|⟨y,u,rfl,e⟩
   ·cbv
   cbv
  ·rcases dX f with ⟨j,u,rfl,e⟩|⟨y,u,rfl,e⟩
   ·rwa[nomatch e]
   cbv
 byValue:=λk v h=>by
  rcases dX h with ⟨i,t,rfl,rfl⟩|⟨x,t,rfl,rfl⟩ <;> rfl
 pyHash:=λd h=>by
  rcases dX d with ⟨i,t,rfl,rfl⟩|⟨x,t,rfl,rfl⟩
  ·rwa[wpAny_pyHash_int h]
  ·rwa[wpAny_pyHash_str h]
 eqBool:=λm d h=>by
  rcases dX m with ⟨i,t,rfl,rfl⟩|⟨x,t,rfl,rfl⟩
  ·rcases dX d with ⟨j,u,rfl,rfl⟩|⟨y,u,rfl,rfl⟩
   ·rw[QZ]at h;rwa[wpAny_eqBool_int h]
   ·rw[Q5]at h;rwa[SeqAt.EqAt.int_str i t y u _ _ _ _ h]
  ·rcases dX d with ⟨j,u,rfl,rfl⟩|⟨y,u,rfl,rfl⟩
   ·rw[Q6]at h;rwa[SeqAt.EqAt.str_int x t j u _ _ _ _ h]
   ·rw[Q0]at h;rwa[wpAny_eqBool_str h]
 «strs»:=λk x t v h=>by
  rcases dX h with ⟨i,u,rfl,e⟩|⟨y,u,rfl,e⟩
  ·rwa[nomatch e]
  ·injection e with g _
   subst g;cases v <;> rfl
def Dw (a:Program)(w:World)(i:Int)(t:Tok):(bO a w).is (.inl i) (.int i t)=true:=Hg i t
def Dx (a:Program)(w:World)(x:Str)(t:Tok):(bO a w).is (.inr x) (.str x t)=true:=Hh x t
end L2
variable {n m i j:Nat}{a b c d:PySem.Addr}{z y:Int}{v u:PySem.Value}{x f:PySem.Str}{e:PySem.Expr}{p:PySem.Pos}{K:Za1}{Q E:PySem.Value->PySem.Shared->Prop}{s t:PySem.Shared}{P:PySem.Program}{w:PySem.World}{h g:PySem.Heap}{R:Za2}{A:PySem.Around}{o:List (PySem.Addr×PySem.Obj)}{M:PySem.Str->Option PySem.Value}{l:Zg}{N:List PySem.Value}{B:Zh}{W:Za3}{U:Unit->PySem.Shared->Prop}{C:List PySem.Expr}{F:List PySem.Addr}{Z:List PySem.Str}
namespace L2
open PySem PySem.Spec PyProof.Rows
inductive V where
 |non|bl (b:Bool)|int (i:Int)|str (x:Str)|m9 (b:Array UInt8)|Ar (b:UInt64)|ref (a:Zs)|ty (n:String)
 deriving DecidableEq
abbrev Zc:=Option V
abbrev Zb:=List V
def RelV:V->Zt->Prop
 |.non,u=>u=Value.none
 |.bl b,u=>u=Value.bool b
 |.int i,u=>∃t,u=Value.int i t
 |.str x,u=>∃t,u=Value.str x t
 |.m9 b,u=>∃t,u=Value.bytes b t
 |.Ar b,u=>∃t,u=Value.float b t
 |.ref a,u=>u=Value.ref a
 |.ty n,u=>u=Value.type n
abbrev Vals:Zb->Zk->Prop:=Paired RelV
def Vals.length {xs:Zb}{us:Zk}(r:Vals xs us):⇑xs=⇑us:=Paired.length r
theorem Vals.get:∀{b:Zb} {a:Zk} {i:Nat} {x:V},Vals b a->b[i]?\x->∃u,a[i]?\u/\RelV x u
 |_,_,_,_,.nil,e=>by simp at e
 |_,_,0,_,.cons r _,e=>by simp at e;subst e;rwa[12,r]
 |_,_,i+ 1,x,.cons _ t,e=>by
  let⟨u,d,c⟩:=Vals.get (i:=i) (x:=x) t (by simpa using e);rwa[u,by simpa using d,c]
theorem Vals.set {x:V}(r:RelV x u):∀{xs:Zb} {us:Zk} (i:Nat),Vals xs us->Vals (xs.set i x) (us.set i u)
 |_,_,_,.nil=>.nil
 |_,_,0,.cons _ t=>.cons r t
 |_,_,i+ 1,.cons q t=>.cons q (Vals.set r i t)
theorem Vals.append:∀{a ys:Zb} {b ws:Zk},Vals a b->Vals ys ws->Vals (a++ys) (b++ws)
 |_,_,_,_,.nil,s=>s
 |_,_,_,_,.cons r t,s=>.cons r (Vals.append t s)
theorem Vals.take:∀{xs:Zb} {us:Zk} (n:Nat),Vals xs us->Vals (xs.take n) (us.take n)
 |_,_,0,_=>.nil
 |_,_,_+ 1,.nil=>.nil
 |_,_,n+ 1,.cons r t=>.cons r (Vals.take n t)
theorem Vals.drop:∀{xs:Zb} {us:Zk} (n:Nat),Vals xs us->Vals (xs.drop n) (us.drop n)
 |_,_,0,r=>r
 |_,_,_+ 1,.nil=>.nil
 |_,_,n+ 1,.cons _ t=>Vals.drop n t
def eK:Zc->Zl->Prop
 |some v,some u=>RelV v u
 |none,none=>True
 |_,_=>False
def KV {a:Type}:List (a×V)->List (a×Zt)->Prop:=Paired λ(p:a×V) (q:a×Zt)=>p.1=q.1/\RelV p.2 q.2
noncomputable def kV:Key->V
 |.inl i=>.int i
 |.inr x=>.str x
inductive HO where
 /-- a list -/
 |lst (xs:Zb)
 /-- a tuple (never changes) -/
 |tup (xs:Zb)
 /-- a dict whose keys are ints and texts;one whose keys are tuples of ints and texts (the empty one is both) -/
 |dK (kvs:List (Key×V))|dT (kvs:List (Zd×V))
 /-- a set of ints:its members,its size -/
 |set (S:Int->Bool) (n:Nat)
 /-- an instance of the class at C,its dict at dx,its attributes -/
 |ins (C dx:Zs) (fs:List (Str×V))
 /-- the dict of the instance at x -/
 |own (x:Zs)
 /-- the dict of an exception -/
 |xd (fs:List (Str×V))
 /-- a bound method,f of x -/
 |met (f x:Zs)
 /-- a range object lo,lo+ 1,.. below hi -/
 |eX (lo hi:Int)
 /-- a thing that is known to the object (the script;a dict while a loop walks it):read,never written while it is so -/
 |c9 (o:Obj) (u:HO)
 /-- a code object's table -/
 |fy (ps:Zm)
 /-- any other thing,by what is true of its one object (a def of af4 own:age a S n:=HO.ext λh=>..) -/
 |ext (φ:Heap->Prop)
abbrev Hp:=Zs->Option HO
noncomputable def upd (H:Hp)(a:Zs)(o:HO):Hp:=λb=>if b=a then some o else H b
def ah {H:Hp}{o:HO}:upd H a o a\o:=by unfold upd;cbv
def ak {H:Hp}{o:HO}(h:b≠a):upd H a o b=H b:=by unfold upd;rw[ahY h]
def OY {H:Hp}{o u:HO}:upd (upd H a o) a u=upd H a u:=by
 funext b;unfold upd;cbv
def bT {H:Hp}{o u:HO}(h:H a\o)(c:H b\u)(d:o≠u):a≠b:=by
 cbv
def ax {H:Hp}{o:HO}(h:H a\o)(c:H b=none):a≠b:=by
 cbv
section
variable (P:Program) (w:World)
def bY (H:Hp)(h:Heap)(a:Zs):HO->Prop
 |.lst xs=>⇑xs<=sizeLine/\∃(c:Zk) (n:Nat),Vals xs c/\h.get? a\("list">>>.seq c.toArray n)
 |.tup xs=>⇑xs<=sizeLine/\∃c:Zk,Vals xs c/\IsTup h a c.toArray
 |.dK b=>⇑b<=sizeLine/\(a==sysModules)=false/\∃j,KV b j/\h.DictOf (bO P w) a j
 |.dT b=>⇑b<=sizeLine/\(a==sysModules)=false/\∃xs:List (Zd×Zs×Zt),
  Paired (λ(p:Zd×V) (q:Zd×Zs×Zt)=>p.1=q.1/\H q.2.1\.tup (p.1.map kV)/\RelV p.2 q.2.2) b xs/\
  ∃o l s,h.get? a\o/\o.ExactDict/\o.data=.dict l s/\l.toList=xs.map (entryOfKey (tupleKind (bO P w)))/\(xs.map (·.1)).Nodup
 |.set S n=>h.SetOf (intKind P w) a S n
 |.ins C e fs=>H e\.own a/\⇑fs<=1000/\e≠a/\h.get? a\PySem.W.instObj C e/\
  ∃d,h.Ns1 e d/\(∀f,eK (fs.lookup f) (d f))/\PySem.Within d (fs.map (·.1))
 |.own _=>∃o,h.get? a\o
 |.xd fs=>∃d,h.Ns1 a d/\∀f,eK (fs.lookup f) (d f)
 |.eX lo r=>∃t u v,h.get? a\("range">>>.fields #[.int lo t,.int r u,.int 1 v])
 |.c9 o u=>h.get? a\o/\bY H h a u
 |.fy m=>h.get? a\{ cls:=.none,data:=.fields m }
 |.met f x=>h.get? a\(PySem.W.methodObj ↑f ↑x)
 |.ext g=>g h/\(∃o,h.get? a\o)/\∀k i:Heap,g k->(∀o,k.get? a\o->i.get? a\o)->g i
def dM (H:Hp)(h:Heap):Prop:=∀a o,H a\o->bY P w H h a o
end
section
variable {P:Program}{w:World}{H H':Hp}{h h':Heap}{a:Zs}{o:HO}
def bY.lt (x:bY P w H h a o):a<h.objs.size:=by
 cases o with
 |lst c=>let⟨_,_,_,_,e⟩:=x;rwa[ahT e]
 |tup c=>let⟨_,_,_,p⟩:=x;rwa[p.lt]
 |dK b=>let⟨_,_,_,_,o,_,_,e,_⟩:=x;rwa[ahT e]
 |dT b=>let⟨_,_,_,_,o,_,_,e,_⟩:=x;rwa[ahT e]
 |set S n=>let⟨o,_,_,_,e,_⟩:=x;rwa[ahT e]
 |ins C dx fs=>let⟨_,_,_,e,_⟩:=x;rwa[ahT e]
 |own y=>let⟨_,e⟩:=x;rwa[ahT e]
 |xd fs=>let⟨_,⟨_,_,_,e,_⟩,_⟩:=x;rwa[ahT e]
 |eX lo i=>let⟨_,_,_,e⟩:=x;rwa[ahT e]
 |c9 j u=>let⟨e,_⟩:=x;rwa[ahT e]
 |fy d=>exact ahT (show h.get? a=some _ from x)
 |met f y=>exact ahT (show h.get? a=some _ from x)
 |ext g=>let⟨_,⟨_,e⟩,_⟩:=x;rwa[ahT e]
theorem Paired.Kl {g e:Type}{F G:g->e->Prop}:∀{c:List g} {d:List e},Paired F c d->(∀a b,F a b->G a b)->Paired G c d
 |_,_,.nil,_=>.nil
 |_,_,.cons r t,f=>.cons (f^r) (Paired.Kl t f)
def bY.ft (x:bY P w H h a o)(k:∀b u,(b=a\/H b\.own a)->h.get? b\u->h'.get? b\u)
 (I:∀b,H b\.own a->H' b\.own a) (E:∀b m,H b\.tup m->H' b\.tup m):bY P w H' h' a o:=by
 induction o with
 |lst m=>let⟨z,l,n,r,e⟩:=x;rwa[z,l,n,r,k _ _ (.inl rfl) e]
 |tup m=>let⟨z,l,r,g,e,c⟩:=x;rwa[z,l,r,g,k _ _ (.inl rfl) e,c]
 |dK s=>let⟨z,y,F,r,g,i,j,e,c⟩:=x;rwa[z,y,F,r,g,i,j,k _ _ (.inl rfl) e,c]
 |dT s=>
  let⟨z,y,m,r,g,i,j,e,c⟩:=x;rwa[z,y,m,Paired.Kl r λp q z=>⟨z.1,E^z.2.1,z.2.2⟩,g,i,j,k _ _ (.inl rfl) e,c]
 |set S n=>let⟨g,i,j,t,e,c⟩:=x;rwa[g,i,j,t,k _ _ (.inl rfl) e,c]
 |ins C dx fs=>
  let⟨d,z,ne,e,A,⟨B,i,j,G,c⟩,r⟩:=x;rwa[I _ d,z,ne,k _ _ (.inl rfl) e,A,⟨B,i,j,k _ _ (.inr d) G,c⟩,r]
 |own y=>let⟨g,e⟩:=x;rwa[g,k _ _ (.inl rfl) e]
 |xd fs=>let⟨A,⟨B,i,j,e,c⟩,r⟩:=x;rwa[A,⟨B,i,j,k _ _ (.inl rfl) e,c⟩,r]
 |eX lo M=>let⟨t,u,v,e⟩:=x;rwa[t,u,v,k _ _ (.inl rfl) e]
 |c9 g u J=>let⟨e,q⟩:=x;rwa[k _ _ (.inl rfl) e,J q]
 |fy D=>
  let e:h.get? a\{ cls:=.none,data:=.fields D }:=x;show h'.get? a\{ cls:=.none,data:=.fields D };rwa[k a _ (.inl rfl) e]
 |met f y=>
  let e:h.get? a\(PySem.W.methodObj ↑f ↑y):=x;show h'.get? a\PySem.W.methodObj ↑f ↑y;rwa[k a _ (.inl rfl) e]
 |ext L=>let⟨p,⟨o,e⟩,st⟩:=x;rwa[st _ _ p λo q=>k _ _ (.inl rfl) q,⟨o,k _ _ (.inl rfl) e⟩,st]
def dM.lt (x:dM P w H h)(e:H a\o):a<h.objs.size:=(x a o e).lt
def dM.fresh (x:dM P w H h)(e:h.objs.size<=a):H a=none:=by
 cases q:H a with
 |none=>rfl
 |some u=>exact absurd (ah5 (x.lt q) e) (aiR _)
def dM.kept (x:dM P w H h)(k:∀b u,h.get? b\u->h'.get? b\u):dM P w H h':=λa o e=>
 (x a o e).ft (λb u _ q=>k b u q) (λ_ q=>q) λ_ _ q=>q
def dM.laid (x:dM P w H h)(k:∀b u,h.get? b\u->h'.get? b\u)(g:h.objs.size<=a)(new:bY P w (upd H a o) h' a o):dM P w (upd H a o) h':=λb u e=>by
 let f:=x.fresh g;cases d:b=a
 ·subst d;rw[ah]at e;cbv
 ·rw[ak d]at e;rwa[(x b u e).ft (λc v _ q=>k c v q) (λc q=>[ak (ax q f)]▸q) λc i q=>[ak (ax q f)]▸q]
end
def Rd (H:Hp)(a:Zs)(u:HO):Prop:=H a\u\/∃o,H a\(.c9 o u)
def Rd.ok {H:Hp}{u:HO}(r:Rd H a u)(x:dM P w H h):bY P w H h a u:=by
 rcases r with r|⟨o,r⟩
 ·rwa[x a u r]
 ·let⟨_,q⟩:=x a _ r;rwa[q]
def ud:Option HO->Prop
 |some (.lst _)=>True
 |some (.dK _)=>True
 |some (.dT _)=>True
 |some (.set _ _)=>True
 |some (.ins _ _ _)=>True
 |some (.ext _)=>True
 |_=>False
section
variable {P:Program}{w:World}{H:Hp}{h h':Heap}{x e:Zs}{o':HO}
def dM.write (ok:dM P w H h)(mu:ud (H x))(l:e=x\/H e\.own x)(k:∀b u,b≠e->h.get? b\u->h'.get? b\u)(g:∃u,h'.get? e\u)
 (new:bY P w (upd H x o') h' x o'):dM P w (upd H x o') h':=λb u q=>by
 let a:∀c y,H c\.own y->c≠x:=λc y r z=>by subst z;rw[r]at mu;rwa[mu]
 let jj:∀c d,H c\.tup d->c≠x:=λc d r z=>by subst z;rw[r]at mu;rwa[mu]
 cases i:b=x
 ·subst i;rw[ah]at q;cbv
 ·rw[ak i]at q;cases f:b=e
  ·let j:H b\(.own x):=by
    rcases l with z|z
    ·cbv
    ·rw[f];rwa[z]
   rw[q]at j;ext j;let⟨v,m⟩:=g;rwa[v,by cbv]
  ·refine(ok b u q).ft (λc v hc r=>k c v ?_ r) (λc r=>[ak (a c b r)]▸r) λc d r=>by rw[ak (jj c d r)];rwa[r]
   cbv
end
structure Un (fs ex:Zn) (H H':Hp) (h h':Heap):Prop where
 keep:∀b o,h.get? b\o->H b=none->b∉fs->b∉ex->h'.get? b\o
 slot:∀b o,h.get? b\o->H b=none->b∈fs->b∉ex->∃sl,h'.get? b\{ o with slots:=sl }
 free:∀b o,h.get? b\o->H b=none->b∉ex->H' b=none
 there:∀b o,h.get? b\o->b∉ex->∃o',h'.get? b\o'
 ie:∀b xs,H b\.tup xs->H' b\(.tup xs)
 gH:∀b o u,H b\.c9 o u->H' b\(.c9 o u)
 ig:∀b ps,H b\.fy ps->∃more,H' b\(.fy (ps++more))
section
variable {fs ex:Zn}{H H1:Hp}{h h1 h':Heap}{a x e:Zs}{o:HO}
def Un.any (u:Un fs ex H H1 h h1){b:Zs}{c:Obj}(q:h.get? b\c)(n:H b=none)(f:b∉ex):∃sl,h1.get? b\{ c with slots:=sl }:=by
 cases d:b∈fs
 ·rwa[u.slot b c q n d f]
 ·rwa[c.slots,u.keep b c q n d f]
def Un.kept (k:∀b u,h.get? b\u->h'.get? b\u):Un fs ex H H h h':=
 ⟨λb c q _ _ _=>k b c q,λb c q _ _ _=>⟨c.slots,k b c q⟩,λ_ _ _ n _=>n,λb c q _=>⟨c,k b c q⟩,λ_ _ q=>q,λ_ _ _ q=>q,λ_ d q=>⟨#[],by rw[q];simp⟩⟩
def Un.refl:Un fs ex H H h h:=Un.kept λ_ _ q=>q
def Un.laid (k:∀b u,h.get? b\u->h'.get? b\u)(d:h.objs.size<=a)(c:H a=none):Un fs ex H (upd H a o) h h' where
 keep:=λb u q _ _ _=>k b u q
 slot:=λb u q _ _ _=>⟨u.slots,k b u q⟩
 free:=λb u q n _=>by rw[ak (ah8 (ah5 (ahT q) d))];rwa[n]
 there:=λb u q _=>⟨u,k b u q⟩
 ie:=λb f q=>by rw[ak (ax q c)];rwa[q]
 gH:=λb u f q=>by rw[ak (ax q c)];rwa[q]
 ig:=λb g q=>⟨#[],by rw[ak (ax q c),q];simp⟩
def Un.write (mu:ud (H x))(l:e=x\/H e\.own x)(k:∀b u,b≠e->h.get? b\u->h'.get? b\u)(g:∃u,h'.get? e\u):Un fs ex H (upd H x o) h h':=by
 let i:∀b,H b=none->b≠x:=λb n z=>by subst z;rw[n]at mu;rwa[mu]
 let d:∀b,H b=none->b≠e:=λb n z=>by
  cbv
 let c:∀b u,H b\u->¬ud (some u)->b≠x:=λb u q nm z=>by cbv
 rwa[⟨λb u q n _ _=>k b u (d b n) q,λb u q n _ _=>⟨u.slots,k b u (d b n) q⟩,λb u q n _=>[ak (i b n)]▸n,λb u q _=>?_,λb f q=>[ak (c b _ q λz=>z)]▸q,λb u f q=>[ak (c b _ q λz=>z)]▸q,λb j q=>⟨#[],by rw[ak (c b _ q λz=>z),q];simp⟩⟩]
 cbv
end
noncomputable def MS (h:Heap)(H:Hp):Zn:=(~~~h.objs.size).filter λa=>(H a).isSome
def pR (h:Heap)(H:Hp):Heap:=PySem.W.hideAll h (MS h H)
def Hi (h:Heap)(H:Hp):(pR h H).objs.size=h.objs.size:=PySem.W.hideAll_size _ _
def uG {H:Hp}{o:Obj}(e:h.get? b\o)(n:H b=none):(pR h H).get? b\o:=
 akC _ e λa=>by
  let q:(H b).isSome=true:=(ajo.mp a).2
  cbv
def OZ {H:Hp}{o:Obj}(e:(pR h H).get? b\o):h.get? b\o/\H b=none:=by
 let a:h.get? b\o:=PySem.W.of_hideAll (MS h H) e;erw[a]
 cases q:H b with
 |none=>rfl
 |some x=>
  let c:b∈MS h H:=ajo.mpr ⟨ais.mpr (ahT a),by simp[q]⟩;let z:(pR h H).get? b=none:=PySem.W.hideAll_none (MS h H) c
  cbv
noncomputable def O6 (g h:Heap)(L:Zs):List (Zs×Obj):=(~~~h.objs.size).filterMap λa=>if a=L\/(g.get? a).isSome=true then none else (h.get? a).map λo=>(a,o)
def rest (g h:Heap)(L d:Zs):List (Zs×Obj):=(O6 g h L).filter λp=>decide (p.1≠d)
end L2
variable {H I J:L2.Hp}{q:L2.V}{L:List L2.V}
namespace L2
open PySem PySem.Spec PyProof.Rows
structure Mod (K:Za1) (mg:Str->Zl) (base:Heap):Prop where
 qC:K.In base
 glob:base.Ns mainGlobals mg
 blt:∃mb,base.Ns builtinsNs mb/\∀x:Str,x≠"__name__"->mb x=bootBuiltins x
 nolimit:base.NoLimit
structure Cx where
 prog:Program
 w:World
 K:Za1
 mg:Str->Zl
 base:Heap
 A:Around
 N:Zp
 eB:Zu
 uH:Hp
 env:Env
 outer:Zq
 stack:Zq
 ex:Zn
 fn:Str->Bool
 calm:Bool
 pn:List (Zs×Obj)
 xe:Zt->Zu->Prop
def cK (l:Zq):Zn:=l.filterMap (·.frame)
abbrev Cx.fs (X:Cx):Zn:=cK X.outer
def Q7 (sc:Scope)(x:Str):Prop:=sc.names.lookup x=some .local\/sc.names.lookup x=some .cell\/sc.names.lookup x=some .free
def Loc (sc:Scope)(x:Str):Prop:=sc.names.lookup x=some .local\/sc.names.lookup x=some .cell
def Look (env:Env)(h:Heap)(m:Str->Zl)(x:Str)(u:Zt):Prop:=
 (env.kindOf x=some .local/\m x\u)\/((env.kindOf x=some .cell\/env.kindOf x=some .free)/\∃c,env.cells.lookup x\c/\h.IsCell c (some u))
structure Cx.Ok (X:Cx):Prop where
 mod:Mod X.K X.mg X.base
 kind:X.env.scope.kind=.function
 glob:X.env.globals=mainGlobals
 blt:X.env.builtins=builtinsNs
 above:X.eB.heap.objs.size<=X.env.locals
 inj:∀x y c,X.env.cells.lookup x\c->X.env.cells.lookup y\c->x=y
 has:∀x,(X.env.kindOf x=some .cell\/X.env.kindOf x=some .free)->∃c,X.env.cells.lookup x\c
 As:∀x c,X.fn x=true->X.env.cells.lookup x\c->X.eB.heap.objs.size<=c
 hd:X.calm=true->X.A.handled=none
 frames:X.A.frames\X.stack
 Eg:X.stack=X.outer\/(X.stack=X.env::X.outer/\X.env.frame\X.env.locals)
 MT:∀b∈X.ex,b≠X.env.locals/\∀x c,X.env.cells.lookup x\c->c≠b
 bs:∀b o,X.base.get? b\o->X.eB.heap.get? b\o/\X.uH b=none
 rB:X.base.objs.size<=X.eB.heap.objs.size
 uI:∀b o,X.base.get? b\o->b∉X.ex
 xN:∀b∈X.ex,b∉X.fs
 jk:X.eB.heap.FunFrames X.base X.outer
 uf:∀b∈X.fs,X.uH b=none
structure Inv (X:Cx) (pins:List (Zs×Obj)) (σ:List Zc) (H:Hp) (s:Zu):Prop where
 ok:X.Ok
 os:s.os=X.eB.os
 bare:AllBare s.gens
 base:Un X.fs X.ex X.uH H X.eB.heap s.heap
 loc:∃m,s.heap.Ns X.env.locals m/\∀(i:Nat) (x:Str) (v:V),X.N[i]?\x->σ[i]?\some v->Q7 X.env.scope x->∃u,RelV v u/\Look X.env s.heap m x u
 cell:∀x c,X.env.cells.lookup x\c->∃v,s.heap.IsCell c v
 free:H X.env.locals=none
 gI:∀x c,X.env.cells.lookup x\c->H c=none
 pin:∀p∈X.pn++pins,s•p.1\p.2/\H p.1=none/\p.1≠X.env.locals/\p.1∉X.fs/\∀v,p.2.data≠.cell v
 aM:dM X.prog X.w H s.heap
 len:⇑σ=⇑X.N
section
variable {X:Cx}{pins:List (Zs×Obj)}{σ:List Zc}{H H':Hp}{s:Zu}{h':Heap}
def Cx.Ok.aam (ok:X.Ok){b:Zs}{o:Obj}(e:X.base.get? b\o):b∉X.fs:=λa=>by
 have:=(ok.jk.mem a).1
 cbv
def Inv.bs (I:Inv X pins σ H s):∀b o,X.base.get? b\o->s•b\o/\H b=none:=λb o e=>
 ⟨I.base.keep b o (I.ok.bs b o e).1 (I.ok.bs b o e).2 (I.ok.aam e) (I.ok.uI b o e),I.base.free b o (I.ok.bs b o e).1 (I.ok.bs b o e).2 (I.ok.uI b o e)⟩
def Inv.bk (I:Inv X pins σ H s):∀b o,X.base.get? b\o->s•b\o:=λb o e=>(I.bs b o e).1
def Inv.mod (I:Inv X pins σ H s):Mod X.K X.mg X.base:=I.ok.mod
def Inv.dg (I:Inv X pins σ H s):X.K.In s.heap:=I.ok.mod.qC.keeps I.bk
def Inv.lt (I:Inv X pins σ H s):X.env.locals<↥s:=let ⟨_,a,_⟩:=I.loc;a.lt
def Inv.sz (I:Inv X pins σ H s):X.eB.heap.objs.size<=↥s:=ahP I.ok.above (akF I.lt)
def Inv.FC (I:Inv X pins σ H s){a:Zs}(h:↥s<=a):a∉X.fs:=λc=>by
 let⟨_,o,b,_⟩:=I.ok.jk.mem c;rwa[absurd (ah5 (ahT b) (ahP I.sz h)) (aiR _)]
def Inv.lB (I:Inv X pins σ H s):∀x c,X.env.cells.lookup x\c->c≠X.env.locals:=λx c e z=>by
 let⟨v,o,f,hd⟩:=I.cell x c e;let⟨m,⟨h,g,d,b,a,_⟩,_⟩:=I.loc
 cbv
def Inv.jk (I:Inv X pins σ H s):s.heap.FunFrames X.base X.outer:=by
 let all:∀(l:Zq),(∀b∈cK l,b∈X.fs)->X.eB.heap.FunFrames X.base l->s.heap.FunFrames X.base l:=by
  intro l
  induction l with
  |nil=>intro _ _;trivial
  |cons env r i=>
   intro f j;let⟨g,⟨L,o,d,m,h,hd⟩,k⟩:=j;let a:L∈X.fs:=f L (by unfold cK;cbv);let⟨sl,e⟩:=I.base.slot L o h (I.ok.uf L a) a λz=>I.ok.xN L z a
   rwa[g,⟨L,_,d,m,e,hd⟩,i (λb c=>f b (by unfold cK;rw[List.filterMap_cons,d];rwa[aie _ c])) k]
 rwa[all X.outer (λ_ c=>c) I.ok.jk]
def Inv.stack (I:Inv X pins σ H s):s.heap.FunFrames X.base X.stack:=by
 rcases I.ok.Eg with e|⟨e,a⟩
 ·rw[e];rwa[I.jk]
 ·rw[e];let⟨m,b,_⟩:=I.loc;rwa[.cons (by rw[I.ok.kind];decide) a b ?_ I.jk];rwa[Heap.get?_none_of_le (ahP I.ok.rB I.ok.above)]
def Inv.Au (I:Inv X pins σ H s):∀b∈cK X.stack,b∈X.env.locals::X.fs:=λb a=>by
 rcases I.ok.Eg with e|⟨e,c⟩
 ·cbv
 ·rw[e]at a;unfold cK at a;rw[List.filterMap_cons,c]at a;rwa[a]
def Inv.oE (I:Inv X pins σ H s):∀b∈cK X.stack,H b=none:=λb a=>by
 rcases ahR.mp (I.Au b a) with e|a
 ·rw[e];rwa[I.free]
 ·let⟨_,o,c,_⟩:=I.ok.jk.mem a;rwa[I.base.free b o c (I.ok.uf b a) λz=>I.ok.xN b z a]
def Inv.step {g':Array GenState}{t':Nat}{d':Drawn}{ch:Zn}(I:Inv X pins σ H s)
 (g:∀b∈ch,(b∈X.ex\/X.eB.heap.objs.size<=b)/\b≠X.env.locals/\(∀x c,X.env.cells.lookup x\c->c≠b)/\∀p∈X.pn++pins,p.1≠b)
 (keep:∀b o,b≠X.env.locals->b∉X.fs->b∉ch->s•b\o->H b=none->h'.get? b\o)
 (slot:∀b o,b≠X.env.locals->b∈X.fs->b∉ch->s•b\o->H b=none->∃sl,h'.get? b\{ o with slots:=sl }) (free:∀b o,b∉ch->s•b\o->H b=none->H' b=none)
 (there:∀b o,b∉ch->s•b\o->∃B,h'.get? b\B)
 (ie:∀b j,H b\.tup j->H' b\.tup j) (gH:∀b o u,H b\.c9 o u->H' b\.c9 o u) (ig:∀b C,H b\.fy C->∃more,H' b\.fy (C++more))
 (ns:∀m,s.heap.Ns X.env.locals m->h'.Ns X.env.locals m) (aM:dM X.prog X.w H' h') (J:AllBare g'):
 Inv X pins σ H' { s with heap:=h',gens:=g',drawn:=d',toks:=t' }:=by
 let A:∀b o,X.eB.heap.get? b\o->b≠X.env.locals:=λb o e=>ah8 (ah5 (ahT e) I.ok.above)
 let h:∀b o,X.eB.heap.get? b\o->b∉X.ex->b∉ch:=λb o e a w=>by
  rcases (g b w).1 with z|z
  ·rwa[a z]
  ·rwa[absurd (ah5 (ahT e) z) (aiR _)]
 let cellK:∀x c,X.env.cells.lookup x\c->∀v,s.heap.IsCell c v->h'.IsCell c v:=λx c e v ζ=>by
  let⟨o,y,hd⟩:=ζ
  let f:c∉ch:=λz=>(g c z).2.2.1 x c e rfl
  cases hc:c∈X.fs
  ·let⟨sl,q⟩:=slot c o (I.lB x c e) hc f y (I.gI x c e);rwa[_,q,hd]
  ·rwa[o,keep c o (I.lB x c e) hc f y (I.gI x c e),hd]
 rwa[⟨I.ok,I.os,J,⟨λb o e n w a=>?_,λb o e n w a=>?_,λb o e n a=>?_,λb o e a=>?_,λb j e=>ie b j (I.base.ie b j e),λb o j e=>gH b o j (I.base.gH b o j e),λb C e=>?_⟩,5,λx c e=>?_,5,λx c e=>?_,λp F=>?_,aM,I.len⟩]
 ·rwa[keep b o (A b o e) w (h b o e a) (I.base.keep b o e n w a) (I.base.free b o e n a)]
 ·let⟨sl,t⟩:=I.base.slot b o e n w a;let⟨E,D⟩:=slot b _ (A b o e) w (h b o e a) t (I.base.free b o e n a);rwa[E,D]
 ·let⟨B,t⟩:=I.base.there b o e a;rwa[free b B (h b o e a) t (I.base.free b o e n a)]
 ·let⟨B,t⟩:=I.base.there b o e a;rwa[there b B (h b o e a) t]
 ·let⟨O,t⟩:=I.base.ig b C e
  cbv
 ·let⟨m,M,L⟩:=I.loc;rwa[⟨m,ns m M,λi x v t D N=>?_⟩];let⟨u,r,l⟩:=L i x v t D N;erw[u,r];rcases l with l|⟨k,c,e,z⟩
  ·rwa[.inl l]
  ·rwa[.inr ⟨k,c,e,cellK x c e _ z⟩]
 ·let⟨v,z⟩:=I.cell x c e;rwa[v,cellK x c e v z]
 ·let⟨m,⟨o,_,_,y,_⟩,_⟩:=I.loc;rwa[free _ o (λz=>(g _ z).2.1 rfl) y I.free]
 ·let⟨v,o,y,hd⟩:=I.cell x c e;rwa[free c o (λz=>(g c z).2.2.1 x c e rfl) y (I.gI x c e)]
 ·let⟨e,n,ne,G,d⟩:=I.pin p F;let f:p.1∉ch:=λz=>(g p.1 z).2.2.2 p F rfl
  rwa[keep p.1 p.2 ne G f e n,free p.1 p.2 f e n,ne,G,d]
def Inv.un {t':Nat}(I:Inv X pins σ H s)(u:Un X.fs [] H H' s.heap h')(aM:dM X.prog X.w H' h'):Inv X pins σ H' { s with heap:=h',toks:=t' }:=by
 let⟨m,⟨o,p,v,g,r⟩,_⟩:=id I.loc;let⟨sl,i⟩:=u.any g I.free (by simp)
 exact I.step (g':=s.gens) (d':=s.drawn) (ch:=[]) (λ_ z=>nomatch z) (λb o _ c _ e n=>u.keep b o e n c (by simp)) (λb o _ c _ e n=>u.slot b o e n c (by simp)) (λb o _ e n=>u.free b o e n (by simp)) (λb o _ e=>u.there b o e (by simp)) u.ie u.gH u.ig (λt j=>by
  let⟨q,f,d,a,h⟩:=j;rw[g]at a;ext a;rwa[_,f,d,i,h]) aM I.bare
def Inv.call {g':Array GenState}{t':Nat}{d':Drawn}{ch:Zn}(I:Inv X pins σ H s)(u:Un (cK X.stack) ch H H' s.heap h')(aM:dM X.prog X.w H' h')(l:AllBare g')
 (d:∀b∈ch,(b∈X.ex\/X.eB.heap.objs.size<=b)/\b≠X.env.locals/\(∀x c,X.env.cells.lookup x\c->c≠b)/\∀p∈X.pn++pins,p.1≠b):
 Inv X pins σ H' { s with heap:=h',gens:=g',drawn:=d',toks:=t' }:=by
 let⟨m,⟨o,t,y,i,r⟩,_⟩:=id I.loc;let⟨sl,g⟩:=u.any i I.free λz=>(d _ z).2.1 rfl
 exact I.step (ch:=ch) d (λb o g k hc e n=>u.keep b o e n (λz=>(ahR.mp (I.Au b z)).elim g k) hc) (λb o _ _ hc e n=>u.any e n hc) (λb o hc e n=>u.free b o e n hc) (λb o hc e=>u.there b o e hc) u.ie u.gH u.ig (λw q=>by
  let⟨v,h,f,a,j⟩:=q;rw[i]at a;ext a;rwa[_,h,f,g,j]) aM l
def Inv.turned {t':Nat}{it:Zs}(I:Inv X pins σ H s)(k:∀b o,b≠it->s•b\o->h'.get? b\o)(C:H it=none)(a:it≠X.env.locals)
 (g:it∈X.ex\/X.eB.heap.objs.size<=it) (d:∀x c,X.env.cells.lookup x\c->c≠it) (j:∀p∈X.pn++pins,p.1≠it):Inv X pins σ H { s with heap:=h',toks:=t' }:=by
 let l:∀b u,H b\u->b≠it:=λb u e z=>by cbv
 refine I.step (g':=s.gens) (d':=s.drawn) (ch:=[it]) (λb f=>?_) (λb o _ _ hc e _=>k b o (λz=>hc (by simp[z])) e) (λb o _ _ hc e _=>⟨o.slots,k b o (λz=>hc (by simp[z])) e⟩) (λ_ _ _ _ n=>n)
  (λb o hc e=>⟨o,k b o (λz=>hc (by simp[z])) e⟩) (λ_ _ e=>e) (λ_ _ _ e=>e) (λb y e=>⟨#[],by rw[e];simp⟩) (λm t=>?_) (λb u e=>?_) I.bare
 ·let e:b=it:=by simpa using f
  subst e;rwa[g,a,d,j]
 ·let⟨o,i,w,h,r⟩:=t;rwa[o,i,w,k _ o (aiU a) h,r]
 ·rwa[(I.aM b u e).ft (λc v hc q=>k c v ?_ q) (λ_ q=>q) λ_ _ q=>q]
  cbv
def Inv.tok (I:Inv X pins σ H s)(t:Nat):Inv X pins σ H { s with toks:=t }:=I.un (h':=s.heap) (t':=t) Un.refl I.aM
def Inv.kept {t':Nat}(I:Inv X pins σ H s)(k:∀b u,s•b\u->h'.get? b\u):Inv X pins σ H { s with heap:=h',toks:=t' }:=I.un (Un.kept k) (I.aM.kept k)
def Inv.laid {o:HO}{t':Nat}(I:Inv X pins σ H s)(k:∀b u,s•b\u->h'.get? b\u)(c:↥s<=a)(new:bY X.prog X.w (upd H a o) h' a o):
 Inv X pins σ (upd H a o) { s with heap:=h',toks:=t' }:=I.un (Un.laid k c (I.aM.fresh c)) (I.aM.laid k c new)
def Inv.write {x e:Zs}{o:HO}{t':Nat}(I:Inv X pins σ H s)(mu:ud (H x))(c:e=x\/H e\.own x)(k:∀b u,b≠e->s•b\u->h'.get? b\u)(a:∃u,h'.get? e\u)
 (new:bY X.prog X.w (upd H x o) h' x o):Inv X pins σ (upd H x o) { s with heap:=h',toks:=t' }:=I.un (Un.write mu c k a) (I.aM.write mu c k a new)
def Inv.jt (I:Inv X pins σ H s)(h:∀p∈o,s•p.1\p.2/\H p.1=none/\p.1≠X.env.locals/\p.1∉X.fs/\∀v,p.2.data≠.cell v):Inv X o σ H s:=
 ⟨I.ok,I.os,I.bare,I.base,I.loc,I.cell,I.free,I.gI,λp a=>(ahL.mp a).elim (λz=>I.pin p (ah3 _ z)) (h p),I.aM,I.len⟩
def uJ (d:Z.Nodup){i j:Nat}{x:Str}(a:Z[i]?\x)(b:Z[j]?\x):i=j:=by
 let⟨g,c⟩:=ahD.mp a;let⟨f,e⟩:=ahD.mp b;rwa[(List.getElem_inj d).mp (c.trans e.symm)]
def yP {M:Model}{v:V}(I:Inv X pins σ H s)(hN:X.N.Nodup)(L:X.N[i]?\x)(l:Loc X.env.scope x)(r:RelV v u)
 (h:∀O,Inv X pins (σ.set i (some v)) H O->(∃a,Heap.SameBut a s.heap O.heap/\(a=X.env.locals\/X.env.cells.lookup x\a))->U () O) (hf:X.fn x=true\/X.env.scope.names.lookup x=some .local:=by trivial):wpAny M A (storeName X.env x u) U E s:=by
 let⟨m,hn,hl⟩:=id I.loc;let J:(X.env.scope.kind==.class || (X.env.scope.kind==.module && X.env.locals !=X.env.globals))=false:=by rw[I.ok.kind];rfl
 let B:i < ⇑σ:=by rw[I.len];rwa[(ahD.mp L).1]
 let lB:=I.lB
 let tracked:∀{a:Zs} {h':Heap},(∃o,s•a\o/\H a=none)->Heap.SameBut a s.heap h'->dM X.prog X.w H h':=λ{a h'} ha f b ob e=>by
  let⟨_,_,T⟩:=ha;rwa[(I.aM b ob e).ft (λc R t q=>(f.2 c ?_).trans q) (λ_ q=>q) λ_ _ q=>q]
  cbv
 rcases l with G|G
 ·rwa[wpAny_storeName_local G hn (λh' hn' f=>?_) J];let⟨oL,_,_,hoL,_⟩:=id hn;rwa[h _ ⟨I.ok,I.os,I.bare,⟨λb o e n C l=>?_,λb o e n C l=>?_,I.base.free,λb o e l=>?_,I.base.ie,I.base.gH,I.base.ig⟩,⟨_,hn',λj y S g w e3=>?_⟩,λy c e=>?_,I.free,I.gI,λp hp=>?_,tracked ⟨oL,hoL,I.free⟩ f,by simpa using I.len⟩ ⟨_,f,.inl rfl⟩]
  ·rwa[(f.2 b (ah8 (ah5 (ahT e) I.ok.above))).trans (I.base.keep b o e n C l)]
  ·let⟨Y,g⟩:=I.base.slot b o e n C l;rwa[Y,(f.2 b (ah8 (ah5 (ahT e) I.ok.above))).trans g]
  ·let⟨o',g⟩:=I.base.there b o e l;rwa[o',(f.2 b (ah8 (ah5 (ahT e) I.ok.above))).trans g]
  ·cases D:j=i
   ·subst D;rw[L]at g;ext g;rw[ait B]at w;ext w;rwa[u,r,.inl ⟨G,by simp⟩]
   ·rw[aiZ (aiU D)]at w;let⟨u',Q,q⟩:=hl j y S g w e3;erw[u',Q];rcases q with ⟨k,e⟩|⟨k,c,e,z⟩
    ·rwa[.inl ⟨k,?_⟩];have:y≠x:=λe=>D (uJ hN g (e ▸ L))
     simp[this,e]
    ·rwa[.inr ⟨k,c,e,z.sameBut f (lB y c e)⟩]
  ·let⟨R,z⟩:=I.cell y c e;rwa[R,z.sameBut f (lB y c e)]
  ·let⟨e,n,ne,nf,d⟩:=I.pin p hp;rwa[(f.2 p.1 ne).trans e,n,ne,nf,d]
 ·let F:X.fn x=true:=by
   rcases hf with z|z
   ·rwa[z]
   ·cbv
  let⟨c,t⟩:=I.ok.has x (.inl G);let⟨R,z⟩:=I.cell x c t;rwa[wpAny_storeName_cell I.ok.kind G t z (λh' Z f=>?_)];let⟨oc,P,agf⟩:=id z;rwa[h (s<*h') ⟨I.ok,I.os,I.bare,⟨λb o e n C l=>?_,λb o e n C l=>?_,I.base.free,λb o e l=>?_,I.base.ie,I.base.gH,I.base.ig⟩,⟨m,hn.sameBut f (aiU (lB x c t)),λj y S g w e3=>?_⟩,λy N e=>?_,I.free,I.gI,λp hp=>?_,tracked ⟨oc,P,I.gI x c t⟩ f,by simpa using I.len⟩ ⟨c,f,.inr t⟩]
  ·rwa[(f.2 b (ah8 (ah5 (ahT e) (I.ok.As x c F t)))).trans (I.base.keep b o e n C l)]
  ·let⟨Y,g⟩:=I.base.slot b o e n C l;rwa[Y,(f.2 b (ah8 (ah5 (ahT e) (I.ok.As x c F t)))).trans g]
  ·let⟨o',g⟩:=I.base.there b o e l;rwa[o',(f.2 b (ah8 (ah5 (ahT e) (I.ok.As x c F t)))).trans g]
  ·cases D:j=i
   ·subst D;rw[L]at g;ext g;rw[ait B]at w;ext w;rwa[u,r,.inr ⟨.inl G,c,t,Z⟩]
   ·rw[aiZ (aiU D)]at w;let⟨u',Q,q⟩:=hl j y S g w e3;erw[u',Q];rcases q with q|⟨k,N,e,z'⟩
    ·rwa[.inl q]
    ·rwa[.inr ⟨k,N,e,z'.sameBut f ?_⟩];rintro rfl;rwa[D (uJ hN g (I.ok.inj _ _ _ e t ▸ L))]
  ·cases W:N=c
   ·cbv
   ·let⟨w2,z2⟩:=I.cell y N e;rwa[w2,z2.sameBut f W]
  ·let⟨e,n,ne,nf,d⟩:=I.pin p hp;rwa[⟨(f.2 p.1 ?_).trans e,n,ne,nf,d⟩]
   cbv
def pS {M:Model}{v:V}(I:Inv X pins σ H s)(d:X.N.Nodup)(e:X.N[i]?\x)(f:Loc X.env.scope x)(r:RelV v u)
 (h:∀a,Inv X pins (σ.set i (some v)) H a->U () a) (b:X.fn x=true\/X.env.scope.names.lookup x=some .local:=by trivial):wpAny M A (storeName X.env x u) U E s:=
 yP I d e f r (λa c _=>h a c) b
def Inv.FD {s':Zu}{ch:Zn}(I:Inv X pins σ H s)(h:s'.os=s.os)(u:Un (cK X.stack) ch H H' s.heap s'.heap)(aM:dM X.prog X.w H' s'.heap)(i:AllBare s'.gens)
 (a:∀b∈ch,(b∈X.ex\/X.eB.heap.objs.size<=b)/\b≠X.env.locals/\(∀x c,X.env.cells.lookup x\c->c≠b)/\∀p∈X.pn++pins,p.1≠b):Inv X pins σ H' s':=by
 let⟨h',g,d,f,j⟩:=s';let e:j=s.os:=h;subst e;rwa[I.call (g':=g) (t':=f) (d':=d) u aM i a]
end
abbrev XK:=Zt->Zo->Hp->Prop
abbrev St:=List Zc
abbrev VK:=V->Hp->Prop
abbrev TE:=St->Hp->VK->Prop
abbrev TT:=St->Hp->(Bool->Hp->Prop)->Prop
abbrev TA:=St->Hp->(Zb->Hp->Prop)->Prop
structure Ends where
 nx:St->Hp->Prop
 rt:VK
 bk:St->Hp->Prop:=λ_ _=>False
 ct:St->Hp->Prop:=λ_ _=>False
abbrev TS:=Ends->St->Hp->Prop
def EP (X:Cx)(a:List (Zs×Obj))(d:St)(Q:VK)(u:Zt)(c:Zu):Prop:=∃v b,Inv X a d b c/\RelV v u/\Q v b
def TP (X:Cx)(a:List (Zs×Obj))(e:St)(Q:Bool->Hp->Prop)(b:Bool)(d:Zu):Prop:=∃c,Inv X a e c d/\Q b c
def AP (X:Cx)(a:List (Zs×Obj))(f:St)(Q:Zb->Hp->Prop)(e:Zk)(d:Zu):Prop:=∃b c,Inv X a f c d/\Vals b e/\Q b c
def SP (X:Cx)(b:List (Zs×Obj))(D:Ends)(f:Flow)(d:Zu):Prop:=
 match f with
 |.next=>∃ a c,Inv X b a c d/\D.nx a c
 |.brk=>∃ a c,Inv X b a c d/\D.bk a c
 |.cont=>∃ a c,Inv X b a c d/\D.ct a c
 |.ret u=>∃v a c,Inv X b a c d/\RelV v u/\D.rt v c
def PE (X:Cx)(e:Expr)(t:TE):Prop:=
 ∀(a:List (Zs×Obj)) (s:Zu) (b:St) (H:Hp) (Q:VK),Inv X a b H s->t b H Q->X⁻¹ X.A (eval e X.env) (EP X a b Q) X.xe s
def PT (X:Cx)(e:Expr)(t:TT):Prop:=
 ∀(a:List (Zs×Obj)) (s:Zu) (b:St) (H:Hp) (Q:Bool->Hp->Prop),Inv X a b H s->t b H Q->X⁻¹ X.A (isTrue e X.env (eval e X.env)) (TP X a b Q) X.xe s
def PW (X:Cx)(e:Expr)(t:TT):Prop:=
 ∀(whole:Sem Zt) (a:List (Zs×Obj)) (s:Zu) (b:St) (H:Hp) (Q:Bool->Hp->Prop),Inv X a b H s->t b H Q->X⁻¹ X.A (isTrue e X.env whole) (TP X a b Q) X.xe s
def PW.pt {X:Cx}{t:TT}(h:PW X e t):PT X e t:=h _
def PA (X:Cx)(d:Zr)(t:TA):Prop:=
 ∀(b:Pos) (a:List (Zs×Obj)) (s:Zu) (c:St) (H:Hp) (Q:Zb->Hp->Prop),Inv X a c H s->t c H Q->X⁻¹ X.A (spliced (backTo b (starEach d X.env))) (AP X a c Q) X.xe s
def PS (X:Cx)(st:Stmt)(t:TS):Prop:=
 ∀(a:List (Zs×Obj)) (s:Zu) (b:St) (H:Hp) (D:Ends),Inv X a b H s->t D b H->X⁻¹ X.A (exec st X.env) (SP X a D) X.xe s
def iS (X:Cx)(st:List Stmt)(t:TS):Prop:=
 ∀(a:List (Zs×Obj)) (s:Zu) (b:St) (H:Hp) (D:Ends),Inv X a b H s->t D b H->X⁻¹ X.A (execs st X.env) (SP X a D) X.xe s
def aY {c:Type}{t:Sem c}{Q b:c->Zu->Prop}{M:Model}(h:wpAny M A t Q E s)(d:∀a s,Q a s->b a s):wpAny M A t b E s:=aiv h d λ_ _ x=>x
end L2
variable {D:L2.St}{G:L2.Ends}{X:L2.Cx}
namespace L2
open PySem PySem.Spec PyProof.Rows
section
variable {X:Cx}
def bin {b:Expr}{l m:TE}(B:PE X e l)(p:PE X b m){a:List (Zs×Obj)}{s:Zu}{c:St}{H:Hp}{R:V->V->Hp->Prop}(I:Inv X a c H s)(h:l c H λx k=>m c k λy d=>R x y d)
 {n:Type} {Q:n->Zu->Prop} {f:Zt->Zt->Sem n}
 (w:∀v u j x y d,Inv X a c d j->RelV x v->RelV y u->R x y d->X⁻¹ X.A (f v u) Q X.xe j):
 X⁻¹ X.A (eval e X.env) (λv i=>X⁻¹ X.A (eval b X.env) (λu g=>X⁻¹ X.A (f v u) Q X.xe g) X.xe i) X.xe s:=by
 rwa[aY (B a s c H _ I h) λv z ζ=>?_];let⟨x,k,q,o,r⟩:=ζ
 rwa[aY (p a z c k _ q r) λu j ζ=>?_];let⟨y,d,t,A,C⟩:=ζ
 rwa[w v u j x y d t o A C]
inductive jl (i:Nat) (σ:St) (H:Hp) (Q:VK):Prop
 |mk (v:V):σ[i]?\some v->Q v H->jl i σ H Q
def tC (v:V):TE:=λ_ H Q=>Q v H
def Q8 (o:X.N[i]?\x)(w:Q7 X.env.scope x)(f:(x==("__debug__":Str))=false:=by decide)(g:(x==("__classdict__":Str))=false:=by decide):PE X (.Name x p) (jl i):=by
 intro d s n H Q I h;let⟨v,e,h⟩:=h;let⟨m,q,k⟩:=I.loc;let⟨u,r,l⟩:=k i x v o e w;let fin:EP X d n Q u s:=⟨v,H,I,r,h⟩;rcases l with ⟨b,t⟩|⟨b,c,j,a⟩
 ·rwa[wpAny_Name (wpAny_loadName_local I.ok.kind b q t fin) f]
 ·rcases b with b|b
  ·rwa[wpAny_Name (wpAny_loadName_cell I.ok.kind b j a fin) f]
  ·rwa[wpAny_Name (wpAny_loadName_free I.ok.kind b j a fin g) f]
def au {i j a}:PE X (.Constant (.int i) j a) (tC (.int i)):=λ_ _ _ H _ I h=>wpAny_Constant_int ⟨.int i,H,I.tok _,⟨12⟩,h⟩
def kr {b j a}:PE X (.Constant (.bool b) j a) (tC (.bl b)):=λ_ _ _ H _ I h=>Constant_bool ⟨.bl b,H,I,2,h⟩
def dA {j a}:PE X (.Constant .none j a) (tC .non):=λ_ _ _ H _ I h=>Constant_none ⟨.non,H,I,2,h⟩
def Q9 {x j a}:PE X (.Constant (.str x) j a) (tC (.str x)):=λ_ _ _ H _ I h=>Calls.Constant_str ⟨.str x,H,I.tok _,⟨12⟩,h⟩
def Gl (X:Cx)(x:Str):Prop:=X.env.kindOf x=some .globalImplicit
def gb (I:Inv X o D H s)(c:Gl X x)(b:X.mg x\u)(h:Q u s)
 (a:(x==("__debug__":Str))=false:=by decide):X⁻¹ X.A (eval (.Name x p) X.env) Q E s:=
 Calls.Name_function_global I.ok.kind c (Calls.loadGlobal_global ([I.ok.glob]▸I.mod.glob.keeps I.bk) b h) a
def gT (I:Inv X o D H s)(f:Gl X x)(b:X.mg x=none)(c:bootBuiltins x\u)(h:Q u s)
 (g:x≠"__name__":=by decide) (a:(x==("__debug__":Str))=false:=by decide):X⁻¹ X.A (eval (.Name x p) X.env) Q E s:=by
 let⟨i,e,d⟩:=I.mod.blt;rwa[Calls.Name_function_global I.ok.kind f (Calls.loadGlobal_builtin ([I.ok.glob]▸I.mod.glob.keeps I.bk) b ([I.ok.blt]▸e.keeps I.bk) ((d x g).trans c) h) a]
def j5 {v:V}(c:Gl X x)(b:X.mg x\u)(r:RelV v u)(a:(x==("__debug__":Str))=false:=by decide):PE X (.Name x p) (tC v):=
 λ_ _ _ H _ I h=>gb I c b ⟨v,H,I,r,h⟩ a
def gZ {v:V}(d:Gl X x)(b:X.mg x=none)(c:bootBuiltins x\u)(r:RelV v u)(e:x≠"__name__":=by decide)(a:(x==("__debug__":Str))=false:=by decide):PE X (.Name x p) (tC v):=
 λ_ _ _ H _ I h=>gT I d b c ⟨v,H,I,r,h⟩ e a
def t2I (e b:TE)(k:Int->Int->Hp->Prop):St->Hp->Prop:=λ a H=>e a H λx d=>b a d λy c=>∃i j,x=.int i/\y=.int j/\k i j c
variable {a b:Expr}{ta tb:TE}{pos:Pos}
def PC (X:Cx)(g:CmpOp)(a b:Expr)(t:TE):Prop:=
 ∀(c:List (Zs×Obj)) (s:Zu) (f:St) (H:Hp) (Q:VK),Inv X c f H s->t f H Q->
  X⁻¹ X.A (eval a X.env) (λv e=>X⁻¹ X.A (eval b X.env) (λu d=>X⁻¹ X.A (compareOp g v u) (EP X c f Q) X.xe d) X.xe e) X.xe s
def Km (b:Expr){c:CmpOp}(h:c≠.In)(f:c≠.NotIn):behindInMarks c b=false:=by
 let d:(c==CmpOp.In)=false:=by cbv
 let e:(c==CmpOp.NotIn)=false:=by cbv
 cases b <;> simp[behindInMarks,d,e]
def aan (p:Int->Int->Bool)(ta tb:TE):TE:=λ d H Q=>t2I ta tb (λi j c=>Q (.bl (p i j)) c) d H
abbrev MV:TE->TE->TE:=aan λi j=>decide (i<j)
def tB (t:TE):TT:=λ e H Q=>t e H λx d=>∃c,x=.bl c/\Q c d
def Rb {g:CmpOp}{t:TE}(h:PC X g a b t)(f:behindInMarks g b=false):PT X (.Compare a [g] [b] pos) (tB t):=by
 intro e s o H Q I m;rwa[wpAny_isTrue_Compare1 (aY (h e s o H _ I m) λv r f=>aY f λu p i=>aY i λc w ζ=>?_) f];let⟨x,n,k,j,l⟩:=ζ;let⟨d,rfl,q⟩:=l;ext j;rwa[ai9 ⟨n,k,q⟩]
def dq {t:TE}(h:PE X e t)(m:∀whole,isTrue e X.env whole=(do let v <-whole;standAt e.pos;holding [v] (truthy v)):=by intro _;rfl):PT X e (tB t):=by
 intro c s l H Q I j;rwa[isTrue_plain (aY (h c s l H _ I j) λv n ζ=>?_) (m _)];let⟨x,k,g,f,i⟩:=ζ;let⟨d,rfl,q⟩:=i;ext f;rwa[ai9 ⟨k,g,q⟩]
variable {tA MX:TT}{rest:Zr}
def aao (t u:TT):TT:=λ e H Q=>t e H λc d=>if c=true then u e d Q else Q false d
def tOr (t u:TT):TT:=λ e H Q=>t e H λc d=>if c=true then Q true d else u e d Q
def aap (t:TT):TT:=λ e H Q=>t e H λc d=>Q (!c) d
def xO (f:PT X a tA):PW X (.BoolOp .And [a] pos) tA:=by
 intro i d s g H Q I h;rwa[isTrue_and (aY (f d s g H Q I h) λc j e=>?_)]
 cases c with
 |true=>exact isTrue_and_nil e
 |false=>exact e
def lZ (f:PT X a tA):PW X (.BoolOp .Or [a] pos) tA:=by
 intro i d s g H Q I h;rwa[isTrue_or (aY (f d s g H Q I h) λc j e=>?_)]
 cases c with
 |false=>exact isTrue_or_nil e
 |true=>exact e
def Av (j:PT X a tA)(m:PW X (.BoolOp .And (b::rest) pos) MX):PW X (.BoolOp .And (a::b::rest) pos) (aao tA MX):=by
 intro k d s i H Q I h;rwa[isTrue_and (aY (j d s i H _ I h) λc l ζ=>?_)];let⟨e,g,f⟩:=ζ
 cases c with
 |true=>exact m k d l i e Q g f
 |false=>rwa[e,g,f]
def lH (j:PT X a tA)(m:PW X (.BoolOp .Or (b::rest) pos) MX):PW X (.BoolOp .Or (a::b::rest) pos) (tOr tA MX):=by
 intro k d s i H Q I h;rwa[isTrue_or (aY (j d s i H _ I h) λc l ζ=>?_)];let⟨e,g,f⟩:=ζ
 cases c with
 |true=>rwa[e,g,f]
 |false=>exact m k d l i e Q g f
def l0 (f:PT X a tA):PT X (.UnaryOp .Not a pos) (aap tA):=by
 intro d s g H Q I h;rwa[isTrue_not (f d s g H (λc e=>Q (!c) e) I h)]
def VR (ta tb:TE):TE:=λ e H Q=>ta e H λx d=>∃c,x=.bl c/\if c=true then tb e d Q else Q (.bl false) d
def VS (ta:TE):TE:=λ e H Q=>ta e H λx d=>∃c,x=.bl c/\Q (.bl (!c)) d
def Aw {e}{t:TE}(h:PE X a t):PE X (.BoolOp e [a] pos) t:=λc s f H Q I d=>BoolOp_one (h c s f H Q I d)
def vG (j:PE X a ta)(m:PE X (.BoolOp .And (b::rest) pos) tb):PE X (.BoolOp .And (a::b::rest) pos) (VR ta tb):=by
 intro d s i H Q I h;rwa[BoolOp_and (aY (j d s i H _ I h) λv l ζ=>?_)];let⟨x,f,g,k,e⟩:=ζ;let⟨c,rfl,e⟩:=e;ext k;rwa[ai9 ?_]
 cases c with
 |true=>exact m d l i f Q g e
 |false=>rwa[.bl false,f,g,2,e]
def Rc (g:PE X a ta):PE X (.UnaryOp .Not a pos) (VS ta):=by
 intro d s k H Q I h;rwa[UnaryOp_ (aY (g d s k H _ I h) λv l ζ=>?_)];let⟨x,f,j,i,e⟩:=ζ;let⟨c,rfl,e⟩:=e;ext i;rwa[not_of (ai9 ⟨.bl (!c),f,j,2,e⟩)]
end
def aH (K:Za1)(H:Hp)(a:Zs)(c:Zb):Prop:=
 Rd H a (.lst c)\/
  ∃(o:Obj) (b:Zm) (n:Nat),K.lookup a\o/\o.cls=.type "list"/\o.dict=none/\o.data=.seq b n/\b.size<=sizeLine/\Vals c b.toList
def bG (K:Za1)(H:Hp)(a:Zs)(c:Zb):Prop:=
 Rd H a (.tup c)\/
  ∃(o:Obj) (b:Zm) (n:Nat),K.lookup a\o/\o.cls=.type "tuple"/\o.data=.seq b n/\b.size<=sizeLine/\Vals c b.toList
noncomputable def aaq:Zt->Zc
 |.none=>some .non
 |.bool b=>some (.bl b)
 |.int i _=>some (.int i)
 |.str x _=>some (.str x)
 |.bytes b _=>some (.m9 b)
 |.float b _=>some (.Ar b)
 |.ref a=>some ↑a
 |.type n=>some (.ty n)
 |_=>none
def RelV.abs {x:V}(r:RelV x u):aaq u\x:=by
 cases x with
 |non=>ext r;rfl
 |bl _=>ext r;rfl
 |int _=>let⟨t,rfl⟩:=r;rfl
 |str _=>let⟨t,rfl⟩:=r;rfl
 |m9 _=>let⟨t,rfl⟩:=r;rfl
 |Ar _=>let⟨t,rfl⟩:=r;rfl
 |ref _=>ext r;rfl
 |ty _=>ext r;rfl
def RelV.inj {x:V}(r:RelV x u)(a:RelV q u):x=q:=Za0 (r.abs.symm.trans a.abs)
theorem Vals.inj:∀{b ys:Zb} {a:Zk},Vals b a->Vals ys a->b=ys
 |_,_,_,.nil,.nil=>rfl
 |_,_,_,.cons r t,.cons c d=>by rw[r.inj c,Vals.inj t d]
section
variable {X:Cx}{pins:List (Zs×Obj)}{σ:St}{H:Hp}{s:Zu}{a:Zs}{xs ys:Zb}
def aH.of (h:H a\.lst xs):aH K H a xs:=.inl (.inl h)
def bG.of (h:H a\.tup xs):bG K H a xs:=.inl (.inl h)
def Inv.list (I:Inv X pins σ H s)(h:aH X.K H a xs):∃b:Zk,Vals xs b/\PlainL s.heap a b.toArray/\⇑xs<=sizeLine:=by
 rcases h with h|⟨o,b,n,c,hc,hd,d,hz,r⟩
 ·let⟨z,b,n,r,e⟩:=h.ok I.aM;rwa[b,r,⟨_,n,e,222⟩,z]
 ·erw[b.toList,r,⟨o,n,I.dg a o c,hc,hd,3⟩];let e:=⇑r;simp only[ai6]at e;ext
def Inv.tuple (I:Inv X pins σ H s)(h:bG X.K H a xs):∃b:Zk,Vals xs b/\IsTup s.heap a b.toArray/\⇑xs<=sizeLine:=by
 rcases h with h|⟨o,b,n,c,hc,d,hz,r⟩
 ·let⟨z,b,r,p⟩:=h.ok I.aM;rwa[b,r,p,z]
 ·erw[b.toList,r,⟨o,I.dg a o c,hc,n,3⟩];let e:=⇑r;simp only[ai6]at e;ext
def Inv.uK (I:Inv X pins σ H s)(h:aH X.K H a xs)(i:aH X.K H a ys):xs=ys:=by
 let⟨c,r,⟨o,n,e,_,_,d⟩,_⟩:=I.list h;let⟨b,j,⟨l,k,g,_,_,f⟩,_⟩:=I.list i;rw[e]at g;ext g;rw[d]at f;injection f with d1 _
 have:c=b:=by simpa using aiN Array.toList d1
 subst this;rwa[r.inj j]
def Inv.Hj (I:Inv X pins σ H s)(h:bG X.K H a xs)(i:bG X.K H a ys):xs=ys:=by
 let⟨c,r,⟨o,e,_,n,d⟩,_⟩:=I.tuple h;let⟨b,j,⟨l,g,_,k,f⟩,_⟩:=I.tuple i;rw[e]at g;ext g;rw[d]at f;injection f with d1 _
 have:c=b:=by simpa using aiN Array.toList d1
 subst this;rwa[r.inj j]
end
abbrev Cx.wish (X:Cx) (E:Zt->Zu->Prop):Cx:={ X with xe:=E }
abbrev Cx.qD (X:Cx):Cx:=X.wish λ_ _=>False
def Cx.Ok.wish (ok:X.Ok)(E:Zt->Zu->Prop):(X.wish E).Ok:=
 ⟨ok.mod,ok.kind,ok.glob,ok.blt,ok.above,ok.inj,ok.has,ok.As,ok.hd,ok.frames,ok.Eg,ok.MT,ok.bs,ok.rB,ok.uI,ok.xN,ok.jk,ok.uf⟩
def Cx.Ok.gU (ok:(X.wish E).Ok):X.Ok:=
 ⟨ok.mod,ok.kind,ok.glob,ok.blt,ok.above,ok.inj,ok.has,ok.As,ok.hd,ok.frames,ok.Eg,ok.MT,ok.bs,ok.rB,ok.uI,ok.xN,ok.jk,ok.uf⟩
section
variable {X:Cx}{pins:List (Zs×Obj)}{σ:St}{H:Hp}{s:Zu}{E:Zt->Zu->Prop}
def Inv.wish (I:Inv X pins σ H s)(E:Zt->Zu->Prop):Inv (X.wish E) pins σ H s:=⟨I.ok.wish E,I.os,I.bare,I.base,I.loc,I.cell,I.free,I.gI,I.pin,I.aM,I.len⟩
def Inv.gU (I:Inv (X.wish E) pins σ H s):Inv X pins σ H s:=⟨I.ok.gU,I.os,I.bare,I.base,I.loc,I.cell,I.free,I.gI,I.pin,I.aM,I.len⟩
def SP.gU {f:Flow}(h:SP (X.wish E) pins G f t):SP X pins G f t:=by
 cases f with
 |next=>let⟨a,b,I,q⟩:=h;rwa[a,b,I.gU,q]
 |brk=>let⟨a,b,I,q⟩:=h;rwa[a,b,I.gU,q]
 |cont=>let⟨a,b,I,q⟩:=h;rwa[a,b,I.gU,q]
 |ret u=>let⟨v,a,b,I,r,q⟩:=h;rwa[v,a,b,I.gU,r,q]
def iS.qD {st:List Stmt}{t:TS}(h:iS X.qD st t):iS X st t:=λpins s σ H D I a=>
 aiv (h pins s σ H D (I.wish _) a) (λ_ _ q=>q.gU) λ_ _ z=>False.elim z
end
section
variable {X:Cx}{st:Stmt}{rest:List Stmt}{t u:TS}{e:Expr}{te:TE}{pos:Pos}
def VW:TS:=λD a H=>D.nx a H
def aS (t u:TS):TS:=λD a H=>t { D with nx:=u D } a H
def bj:iS X [] VW:=λ_ _ a H _ I h=>ajT ⟨a,H,I,h⟩
def ai (d:PS X st t)(c:iS X rest u):iS X (st::rest) (aS t u):=by
 intro a s k H D I h;rwa[wpAny_execs_cons (aY (d a s k H { D with nx:=u D } I h) λf i q=>?_)]
 cases f with
 |next=>
  let⟨b,j,g,q⟩:=q;rwa[c a i b j D g q]
 |ret v=>exact q
 |brk=>exact q
 |cont=>exact q
def av (b:PS X st t):iS X [st] t:=by
 intro a s c H D I h;rwa[wpAny_execs_cons (aY (b a s c H D I h) λf d q=>?_)]
 cases f with
 |next=>exact ajT q
 |ret v=>exact q
 |brk=>exact q
 |cont=>exact q
def Rf:TS:=λD a H=>D.bk a H
def uL:PS X (.Break pos) Rf:=λ_ _ a H _ I h=>wpAny_Break ⟨a,H,I,h⟩
def Inv.quiet (I:Inv X o D H s):interactive X.env=false:=by simp[interactive,I.ok.kind]
def VX (te:TE):TS:=λD a H=>te a H λ_ b=>D.nx a b
def aV (d:PE X e te)(g:swapsWith e none pos.line X.env=pure false:=by rfl):PS X (.Expr e pos) (VX te):=by
 intro a s b H D I h;rwa[wpAny_Expr_any (aY (d a s b H _ I h) λv k ζ=>?_) I.quiet g];let⟨x,c,i,j,f⟩:=ζ;rwa[⟨b,c,i,f⟩]
def aar (te:TE):TS:=λD a H=>te a H D.rt
def bf (d:PE X e te):PS X (.Return (some e) pos) (aar te):=by
 intro a s b H D I h;rwa[wpAny_Return_some (aY (d a s b H _ I h) λv j ζ=>?_)];let⟨x,c,i,f,g⟩:=ζ;rwa[⟨x,b,c,i,f,g⟩]
def VY:TS:=λD _ H=>D.rt .non H
def xP:PS X (.Return none pos) VY:=λ_ _ a H _ I h=>wpAny_Return_none ⟨.non,a,H,I,2,h⟩
def aas (c:TT)(t u:TS):TS:=λD a H=>c a H λb d=>if b=true then t D a d else u D a d
def bB {c:Expr}{a b:List Stmt}{j:TT}(p:PT X c j)(o:iS X a t)(n:iS X b u):PS X (.If c a b pos) (aas j t u):=by
 intro f s g H D I h;rwa[wpAny_If (aY (p f s g H _ I h) λd m ζ=>?_)];let⟨l,i,k⟩:=ζ
 cases d with
 |true=>exact o f m g l D i k
 |false=>exact n f m g l D i k
def Rg:TS:=λ_ _ _=>False
def kD {a:List Stmt}:iS X a Rg:=λ_ _ _ _ _ _ h=>h.elim
end
abbrev TG:=V->St->Hp->(St->Hp->Prop)->Prop
abbrev Eh:=Zb->St->Hp->(St->Hp->Prop)->Prop
def PG (X:Cx)(target:Expr)(t:TG):Prop:=
 ∀(a:List (Zs×Obj)) (s:Zu) (d:St) (H:Hp) (v:V) (u:Zt) (Q:St->Hp->Prop),Inv X a d H s->RelV v u->t v d H Q->
  X⁻¹ X.A (assign target X.env u) (λ_ e=>∃ b c,Inv X a b c e/\Q b c) X.xe s
def MY (X:Cx)(h:Zr)(t:Eh):Prop:=
 ∀(a:List (Zs×Obj)) (s:Zu) (f:St) (H:Hp) (d:Zb) (c:Zk) (Q:St->Hp->Prop),Inv X a f H s->Vals d c->t d f H Q->
  X⁻¹ X.A (assignInOrder ((assignEach h X.env).map (·.2)) c) (λ_ g=>∃ b e,Inv X a b e g/\Q b e) X.xe s
abbrev Kn:=V->V->V->Hp->(Hp->Prop)->Prop
def Rh (X:Cx)(t:Kn):Prop:=
 ∀(a:List (Zs×Obj)) (s:Zu) (e:St) (H:Hp) (o i v:V) (d b u:Zt) (Q:Hp->Prop),Inv X a e H s->RelV o d->RelV i b->RelV v u->t o i v H Q->
  X⁻¹ X.A (setItem d b u) (λ_ f=>∃c,Inv X a e c f/\Q c) X.xe s
section
variable {X:Cx}{pos:Pos}
def nh (i:Nat):TG:=λv a H Q=>Q (a.set i (some v)) H
def Ei (d:X.N.Nodup)(e:X.N[i]?\x)(f:Loc X.env.scope x)(b:X.fn x=true\/X.env.scope.names.lookup x=some .local:=by trivial):PG X (.Name x pos) (nh i):=by
 intro a s j H v u Q I r h;rwa[wpAny_assign_Name (pS I d e f r (λg c=>⟨_,H,c,h⟩) b)]
def aat:Eh:=λb a H Q=>b=[]/\Q a H
inductive MZ (t:TG) (u:Eh) (vs:Zb) (σ:St) (H:Hp) (Q:(St->Hp->Prop)):Prop
 |mk (v:V) (r:Zb):vs=v::r->(t v σ H λ ik H'=>u r ik H' Q)->MZ t u vs σ H Q
def lV:MY X [] aat:=by
 intro a s b H d c Q I r h;let⟨e,h⟩:=h;subst e;rwa[assignInOrder_nil ⟨b,H,I,h⟩]
def dy {t:TG}{u:Eh}(g:PG X e t)(c:MY X C u)
 (l:(assignEach (e::C) X.env).map (·.2)=assign e X.env::(assignEach C X.env).map (·.2):=by rfl):MY X (e::C) (MZ t u):=by
 intro a s m H o q Q I r h;let⟨v,p,n,h⟩:=h;subst n
 cases r with
 |cons r i=>
  rw[l];rwa[assignInOrder_cons (aY (g a s m H _ _ _ I r h) λ_ k ζ=>?_)];let⟨b,j,d,f⟩:=ζ;rwa[c a k b j _ _ Q d i f]
inductive Ri (K:Za1) (n:Nat) (t:Eh) (v:V) (σ:St) (H:Hp) (Q:(St->Hp->Prop)):Prop
 |mk (a:Zs) (xs:Zb):v=↑a->bG K H a xs->⇑xs=n->t xs σ H Q->Ri K n t v σ H Q
def oF {k:Nat}{t:Eh}(B:X.calm=true)(h:MY X C t)
 (y:⇑(assignEach C X.env)=n:=by rfl) (d:(assignEach C X.env).findIdx? (·.1)=none:=by rfl):PG X (.Tuple C k pos) (Ri X.K n t):=by
 intro c s g H v u Q I r f;let⟨a,x,A,m,w,f⟩:=f;subst A;ext r;let⟨p,q,i,E⟩:=I.tuple m;rwa[assign_Tuple_tuple (I.ok.hd B) i (by simp[y,<-w,⇑q]) d λl z=>?_]
 let j:Inv X c g H (s<*l):=I.kept (t':=s.toks) λb o e=>z b o (ah8 (ahT e)) e
 rwa[h c _ g H x _ Q j ∅ f]
def aau (to b:TE)(t:Kn):TG:=λv a H Q=>to a H λo d=>b a d λi c=>t o i v c λe=>Q a e
def vH {i:Expr}{to f:TE}{t:Kn}(q:PE X e to)(B:PE X i f)(A:Rh X t)
 (G:∀v,assign (.Subscript e i pos) X.env v=(do
  let b <-holding [v] (eval e X.env)
  let c <-holding [v,b] (eval i X.env)
  standAt pos
  holding [v,b,c] (setItem b c v)
  release [v,b,c] []):=by intro _;rfl):PG X (.Subscript e i pos) (aau to f t):=by
 intro a s d H v u Q I r h;rwa[ahy (aiw (aY (q a s d H _ I h) λb z ζ=>?_))];let⟨x,w,j,g,n⟩:=ζ;rwa[ahy (aiw (aY (B a z d w _ j n) λc m ζ=>?_))];let⟨y,D,p,C,E⟩:=ζ;rwa[ahy (akr (ahy (aiw (aY (A a m d D x y v b c u _ p g C r E) λ_ F ζ=>?_))))];let⟨k,l,o⟩:=ζ;rwa[wpAny_release ⟨d,k,l,o⟩]
def xQ (b:TE)(g:TG):TS:=λD a H=>b a H λx c=>g x a c D.nx
def mh {a:Expr}{c:TE}{g:TG}(r:PE X a c)(i:PG X e g)(p:swapsWithSole [e] a pos.line X.env=pure false:=by rfl)(m:swappedStores [e] a X.env=pure none:=by rfl)
 (l:(assignEach [e] X.env).map (·.2)=[assign e X.env]:=by rfl):PS X (.Assign [e] a pos) (xQ c g):=by
 intro b s d H D I h;rwa[wpAny_Assign_stores (aY (r b s d H _ I h) λv o ζ=>?_) p m];let⟨x,n,j,f,k⟩:=ζ;rw[l];rwa[aY (i b o d n x v _ j f k) λ_ t q=>q]
def Rj {b:TE}{pos':Pos}(p:X.N.Nodup)(m:X.N[i]?\x)(o:Loc X.env.scope x)(q:PE X e b)(l:swapsWith e (some (.Name x pos')) pos.line X.env=pure false:=by rfl)(j:X.fn x=true\/X.env.scope.names.lookup x=some .local:=by trivial):
 PS X (.Assign [.Name x pos'] e pos) (xQ b (nh i)):=by
 intro a s n H D I h;rwa[wpAny_Assign_Name (aY (q a s n H _ I h) λv t ζ=>?_) l];let⟨y,k,d,c,f⟩:=ζ;rwa[pS d p m o c (λr g=>⟨_,k,g,f⟩) j]
inductive ipI (f:Int->Int->Int) (x:V) (y:V) (H:Hp) (Q:VK):Prop
 |mk (i j:Int):x=.int i->y=.int j->Q (.int (f i j)) H->ipI f x y H Q
end
section
variable {X:Cx}{pos:Pos}
def Rk (c:TT)(h:TS):TS:=λD a H=>∃W:Nat->St->Hp->Prop,(∃m,W m a H)/\∀m a H,W m a H->
 c a H λb e=>if b=true then ∃N:St->Hp->Prop,(∀ d g,N d g->∃f,f<m/\W f d g)/\h { D with nx:=N,ct:=N,bk:=D.nx } a e else D.nx a e
def gJ {body:List Stmt}{r:TT}{u:TS}(w:PassesOwn (model X.prog X.w) X.A X.env X.xe)(P:PT X e r)(E:iS X body u):PS X (.While e body [] pos) (Rk r u):=by
 intro c s O H D I h;let⟨W,⟨J,L⟩,turn⟩:=h;rwa[wpAny_While (codeAny_whileLoop (λn B=>∃ i z,Inv X c i z B/\W n i z) ?_ J ⟨O,H,I,L⟩)];rintro n M ⟨d,x,F,C⟩;rwa[ajU w (aY (P c M d x _ F (turn n d x C)) λb G ζ=>?_)];let⟨y,t,k⟩:=ζ
 cases b with
 |true=>
  let⟨N,A,k⟩:=k;rwa[ajU w (aY (E c G d y _ t k) λf Q j=>?_)]
  cases f with
  |next=>
   let⟨a,g,o,m⟩:=j;let⟨p,q,l⟩:=A a g m;rwa[p,q,a,g,o,l]
  |cont=>
   let⟨a,g,o,m⟩:=j;let⟨p,q,l⟩:=A a g m;rwa[p,q,a,g,o,l]
  |brk=>exact j
  |ret v=>exact j
 |false=>
  rwa[ajT ⟨d,y,t,k⟩]
end
structure It where
 go:Nat->Hp->Prop
 mj:Nat->Hp->V->Hp->Prop
 stop:Nat->Hp->Prop
def pT (X:Cx)(a:List (Zs×Obj))(H:Hp)(b:Zs):Prop:=
 H b=none/\b≠X.env.locals/\b∉X.fs/\(b∈X.ex\/X.eB.heap.objs.size<=b)/\(∀x c,X.env.cells.lookup x\c->c≠b)/\∀p∈X.pn++a,p.1≠b
def Inv.pU (a:Inv X o D H s)(d:↥s<=b)(g:I b=none):pT X o I b:=by
 rwa[⟨g,aiO (ah5 a.lt d),a.FC d,.inr (ahP a.sz d),λx c e z=>?_,λp f z=>?_⟩]
 ·let⟨v,q⟩:=a.cell x c e;rwa[absurd (ah5 q.lt ([z]▸d)) (aiR _)]
 ·rwa[absurd (ah5 (ahT (a.pin p f).1) ([z]▸d)) (aiR _)]
structure Turn (P:Program) (w:World) (K:Za1) (tg:Expr) (J:It) (fp:Zn) (it:Zs) (tn:Nat->Heap->Prop):Prop where
 mem:it∈fp
 obj:∀i h,tn i h->∀b∈fp,∃o,h.get? b\o/\∀v,o.data≠.cell v
 keep:∀i h h',tn i h->(∀b∈fp,∀o,h.get? b\o->h'.get? b\o)->tn i h'
 item:∀(X:Cx),X.prog=P->X.w=w->X.K=K->X.calm=true->∀(i:Nat) (pins:List (Zs×Obj)) (s:Zu) (σ:St) (H:Hp) (E:Zt->Zu->Prop),Inv X pins σ H s->(∀b∈fp,pT X pins H b)->tn i s.heap->J.go i H->
  (P<|>w) X.A (pyNext ↑it) (λr s1=>∃u,r\u/\
   (P<|>w) X.A (letOwnedTupleGo tg ↑it u) (λ_ s2=>∃x H',Inv X pins σ H' s2/\RelV x u/\J.mj i H x H'/\tn (i+ 1) s2.heap/\∀b∈fp,H' b=none) E s1) E s
 done:∀(X:Cx),X.prog=P->X.w=w->X.K=K->X.calm=true->∀(i:Nat) (pins:List (Zs×Obj)) (s:Zu) (σ:St) (H:Hp) (E:Zt->Zu->Prop),Inv X pins σ H s->(∀b∈fp,pT X pins H b)->tn i s.heap->J.stop i H->
  (P<|>w) X.A (pyNext ↑it) (λr s1=>r=none/\Inv X pins σ H s1) E s
 self:∀(A:Around) (i:Nat) (s:Zu) (Q:Zt->Zu->Prop) (E:Zt->Zu->Prop),tn i s.heap->Q ↑it s->(P<|>w) A (pyIter ↑it) Q E s
abbrev TI:=St->Hp->(It->Hp->Prop)->Prop
def Xf (X:Cx)(a:List (Zs×Obj))(h:St)(g:Expr)(R:It->Hp->Prop)(c:Zt)(s2:Zu):Prop:=
 ∃(it:Zs) (f:Zn) (e:Nat->Heap->Prop) (J:It) (d:Hp),c=↑it/\Inv X a h d s2/\Turn X.prog X.w X.K g J f it e/\e 0 s2.heap/\(∀b∈f,pT X a d b)/\R J d
def PI (X:Cx)(d iter:Expr)(c:TI):Prop:=
 ∀(a:List (Zs×Obj)) (s:Zu) (b:St) (H:Hp) (R:It->Hp->Prop),Inv X a b H s->c b H R->
  X⁻¹ X.A (eval iter X.env) (λv e=>X⁻¹ X.A (pyIter v) (Xf X a b d R) X.xe e) X.xe s
def Ak {M:Model}{it:Zs}{o:Obj}{n:String}{b:Zm}(d:s•it\o)(f:o.cls=.type n)(c:o.data=.fields b)
 (g:["enumerate","zip","dict_itemiterator","dict_reverseitemiterator","odict_iterator","itertools.zip_longest","itertools.pairwise"].contains n=false) (a:U () s):wpAny M A (letOwnedTupleGo e ↑it u) U E s:=by
 cases e <;> first
  |rwa[ahF a]
  |(cases u <;> first
   |rwa[ahF a]
   |(rwa[ahy (wpAny_load d ?_)]
     rw[f,c];show wpAny M A (if (["enumerate","zip","dict_itemiterator","dict_reverseitemiterator","odict_iterator","itertools.zip_longest","itertools.pairwise"].contains n && b[0]?==some (rawInt _))=true then _ else _) U E s;rw[ahY (by cbv)];rwa[ahF a]))
def yQ (K:Za1)(a:Zs):It:=
 ⟨λi H=>∃xs x,aH K H a xs/\xs[i]?\x,λi H x b=>b=H/\∀xs,aH K H a xs->xs[i]?\x,λi H=>∃xs,aH K H a xs/\⇑xs<=i⟩
def yR (K:Za1)(a:Zs):It:=
 ⟨λi H=>∃xs x,bG K H a xs/\xs[i]?\x,λi H x b=>b=H/\∀xs,bG K H a xs->xs[i]?\x,λi H=>∃xs,bG K H a xs/\⇑xs<=i⟩
noncomputable def vI (lo:Int)(n:Nat):It:=⟨λi _=>i<n,λi H x a=>a=H/\x=.int (lo+ i),λi _=>n<=i⟩
def Hk (a it:Zs):Turn P w K e (yQ K a) [it] it (λi h=>h.IsListIter it a i) where
 mem:=by simp
 obj:=λi h st b j=>by
  let f:b=it:=by simpa using j
  subst f;let⟨o,f,c,d⟩:=st
  cbv
 keep:=λi h m st k=>st.at λo f=>k it (by simp) o f
 item:=by
  intro X G B z M i g s L H E I q st r;subst G B z;let⟨T,x,n,D⟩:=r;let⟨y,A,p,R⟩:=I.list n;let⟨u,U,W⟩:=A.get D;let⟨t,v,V,J,F,C⟩:=q it (by simp);rwa[wpAny_pyNext_list_item st p.isList (x:=u) (by simpa using U) λm l Y=>?_]
  let O:Inv X g L H (s<*m):=I.turned (t':=s.toks) (λb o j f=>(Y.2 b j).trans f) t v J F C;let⟨o,f,c,d⟩:=id l;rwa[u,2,Ak (s:=(s<*m)) f c d ⋯ ⟨x,H,O,W,⟨2,λys S=>[I.uK S n]▸D⟩,l,λb j=>(q b j).1⟩]
 done:=by
  intro X G B z M i g s L H E I q st r;subst G B z;let⟨T,n,D⟩:=r;let⟨y,A,p,R⟩:=I.list n;let⟨t,v,V,J,F,C⟩:=q it (by simp);let Z:=⇑A;rwa[wpAny_pyNext_list_end (I.ok.hd M) st p.isList (by simp;omega) λm Q=>⟨2,I.turned (t':=s.toks) (λb o j f=>Q b o j f) t v J F C⟩]
 self:=λ_ _ _ _ _ st h=>wpAny_pyIter_listiter st h
def FE (a it:Zs):Turn P w K e (yR K a) [it] it (λi h=>h.IsTupleIter it a i) where
 mem:=by simp
 obj:=λi h st b j=>by
  let f:b=it:=by simpa using j
  subst f;let⟨o,f,c,d⟩:=st
  cbv
 keep:=λi h n st k=>st.at λo f=>k it (by simp) o f
 item:=by
  intro X G B z M i g s L H E I r st t;subst G B z;let⟨T,x,q,D⟩:=t;let⟨l,A,p,R⟩:=I.tuple q;let⟨u,U,W⟩:=A.get D;let⟨v,y,V,J,F,C⟩:=r it (by simp);rwa[wpAny_pyNext_tuple_item st (show s.heap.IsTuple a l.toArray from p) (x:=u) (by simpa using U) λn m Y=>?_]
  let O:Inv X g L H (s<*n):=I.turned (t':=s.toks) (λb o j f=>(Y.2 b j).trans f) v y J F C;let⟨o,f,c,d⟩:=id m;rwa[u,2,Ak (s:=(s<*n)) f c d ⋯ ⟨x,H,O,W,⟨2,λys S=>[I.Hj S q]▸D⟩,m,λb j=>(r b j).1⟩]
 done:=by
  intro X G B z M i g s L H E I r st t;subst G B z;let⟨T,q,D⟩:=t;let⟨l,A,p,R⟩:=I.tuple q;let⟨v,y,V,J,F,C⟩:=r it (by simp);let Z:=⇑A;rwa[wpAny_pyNext_tuple_end (I.ok.hd M) st (show s.heap.IsTuple a l.toArray from p) (by simp;omega) λn Q=>⟨2,I.turned (t':=s.toks) (λb o j f=>Q b o j f) v y J F C⟩]
 self:=λ_ _ _ _ _ st h=>wpAny_pyIter_tupleiter st h
def FG (it:Zs)(lo:Int)(n:Nat):Turn P w K e (vI lo n) [it] it (λi h=>IsRangeIter h it (lo+ (i:Nat)* 1) ((n:Int) - (i:Nat)) 1) where
 mem:=by simp
 obj:=λi h st b d=>by
  cbv
 keep:=λi h g st k=>k it (by simp) _ st
 item:=by
  intro X D A z x i c s C H E I j st l;subst D A z;let⟨m,p,L,u,r,q⟩:=j it (by simp);let W:=Walks.range (prog:=X.prog) (w:=X.w) (I.ok.hd x) it lo 1 n;rwa[W.item i s _ _ l st λv g y M f G=>?_]
  let⟨t,rfl⟩:=M;let F:Inv X c C H { s with heap:=g,toks:=y }:=I.turned (λb o d a=>G b o (by cbv) a) m p u r q;rwa[⟨12,Ak (s:={ s with heap:=g,toks:=y }) (n:="range_iterator") f rfl rfl ⋯ ⟨.int (lo+ i),H,F,⟨t,5⟩,⟨22⟩,f,λb d=>(j b d).1⟩⟩]
  cbv
 done:=by
  intro X D A z x i c s C H E I j st l;let⟨m,p,L,u,r,q⟩:=j it (by simp);rwa[wpAny_pyNext_range_end (I.ok.hd x) st (by have:n<=i:=l;omega) λg J=>⟨2,I.turned (t':=s.toks) (λb o d a=>J b o d a) m p u r q⟩]
 self:=λ_ _ _ _ _ st h=>wpAny_pyIter_rangeiter st h
section
variable {X:Cx}{tg:Expr}
def VZ (K:Za1)(tl:TE):TI:=λ d H R=>tl d H λx b=>∃a,x=↑a/\(∃c,aH K b a c)/\R (yQ K a) b
def aav (K:Za1)(tl:TE):TI:=λ d H R=>tl d H λx b=>∃a,x=↑a/\(∃c,bG K b a c)/\R (yR K a) b
def cO {tl:TE}(n:PE X e tl):PI X tg e (VZ X.K tl):=by
 intro d s r H R I h;rwa[aY (n d s r H _ I h) λv s1 ζ=>?_];let⟨x,m,f,g,l⟩:=ζ
 let⟨a,c,⟨y,j⟩,q⟩:=l;subst c;ext g;let⟨k,u,p,w⟩:=f.list j;rwa[ajV p.isList ?_];rwa[⟨↥s1,[↥s1],11,m,2,f.kept (t':=s1.toks) λb o c=>ahz _ c,Hk a _,⟨_,ahQ _ rfl,22⟩,λb i=>?_,q⟩];let c:b=↥s1:=by simpa using i
 subst c;rwa[f.pU (ahG _) (f.aM.fresh (ahG _))]
def Ax {tl:TE}(n:PE X e tl):PI X tg e (aav X.K tl):=by
 intro d s r H R I h;rwa[aY (n d s r H _ I h) λv s1 ζ=>?_];let⟨x,m,f,i,l⟩:=ζ
 let⟨a,c,⟨y,k⟩,q⟩:=l;subst c;ext i;let⟨g,u,p,w⟩:=f.tuple k;rwa[wpAny_pyIter_tuple (show s1.heap.IsTuple a g.toArray from p) ?_];rwa[⟨↥s1,[↥s1],11,m,2,f.kept (t':=s1.toks) λb o c=>ahz _ c,FE a _,⟨_,ahQ _ rfl,22⟩,λb j=>?_,q⟩];let c:b=↥s1:=by simpa using j
 subst c;rwa[f.pU (ahG _) (f.aM.fresh (ahG _))]
def Ay {R:It->Hp->Prop}{lo:Int}{t u v:Tok}(I:Inv X o D H s)(h: -(2 ^ 62)<=lo)(d:lo<2 ^ 62)(j: -(2 ^ 62)<=z)(g:z<2 ^ 62)
 (q:R (vI lo (z - lo).toNat) H):X⁻¹ X.A (pyIter ↑↥s) (Xf X o D tg R) E { s with heap:=s.heap.push ("range">>>.fields #[.int lo t,.int z u,.int 1 v]),toks:=n }:=by
 rwa[wpAny_pyIter_range (IsRange.new ..) (small_one h d j g) ?_];let c:Inv X o D H { s with heap:=s.heap.push ("range">>>.fields #[.int lo t,.int z u,.int 1 v]),toks:=n }:=I.kept λb a e=>ahz _ e
 rwa[⟨(s.heap.push ("range">>>.fields #[.int lo t,.int z u,.int 1 v])).objs.size,[(s.heap.push ("range">>>.fields #[.int lo t,.int z u,.int 1 v])).objs.size],11,H,2,c.kept (t':=n) λb a e=>ahz _ e,FG _ lo (z - lo).toNat,5,λb f=>?_,q⟩]
 ·let k:lo+ ((0:Nat):Int)* 1=lo:=by simp
  let i:(((z - lo).toNat:Nat):Int) - ((0:Nat):Int)=Builtin.Range.rangeSize lo z 1:=by rw[rangeSize_one];split <;> ext
  rw[k,i];rwa[ahQ _ rfl]
 ·let e:b=(s.heap.push ("range">>>.fields #[.int lo t,.int z u,.int 1 v])).objs.size:=by simpa using f
  subst e;rwa[c.pU (ahG _) (c.aM.fresh (ahG _))]
def V0 (c:TA):TI:=λ d H R=>c d H λa b=>∃j:Int,a=[.int j]/\-(2 ^ 62)<=j/\j<2 ^ 62/\R (vI 0 j.toNat) b
def V1 (c:TA):TI:=λ d H R=>c d H λa b=>∃i j:Int,a=[.int i,.int j]/\(-(2 ^ 62)<=i/\i<2 ^ 62/\-(2 ^ 62)<=j/\j<2 ^ 62)/\R (vI i (j - i).toNat) b
def ip {f:TA}{c:Pos}(i:Gl X "range")(o:X.mg "range"=none)(u:PA X [e] f)(m:starEach [e] X.env=[(false,eval e X.env)]:=by rfl):PI X tg (.Call (.Name "range" p) [e] [] c) (V0 f):=by
 intro a s n H R I h;rwa[Call_ (gT I i o boot_range (aiA (aY (u c a s n H _ I h) λz y ζ=>?_) m rfl))];let⟨w,x,k,g,d⟩:=ζ;let⟨j,b,d,v,q⟩:=d;subst b
 cases g with
 |cons r l=>
  ext l;let⟨t,rfl⟩:=r;rwa[call_range_1 (Ay k ∅ ∅ d v (by simpa using q))]
def ni {b:Expr}{l:TA}{f:Pos}(o:Gl X "range")(z:X.mg "range"=none)(A:PA X [e,b] l)(x:starEach [e,b] X.env=[(false,eval e X.env),(false,eval b X.env)]:=by rfl)(d:starEach [b] X.env=[(false,eval b X.env)]:=by rfl):
 PI X tg (.Call (.Name "range" p) [e,b] [] f) (V1 l):=by
 intro a s y H R I h;rwa[Call_ (gT I o z boot_range (aiA (aY (A f a s y H _ I h) λG F ζ=>?_) (by rw[x,d]) (by rw[d];rfl)))];let⟨D,E,u,n,g⟩:=ζ;let⟨i,j,c,⟨g,B,v,w⟩,q⟩:=g;subst c
 cases n with
 |cons r k=>
  cases k with
  |cons m k=>
   ext k;let⟨t,rfl⟩:=r;let⟨C,rfl⟩:=m;rwa[call_range_2 (Ay u g B v w q)]
def aaw (h:TI)(g:TG)(f:TS):TS:=λD a H=>h a H λJ k=>∃W:Nat->Nat->St->Hp->Prop,(∃m,W 0 m a k)/\∀i m a H,W i m a H->
 (J.stop i H/\D.nx a H)\/(J.go i H/\∃N:St->Hp->Prop,(∀ c b,N c b->∃e,e<m/\W (i+ 1) e c b)/\∀x b,J.mj i H x b->g x a b λ d j=>f { D with nx:=N,ct:=N,bk:=D.nx } d j)
noncomputable def vJ (a:Zn)(h:Heap):List (Zs×Obj):=a.filterMap λb=>(h.get? b).map λo=>(b,o)
def iI {o:Obj}(a:b∈F)(e:h.get? b\o):(b,o)∈vJ F h:=akO.mpr ⟨b,a,by rw[e];rfl⟩
def Hl {p:Zs×Obj}(a:p∈vJ F h):p.1∈F/\h.get? p.1\p.2:=by
 let⟨b,c,e⟩:=akO.mp a
 cases q:h.get? b with
 |none=>rw[q]at e;ext e
 |some o=>
  cbv
def Inv.pinned (I:Inv X o D H s)(d:∀b∈F,pT X o H b)(h:∀b∈F,∃a,s•b\a/\∀v,a.data≠.cell v):Inv X (o++vJ F s.heap) D H s:=
 I.jt λp c=>(ahL.mp c).elim (λz=>I.pin p (ahI _ z)) λz=>by
  let⟨f,e⟩:=Hl z;let⟨i,f1,g,_⟩:=d p.1 f
  cbv
def Inv.uM {pl:List (Zs×Obj)}(I:Inv X (o++pl) D H s):Inv X o D H s:=I.jt λp a=>I.pin p (ahI _ (ah3 _ a))
def cW {iter:Expr}{body:List Stmt}{S:TI}{g:TG}{Z:TS}(F:PassesOwn (model X.prog X.w) X.A X.env X.xe)(Y:X.calm=true)(hi:PI X tg iter S)(hg:PG X tg g)(k:iS X body Z)
 (hs:∀x,foldedSetIterable iter X.env x=pure x:=by intro _;rfl):PS X (.For tg iter body [] p) (aaw S g Z):=by
 intro c s σ H D I h;rwa[wpAny_For (aY (hi c s σ H _ I h) λv s1 h1=>aY h1 λitv s2 h2=>?_) hs];let⟨it,B,tn,J,H2,e,I2,T,P,V,W,⟨m0,w0⟩,turn⟩:=h2;subst e
 let stat:∀{w:Hp},(∀b∈B,w b=none)->∀b∈B,pT X c w b:=λhn b k=>⟨hn b k,(V b k).2⟩
 rwa[codeAny_forLoop_any (λn s'=>∃i t w,Inv X c t w s'/\tn i s'.heap/\(∀b∈B,w b=none)/\W i n t w) ?_ m0 ⟨(0),σ,H2,I2,P,λb k=>(V b k).1,w0⟩];rintro n s3 ⟨i,j,G,I3,C,E,w3⟩;rcases turn i n j G w3 with ⟨stop,qn⟩|⟨go,N,hN,step⟩
 ·rwa[ajU F (aY (T.done X rfl rfl rfl Y i c s3 j G X.xe I3 (stat E) C stop) λr s4 ζ=>?_)];let⟨Q,I4⟩:=ζ;subst Q;rwa[ajT ⟨j,G,I4,qn⟩]
 ·rwa[ajU F (aY (T.item X rfl rfl rfl Y i c s3 j G X.xe I3 (stat E) C go) λr s4 ζ=>?_)];let⟨u,Q,h4⟩:=ζ;subst Q;rwa[ajU F (aY h4 λ_ s5 ζ=>?_)];let⟨x,U,I5,r5,y5,z,M⟩:=ζ;let R:=I5.pinned (stat M) (T.obj^z);rwa[ajU F (aY (hg _ s5 j U x u _ R r5 (step x U y5)) λ_ s6 ζ=>?_)];let⟨O,H6,I6,q6⟩:=ζ;rwa[ajU F (aY (k _ s6 O H6 _ I6 q6) λf L y=>?_)]
  let again:∀{a:St} {l:Hp},Inv X (c++vJ B s5.heap) a l L->N a l->∃m,m<n/\∃i t w,Inv X c t w L/\tn i L.heap/\(∀b∈B,w b=none)/\W i m t w:=λ{a l} q A=>by
   let⟨m',hm,w7⟩:=hN a l A;rwa[⟨m',hm,i+ 1,a,l,q.uM,T.keep _ _ _ z λb k o e=>(q.pin (b,o) (ahI _ (ahI _ (iI k e)))).1,λb k=>?_,w7⟩];let⟨o,e,d⟩:=T.obj _ _ z b k;rwa[(q.pin (b,o) (ahI _ (ahI _ (iI k e)))).2.1]
  cases f with
  |next=>let⟨a,l,q,A⟩:=y;rwa[again q A]
  |cont=>let⟨a,l,q,A⟩:=y;rwa[again q A]
  |brk=>let⟨a,l,q,y⟩:=y;rwa[a,l,q.uM,y]
  |ret v=>let⟨x7,a,l,q,r7,y⟩:=y;rwa[x7,a,l,q.uM,r7,y]
end
def eY {xs:Zb}{g:TG}{k:TS}(b:Nat->St->Hp->Prop)(o:b 0 D H)(r:∀i D H,i<=⇑xs->b i D H->aH K H a xs)
 (s:∀i x D H,xs[i]?\x->b i D H->g x D H λ d j=>k { G with nx:=b (i+ 1),ct:=b (i+ 1),bk:=G.nx } d j) (n:∀ D H,b ⇑xs D H->G.nx D H):
 ∃W:Nat->Nat->St->Hp->Prop,(∃m,W 0 m D H)/\∀i m D H,W i m D H->
  ((yQ K a).stop i H/\G.nx D H)\/((yQ K a).go i H/\∃N:St->Hp->Prop,(∀ c f,N c f->∃l,l<m/\W (i+ 1) l c f)/\∀x f,(yQ K a).mj i H x f->g x D f λ d j=>k { G with nx:=N,ct:=N,bk:=G.nx } d j):=by
 erw[λi m D H=>m=⇑xs - i/\i<=⇑xs/\b i D H,⟨⇑xs,by simp,ah2 _,o⟩];rintro i m D H ⟨rfl,t,p⟩;let q:=r i D H t p;cases h:i<⇑xs
 ·rwa[.inr ⟨⟨xs,xs[i],q,by simp[h]⟩,b (i+ 1),λ c f u=>⟨⇑xs - (i+ 1),32,h,u⟩,λx f y=>?_⟩];let⟨e,y⟩:=y;subst e;rwa[s i x D _ (y xs q) p]
 ·let e:i=⇑xs:=∅
  subst e;rwa[.inl ⟨⟨xs,q,ahG _⟩,n D H p⟩]
def Ej {xs:Zb}{g:TG}{k:TS}(b:Nat->St->Hp->Prop)(o:b 0 D H)(r:∀i D H,i<=⇑xs->b i D H->bG K H a xs)
 (s:∀i x D H,xs[i]?\x->b i D H->g x D H λ d j=>k { G with nx:=b (i+ 1),ct:=b (i+ 1),bk:=G.nx } d j) (n:∀ D H,b ⇑xs D H->G.nx D H):
 ∃W:Nat->Nat->St->Hp->Prop,(∃m,W 0 m D H)/\∀i m D H,W i m D H->
  ((yR K a).stop i H/\G.nx D H)\/((yR K a).go i H/\∃N:St->Hp->Prop,(∀ c f,N c f->∃l,l<m/\W (i+ 1) l c f)/\∀x f,(yR K a).mj i H x f->g x D f λ d j=>k { G with nx:=N,ct:=N,bk:=G.nx } d j):=by
 erw[λi m D H=>m=⇑xs - i/\i<=⇑xs/\b i D H,⟨⇑xs,by simp,ah2 _,o⟩];rintro i m D H ⟨rfl,t,p⟩;let q:=r i D H t p;cases h:i<⇑xs
 ·rwa[.inr ⟨⟨xs,xs[i],q,by simp[h]⟩,b (i+ 1),λ c f u=>⟨⇑xs - (i+ 1),32,h,u⟩,λx f y=>?_⟩];let⟨e,y⟩:=y;subst e;rwa[s i x D _ (y xs q) p]
 ·let e:i=⇑xs:=∅
  subst e;rwa[.inl ⟨⟨xs,q,ahG _⟩,n D H p⟩]
def iq {lo:Int}{g:TG}{j:TS}(b:Nat->St->Hp->Prop)(o:b 0 D H)
 (q:∀i D H,i<n->b i D H->g (.int (lo+ i)) D H λ d h=>j { G with nx:=b (i+ 1),ct:=b (i+ 1),bk:=G.nx } d h) (l:∀ D H,b n D H->G.nx D H):
 ∃W:Nat->Nat->St->Hp->Prop,(∃m,W 0 m D H)/\∀i m D H,W i m D H->
  ((vI lo n).stop i H/\G.nx D H)\/((vI lo n).go i H/\∃N:St->Hp->Prop,(∀ c f,N c f->∃k,k<m/\W (i+ 1) k c f)/\∀x f,(vI lo n).mj i H x f->g x D f λ d h=>j { G with nx:=N,ct:=N,bk:=G.nx } d h):=by
 erw[λi m D H=>m=n - i/\i<=n/\b i D H,⟨n,by simp,ah2 _,o⟩];rintro i m D H ⟨rfl,t,p⟩;cases a:i<n
 ·rwa[.inr ⟨a,b (i+ 1),λ c f r=>⟨n - (i+ 1),32,a,r⟩,λx f y=>?_⟩];let⟨e,y⟩:=y;subst e y;rwa[q i D _ a p]
 ·let e:i=n:=∅
  subst e;rwa[.inl ⟨ahG _,l D H p⟩]
abbrev R2:=V->V->Hp->VK->Prop
def fz (X:Cx)(f:Zt->Zt->Sem Zt)(r:R2):Prop:=
 ∀(a:List (Zs×Obj)) (s:Zu) (b:St) (H:Hp) (x y:V) (v u:Zt) (Q:VK),Inv X a b H s->RelV x v->RelV y u->r x y H Q->
  X⁻¹ X.A (f v u) (EP X a b Q) X.xe s
def Rl (X:Cx)(f:Zt->Sem Zt)(r:V->Hp->VK->Prop):Prop:=
 ∀(a:List (Zs×Obj)) (s:Zu) (b:St) (H:Hp) (x:V) (v:Zt) (Q:VK),Inv X a b H s->RelV x v->r x H Q->
  X⁻¹ X.A (f v) (EP X a b Q) X.xe s
def je (X:Cx)(f:Zt)(r:Zb->Hp->VK->Prop):Prop:=
 ∀(a:List (Zs×Obj)) (s:Zu) (d:St) (H:Hp) (c:Zb) (b:Zk) (Q:VK),Inv X a d H s->Vals c b->r c H Q->
  X⁻¹ X.A (call f b) (EP X a d Q) X.xe s
noncomputable def aax (X:Cx)(r:V->Hp->(Bool->Hp->Prop)->Prop):Prop:=
 ∀(a:List (Zs×Obj)) (s:Zu) (b:St) (H:Hp) (x:V) (v:Zt) (Q:Bool->Hp->Prop),Inv X a b H s->RelV x v->r x H Q->
  X⁻¹ X.A (truthy v) (TP X a b Q) X.xe s
def M0 (r:R2)(e b:TE):TE:=λ a H Q=>e a H λx d=>b a d λy c=>r x y c Q
def tUn (r:V->Hp->VK->Prop)(b:TE):TE:=λ c H Q=>b c H λx a=>r x a Q
inductive rI (C:Int->Int->Prop) (g:Int->Int->V) (x:V) (y:V) (H:Hp) (Q:VK):Prop
 |mk (i j:Int):x=.int i->y=.int j->C i j->Q (g i j) H->rI C g x y H Q
inductive vK (g:Int->Int->V) (x:V) (y:V) (H:Hp) (Q:VK):Prop
 |mk (i j:Int):x=.int i->y=.int j->Q (g i j) H->vK g x y H Q
inductive rU (g:Int->V) (x:V) (H:Hp) (Q:VK):Prop
 |mk (i:Int):x=.int i->Q (g i) H->rU g x H Q
section
variable {X:Cx}{a b:Expr}{ta tb:TE}{pos:Pos}
def Ko (z:PE X a ta)(n:PE X b tb){d:List (Zs×Obj)}{s:Zu}{e:St}{H:Hp}{R:V->V->Hp->Prop}(I:Inv X d e H s)
 (h:ta e H λx l=>tb e l λy g=>R x y g) {Q:Zt->Zu->Prop} {f:Zt->Zt->Sem Zt}
 (r:∀v u k x y g,Inv X d e g k->RelV x v->RelV y u->R x y g->X⁻¹ X.A (f v u) Q X.xe k):
 X⁻¹ X.A (eval a X.env) (λv j=>X⁻¹ X.A (eval b X.env) (λu i=>X⁻¹ X.A (f v u) Q X.xe i) X.xe j) X.xe s:=by
 rwa[aY (z d s e H _ I h) λv t ζ=>?_];let⟨x,l,o,m,p⟩:=ζ
 rwa[aY (n d t e l _ o p) λu k ζ=>?_];let⟨y,g,q,w,A⟩:=ζ
 rwa[r v u k x y g q m w A]
def aK {e:Operator}{r:R2}(j:fz X (binaryOp e) r)(o:PE X a ta)(f:PE X b tb):PE X (.BinOp a e b pos) (M0 r ta tb):=by
 intro d s m H Q I h;rwa[wpAny_BinOp (Ko o f I h λv u g x y n i k l q=>j d g m n x y v u Q i k l q)]
def fe {e:UnaryOp}{r:V->Hp->VK->Prop}(g:Rl X (unaryOp e) r)(j:PE X a ta):PE X (.UnaryOp e a pos) (tUn r ta):=by
 intro d s f H Q I h;rwa[UnaryOp_ (aY (j d s f H _ I h) λv m ζ=>?_)];let⟨x,i,n,k,l⟩:=ζ;rwa[g d m f i x v Q n k l]
def Rm {f:Zt->Zt->Sem Zt}{C:Int->Int->Prop}{g:Int->Int->Int}
 (rule:∀(i j:Int) (t u:Tok) (s:Zu) (Q:Zt->Zu->Prop) (E:Zt->Zu->Prop),C i j->Q (.int (g i j) s.toks) { s with toks:=s.toks+ 1 }->X⁻¹ X.A (f (.int i t) (.int j u)) Q E s):
 fz X f (rI C λi j=>.int (g i j)):=by
 intro d s n H x y v u Q I k l h;let⟨i,j,rfl,rfl,m,q⟩:=h;let⟨t,rfl⟩:=k;let⟨e,rfl⟩:=l;rwa[rule i j t e s _ _ m ⟨.int (g i j),H,I.tok _,⟨12⟩,q⟩]
def Rn {f:Zt->Zt->Sem Zt}{g:Int->Int->Int}
 (rule:∀(i j:Int) (t u:Tok) (s:Zu) (Q:Zt->Zu->Prop) (E:Zt->Zu->Prop),Q (.int (g i j) s.toks) { s with toks:=s.toks+ 1 }->X⁻¹ X.A (f (.int i t) (.int j u)) Q E s):
 fz X f (vK λi j=>.int (g i j)):=by
 intro d s m H x y v u Q I k l h;let⟨i,j,rfl,rfl,q⟩:=h;let⟨t,rfl⟩:=k;let⟨e,rfl⟩:=l;rwa[rule i j t e s _ _ ⟨.int (g i j),H,I.tok _,⟨12⟩,q⟩]
def FH {f:Zt->Zt->Sem Zt}{g:Int->Int->Bool}
 (rule:∀(i j:Int) (t u:Tok) (s:Zu) (Q:Zt->Zu->Prop) (E:Zt->Zu->Prop),Q (.bool (g i j)) s->X⁻¹ X.A (f (.int i t) (.int j u)) Q E s):
 fz X f (vK λi j=>.bl (g i j)):=by
 intro d s m H x y v u Q I k l h;let⟨i,j,rfl,rfl,q⟩:=h;let⟨t,rfl⟩:=k;let⟨e,rfl⟩:=l;rwa[rule i j t e s _ _ ⟨.bl (g i j),H,I,2,q⟩]
def aay (i j:Int):Prop:=0<j/\j<1073741824
def Kq (i j:Int):Prop:=(-(2 ^ 64)<i/\i<2 ^ 64)\/(-(2 ^ 64)<j/\j<2 ^ 64)
def Kq.ok (h:Kq z y):IntMulOk z y:=by
 rcases h with ⟨e,d⟩|⟨e,d⟩
 ·rwa[.of_left (intBits_le_64 e d)]
 ·rwa[.of_right (intBits_le_64 e d)]
def cI:fz X (binaryOp .Add) (vK λi j=>.int (i+ j)):=Rn λ_ _ _ _ _ _ _ q=>add_int q
def gW:fz X (binaryOp .Sub) (vK λi j=>.int (i - j)):=Rn λ_ _ _ _ _ _ _ q=>sub_int q
def ml:fz X (binaryOp .Mult) (rI Kq λi j=>.int (i* j)):=Rm λ_ _ _ _ _ _ _ d q=>mul_int q d.ok
def cX:fz X (binaryOp .FloorDiv) (rI aay λi j=>.int (i / j)):=Rm λi j _ _ _ _ _ d q=>by
 let f:(0:Int)<j:=d.1;let e:j<1073741824:=d.2;rwa[floordiv_int ∅ ([Int.fdiv_eq_ediv_of_nonneg i ∅]▸q) (.inl (PyProof.noPylong_small ∅))]
def bP:fz X (binaryOp .Mod) (rI (λ_ j=>0<j) λi j=>.int (i % j)):=Rm λi j _ _ _ _ _ d q=>by
 rwa[mod_int' ∅ ([Int.fmod_eq_emod_of_nonneg i ∅]▸q)]
def unI {f:Zt->Sem Zt}{g:Int->Int}
 (rule:∀(i:Int) (t:Tok) (s:Zu) (Q:Zt->Zu->Prop) (E:Zt->Zu->Prop),Q (.int (g i) s.toks) { s with toks:=s.toks+ 1 }->X⁻¹ X.A (f (.int i t)) Q E s):
 Rl X f (rU λi=>.int (g i)):=by
 intro d s j H x v Q I e h;let⟨i,rfl,q⟩:=h;let⟨t,rfl⟩:=e;rwa[rule i t s _ _ ⟨.int (g i),H,I.tok _,⟨12⟩,q⟩]
def dN:Rl X (unaryOp .USub) (rU λi=>.int (-i)):=unI λ_ _ _ _ _ q=>neg_int q
end
noncomputable def Kr:V->V->Bool
 |.non,.non=>true|.non,.int _=>true|.int _,.non=>true|.non,.bl _=>true|.bl _,.non=>true|.non,.str _=>true|.str _,.non=>true
 |.int _,.int _=>true|.bl _,.bl _=>true|.str _,.str _=>true|.m9 _,.m9 _=>true
 |.int _,.str _=>true|.str _,.int _=>true|.bl _,.str _=>true|.str _,.bl _=>true
 |_,_=>false
inductive Xg (x:V) (y:V) (H:Hp) (Q:VK):Prop
 |mk:Kr x y=true->Q (.bl (decide (x=y))) H->Xg x y H Q
inductive Xh (x:V) (y:V) (H:Hp) (Q:VK):Prop
 |mk:Kr x y=true->Q (.bl (!decide (x=y))) H->Xh x y H Q
def Ek:decide (V.int z=V.int y)=(z==y):=by
 rw[aiV];simp
def Hm {i j:Bool}:decide (V.bl i=V.bl j)=(i==j):=by
 rw[aiV];simp
def El:decide (V.str x=V.str f)=(x==f):=by
 rw[aiV];simp
def Em {i j:Array UInt8}:decide (V.m9 i=V.m9 j)=(i.toList==j.toList):=by
 rw[aiV];ext i;ext j;simp
section
variable {X:Cx}{a b c:Expr}{ta tb tc:TE}{pos:Pos}
def bU {Q:VK}{k d:Bool}(I:Inv X o D H s)(q:Q (.bl k) H)(e:k=d):EP X o D Q (.bool d) s:=by
 subst e;rwa[.bl k,H,I,2,q]
def dJ:fz X (compareOp .Eq) Xg:=by
 intro k s l H x y v u Q I g d h;let⟨f,q⟩:=h
 cases x with
 |non=>
  ext g
  cases y with
  |non=>ext d;rwa[PySem.EqNone.eq_none_none (bU I q (by simp))]
  |bl j=>ext d;rwa[PySem.EqNone.eq_none_bool (bU I q (by simp))]
  |int j=>let⟨e,rfl⟩:=d;rwa[PySem.EqNone.eq_none_int (bU I q (by simp))]
  |str j=>let⟨e,rfl⟩:=d;rwa[PySem.EqNone.eq_none_str (bU I q (by simp))]
  |_=>exact absurd (show false=true from f) ain
 |bl i=>
  ext g
  cases y with
  |non=>ext d;rwa[PySem.EqNone.eq_bool_none (bU I q (by simp))]
  |bl j=>ext d;rwa[eq_bool (bU I q Hm)]
  |str j=>let⟨e,rfl⟩:=d;rwa[PySem.EqMixed.eq_bool_str (bU I q (by simp))]
  |_=>exact absurd (show false=true from f) ain
 |int i=>
  let⟨t,rfl⟩:=g
  cases y with
  |non=>ext d;rwa[PySem.EqNone.eq_int_none (bU I q (by simp))]
  |int j=>let⟨e,rfl⟩:=d;rwa[eq_int (bU I q Ek)]
  |str j=>let⟨e,rfl⟩:=d;rwa[PySem.EqMixed.eq_int_str (bU I q (by simp))]
  |_=>exact absurd (show false=true from f) ain
 |str i=>
  let⟨t,rfl⟩:=g
  cases y with
  |non=>ext d;rwa[PySem.EqNone.eq_str_none (bU I q (by simp))]
  |bl j=>ext d;rwa[PySem.EqMixed.eq_str_bool (bU I q (by simp))]
  |int j=>let⟨e,rfl⟩:=d;rwa[PySem.EqMixed.eq_str_int (bU I q (by simp))]
  |str j=>let⟨e,rfl⟩:=d;rwa[eq_str (bU I q El)]
  |_=>exact absurd (show false=true from f) ain
 |m9 i=>
  let⟨t,rfl⟩:=g
  cases y with
  |m9 j=>let⟨e,rfl⟩:=d;rwa[PySem.W.eq_bytes (bU I q Em)]
  |_=>exact absurd (show false=true from f) ain
 |_=>cases y <;> rwa[absurd (show false=true from f) ain]
def pV:fz X (compareOp .NotEq) Xh:=by
 intro k s l H x y v u Q I g d h;let⟨f,q⟩:=h
 cases x with
 |non=>
  ext g
  cases y with
  |non=>ext d;rwa[PySem.EqNone.ne_none_none (bU I q (by simp))]
  |bl j=>ext d;rwa[PySem.EqNone.ne_none_bool (bU I q (by simp))]
  |int j=>let⟨e,rfl⟩:=d;rwa[PySem.EqNone.ne_none_int (bU I q (by simp))]
  |str j=>let⟨e,rfl⟩:=d;rwa[PySem.EqNone.ne_none_str (bU I q (by simp))]
  |_=>exact absurd (show false=true from f) ain
 |bl i=>
  ext g
  cases y with
  |non=>ext d;rwa[PySem.EqNone.ne_bool_none (bU I q (by simp))]
  |bl j=>ext d;rwa[ne_bool (bU I q (aiN not Hm))]
  |str j=>let⟨e,rfl⟩:=d;rwa[PySem.EqMixed.ne_bool_str (bU I q (by simp))]
  |_=>exact absurd (show false=true from f) ain
 |int i=>
  let⟨t,rfl⟩:=g
  cases y with
  |non=>ext d;rwa[PySem.EqNone.ne_int_none (bU I q (by simp))]
  |int j=>let⟨e,rfl⟩:=d;rwa[ne_int (bU I q (aiN not Ek))]
  |str j=>let⟨e,rfl⟩:=d;rwa[PySem.EqMixed.ne_int_str (bU I q (by simp))]
  |_=>exact absurd (show false=true from f) ain
 |str i=>
  let⟨t,rfl⟩:=g
  cases y with
  |non=>ext d;rwa[PySem.EqNone.ne_str_none (bU I q (by simp))]
  |bl j=>ext d;rwa[PySem.EqMixed.ne_str_bool (bU I q (by simp))]
  |int j=>let⟨e,rfl⟩:=d;rwa[PySem.EqMixed.ne_str_int (bU I q (by simp))]
  |str j=>let⟨e,rfl⟩:=d;rwa[ne_str (bU I q (aiN not El))]
  |_=>exact absurd (show false=true from f) ain
 |m9 i=>
  let⟨t,rfl⟩:=g
  cases y with
  |m9 j=>let⟨e,rfl⟩:=d;rwa[PySem.W.ne_bytes (bU I q (aiN not Em))]
  |_=>exact absurd (show false=true from f) ain
 |_=>cases y <;> rwa[absurd (show false=true from f) ain]
def lI:fz X (compareOp .Lt) (vK λi j=>.bl (decide (i<j))):=FH λ_ _ _ _ _ _ _ q=>lt_int q
def V2:fz X (compareOp .LtE) (vK λi j=>.bl (decide (i<=j))):=FH λ_ _ _ _ _ _ _ q=>le_int q
def vL:fz X (compareOp .Gt) (vK λi j=>.bl (decide (j<i))):=FH λ_ _ _ _ _ _ _ q=>gt_int q
def V3:fz X (compareOp .GtE) (vK λi j=>.bl (decide (j<=i))):=FH λ_ _ _ _ _ _ _ q=>ge_int q
def oH:fz X (compareOp .Is) (λx y H Q=>y=.non/\Q (.bl (decide (x=.non))) H):=by
 intro d s g H x y v u Q I e f h;let⟨rfl,q⟩:=h;ext f;rwa[is_none_gen (bU I q ?_)]
 cases x <;> first
  |(ext e;rfl)
  |(let⟨t,rfl⟩:=e;rfl)
noncomputable def sZ:fz X (compareOp .IsNot) (λx y H Q=>y=.non/\Q (.bl (!decide (x=.non))) H):=by
 intro d s g H x y v u Q I e f h;let⟨rfl,q⟩:=h;ext f;rwa[isnot_none_gen (bU I q ?_)]
 cases x <;> first
  |(ext e;rfl)
  |(let⟨t,rfl⟩:=e;rfl)
def bh (b:Expr){d:CmpOp}(h:d≠.In:=by decide)(g:d≠.NotIn:=by decide):behindInMarks d b=false:=by
 let e:(d==CmpOp.In)=false:=by cbv
 let f:(d==CmpOp.NotIn)=false:=by cbv
 cases b <;> simp[behindInMarks,e,f]
def tf {e:CmpOp}{r:R2}(j:fz X (compareOp e) r)(p:PE X a ta)(f:PE X b tb)(n:behindInMarks e b=false):PE X (.Compare a [e] [b] pos) (M0 r ta tb):=by
 intro d s m H Q I h;rwa[wpAny_Compare1 (Ko p f I h λv u g x y o i k l q=>j d g m o x y v u Q i k l q) n]
inductive Ro (x:V) (H:Hp) (Q:Bool->Hp->Prop):Prop
 |mk (k:Bool):x=.bl k->Q k H->Ro x H Q
def M3 (t:TE):TT:=λ e H Q=>t e H λx d=>Ro x d Q
def aZ {g:CmpOp}{r:R2}(A:fz X (compareOp g) r)(G:PE X a ta)(l:PE X b tb)(E:behindInMarks g b=false):PT X (.Compare a [g] [b] pos) (M3 (M0 r ta tb)):=by
 intro d s f H Q I h
 rwa[wpAny_isTrue_Compare1 (aY (G d s f H _ I h) λv C ζ=>?_) E];let⟨x,B,m,j,q⟩:=ζ;rwa[aY (l d C f B _ m q) λu p ζ=>?_];let⟨y,F,w,D,J⟩:=ζ;rwa[ aY (A d p f F x y v u _ w j D J) λc L ζ=>?_];let⟨z,n,o,i,k,e,t⟩:=ζ
 subst e;ext i;rwa[ai9 ⟨n,o,t⟩]
def Rp (r h:R2)(ta tb tc:TE):TE:=λ d H Q=>ta d H λx i=>tb d i λy f=>r x y f λz e=>∃k,z=.bl k/\
 (if k=true then tc d e λj g=>h y j g Q else Q (.bl false) e)
def Ks {j op':CmpOp}{r l:R2}(U:fz X (compareOp j) r)(i:fz X (compareOp op') l)(ha:PE X a ta)(C:PE X b tb)(hc:PE X c tc)
 (Z:lastMarks [j,op'] [b,c]=false):PT X (.Compare a [j,op'] [b,c] pos) (M3 (Rp r l ta tb tc)):=by
 intro f s g H Q I h
 rwa[isTrue_chain (aY (ha f s g H _ I h) λv Y ζ=>?_) Z];let⟨x,W,E,A,N⟩:=ζ;rwa[test_link (aY (C f Y g W _ E N) λu L ζ=>?_)];let⟨y,H2,P,p,q2⟩:=ζ;rwa[ aY (U f L g H2 x y v u _ P A p q2) λd s3 ζ=>?_];let⟨z,m,n,q,k,e,o⟩:=ζ
 subst e;ext q;rwa[ai9 ?_]
 cases k with
 |false=>
  let⟨k',O,q'⟩:=o;ext O;rwa[ite_ff ⟨m,n,q'⟩]
 |true=>
  rwa[ite_tt (test_last (aY (hc f s3 g m _ n o) λt w ζ=>?_))];let⟨D,J,B,G,V⟩:=ζ;rwa[aY (i f w g J y D u t _ B p G V) λd' s5 ζ=>?_];let⟨z2,F,M,S,k2,R,T⟩:=ζ;subst R;ext S;rwa[ai9 ⟨F,M,T⟩]
def Rq (K:Za1)(x:V)(H:Hp)(k:Bool):Prop:=
 match x with
 |.non=>k=false
 |.bl b=>k=b
 |.int i=>k=(i !=0)
 |.str y=>⇑y<=sizeLine/\k=((⇑y:Int) !=0)
 |.m9 y=>y.size<=sizeLine/\k=((y.size:Int) !=0)
 |.ref p=>(∃xs,aH K H p xs/\k=!xs.isEmpty)\/(∃xs,bG K H p xs/\k=!xs.isEmpty)\/∃d,H p\.dK d/\k=!d.isEmpty
 |_=>False
def FI {f:Type}{d:List (f×V)}{e:List (f×Zt)}(r:KV d e):(!e.isEmpty)=!d.isEmpty:=by
 cases r <;> rfl
def vM {xs:Zb}(r:Vals xs N):(!N.toArray.isEmpty)=!xs.isEmpty:=by
 cases r <;> simp
def rD:(sizeLine:Nat)<2 ^ 63:=⋯
def Rt:aax X (λx H Q=>∃k,Rq X.K x H k/\Q k H):=by
 intro u s C H x v Q I g h;let⟨k,e,q⟩:=h;let A:=rD;let B:sizeLine=16777216:=sizeLine_eq
 cases x with
 |non=>
  ext g;let d:k=false:=e;subst d;rwa[truthy_none ⟨H,I,q⟩]
 |bl b=>
  ext g;let d:k=b:=e;subst d;rwa[ai9 ⟨H,I,q⟩]
 |int i=>
  let⟨t,rfl⟩:=g;let d:k=(i !=0):=e;subst d;rwa[PySem.P.truthy_int ⟨H,I,q⟩]
 |str y=>
  let⟨t,rfl⟩:=g;obtain⟨w,d⟩:⇑y<=sizeLine/\k=((⇑y:Int) !=0):=e;subst d;rwa[PySem.P.truthy_str ∅ ⟨H,I.tok _,q⟩]
 |m9 y=>
  let⟨t,rfl⟩:=g;obtain⟨w,d⟩:y.size<=sizeLine/\k=((y.size:Int) !=0):=e;subst d;rwa[PySem.W.truthy_bytes ∅ ⟨H,I.tok _,q⟩]
 |ref p=>
  ext g;let d:(∃xs,aH X.K H p xs/\k=!xs.isEmpty)\/(∃xs,bG X.K H p xs/\k=!xs.isEmpty)\/∃f,H p\.dK f/\k=!f.isEmpty:=e;rcases d with ⟨xs,j,d⟩|⟨xs,j,d⟩|⟨f,j,d⟩
  ·subst d;let⟨n,r,pl,o⟩:=I.list j;let hlen:=⇑r;rwa[wpAny_truthy_list pl.isList (by simp only[ahS];omega) ⟨H,I.tok _,[vM r]▸q⟩]
  ·subst d;let⟨n,r,pl,o⟩:=I.tuple j;let hlen:=⇑r;rwa[truthy_tuple pl (by simp only[ahS];omega) ⟨H,I.tok _,[vM r]▸q⟩]
  ·subst d;obtain⟨o,z,l,r,m⟩:⇑f<=sizeLine/\(p==sysModules)=false/\∃l,KV f l/\s.heap.DictOf (bO X.prog X.w) p l:=I.aM p _ j;let hlen:⇑f=⇑l:=Paired.length r;rwa[wpAny_truthy_dict z m ∅ ⟨H,I.tok _,[FI r]▸q⟩]
 |_=>exact(show False from e).elim
def Az (j:PE X a ta)(i:∀whole,isTrue a X.env whole=(do let v <-whole;standAt a.pos;holding [v] (truthy v))):
 PT X a (λ e H Q=>ta e H λx f=>∃k,Rq X.K x f k/\Q k f):=by
 intro d s e H Q I h;rwa[isTrue_plain (aY (j d s e H _ I h) λv n ζ=>?_) (i _)];let⟨x,g,o,l,m⟩:=ζ;rwa[Rt d n e g x v Q o l m]
def vals1 {x:V}(r:Vals [x] N):∃u,N=[u]/\RelV x u:=by
 cases r with
 |cons e d=>ext d;rwa[12,e]
def vals2 {x:V}(r:Vals [x,q] N):∃u d,N=[u,d]/\RelV x u/\RelV q d:=by
 cases r with
 |cons h e=>
  cases e with
  |cons g f=>ext f;rwa[112,h,g]
def Hn (g:X.calm=true):je X (.builtin "max") (λe H Q=>∃i j,e=[.int i,.int j]/\Q (.int (if j > i then j else i)) H):=by
 intro f s p H e v Q I r h;let⟨i,j,rfl,q⟩:=h;let⟨u,l,rfl,⟨t,rfl⟩,⟨m,rfl⟩⟩:=vals2 r;rwa[max_two_ints (I.ok.hd g) λn o k=>⟨_,H,I.kept k,5,q⟩]
 cases d:j > i
 ·rw[ah4 d,ah4 d];rwa[12]
 ·rw[ahY d,ahY d];rwa[12]
def yS (g:X.calm=true):je X (.builtin "min") (λe H Q=>∃i j,e=[.int i,.int j]/\Q (.int (if j<i then j else i)) H):=by
 intro f s p H e v Q I r h;let⟨i,j,rfl,q⟩:=h;let⟨u,l,rfl,⟨t,rfl⟩,⟨m,rfl⟩⟩:=vals2 r;rwa[min_two_ints (I.ok.hd g) λn o k=>⟨_,H,I.kept k,5,q⟩]
 cases d:j<i
 ·rw[ah4 d,ah4 d];rwa[12]
 ·rw[ahY d,ahY d];rwa[12]
end
structure uN (h:Heap) (x dx C:Zs) (mA:Str->Zl):Prop where
 obj:h.get? x\(PySem.W.instObj C dx)
 ns:h.Ns1 dx mA
 ne:dx≠x
def yT (n:h.Ns1 a M):∃d,h.get? a\d/\∀name,PySem.W.lookIn name d\(M name):=by
 let⟨o,k,m,i,f,g,_,l⟩:=n;rwa[⟨o,i,λname=>?_⟩];let e:=l name;unfold nsFind findBy at e;rw[<-Array.find?_toList]at e;unfold PySem.W.lookIn;rw[f];dsimp only;split
 ·cbv
 ·rename_i q;rw[q]at e
  let b:k.toList.any (·.refKey)=false:=by
   rw[List.any_eq_false];intro y j;let⟨z,t,c⟩:=g y (Array.mem_toList_iff.mp j);simp[DictEntry.refKey,c]
  cbv
def uN.look {x dx:Zs}(I:uN h x dx a M):∃b,PySem.W.InstAt h x (PySem.W.instObj a dx) a (some b)/\∀name,PySem.W.lookIn name b\(M name):=
 let ⟨b,c,d⟩:=yT I.ns
 ⟨b,⟨I.obj,22,c⟩,d⟩
section
variable {prog:Program}{w:World}{A:Around}{E:Zt->Zu->Prop}{s:Zu}{K:Za1}{x dx C f:Zs}{mA:Str->Zl}{name:Str}{v:Zt}
def get_map {expr:Bool}(X:K.In s.heap)(I:uN s.heap x dx C mA)(g:PySem.W.plainGet K C name=true)(d:PySem.W.hasDictIn K C=true)
 (c:PySem.W.findIn K ↑C name\none) (b:mA name\v) (a:PySem.W.handedIn v=true) (h:Q v { s with toks:=s.toks+ 1 }):
 (prog<|>w) A (getAttr ↑x name expr) Q E s:=by
 let⟨i,J,e⟩:=I.look;rwa[PySem.W.get_value X J (PySem.W.plainGet_of g).1 (PySem.W.findObj_own d c rfl (by rw[e,b])) a h]
def Kt {pl:Sem Bool}{Q:Zt×Zk->Zu->Prop}(X:K.In s.heap)(I:uN s.heap x dx C mA)(a:PySem.W.plainGet K C name=true)
 (b:PySem.W.findIn K ↑C name\some ↑f) (g:PySem.W.isFn K ↑f=true) (c:mA name=none) (h:Q (↑f,[↑x]) s):
 (prog<|>w) A (getMethod ↑x name pl) Q E s:=by
 let⟨d,J,e⟩:=I.look;rwa[PySem.W.method_fn X J (PySem.W.plainGet_of a).1 (PySem.W.plainGet_of a).2 b (ajW.mp g) (by show (PySem.W.lookIn name d).map (·.isSome)\false;rw[e,c];rfl) h]
def O8 {ns:Zp}(X:K.In s.heap)(I:uN s.heap x dx C mA)
 (t:PySem.W.findIn K ↑C "__setattr__"=some (some (.builtin "object.__setattr__"))) (o:PySem.W.plainOver K C=true) (l:PySem.W.takerIn K C name\none) (q:PySem.W.hasDictIn K C=true)
 (p:PySem.Within mA ns) (n:⇑ns<=sizeLine)
 (h:∀e,uN e x dx C (λy=>if y=name then some v else mA y)->Heap.SameBut dx s.heap e->U () { s with heap:=e,toks:=s.toks+ 2 }):
 (prog<|>w) A (setAttr ↑x name v) U E s:=by
 let⟨H,J,G⟩:=I.look;rwa[PySem.W.set_plain X J t (PySem.W.osa_open (s:={ s with toks:=s.toks+ 1 }) (r:=none) X J o l λb=>?_)];let⟨F,z,k⟩:=PySem.W.any_some q;let u:s•x\⟨↑C,some dx,.plain,#[]⟩:=I.obj;rwa[ahy (ahF (ahy (ahy (wpAny_loadPart u (ahy (PySem.W.Looks.here (s:={ s with toks:=s.toks+ 1 }) (PySem.W.looks_clsIn X z) ?_))))))];rw[k];rwa[ahF (a:=some dx) (ahy (ahF (ahy ?_)))];rwa[wpAny_nsSet1 (s:={ s with toks:=s.toks+ 1 }) I.ns λe d c=>?_]
 let⟨D,B,m,j,g,i⟩:=d.count (PySem.Within.cons name v p);rwa[ahy (wpAny_lookBehind j ([g]▸pastItsLine_dict (ahP i (by rw[ah0];omega))) ?_)];rwa[ahF (h _ ⟨(c.2 _ (aiU I.ne)).trans I.obj,d,I.ne⟩ c)]
def Ku {R:Result->Zu->Prop}{a:List (Str×Zt)}(X:K.In s.heap)(b:PySem.W.makesIn K C=true)
 (d:PySem.W.findIn K ↑C "__init__"=some (some ↑f)) (c:PySem.W.typeIn K ↑f\(.type "function"))
 (h:codeAny (model prog w) (A.under (.builtin "type.__call__" ⟨↑C::N,a⟩)) (.call ↑f ⟨↑(↥s+ 1)::N,a⟩) (PySem.W.InitBack (↥s+ 1) R)
  { s with heap:=(s.heap.push PySem.W.emptyDict).push (PySem.W.instObj C ↥s) }):
 codeAny (model prog w) A (.call ↑C ⟨N,a⟩) R s:=by
 rwa[PySem.W.make_core (PySem.W.makes_of X b) (PySem.W.looks_findIn X d) (λself=>PySem.W.bind_fn X self c) (.inl rfl) h]
def Ho {R:Result->Zu->Prop}(X:K.In s.heap)(a:PySem.W.makesIn K C=true)
 (c:PySem.W.findIn K ↑C "__init__"=some (some (.builtin "object.__init__")))
 (b:∀self,PySem.W.Looks (model prog w) s.heap (bindSpecial (.builtin "object.__init__") self) (.builtin "object.__init__",[self]))
 (h:codeAny (model prog w) (A.under (.builtin "type.__call__" ⟨[↑C],[]⟩)) (.call (.builtin "object.__init__") ⟨[↑(↥s+ 1)],[]⟩) (PySem.W.InitBack (↥s+ 1) R)
  { s with heap:=(s.heap.push PySem.W.emptyDict).push (PySem.W.instObj C ↥s) }):
 codeAny (model prog w) A (.call ↑C ⟨[],[]⟩) R s:=by
 rwa[PySem.W.make_core (PySem.W.makes_of X a) (PySem.W.looks_findIn X c) b (.inr ⟨22⟩) h]
end
noncomputable def bI (f:Str)(v:V):List (Str×V)->List (Str×V)
 |[]=>[(f,v)]
 |(g,x)::r=>if g=f then (g,v)::r else (g,x)::bI f v r
theorem ou (f g:Str)(v:V):∀fs:List (Str×V),(bI f v fs).lookup g=if g=f then some v else fs.lookup g
 |[]=>by
  show List.lookup g [(f,v)]=_
  cbv
 |(k,x)::r=>by
  let a:=ou f g v r;rw[show bI f v ((k,x)::r)=(if k=f then (k,v)::r else (k,x)::bI f v r) from rfl]
  cbv
theorem kF (f:Str)(v:V):∀fs:List (Str×V),f∈(bI f v fs).map (·.1)/\∀g,g∈fs.map (·.1)->g∈(bI f v fs).map (·.1)
 |[]=>⟨by simp[bI],λg h=>by simp at h⟩
 |(k,x)::r=>by
  let⟨a,b⟩:=kF f v r;rw[show bI f v ((k,x)::r)=(if k=f then (k,v)::r else (k,x)::bI f v r) from rfl]
  cbv
theorem ug (f:Str)(v:V):∀fs:List (Str×V),⇑(bI f v fs)<=⇑fs+ 1
 |[]=>by simp[bI]
 |(k,x)::r=>by
  let a:=ug f v r;rw[show bI f v ((k,x)::r)=(if k=f then (k,v)::r else (k,x)::bI f v r) from rfl]
  cbv
def eK.some_of {v:V}{o:Zl}(r:eK (some v) o):∃u,o\u/\RelV v u:=by
 cases o with
 |none=>exact(show False from r).elim
 |some u=>rwa[u,2,r]
def eK.none_of {o:Zl}(r:eK none o):o=none:=by
 cases o with
 |none=>rfl
 |some u=>exact(show False from r).elim
def yU (r:RelV q u):PySem.W.handedIn u=true:=by
 cases q with
 |non=>cases (show u=Value.none from r);rfl
 |bl b=>cases (show u=Value.bool b from r);rfl
 |int i=>let⟨t,e⟩:=(show ∃t,u=Value.int i t from r);ext e;rfl
 |str x=>let⟨t,e⟩:=(show ∃t,u=Value.str x t from r);ext e;rfl
 |m9 b=>let⟨t,e⟩:=(show ∃t,u=Value.bytes b t from r);ext e;rfl
 |Ar b=>let⟨t,e⟩:=(show ∃t,u=Value.float b t from r);ext e;rfl
 |ref a=>cases (show u=Value.ref a from r);rfl
 |ty n=>cases (show u=Value.type n from r);rfl
section
variable {P:Program}{w:World}{H:Hp}{h:Heap}{a C dx:Zs}{fs:List (Str×V)}
def ti (c:dM P w H h)(e:H a\.ins C dx fs):∃b,uN h a dx C b/\(∀f,eK (fs.lookup f) (b f))/\PySem.Within b (fs.map (·.1))/\⇑fs<=1000/\H dx\(.own a):=by
 let⟨d,z,ne,g,b,n,r,q⟩:=(show bY P w H h a (.ins C dx fs) from c a _ e);rwa[b,⟨g,n,ne⟩,r,q,z,d]
end
structure jZ (K:Za1) (C:Zs):Prop where
 pg:PySem.W.plainGet K C Str.empty=true
 hd:PySem.W.hasDictIn K C=true
 po:PySem.W.plainOver K C=true
 sa:PySem.W.findIn K ↑C "__setattr__"=some (some (.builtin "object.__setattr__"))
def jZ.get (c:jZ K a)(f:Str):PySem.W.plainGet K a f=true:=c.pg
def kH (K:Za1)(C:Zs)(f:Str):Prop:=PySem.W.findIn K ↑C f\none
def kH.FJ (n:kH K a f):PySem.W.takerIn K a f\none:=by
 unfold PySem.W.takerIn;rw[show PySem.W.findIn K ↑a f=some none from n];rfl
structure Con (K:Za1) (C:Zs) (f:Str) (v:V) (u:Zt):Prop where
 at_:PySem.W.findIn K ↑C f\(some u)
 rel:RelV v u
 get:PySem.W.specialIn K u "__get__"=some none
 cp:PySem.W.copiedNames.contains f=false
structure Meth (K:Za1) (C:Zs) (m:Str) (f:Zs):Prop where
 at_:PySem.W.findIn K ↑C m\(some ↑f)
 fn:PySem.W.isFn K ↑f=true
 kp:PySem.W.keepIn K ↑f=true
section
variable {X:Cx}{pins:List (Zs×Obj)}{σ:St}{H:Hp}{s:Zu}{a C dx:Zs}{fs:List (Str×V)}{f:Str}{v:V}{A:Around}{E:Zt->Zu->Prop}
def FK {b:Bool}(I:Inv X pins σ H s)(e:H a\.ins C dx fs)(c:jZ X.K C)(n:kH X.K C f)(l:fs.lookup f\v)
 (h:∀u d,Inv X pins σ H d->RelV v u->Q u d):X⁻¹ A (getAttr ↑a f b) Q E s:=by
 let⟨j,O,r,_,_,_⟩:=ti I.aM e;let⟨u,i,g⟩:=eK.some_of (v:=v) (o:=j f) (by rw[<-l];rwa[r f]);rwa[get_map I.dg O (c.get f) c.hd n i (yU g) (h u _ (I.tok _) g)]
def vN {pl:Sem Bool}{Q:Zt×Zk->Zu->Prop}(I:Inv X pins σ H s)(e:H a\.ins C dx fs)(c:jZ X.K C)(k:Meth X.K C x b)(l:fs.lookup x=none)
 (h:Q (↑b,[↑a]) s):X⁻¹ A (getMethod ↑a x pl) Q E s:=by
 let⟨g,O,r,_,_,_⟩:=ti I.aM e;let d:g x=none:=eK.none_of (by cbv);rwa[Kt I.dg O (c.get x) k.at_ k.fn d h]
def FL (I:Inv X pins σ H s)(e:H a\.ins C dx fs)(c:jZ X.K C)(n:kH X.K C f)(J:⇑fs<1000)(D:RelV q u)
 (h:∀j,Inv X pins σ (upd H a (.ins C dx (bI f q fs))) j->U () j):X⁻¹ A (setAttr ↑a f u) U E s:=by
 let⟨F,O,r,k,_,l⟩:=ti I.aM e;let B:⇑(fs.map (·.1))<=sizeLine:=by rw[ahE,sizeLine_eq];ext
 rwa[O8 I.dg O c.sa c.po n.FJ c.hd k B λw i G=>h _ ?_]
 let m:∃o,w.get? dx\o:=let ⟨o,_,_,y,_⟩:=i.ns;⟨o,y⟩
 rwa[I.write (x:=a) (e:=dx) ([e]▸True.intro) (.inr l) (λb d p z=>(G.2 b p).trans z) m ?_];rwa[⟨[ak O.ne]▸l,5,O.ne,i.obj,_,i.ns,λg=>?_,λg t=>?_⟩]
 ·have:=ug f q fs;ext
 ·show eK ((bI f q fs).lookup g) (if g=f then some u else F g);rw[ou];cases d:g=f
  ·rw[ah4 d,ah4 d];rwa[D]
  cbv
 ·cases d:g=f
  ·rw[d];rwa[(kF f q fs).1]
  ·rwa[(kF f q fs).2 g (k g λz=>t ?_)]
   cbv
def Inv.made (I:Inv X pins σ H s):Inv X pins σ (upd (upd H ↥s (.own (↥s+ 1))) (↥s+ 1) (.ins C ↥s []))
 { s with heap:=(s.heap.push PySem.W.emptyDict).push (PySem.W.instObj C ↥s) }:=by
 let c:(s.heap.push PySem.W.emptyDict).get? ↥s\PySem.W.emptyDict:=ahQ s.heap rfl
 let k:((s.heap.push PySem.W.emptyDict).push (PySem.W.instObj C ↥s)).get? (↥s+ 1)\(PySem.W.instObj C ↥s):=by
  have:=ahQ (s.heap.push PySem.W.emptyDict) (o:=PySem.W.instObj C ↥s) rfl
  rwa [ajm]at this
 let d:(s.heap.push PySem.W.emptyDict).Ns ↥s (λ_=>none):=⟨PySem.W.emptyDict,#[],_,c,2,(λe g=>absurd g (by simp)),λ_=>rfl⟩;let j:=I.laid (a:=↥s) (o:=.own (↥s+ 1)) (h':=s.heap.push PySem.W.emptyDict) (t':=s.toks) (λb u q=>ahz _ q) (ahG _) ⟨_,c⟩;rwa[j.laid (a:=↥s+ 1) (o:=.ins C ↥s []) (t':=s.toks) (λb u q=>ahz _ q) (akG (ajm _ _)) ?_];let ne:↥s≠↥s+ 1:=ah8 (ai2 _);rwa[⟨by rw[ak ne,ah],ah2 _,ne,k,λ_=>none,(Heap.Ns1.of_empty d).at λo q=>ahz _ q,λ_=>True.intro,λy h=>absurd rfl h⟩]
def Eo {env:Env}{f:Str}{s:Zu}(c:attributeBase e f env (eval e env)=eval e env)
 (h:(P<|>w) A (eval e env) (λo b=>(P<|>w) A (getAttr o f true) Q E b) E s):(P<|>w) A (eval (.Attribute e f p) env) Q E s:=
 Attribute_any_ h (by rw[arm_eval_Attribute,c])
end
inductive Ru (K:Za1) (f:Str) (x:V) (H:Hp) (Q:VK):Prop
 |mk (a C dx:Zs) (fs:List (Str×V)) (v:V):x=↑a->H a\.ins C dx fs->jZ K C->kH K C f->fs.lookup f\v->Q v H->Ru K f x H Q
def Rw (K:Za1)(b:TE)(f:Str):TE:=λ c H Q=>b c H λx a=>Ru K f x a Q
inductive Rx (K:Za1) (f:Str) (y x:V) (H:Hp) (N:Hp->Prop):Prop
 |mk (a C dx:Zs) (fs:List (Str×V)):x=↑a->H a\.ins C dx fs->jZ K C->kH K C f->⇑fs<1000->N (upd H a (.ins C dx (bI f y fs)))->Rx K f y x H N
def aaz (K:Za1)(e b:TE)(f:Str):TS:=λD a H=>b a H λy d=>e a d λx c=>Rx K f y x c (D.nx a)
section
variable {X:Cx}{o e value:Expr}{f:Str}{pos pos':Pos}{ta tv:TE}
def aF (p:PE X e ta)(d:attributeBase e f X.env (eval e X.env)=eval e X.env):PE X (.Attribute e f pos) (Rw X.K ta f):=by
 intro b s m H Q I h;rwa[Eo d (aY (p b s m H _ I h) λu z ζ=>?_)];let⟨x,j,g,k,a,C,A,fs,v,ex,t,c,n,l,q⟩:=ζ;subst ex;obtain rfl:u=Value.ref a:=k;rwa[FK g t c n l λy w i r=>⟨v,j,i,r,q⟩]
def b8 (z:PE X o ta)(w:PE X value tv)(r:swapsWith value (some (.Attribute o f pos')) pos.line X.env=pure false):PS X (.Assign [.Attribute o f pos'] value pos) (aaz X.K ta tv f):=by
 intro b s d H D I h;rwa[plainObj_wpAny_Assign_Attribute (aY (w b s d H _ I h) λu m ζ=>?_) r];let⟨y,k,g,t,q⟩:=ζ;rwa[aY (z b m d k _ g q) λp E ζ=>?_];let⟨x,F,j,v,a,C,J,fs,ex,A,c,n,l,B⟩:=ζ;subst ex;obtain rfl:p=Value.ref a:=v;rwa[FL j A c n l t λG i=>⟨d,_,i,B⟩]
inductive aaB (x:V) (y:V) (H:Hp) (Q:VK):Prop
 |mk (i j:Int):x=.int i->y=.int j->Q (.int (i+ j)) H->aaB x y H Q
inductive aaC (x:V) (y:V) (H:Hp) (Q:VK):Prop
 |mk (i j:Int):x=.int i->y=.int j->Q (.int (i - j)) H->aaC x y H Q
end
section
variable {X:Cx}{pins:List (Zs×Obj)}{σ:St}{H:Hp}{s:Zu}{A:Around}{E:Zt->Zu->Prop}{Q:Zt->Zu->Prop}{c:Zt}{b:Bool}
inductive jH (K:Za1) (H:Hp):V->Zt->Prop where
 |non:jH K H .non (.type "NoneType")
 |bl (x:Bool):jH K H (.bl x) (.type "bool")
 |int (i:Int):jH K H (.int i) (.type "int")
 |str (x:Str):jH K H (.str x) (.type "str")
 |Ar (x:UInt64):jH K H (.Ar x) (.type "float")
 |lst {a:Zs} {xs:Zb} (e:H a\.lst xs):jH K H ↑a (.type "list")
 |c9 {a:Zs} {o:Obj} {xs:Zb} (e:H a\.c9 o (.lst xs)):jH K H ↑a (.type "list")
 |tup {a:Zs} {xs:Zb} (e:H a\.tup xs):jH K H ↑a (.type "tuple")
 |dK {a:Zs} {kvs:List (Key×V)} (e:H a\.dK kvs):jH K H ↑a (.type "dict")
 |dT {a:Zs} {kvs:List (Zd×V)} (e:H a\.dT kvs):jH K H ↑a (.type "dict")
 |ins {a C dx:Zs} {fs:List (Str×V)} (e:H a\.ins C dx fs) (cl:jZ K C) (ha:PySem.W.findIn K ↑C "__class__"=some (some (.builtin "object.__class__")))
  (hn:PySem.W.specialIn K (.builtin "object.__class__") "__get__"=some (some (.builtin "getset_descriptor.__get__"))) (htk:PySem.W.takesIn K (.builtin "object.__class__")\true)
  (hm:PySem.W.mroIn K C (.type "object")\true):jH K H ↑a ↑C
def Hq {x:V}(I:Inv X pins σ H s)(d:RelV x u)(B:jH X.K H x v)(e:PySem.W.kitOne X.K v c\b)(h:∀r,Q (.bool b) { s with toks:=r }):
 X⁻¹ A (call (.builtin "isinstance") [u,c]) Q E s:=by
 cases B with
 |non=>cases (show u=Value.none from d);rwa[aiW PySem.W.kitx_none I.dg True.intro e (λz=>nomatch z) h]
 |bl y=>cases (show u=Value.bool y from d);rwa[aiW PySem.W.kitx_bool I.dg True.intro e (λz=>nomatch z) h]
 |int i=>let⟨v,q⟩:=(show ∃v,u=Value.int i v from d);ext q;rwa[aiW PySem.W.kitx_int I.dg True.intro e (λz=>nomatch z) h]
 |str y=>let⟨v,q⟩:=(show ∃v,u=Value.str y v from d);ext q;rwa[aiW PySem.W.kitx_str I.dg True.intro e (λz=>nomatch z) h]
 |Ar y=>let⟨v,q⟩:=(show ∃v,u=Value.float y v from d);ext q;rwa[aiW PySem.W.kitx_float I.dg True.intro e (λz=>nomatch z) h]
 | @lst a k f=>
   cases (show u=Value.ref a from d);let⟨_,_,n,_,g⟩:=(show bY X.prog X.w H s.heap a (.lst k) from I.aM a _ f);rwa[aiW PySem.W.kitx_list I.dg ⟨_,g,2⟩ e (λz=>nomatch z) h]
 | @c9 a t k f=>
   cases (show u=Value.ref a from d);let⟨_,_,_,n,_,g⟩:=(show bY X.prog X.w H s.heap a (.c9 t (.lst k)) from I.aM a _ f);rwa[aiW PySem.W.kitx_list I.dg ⟨_,g,2⟩ e (λz=>nomatch z) h]
 | @tup a k f=>
   cases (show u=Value.ref a from d);let⟨_,_,_,p⟩:=(show bY X.prog X.w H s.heap a (.tup k) from I.aM a _ f);let⟨o,g,l,_⟩:=p;rwa[aiW PySem.W.kitx_tuple I.dg ⟨o,g,l⟩ e (λz=>nomatch z) h]
 | @dK a j f=>
   cases (show u=Value.ref a from d);let⟨_,_,M,_,p⟩:=(show bY X.prog X.w H s.heap a (.dK j) from I.aM a _ f);let⟨o,w,F,g,l,_⟩:=p;rwa[aiW PySem.W.kitx_dict I.dg ⟨o,g,l.1⟩ e (λz=>nomatch z) h]
 | @dT a j f=>
   cases (show u=Value.ref a from d);let⟨_,_,k,_,o,w,F,g,l,_⟩:=(show bY X.prog X.w H s.heap a (.dT j) from I.aM a _ f);rwa[aiW PySem.W.kitx_dict I.dg ⟨o,g,l.1⟩ e (λz=>nomatch z) h]
 | @ins a C R fs f cl L D m G=>
   cases (show u=Value.ref a from d);let⟨N,O,_⟩:=ti I.aM f;let⟨P,J,_⟩:=O.look;rwa[aiW (PySem.W.kitx_own (cl.get _) cl.hd L D m G) I.dg J e (λz=>nomatch z) h]
end
structure cw (k:Nat) (A:Around):Prop where
 hd:A.handled=none
 dp:A.depth+ 3* k+ 5<recursionLimit
 un:A.units+ 16* k+ 200<cLine
def cw.mono {k:Nat}(r:cw k A)(h:j<=k):cw j A:=⟨r.hd,by have:=r.dp;ext,by have:=r.un;ext⟩
def cw.Za5 {j k:Nat}{A:Around}(r:cw k A)(h:j<=k:=by decide):cw j A:=r.mono h
def cw.deeper {k:Nat}(r:cw (k+ 1) A)(env:Env):cw k (A.deeper env):=
 ⟨r.hd,by have:=r.dp;show A.depth+ 1+ 3* k+ 5<_;ext,by have:=r.un;show A.units+ 3+ 16* k+ 200<_;ext⟩
def cw.in1 {k:Nat}(r:cw (k+ 1) A):cw k A.in1:=
 ⟨r.hd,by have:=r.dp;show A.depth+ 3* k+ 5<_;ext,by have:=r.un;show A.units+ 1+ 16* k+ 200<_;ext⟩
def FN {b:List (Str×Zt)}:(A.under (.builtin "type.__call__" ⟨↑a::N,b⟩)).depth=A.depth+ 1:=by
 first|rfl|simp[Around.under,Code.weight,Code.isCreation,Code.isGuard,Code.isCaller,Code.frames,Code.isFrame,guardIds]
def FP {b:List (Str×Zt)}:(A.under (.builtin "type.__call__" ⟨↑a::N,b⟩)).units=A.units+ 1:=by
 first|rfl|simp[Around.under,Code.cUnits,Code.frames,Code.isFrame]
def cw.make {k:Nat}(r:cw (k+ 1) A)(C:Zs)(a:Zk)(b:List (Str×Zt)):cw k (A.under (.builtin "type.__call__" ⟨↑C::a,b⟩)):=
 ⟨r.hd,by have:=r.dp;rw[FN];ext,by have:=r.un;rw[FP];ext⟩
def cw.depth {k:Nat}(r:cw k A):A.depth<recursionLimit:=by have:=r.dp;ext
def cw.units {k:Nat}(r:cw k A):A.units+ 64<cLine:=by have:=r.un;ext
def j6:TA:=λ_ H Q=>Q [] H
def jI (e:TE)(tr:TA):TA:=λ a H Q=>e a H λx c=>tr a c λd b=>Q (x::d) b
section
variable {X:Cx}{e:Expr}{es:Zr}{te:TE}{t:TA}{pos:Pos}
def aj:PA X [] j6:=λ_ _ _ _ H Q I h=>aiX ⟨[],H,I,.nil,h⟩
def ae (p:PE X e te)(j:PA X es t)(m:starEach (e::es) X.env=(false,eval e X.env)::starEach es X.env:=by rfl):PA X (e::es) (jI te t):=by
 intro pos a s b H Q I h;rw[m];rwa[aiq (aY (p a s b H _ I h) λu l ζ=>?_)];let⟨x,i,d,c,f⟩:=ζ;rwa[aY (j pos a l b i _ d f) λv r ζ=>?_];let⟨k,o,g,n,q⟩:=ζ;rwa[⟨x::k,o,g,.cons c n,q⟩]
inductive Rz (xs:Zb) (H:Hp) (Q:VK):Prop
 |mk:⇑xs<=sizeLine->(∀p,H p=none->Q ↑p (upd H p (.tup xs)))->Rz xs H Q
def aaD (t:TA):TE:=λ c H Q=>t c H λb a=>Rz b a Q
inductive RB (xs:Zb) (H:Hp) (Q:VK):Prop
 |mk:⇑xs<=sizeLine->(∀p,H p=none->Q ↑p (upd H p (.lst xs)))->RB xs H Q
def aaE (t:TA):TE:=λ c H Q=>t c H λb a=>RB b a Q
def cy {l}(h:PA X es t):PE X (.Tuple es l pos) (aaD t):=by
 intro a s j H Q I f;rwa[wpAny_Tuple_spliced (aY (h pos a s j H _ I f) λk s1 ζ=>?_)];let⟨i,d,c,r,z,q⟩:=ζ;rwa[⟨by rw[<-⇑r];rwa[z],5⟩];let g:d ↥s1=none:=c.aM.fresh (ahG _);rwa[⟨↑↥s1,upd d ↥s1 (.tup i),c.laid (t':=s1.toks) (λb u e=>ahz _ e) (ahG _) ?_,2,q _ g⟩];rwa[z,k,r,⟨_,ahQ _ rfl,212⟩]
def bV (h:PA X es t):PE X (.List es pos) (aaE t):=by
 intro a s k H Q I g;rwa[wpAny_List_spliced (aY (h pos a s k H _ I g) λi s1 ζ=>?_)];let⟨j,c,d,r,z,q⟩:=ζ;rwa[⟨by rw[<-⇑r];rwa[z],5⟩];let f:c ↥s1=none:=d.aM.fresh (ahG _);rwa[⟨↑↥s1,upd c ↥s1 (.lst j),d.laid (t':=s1.toks) (λb u e=>ahz _ e) (ahG _) ?_,2,q _ f⟩];rwa[z,i,(0),r,ahQ _ rfl]
end
abbrev Sp:=Zb->Hp->VK->XK->Prop
abbrev lC:=Zq->Hp->Zu->XK->Zt->Zu->Prop
structure mn (P:Program) (w:World) (K:Za1) (mg:Str->Zl) (base:Heap) (A:Around) (outer:Zq) (s:Zu) (H:Hp):Prop where
 frames:A.frames\outer
 mod:Mod K mg base
 bs:∀b o,base.get? b\o->s•b\o/\H b=none
 rB:base.objs.size<=↥s
 jk:s.heap.FunFrames base outer
 uf:∀b∈cK outer,H b=none
 aM:dM P w H s.heap
 bare:AllBare s.gens
def CE (a:Zq)(P:Program)(w:World)(H:Hp)(s:Zu)(Q:VK)(u:Zt)(b:Zu):Prop:=
 ∃v c,b.os=s.os/\AllBare b.gens/\Un (cK a) [] H c s.heap b.heap/\dM P w c b.heap/\RelV v u/\Q v c
def CR (c:lC)(a:Zq)(P:Program)(w:World)(H:Hp)(s:Zu)(Q:VK)(E:XK)(r:Result)(b:Zu):Prop:=
 match r with
 |.ok (.ret u)=>CE a P w H s Q u b
 |.ok _=>False
 |.error e=>c a H s E e b
structure du (P:Program) (w:World) (K:Za1) (mg:Str->Zl) (base:Heap) (CX:lC) (k:Nat) (f:Zs) (fd:FuncData) (ps:Zp) (sp:Sp):Prop where
 len:∀vs H Q E,sp vs H Q E->⇑vs=⇑ps
 run:∀(A:Around) (outer:Zq) (s:Zu) (H:Hp) (args:Args) (us:Zk) (vs:Zb) (Q:VK) (E:XK),cw k A->mn P w K mg base A outer s H->BindsTo s fd args (ps.zip us)->Vals vs us->sp vs H Q E->
  codeAny (model P w) A (.call ↑f args) (CR CX outer P w H s Q E) s
def mn.make {mg:Str->Zl}{base:Heap}{outer:Zq}(e:mn P w K mg base A outer s H)(C:Zs)(a:Zk)(b:List (Str×Zt)):
 mn P w K mg base (A.under (.builtin "type.__call__" ⟨↑C::a,b⟩)) outer s H:=⟨by first|rwa[e.frames]|(simpa [Around.under,Code.envs,Code.isFrame,pushEnvs] using e.frames),e.mod,e.bs,e.rB,e.jk,e.uf,e.aM,e.bare⟩
def mn.in1 {mg:Str->Zl}{base:Heap}{outer:Zq}(e:mn P w K mg base A outer s H):
 mn P w K mg base A.in1 outer s H:=⟨e.frames,e.mod,e.bs,e.rB,e.jk,e.uf,e.aM,e.bare⟩
section
variable {X:Cx}{pins:List (Zs×Obj)}{σ:St}{H:Hp}{s s':Zu}
def Inv.uO (I:Inv X pins σ H s):mn X.prog X.w X.K X.mg X.base X.A X.stack s H:=
 ⟨I.ok.frames,I.ok.mod,I.bs,ahP I.ok.rB I.sz,I.stack,I.oE,I.aM,I.bare⟩
def Inv.after {Q:VK}(I:Inv X pins σ H s)(h:CE X.stack X.prog X.w H s Q u s'):EP X pins σ Q u s':=by
 let⟨v,e,os,bare,un,aM,r,q⟩:=h;let⟨c,g,d,t,a⟩:=s';obtain rfl:a=s.os:=os;rwa[v,e,I.call (h':=c) (g':=g) (d':=d) (t':=t) (ch:=[]) un aM bare (λb z=>absurd z (by simp)),r,q]
end
def M4 (b:Sp)(a:Zb)(E:XK)(t:TA):TE:=λ e H Q=>t e H λc d=>b (c++a) d Q E
inductive RC (C:Zs) (m:Str) (sp:Sp) (dvs:Zb) (E:XK) (t:TA) (σ:St) (x:V) (H:Hp) (Q:VK):Prop
 |mk (a dx:Zs) (fs:List (Str×V)):x=↑a->H a\.ins C dx fs->fs.lookup m=none->t σ H (λvs H2=>sp (x::(vs++dvs)) H2 Q E)->RC C m sp dvs E t σ x H Q
def ku (C:Zs)(m:Str)(c:Sp)(a:Zb)(E:XK)(e:TE)(t:TA):TE:=λ b H Q=>e b H λx d=>RC C m c a E t b x d Q
def V4 (C:Zs)(e:Sp)(c:Zb)(E:XK)(t:TA):TE:=λ g H Q=>t g H λf b=>∀x a,b x=none->b a=none->a≠x->
 e (↑x::(f++c)) (upd (upd b a (.own x)) x (.ins C a [])) (λv d=>v=.non/\Q ↑x d) E
def Binds (K:Za1)(fd:FuncData)(c:Zp)(b:Zk):Prop:=
 ∀(s:Zu) (a:Zk),K.In s.heap->⇑(a++b)=⇑c->BindsTo s fd ⟨a,[]⟩ (c.zip (a++b))
def Binds.all {fd:FuncData}(h:∀us:Zk,⇑us=⇑Z->bindArgs fd ⟨us,[]⟩=pure (Z.zip us)):Binds K fd Z []:=λs us _ a=>by
 rw[aib]at a ⊢;rwa[.of_eq (h us a)]
def Passes (c:lC)(X:Cx)(E:XK):Prop:=∀(a:List (Zs×Obj)) (d:St) (H:Hp) (s:Zu) (e:Zt) (b:Zu),Inv X a d H s->c X.stack H s E e b->X.xe e b
section
variable {X:Cx}{CX:lC}{k:Nat}{f C:Zs}{fd:FuncData}{ps:Zp}{sp:Sp}{dvs:Zb}{ds:Zk}{E:XK}{x m:Str}{p pos apos:Pos}{e o:Expr}{es:Zr}{ta:TE}{t:TA}
theorem AB {a:List (Zs×Obj)}{Q:VK}{us:Zk}{vs:Zb}(F:du X.prog X.w X.K X.mg X.base CX k f fd ps sp)(j:cw k X.A)(n:Binds X.K fd ps ds)(d:Vals dvs ds)(q:Passes CX X E)
 (I:Inv X a D H s) (r:Vals vs us) (h:sp (vs++dvs) H Q E):X⁻¹ X.A (call ↑f us) (EP X a D Q) X.xe s:=by
 let c:Vals (vs++dvs) (us++ds):=r.append d;let i:⇑(us++ds)=⇑ps:=by rw[<-⇑c];rwa[F.len _ _ _ _ h]
 rwa[ajt (ajz (F.run X.A X.stack s H ⟨us,[]⟩ (us++ds) (vs++dvs) Q E j I.uO (n s us I.dg i) c h) λr g b=>?_)]
 cases r with
 |error e=>exact q a D H s e g I b
 |ok l=>
  cases l with
  |ret u=>exact I.after b
  |next=>exact False.elim b
  |brk=>exact False.elim b
  |cont=>exact False.elim b
def xR (F:du X.prog X.w X.K X.mg X.base CX k f fd ps sp)(u:cw k X.A)(l:Gl X x)(y:X.mg x\↑f)(n:PySem.W.keepIn X.K ↑f=true)(j:Binds X.K fd ps ds)(i:Vals dvs ds)(w:Passes CX X E)
 (A:PA X (e::es) t) (c:(x==("__debug__":Str))=false:=by decide) (z:starEach (e::es) X.env=(false,eval e X.env)::starEach es X.env:=by rfl) (b:(backTo pos (starEach es X.env)).any (·.1)=false:=by rfl):
 PE X (.Call (.Name x p) (e::es) [] pos) (M4 sp dvs E t):=by
 intro a s v H Q I h;rwa[aiz (gb I l y ?_ c)];rwa[ajJ (h₀:=X.base) I.ok.mod.qC n (aY (A pos a s v H _ I h) λJ G ζ=>?_) z b];let⟨B,D,d,r,q⟩:=ζ;rwa[⟨d.dg,5⟩];rwa[AB F u j i w d r q]
def j7 {pl:Sem Bool}(O:PE X o ta)(c:jZ X.K C)(hm:Meth X.K C m f)(F:du X.prog X.w X.K X.mg X.base CX k f fd ps sp)(J:cw k X.A)(D:Binds X.K fd ps ds)(A:Vals dvs ds)(N:Passes CX X E)(P:PA X (e::es) t)
 (g:starEach (e::es) X.env=(false,eval e X.env)::starEach es X.env:=by rfl) (d:(backTo pos (starEach es X.env)).any (·.1)=false:=by rfl)
 (B:eval (.Call (.Attribute o m apos) (e::es) [] pos) X.env=(do
  let v <-eval o X.env
  standAt apos.atName
  let (f,first) <-holding [v] (getMethod v m pl)
  callWith pos f first (backTo pos (starEach (e::es) X.env)) (backToKw pos (keywordEach [] X.env))):=by rfl):
 PE X (.Call (.Attribute o m apos) (e::es) [] pos) (ku C m sp dvs E ta t):=by
 intro b s w H Q I h;rwa[PySem.W.methodCall_KW (pl:=pl) (aY (O b s w H _ I h) λu L ζ=>?_) B];let⟨x,G,i,M,a,W,fs,ex,R,l,q⟩:=ζ;subst ex;obtain rfl:u=Value.ref a:=M;rwa[vN i R c hm l ?_];rwa[ajJ (first:=[↑a]) (h₀:=X.base) I.ok.mod.qC hm.kp (aY (P pos b L w G _ i q) λy T ζ=>?_) g d];let⟨j,U,n,r,S⟩:=ζ;rwa[⟨n.dg,5⟩];rwa[AB (us:=↑a::y) (vs:=↑a::j) F J D A N n (.cons rfl r) S]
def Kv {pl:Sem Bool}(z:PE X o ta)(c:jZ X.K C)(hm:Meth X.K C m f)(F:du X.prog X.w X.K X.mg X.base CX k f fd ps sp)(r:cw k X.A)(n:Binds X.K fd ps ds)(i:Vals dvs ds)(y:Passes CX X E)
 (j:eval (.Call (.Attribute o m apos) [] [] pos) X.env=(do
  let g <-eval o X.env
  standAt apos.atName
  let (f,first) <-holding [g] (getMethod g m pl)
  callWith pos f first (backTo pos (starEach [] X.env)) (backToKw pos (keywordEach [] X.env))):=by rfl):
 PE X (.Call (.Attribute o m apos) [] [] pos) (ku C m sp dvs E ta j6):=by
 intro b s w H Q I h;rwa[PySem.W.methodCall_KW (pl:=pl) (aY (z b s w H _ I h) λu G ζ=>?_) j];let⟨x,D,d,v,a,L,fs,ex,A,l,q⟩:=ζ;subst ex;obtain rfl:u=Value.ref a:=v;rwa[vN d A c hm l ?_];rwa[PySem.W.callWith_K0 (first:=[↑a]) d.dg hm.kp (AB (us:=[↑a]) (vs:=[↑a]) F r n i y d (.cons rfl .nil) q)]
structure Mk (K:Za1) (C f:Zs):Prop where
 makes:PySem.W.makesIn K C=true
 init:PySem.W.findIn K ↑C "__init__"=some (some ↑f)
 fn:PySem.W.isFn K ↑f=true
 kp:PySem.W.keepIn K ↑C=true
theorem Kw {a:List (Zs×Obj)}{Q:VK}(M:Mk X.K C f)(F:du X.prog X.w X.K X.mg X.base CX k f fd ps sp)(B:cw (k+ 1) X.A)(n:Binds X.K fd ps ds)(j:Vals dvs ds)
 (J:Passes CX X E) (I:Inv X a D H s) (r:Vals L N)
 (h:∀x d,H x=none->H d=none->d≠x->sp (↑x::(L++dvs)) (upd (upd H d (.own x)) x (.ins C d [])) (λv O=>v=.non/\Q ↑x O) E):
 X⁻¹ X.A (call ↑C N) (EP X a D Q) X.xe s:=by
 let g:=h (↥s+ 1) ↥s (I.aM.fresh (ajE _)) (I.aM.fresh (ahG _)) (ah8 (ai2 _));let c:=Inv.made (C:=C) I;let i:Vals (V.ref (↥s+ 1)::(L++dvs)) (Value.ref (↥s+ 1)::(N++ds)):=.cons rfl (r.append j)
 let A:⇑(Value.ref (↥s+ 1)::N++ds)=⇑ps:=by
  let e:=⇑i;rw[F.len _ _ _ _ g]at e;rwa[e.symm]
 refine ajt (Ku (f:=f) I.dg M.makes M.init (ajW.mp M.fn) (ajz (F.run _ X.stack _ _ ⟨Value.ref (↥s+ 1)::N,[]⟩ (Value.ref (↥s+ 1)::(N++ds)) _ _ E (B.make C N [])
  (c.uO.make C N []) (n _ (Value.ref (↥s+ 1)::N) c.dg A) i g) λr l b=>?_))
 cases r with
 |error e=>exact J a D _ _ e l c b
 |ok G=>
  cases G with
  |ret u=>
   let⟨v,P,w,z,q,y⟩:=c.after b;subst q;rwa[z,⟨V.ref (↥s+ 1),P,w,2,y⟩]
  |next=>exact False.elim b
  |brk=>exact False.elim b
  |cont=>exact False.elim b
def xS (M:Mk X.K C f)(F:du X.prog X.w X.K X.mg X.base CX k f fd ps sp)(n:cw (k+ 1) X.A)(l:Gl X x)(w:X.mg x\↑C)(j:Binds X.K fd ps ds)(i:Vals dvs ds)(v:Passes CX X E)
 (z:PA X (e::es) t) (c:(x==("__debug__":Str))=false:=by decide) (y:starEach (e::es) X.env=(false,eval e X.env)::starEach es X.env:=by rfl) (b:(backTo pos (starEach es X.env)).any (·.1)=false:=by rfl):
 PE X (.Call (.Name x p) (e::es) [] pos) (V4 C sp dvs E t):=by
 intro a s u H Q I h;rwa[aiz (gb I l w ?_ c)];rwa[ajJ (h₀:=X.base) I.ok.mod.qC M.kp (aY (z pos a s u H _ I h) λG D ζ=>?_) y b];let⟨A,B,d,r,q⟩:=ζ;rwa[⟨d.dg,5⟩];rwa[Kw M F n j i v d r q]
end
def PK (X:Cx)(kws:List Keyword)(t:TA):Prop:=
 ∀(b:Pos) (a:List (Zs×Obj)) (s:Zu) (c:St) (H:Hp) (Q:Zb->Hp->Prop),Inv X a c H s->t c H Q->X⁻¹ X.A (evalAll ((backToKw b (keywordEach kws X.env)).map (·.2))) (AP X a c Q) X.xe s
section
variable {X:Cx}{fd:FuncData}{ps ks:Zp}{x:Str}{pos aaF:Pos}{e:Expr}{kws:List Keyword}{te:TE}{t:TA}{nm:Option Str}
def AF:PK X [] j6:=λ_ _ _ _ H Q I h=>wpAny_evalAll_nil ⟨[],H,I,.nil,h⟩
def xT (w:PE X e te)(l:PK X kws t):PK X (⟨nm,e,aaF⟩::kws) (jI te t):=by
 intro pos a s b H Q I h;rwa[wpAny_evalAll_cons (ahy (aY (w a s b H _ I h) λu q ζ=>?_))];let⟨x,j,d,c,g⟩:=ζ;rwa[ahy (akr (ahF ?_))];rwa[aY (l pos a q b j _ d g) λA z ζ=>?_];let⟨n,v,i,r,y⟩:=ζ;rwa[⟨x::n,v,i,.cons c r,y⟩]
structure abG (K:Za1) (fd:FuncData) (ps ks:Zp) (g:Zk->Zk->Zk) (gV:Zb->Zb->Zb):Prop where
 to:∀(s:Zu) (us ws:Zk),K.In s.heap->⇑(g us ws)=⇑ps->BindsTo s fd ⟨us,ks.zip ws⟩ (ps.zip (g us ws))
 rel:∀{vs:Zb} {us:Zk} {zs:Zb} {ws:Zk},Vals vs us->Vals zs ws->Vals (gV vs zs) (g us ws)
end
structure aT (N P:Zp) (sc:Scope):Prop where
 kind:sc.kind=.function
 co:sc.isCoroutine=false
 gen:sc.isGenerator=false
 nd:N.Nodup
 pre:N.take ⇑P=P
 par:∀x∈P,sc.names.lookup x=some .local\/sc.names.lookup x=some .cell
 RD:∀y∈sc.names,y.2≠.free
theorem yV {kindOf:Str->Option NameKind}:∀{binds:List (Str×Zt)} {m:Str->Zl},(∀v,(x,v)∉binds)->bindL kindOf binds m x=m x
 |[],_,_=>rfl
 |(n,v)::r,m,h=>by
  unfold bindL;rw[yV λw a=>h w (aie _ a)];split
  ·cbv
  ·rfl
theorem yW {kindOf:Str->Option NameKind}:∀{binds:List (Str×Zt)} {m:Str->Zl},(∀v,(x,v)∉binds)->bindC kindOf binds m x=m x
 |[],_,_=>rfl
 |(n,v)::r,m,h=>by
  unfold bindC;rw[yW λw a=>h w (aie _ a)];split
  ·rfl
  cbv
theorem yX {kindOf:Str->Option NameKind}{x:Str}{v:Zt}:∀{P:Zp} {a:Zk} {i:Nat} {m:Str->Zl},P.Nodup->P[i]?\x->a[i]?\v->kindOf x=some .local->
 bindL kindOf (P.zip a) m x=some v
 |[],_,_,_,_,h,_,_=>by simp at h
 |_::_,[],_,_,_,_,h,_=>by simp at h
 |p::P,w::a,0,m,d,c,b,e=>by
  simp at c b;subst c;subst b;show bindL kindOf ((p,w)::P.zip a) m p=_;unfold bindL;rw[yV λv f=>(aih.mp d).1 (List.of_mem_zip f).1,ah4 e];simp
 |p::P,w::a,i+ 1,m,d,c,b,e=>by
  unfold bindL;rwa[yX (i:=i) (aih.mp d).2 (by simpa using c) (by simpa using b) e]
theorem yZ {kindOf:Str->Option NameKind}{x:Str}{v:Zt}:∀{P:Zp} {a:Zk} {i:Nat} {m:Str->Zl},P.Nodup->P[i]?\x->a[i]?\v->kindOf x≠some .local->
 bindC kindOf (P.zip a) m x=some v
 |[],_,_,_,_,h,_,_=>by simp at h
 |_::_,[],_,_,_,_,h,_=>by simp at h
 |p::P,w::a,0,m,d,c,b,e=>by
  simp at c b;subst c;subst b;show bindC kindOf ((p,w)::P.zip a) m p=_;unfold bindC;rw[yW λv f=>(aih.mp d).1 (List.of_mem_zip f).1,ahY e];simp
 |p::P,w::a,i+ 1,m,d,c,b,e=>by
  unfold bindC;rwa[yZ (i:=i) (aih.mp d).2 (by simpa using c) (by simpa using b) e]
noncomputable def start (N:Zp)(a:Zb):St:=a.map some++List.replicate (⇑N - ⇑a) none
def cF (c:lC)(P:Program)(w:World)(K:Za1)(mg:Str->Zl)(base:Heap)(N:Zp)(qual:Str)(scope:Scope)(f:Zs)(b:Zt)(A:Around)(outer:Zq)(s:Zu)(H:Hp)(E:XK):Cx where
 prog:=P
 w:=w
 K:=K
 mg:=mg
 base:=base
 A:=A.deeper (envOfC qual scope ↥s f b)
 N:=N
 eB:=s
 uH:=H
 env:=envOfC qual scope ↥s f b
 outer:=outer
 stack:=envOfC qual scope ↥s f b::outer
 ex:=[]
 calm:=true
 fn:=λ_=>true
 pn:=[]
 xe:=λe d=>(P<|>w) (A.deeper (envOfC qual scope ↥s f b)) (leaving (envOfC qual scope ↥s f b) e) (λ_ a=>c outer H s E e a) (λg a=>c outer H s E g a) d
def AG {sc:Scope}(h:sc.names.lookup x=some .cell):∃c,(cellsFrom n sc.names []).lookup x\c:=by
 let q:=akX sc.names n [] (.inl h);rwa[akH.mp q]
def y1 {O:lC}{base:Heap}{N:Zp}{qual:Str}{scope:Scope}{f:Zq}{E:XK}{G:Zk}
 (S:aT N Z scope) (Q:A.handled=none) (j:mn P w K M base A f s H) (X:⇑L=⇑Z) (r:Vals L G)
 (x:InCallC s ↥s (bindL (envOfC qual scope ↥s a v).kindOf (Z.zip G) λ_=>none) (cellsFrom (↥s+ 1) scope.names []) (bindC (envOfC qual scope ↥s a v).kindOf (Z.zip G) λ_=>none) t):
 Inv (cF O P w K M base N qual scope a v A f s H E) [] (start N L) H t:=by
 let R:⇑Z<=⇑N:=by have:=aiN List.length S.pre;rw[aif]at this;ext
 let⟨D,W,rfl,I⟩:=x.done;let m:∀b:Zs,b∉(cF O P w K M base N qual scope a v A f s H E).ex:=λb z=>absurd (show b∈([]:Zn) from z) (by simp)
 erw[⟨j.mod,S.kind,22,ahG _,λy z c D l=>?_,λy B=>?_,λy c _ h=>?_,λ_=>Q,Around.frames_deeper j.frames,.inr ⟨22⟩,λb z=>absurd z (m b),j.bs,j.rB,λb _ _=>m b,λb z=>absurd z (m b),j.jk,j.uf⟩,2,j.bare,Un.kept I,⟨_,x.toInCall.ns,λi y g D l Y=>?_⟩,λy c h=>⟨_,x.cell y c h⟩,j.aM.fresh (ahG _),λy c h=>?_,λp o=>absurd (show p∈([]:List (Zs×Obj)) from o) (by simp),j.aM.kept I]
 ·rwa[name_of_addr x.apart (ai7 D) (ai7 l)]
 ·rcases B with B|B
  ·rwa[AG B]
  ·rwa[absurd rfl (S.RD _ (ai7 B))]
 ·rwa[akF (x.above y c (ai7 h))]
 ·let F:i<⇑L:=by
   unfold start at l;cases F:i<⇑L
   ·rwa[F]
   ·cbv
  let U:L[i]?\g:=by
   unfold start at l;rw[ahN (by simpa using F),ahZ]at l
   cases e:L[i]? with
   |none=>rw[e]at l;ext l
   |some d=>cbv
  let⟨u,J,T⟩:=r.get U
  let o:Z[i]?\y:=by
   rw[<-S.pre,akI ∅];rwa[D]
  let C:Z.Nodup:=by rw[<-S.pre];rwa[S.nd.sublist (List.take_sublist _ _)]
  erw[u,T];rcases S.par y (ahB o) with k|k
  ·rwa[.inl ⟨k,yX C o J k⟩]
  ·let⟨c,e⟩:=AG (n:=↥s+ 1) k;rwa[.inr ⟨.inl k,c,e,5⟩];let q:=x.cell y c e;rw[yZ C o J (by show scope.names.lookup y≠_;cbv)]at q;rwa[q]
 ·rwa[j.aM.fresh (akF (x.above y c (ai7 h)))]
 ·unfold start;show _=⇑N;rw[ahA,ahE,List.length_replicate];ext
def Al {B:lC}{base:Heap}{k:Nat}{name qual:Str}{params:Arguments}{body:List Stmt}{scope:Scope}{X kV doc pm d Y Z:Zt}{W od:Zo}
 {O:Array Zl} {N z:Zp} {C:Sp} (lk:K.lookup a\⟨Z,od,.func (PySem.W.fnOf name qual params body scope X kV doc pm W d Y),O⟩) (L:PySem.W.codeIn K d qual=true) (S:aT N z scope)
 (len:∀f H Q E,C f H Q E->⇑f=⇑z)
 (j:∀(A:Around) (c:Zq) (s:Zu) (H:Hp) (f:Zb) (Q:VK) (E:XK),cw k (A.deeper (envOfC qual scope ↥s a d))->C f H Q E->
  ∃t,iS (cF B P w K M base N qual scope a d A c s H E) body t/\t { nx:=λ_ h=>Q .non h,rt:=Q } (start N f) H):
 du P w K M base B (k+ 1) a (PySem.W.fnOf name qual params body scope X kV doc pm W d Y) z C:=by
 rwa[⟨len,λA c s H R us f Q E G m hb r p=>?_⟩];let hl:=len _ _ _ _ p;let T:K.In s.heap:=m.mod.qC.keeps λb o e=>(m.bs b o e).1
 let lim:s.heap.NoLimit:=m.mod.nolimit.keeps λb o e=>(m.bs b o e).1
 let i:∀y∈z.zip us,scope.names.lookup y.1=some .local\/(scope.names.lookup y.1=some .cell/\((cellsFrom (↥s+ 1) scope.names []).lookup y.1).isSome=true):=λζ hy=>by
  let⟨n,v⟩:=ζ
  rcases S.par n (List.of_mem_zip hy).1 with q|q
  ·rwa[.inl q]
  ·rwa[.inr ⟨q,akX _ _ _ (.inl q)⟩]
 rwa[codeAny_call_function G.depth (T^lk) rfl S.co S.gen rfl (PySem.W.codeRec_of T L) (hb _ _ _ _ ?_)];rwa[wpAny_newFunctionEnv_cells S.kind i λenv he U x=>?_]
 subst he;rwa[⟨lim.keeps x.toInCall.keep,codeAny_func ?_⟩];let⟨t,ht,hq⟩:=j A c s H f Q E (G.deeper _) p;let I:Inv (cF B P w K M base N qual scope a d A c s H E) [] (start N f) H U:=y1 S G.hd m hl r x;rwa[aiv (ht [] U (start N f) H _ I hq) (λfl D l=>?_) λe D l=>l]
 let fin:∀{g:St} {h:Hp} {v:V} {u:Zt},Inv (cF B P w K M base N qual scope a d A c s H E) [] g h D->RelV v u->Q v h->CE c P w H s Q u D:=
  λ{g h v u} J F q=>⟨v,h,J.os,J.bare,J.base,J.aM,F,q⟩
 cases fl with
 |ret u=>
  let⟨v,g,h,J,F,q⟩:=l;rwa[fin J F q]
 |next=>
  let⟨g,h,J,q⟩:=l;rwa[fin (v:=V.non) (u:=Value.none) J rfl q]
 |brk=>
  let⟨_,_,_,q⟩:=l;rwa[False.elim q]
 |cont=>
  let⟨_,_,_,q⟩:=l;rwa[False.elim q]
section
variable {X:Cx}{x:Str}{p pos:Pos}{e:Expr}{es:Zr}{t:TA}{id T:String}{r:Zb->Hp->VK->Prop}
def Xi (r:Zb->Hp->VK->Prop)(t:TA):TE:=λ c H Q=>t c H λa b=>r a b Q
def bq (l:je X (.builtin id) r)(g:Gl X x)(q:X.mg x=none)(v:bootBuiltins x\.builtin id)(w:PA X (e::es) t)(o:x≠"__name__":=by decide)(c:(x==("__debug__":Str))=false:=by decide)
 (y:starEach (e::es) X.env=(false,eval e X.env)::starEach es X.env:=by rfl) (b:(backTo pos (starEach es X.env)).any (·.1)=false:=by rfl):PE X (.Call (.Name x p) (e::es) [] pos) (Xi r t):=by
 intro a s d H Q I h;rwa[aiz (gT I g q v ?_ o c)];rwa[PyProof.Rows.callWith_builtin1 (aY (w pos a s d H _ I h) λu n ζ=>?_) y b];let⟨j,m,i,f,k⟩:=ζ;rwa[l a n d m j u Q i f k]
def gE (l:je X (.type T) r)(g:Gl X x)(q:X.mg x=none)(v:bootBuiltins x\.type T)(w:PA X (e::es) t)(o:x≠"__name__":=by decide)(c:(x==("__debug__":Str))=false:=by decide)
 (y:starEach (e::es) X.env=(false,eval e X.env)::starEach es X.env:=by rfl) (b:(backTo pos (starEach es X.env)).any (·.1)=false:=by rfl):PE X (.Call (.Name x p) (e::es) [] pos) (Xi r t):=by
 intro a s d H Q I h;rwa[aiz (gT I g q v ?_ o c)];rwa[aiA (aY (w pos a s d H _ I h) λu n ζ=>?_) y b];let⟨j,m,i,f,k⟩:=ζ;rwa[l a n d m j u Q i f k]
end
end L2
namespace HT
open PySem PyProof.Rows
noncomputable def lexLt:Zg->Zg->Bool
 |[],[]=>false
 |[],_::_=>true
 |_::_,[]=>false
 |x::a,y::ys=>if x=y then lexLt a ys else decide (x<y)
def lJ (x y:Int)(a ys:Zg):lexLt (x::a) (y::ys)=if x=y then lexLt a ys else decide (x<y):=rfl
def qE:lexLt [] []=false:=rfl
section
variable {prog:Program}{w:World}{A:Around}{E:Zt->Zu->Prop}{s:Zu}
def O9 {ws:Zk}(t:IsTup s.heap a N.toArray)(u:IsTup s.heap b ws.toArray)(o:N≠[])
 (v:ws=[]->Q ↑a s) (r:ws≠[]->Q ↑↥s { s with heap:=s.heap.push ("tuple">>>.seq (N++ws).toArray) })
 (x:⇑N+ ⇑ws<=sizeLine):(prog<|>w) A (binaryOp .Add ↑a ↑b) Q E s:=by
 let⟨⟨cls,m,data,k⟩,h,y,n,q⟩:=id t;let⟨⟨l,d,data2,f⟩,c,j,p,i⟩:=id u;subst y q j i;let e:N.toArray++ws.toArray=(N++ws).toArray:=by simp
 cases g:ws=[]
 ·exact concat_meets ⟨_,h,2⟩ ⟨_,c,2⟩ noFill_tuple_add seq_tuple_add akY akP (akJ _ _)
   (tuple_addW1 a b N.toArray ws.toArray n p m d k f (by simpa using o) (by simp[g])) ⟨h,c,v g⟩
 ·refine concat_meets ⟨_,h,2⟩ ⟨_,c,2⟩ noFill_tuple_add seq_tuple_add akY akP (akJ _ _)
   (tuple_addW2 a b N.toArray ws.toArray n p m d k f (by simpa using o) (by simpa using g) ∅) ⟨h,c,5⟩
  rw[e];rwa[r g]
noncomputable def b6 (n d:Nat):Zj->Nat
 |none=>d
 |some v=>if v<0 then (v+ (n:Int)).toNat else min v.toNat n
def xU (n d k:Nat):b6 n d (some (k:Int))=min k n:=by
 show (if (k:Int)<0 then ((k:Int)+ (n:Int)).toNat else min (k:Int).toNat n)=min k n;rw[ahY ∅,aic]
def Ep (v:Int)(n d:Nat):(if v<0 then max (v+ (n:Int)) 0 else min v (n:Int))=((b6 n d (some v):Nat):Int):=by
 show (if v<0 then max (v+ (n:Int)) 0 else min v (n:Int))=(((if v<0 then (v+ (n:Int)).toNat else min v.toNat n):Nat):Int);cases a:v<0
 ·cbv
 ·simp only[ahY a];ext
def FQ (lo a:Zj)(n:Nat):Builtin.Slice.sliceAdjust lo a 1 (n:Int)=(((b6 n 0 lo:Nat):Int),((b6 n n a:Nat):Int)):=by
 let b:¬((1:Int)<0):=∅
 unfold Builtin.Slice.sliceAdjust;rwa[Prod.ext ?_ ?_]
 ·cases lo with
  |none=>rfl
  |some v=>exact Ep v n 0
 ·cases a with
  |none=>rfl
  |some v=>exact Ep v n n
def FT (i j:Nat):Builtin.Slice.slicePlaces (i:Int) (j:Int) 1=j - i:=by
 unfold Builtin.Slice.slicePlaces;let a:(1:Int) > 0:=∅
 split <;> ext
def vO {o:Zj}{Q:Zj->Zu->Prop}(p:IsPart v o)(h:Q o s):(prog<|>w) A (Builtin.Slice.slicePartIndex v) Q E s:=by
 cases p with
 |none=>exact slicePart_none h
 |int i t=>exact slicePart_int h
def mq {lo d:Zj}{Q:Int×Int×Nat->Zu->Prop}(g:s.heap.IsSliceOf a v u .none)(pl:IsPart v lo)(e:IsPart u d)
 (h:Q (((b6 n 0 lo:Nat):Int),1,b6 n n d - b6 n 0 lo) s):(prog<|>w) A (Builtin.Slice.sliceApplied ↑a (pure (n:Int))) Q E s:=by
 let⟨os,b,f,c⟩:=id g;rwa[ahy (ahy (aiF b c (x:=v) rfl (ahy (aiF b c (x:=u) rfl (ahy (aiF b c (x:=.none) rfl (ahF ?_)))))))];rwa[ahy (slicePart_none ?_)];rwa[ahy (vO pl (ahy (vO e (ahy (ahF ?_)))))];show wpAny _ _ (match Builtin.Slice.sliceAdjust lo d 1 (n:Int) with|(lo,d)=>pure (lo,(1:Int),Builtin.Slice.slicePlaces lo d 1)) _ _ s;rw[FQ lo d n];show wpAny _ _ (pure (((b6 n 0 lo:Nat):Int),(1:Int),Builtin.Slice.slicePlaces ((b6 n 0 lo:Nat):Int) ((b6 n n d:Nat):Int) 1)) _ _ s;rw[FT];rwa[ahF h]
def Kx (xs:Zm)(i k:Nat):((~~~k).filterMap λ(m:Nat)=>xs[((i:Int)+ (m:Int)* 1).toNat]?).toArray=((xs.toList.drop i).take k).toArray:=by
 let e:(λ(m:Nat)=>xs[((i:Int)+ (m:Int)* 1).toNat]?)=λm=>xs[i+ m]?:=by
  funext m
  have:((i:Int)+ (m:Int)* 1).toNat=i+ m:=∅
  rw[this]
 rw[e];have:=pick_run xs i k;rw[List.filterMap_map]at this;let a:((λx=>xs[x]?) ∘ λx=>i+ x)=λm=>xs[i+ m]?:=rfl
 cbv
def tT {items:Zm}{lo d:Zj}(e:IsTup s.heap a items)(k:s.heap.IsSliceOf b v u .none)(pl:IsPart v lo)(p:IsPart u d)
 (o:¬(b6 items.size 0 lo=0/\b6 items.size items.size d=items.size))
 (h:Q ↑↥s { s with heap:=s.heap.push ("tuple">>>.seq ((items.toList.drop (b6 items.size 0 lo)).take (b6 items.size items.size d - b6 items.size 0 lo)).toArray) })
 (n:items.size<=sizeLine):(prog<|>w) A (getItem ↑a ↑b) Q E s:=by
 let c:sizeOk (.seq ((items.toList.drop (b6 items.size 0 lo)).take (b6 items.size items.size d - b6 items.size 0 lo)).toArray):=by
  show ((items.toList.drop (b6 items.size 0 lo)).take (b6 items.size items.size d - b6 items.size 0 lo)).toArray.size<=sizeLine;rw[ahS,aif,aiC,ai6];ext
 let⟨os,i,g,l⟩:=id k;let j:s.TypeIs ↑b "slice":=⟨os,i,g⟩;unfold getItem
 try with_reducible rwa[aiw ?_]
 rwa[ahy (wpAny_sequenceKey e.typeIs ⋯ ?_)]
 refine ahy (aiE (name:=Str.ofString "__getitem__") e.typeIs aiK
  (aiJ aiK e.typeIs entry_tuple_getitem ?_ (args_tuple_getitem _ _)))
 show wpAny _ _ (Builtin.Tuple.tupleItemsOf ↑a >>=_) _ _ s;rwa[ahy (tupleItemsOf_ e ?_)];rwa[ahy (aj5 j ?_)];rwa[ahy (mq k pl p ?_)]
 let f:¬((((b6 items.size 0 lo:Nat):Int)==0 && (1:Int)==1 && (b6 items.size items.size d - b6 items.size 0 lo)==items.size)=true):=by
  intro q;rw[ajh,ajh]at q;let r:((b6 items.size 0 lo:Nat):Int)=0:=eq_of_beq q.1.1;let t:b6 items.size items.size d - b6 items.size 0 lo=items.size:=eq_of_beq q.2;rwa[o ⟨33⟩]
 show wpAny _ _ (if (((b6 items.size 0 lo:Nat):Int)==0 && (1:Int)==1 && (b6 items.size items.size d - b6 items.size 0 lo)==items.size)=true then _ else _) _ _ s;rw[ahY f,Kx]
 first
  |rwa[ahy (m:=Builtin.Tuple.tupleExact _) (aiy (ahF ⟨_,rfl,ahF h⟩) c)]
  |rwa[ahy (m:=Builtin.Tuple.tupleExact _) (aiy (ahy (ahF (ahF ⟨_,rfl,ahF h⟩))) c)]
  |rwa[ahy (ahy (m:=Builtin.Tuple.tupleExact _) (aiy (ahF (ahF ⟨_,rfl,ahF h⟩)) c))]
  |rwa[ahy (ahy (m:=Builtin.Tuple.tupleExact _) (aiy (ahF ⟨_,rfl,ahF h⟩) c))]
end
end HT
namespace L2
open PySem PySem.Spec PyProof.Rows
abbrev TO:=St->Hp->(Zj->Hp->Prop)->Prop
def PO (X:Cx)(e:Option Expr)(t:TO):Prop:=
 ∀(a:List (Zs×Obj)) (s:Zu) (b:St) (H:Hp) (Q:Zj->Hp->Prop),Inv X a b H s->t b H Q->
  X⁻¹ X.A (evalPart e X.env) (λu d=>∃o c,Inv X a b c d/\IsPart u o/\Q o c) X.xe s
def Pa:TO:=λ_ H Q=>Q none H
def V5 (t:TE):TO:=λ b H Q=>t b H λx a=>∃i,x=.int i/\Q (some i) a
section
variable {X:Cx}{e:Expr}{te:TE}{lo hi:Option Expr}{tl th:TO}{pos p2:Pos}
def xV:PO X none Pa:=by
 intro a s b H Q I h;rwa[ahF ⟨none,H,I,.none,h⟩]
def oJ (h:PE X e te):PO X (some e) (V5 te):=by
 intro a s j H Q I b;rwa[aY (h a s j H _ I b) λu k ζ=>?_];let⟨x,c,g,d,f⟩:=ζ
 let⟨i,rfl,q⟩:=f;let⟨t,rfl⟩:=d;rwa[some i,c,g,.int i t,q]
def M5 (X:Cx)(r:V->Zj->Zj->Hp->VK->Prop):Prop:=
 ∀(a:List (Zs×Obj)) (s:Zu) (f:St) (H:Hp) (x:V) (v d c:Zt) (lo hi:Zj) (b:Zs) (Q:VK),Inv X a f H s->RelV x v->s.heap.IsSliceOf b d c .none->IsPart d lo->IsPart c hi->r x lo hi H Q->
  ∃T id,typeLookup (.type T) "__getitem__"=pure (some (.builtin id))/\s.TypeIs v T/\X⁻¹ X.A (getItem v ↑b) (EP X a f Q) X.xe s
def tSl (r:V->Zj->Zj->Hp->VK->Prop)(te:TE)(tl th:TO):TE:=λ a H Q=>te a H λx c=>tl a c λl b=>th a b λu d=>r x l u d Q
def pW {r:V->Zj->Zj->Hp->VK->Prop}(C:M5 X r)(J:PE X e te)(B:PO X lo tl)(E:PO X hi th):PE X (.Subscript e (.Slice lo hi none p2) pos) (tSl r te tl th):=by
 intro a s c H Q I h;rwa[Subscript_ (aY (J a s c H _ I h) λv F ζ=>?_)];let⟨x,A,m,i,w⟩:=ζ;rwa[wpAny_Slice (aY (B a F c A _ m w) λf p ζ=>?_)];let⟨l,G,z,pl,L⟩:=ζ;rwa[aY (E a p c G _ z L) λd s3 ζ=>?_];let⟨u,g,o,D,y⟩:=ζ;rwa[ahF ?_];let j:Inv X a c g { s3 with heap:=s3.heap.push ("slice">>>.fields #[f,d,.none]) }:=o.kept (t':=s3.toks) λb N q=>ahz _ q
 let⟨T,id,t,k,n⟩:=C a { s3 with heap:=s3.heap.push ("slice">>>.fields #[f,d,.none]) } c g x v f d l u ↥s3 Q j i (Heap.IsSliceOf.new ..) pl D y;rwa[tail_any (ops:=[↑↥s3,v]) k t n (by with_unfolding_all rfl)]
def gL (xs:Zb)(lo hi:Zj):Zb:=(xs.drop (HT.b6 ⇑xs 0 lo)).take (HT.b6 ⇑xs ⇑xs hi - HT.b6 ⇑xs 0 lo)
def uh (xs:Zb)(lo hi:Zj):⇑(gL xs lo hi)<=⇑xs:=by
 unfold gL;rw[aif,aiC];ext
inductive RG (K:Za1) (x:V) (lo:Zj) (hi:Zj) (H:Hp) (Q:VK):Prop
 |mk (a:Zs) (xs:Zb):x=↑a->bG K H a xs->¬(HT.b6 ⇑xs 0 lo=0/\HT.b6 ⇑xs ⇑xs hi=⇑xs)->(∀p,H p=none->Q ↑p (upd H p (.tup (gL xs lo hi))))->RG K x lo hi H Q
def RH:M5 X (RG X.K):=by
 intro g s y H x v w n lo hi t Q I k l pl j h;let⟨a,xs,rfl,m,i,q⟩:=h;ext k;let⟨c,r,d,f⟩:=I.tuple m;let hlen:c.toArray.size=⇑xs:=by rwa[r.length.symm]
 erw["tuple",_,aiK.lookup,d.typeIs];rwa[HT.tT d l pl j ([hlen]▸i) ?_ ([hlen]▸f)];rw[hlen];rwa[⟨↑↥s,_,I.laid (t':=s.toks) (o:=.tup (gL xs lo hi)) (λb u q=>ahz _ q) (ahG _) ?_,2,q _ (I.aM.fresh (ahG _))⟩];rwa[ahP (uh xs lo hi) f,_,(r.drop (HT.b6 ⇑xs 0 lo)).take (HT.b6 ⇑xs ⇑xs hi - HT.b6 ⇑xs 0 lo),IsTup.new _ _]
inductive aaG (K:Za1) (x:V) (y:V) (H:Hp) (Q:VK):Prop
 |mk (a b:Zs) (ns ms:Zg):x=↑a->y=↑b->bG K H a (ns.map V.int)->bG K H b (ms.map V.int)->Q (.bl (HT.lexLt ns ms)) H->aaG K x y H Q
inductive M6 (K:Za1) (x:V) (y:V) (H:Hp) (Q:VK):Prop
 |mk (a b:Zs) (xs ys:Zb):x=↑a->y=↑b->bG K H a xs->bG K H b ys->xs≠[]->⇑xs+ ⇑ys<=sizeLine->(ys=[]->Q ↑a H)->(ys≠[]->∀p,H p=none->Q ↑p (upd H p (.tup (xs++ys))))->M6 K x y H Q
def Vals.tj (r:Vals L N):N=[]↔L=[]:=by
 cases r with
 |nil=>simp
 |cons _ _=>simp
def Pb:fz X (binaryOp .Add) (M6 X.K):=by
 intro g s E H x y v u Q I p r h;let⟨a,b,n,ys,rfl,rfl,A,j,t,f,l,B⟩:=h;ext p;ext r;let⟨k,d,m,_⟩:=I.tuple A;let⟨i,c,p2,_⟩:=I.tuple j;rwa[HT.O9 m p2 (λz=>t (d.tj.mp z)) (λz=>⟨↑a,H,I,2,l (c.tj.mp z)⟩) (λz=>?_) (by rw[<-⇑d,<-⇑c];rwa[f])];rwa[⟨↑↥s,_,I.laid (t':=s.toks) (o:=.tup (n++ys)) (λb D q=>ahz _ q) (ahG _) ?_,2,B (λw=>z (c.tj.mpr w)) _ (I.aM.fresh (ahG _))⟩];rwa[[ahA]▸f,_,d.append c,IsTup.new _ _]
end
noncomputable def vP (n:Nat)(i:Int):Zi:=if 0<=i then (if i<n then some i.toNat else none) else if -(n:Int)<=i then some (i+ n).toNat else none
def j0 {a:Type}(xs:List a)(i:Int):Option a:=(vP ⇑xs i).bind λj=>xs[j]?
def xW (h:vP n z\j):seqIndex? z n\j/\j<n/\-(n:Int)<=z/\z<n:=by
 unfold vP at h;cases b:0<=z
 ·rw[ah4 b]at h;cases a:z<n
  ·rw[ah4 a]at h;let e:z.toNat=j:=Za0 h;rwa[by rw[seqIndex_of b a,e],33,a]
  ·rw[ahY a]at h;ext h
 ·rw[ahY b]at h;cases a: -(n:Int)<=z
  ·rw[ah4 a]at h;let e:(z+ n).toNat=j:=Za0 h;rwa[by rw[seqIndex_neg ∅ a,e],3,a,3]
  ·rw[ahY a]at h;ext h
def Er {a:Type}{xs:List a}{v:a}(h:j0 xs z\v):∃j,seqIndex? z ⇑xs\j/\xs[j]?\v/\j<⇑xs/\-(⇑xs:Int)<=z/\z<⇑xs:=by
 unfold j0 at h
 cases e:vP ⇑xs z with
 |none=>rw[e]at h;ext h
 |some j=>
  rw[e]at h;let⟨d,b,f,c⟩:=xW e;rwa[j,d,h,b,f,c]
def dB {a:Type}{xs:List a}{v:a}(h:xs[j]?\v):j0 xs (j:Int)\v:=by
 let b:j<⇑xs:=(ahD.mp h).1
 let e:vP ⇑xs (j:Int)\j:=by
  unfold vP;rw[ah4 ∅,ah4 ∅];simp
 unfold j0;rw[e];rwa[h]
def Pg (b:Expr):Prop:=∀o i,subscripted b false o i=operate [o,i] (getItem o i)
def Hr (X:Cx)(r:R2):Prop:=
 ∀(value slice:Expr) (a:List (Zs×Obj)) (s:Zu) (b:St) (H:Hp) (x y:V) (v u:Zt) (Q:VK),Inv X a b H s->RelV x v->RelV y u->r x y H Q->
  subscripted slice false v u=operate [v,u] (getItem v u)->X⁻¹ X.A (subscriptTail value slice v u) (EP X a b Q) X.xe s
def RJ (X:Cx)(id:String)(r:V->Zb->Hp->VK->Prop):Prop:=
 ∀(a:List (Zs×Obj)) (s:Zu) (d:St) (H:Hp) (x:V) (c:Zb) (v:Zt) (b:Zk) (Q:VK),Inv X a d H s->RelV x v->Vals c b->r x c H Q->
  X⁻¹ X.A (call (.builtin id) (v::b)) (EP X a d Q) X.xe s
section
variable {X:Cx}{a b:Expr}{ta tb:TE}{pos:Pos}
def bF {r:R2}(g:Hr X r)(n:PE X a ta)(d:PE X b tb)(j:Pg b):PE X (.Subscript a b pos) (M0 r ta tb):=by
 intro c s l H Q I h;rwa[Subscript_ (Ko n d I h λv u e x y m f i k q=>g a b c e l m x y v u Q f i k q (j _ _))]
inductive Ky (K:Za1) (x:V) (y:V) (H:Hp) (Q:VK):Prop
 |mk (p:Zs) (xs:Zb) (i:Int) (v:V):x=↑p->y=.int i->aH K H p xs->j0 xs i\v->Q v H->Ky K x y H Q
inductive Kz (K:Za1) (x:V) (y:V) (H:Hp) (Q:VK):Prop
 |mk (p:Zs) (xs:Zb) (i:Int) (v:V):x=↑p->y=.int i->bG K H p xs->j0 xs i\v->Q v H->Kz K x y H Q
inductive aaH (x:V) (y:V) (H:Hp) (Q:VK):Prop
 |mk (z:Str) (i:Int) (c:Nat):x=.str z->y=.int i->⇑z<=sizeLine->j0 z.cps.toList i\c->Q (.str ⟨#[c]⟩) H->aaH x y H Q
def bS:Hr X (Ky X.K):=by
 intro value slice c s n H x y v u Q I F G h m;let⟨p,M,i,z,rfl,rfl,B,J,q⟩:=h;ext F;let⟨t,rfl⟩:=G;let⟨f,r,pl,L⟩:=I.list B;let⟨j,d,A,N,C,D⟩:=Er J;let⟨w,l,e⟩:=r.get A;let E:=⇑r;let O:=rD;let fin:EP X c n Q w s:=⟨z,H,I,e,q⟩;cases k:0<=i
 ·let g:i.toNat=j:=by
   rw[seqIndex_of k D]at d;rwa[Za0 d]
  rwa[item_listR pl.isList k ∅ (by rw[g];simpa using l) fin m]
 ·let g:(i+ (f.toArray.size:Int)).toNat=j:=by
   rw[seqIndex_neg ∅ C]at d;rw[ahS,<-E];rwa[Za0 d]
  exact subscriptTail_builtinR (x:=w) pl.isList.typeIs slot_list_getitem.lookup
   (wpAny_getItem_list_neg (Q:=λr o=>r=w/\EP X c n Q r o) pl.isList ∅ (by rw[ahS] <;> omega) ∅ (by rw[g];simpa using l) ⟨2,fin⟩) m
def dZ:Hr X (Kz X.K):=by
 intro value slice c s e H x y v u Q I n A h o;let⟨p,J,i,z,rfl,rfl,k,B,q⟩:=h;ext n;let⟨t,rfl⟩:=A;let⟨l,r,pl,F⟩:=I.tuple k;let⟨j,D,g,L,C,E⟩:=Er B;let⟨w,m,d⟩:=r.get g;let G:=⇑r;let M:=rD;let fin:EP X c e Q w s:=⟨z,H,I,d,q⟩
 exact subscriptTail_builtinR (x:=w) pl.typeIs slot_tuple_getitem.lookup
  (getItem_tuple (j:=j) (Q:=λr f=>r=w/\EP X c e Q r f) pl ∅ ∅ (by cbv) (by simpa using m) ⟨2,fin⟩) o
def FU (c:Zk)(n j:Nat)(u:Zt):Obj.mapSeq (·.setIfInBounds j u) ("list">>>.seq c.toArray n)=("list">>>.seq (c.set j u).toArray n):=by
 simp[Obj.mapSeq]
def Inv.lst {xs:Zb}(I:Inv X o D H s)(h:H c\.lst xs):
 ∃(d:Zk) (n:Nat),Vals xs d/\s•c\("list">>>.seq d.toArray n)/\⇑xs<=sizeLine:=by
 let⟨z,d,n,r,e⟩:=I.aM c _ h;rwa[d,n,r,e,z]
def Inv.RK {ys:Zb}{d:Zk}{f:Obj->Obj}(I:Inv X o D H s)(h:H c\.lst L)
 (j:s•c\("list">>>.seq N.toArray n)) (g:f ("list">>>.seq N.toArray n)=("list">>>.seq d.toArray m)) (r:Vals ys d) (hz:⇑ys<=sizeLine) (t:Nat):
 Inv X o D (upd H c (.lst ys)) { s with heap:=s.heap.update c f,toks:=t }:=by
 let e:(s.heap.update c f).get? c\("list">>>.seq d.toArray m):=by
  rw[aii f j (by rw[g] <;> rfl),g]
 rwa[I.write (x:=c) (e:=c) (by rw[h];trivial) (.inl rfl) (λb u i q=>(aij^aiU i).trans q) ⟨_,e⟩ ?_];rwa[hz,d,m,r,e]
inductive M7 (o:V) (i:V) (v:V) (H:Hp) (Q:(Hp->Prop)):Prop
 |mk (p:Zs) (xs:Zb) (k:Int) (j:Nat):o=↑p->i=.int k->H p\.lst xs->vP ⇑xs k\j->Q (upd H p (.lst (xs.set j v)))->M7 o i v H Q
def set_list:Rh X M7:=by
 intro d s D H o i v J M u Q I A E B h;let⟨p,xs,k,j,rfl,rfl,y,F,q⟩:=h;ext A;let⟨t,rfl⟩:=E;let⟨c,n,r,g,C⟩:=I.lst y;let⟨e,G,z,w⟩:=xW F;let l:=⇑r;let L:=rD
 let x:Inv X d D (upd H p (.lst (xs.set j v))) { s with heap:=s.heap.update p (Obj.mapSeq (·.setIfInBounds j u)) }:=
  I.RK y g (FU c n j u) (r.set B j) ([ah6]▸C) s.toks
 cases m:0<=k
 ·let f:k.toNat=j:=by
   rw[seqIndex_of m w]at e;rwa[Za0 e]
  rwa[PySem.W.ki_setAt g m ∅ (by rw[ahS,<-l];rwa[w]) ([f]▸⟨_,x,q⟩)]
 ·let f:(k+ (c.toArray.size:Int)).toNat=j:=by
   rw[seqIndex_neg ∅ z]at e;rw[ahS,<-l];rwa[Za0 e]
  rwa[PySem.W.ki_setBack g ∅ (by rw[ahS,<-l];rwa[z]) ∅ ([f]▸⟨_,x,q⟩)]
def AH (lo c:Zj)(n:Nat):(sliceBounds lo c none n).1=((HT.b6 n 0 lo:Nat):Int)/\(sliceBounds lo c none n).2.1=((HT.b6 n n c:Nat):Int)/\(sliceBounds lo c none n).2.2=1:=by
 rwa[⟨552⟩]
 ·cases lo with
  |none=>simp[sliceBounds,HT.b6]
  |some i=>
   simp only[sliceBounds,HT.b6,Option.getD_none,show (1:Int) > 0 by decide,alc];cases h:i<0
   ·simp only[h,alc] <;> ext
   ·simp only[h,aks] <;> ext
 ·cases c with
  |none=>simp[sliceBounds,HT.b6]
  |some i=>
   simp only[sliceBounds,HT.b6,Option.getD_none,show (1:Int) > 0 by decide,alc];cases h:i<0
   ·simp only[h,alc] <;> ext
   ·simp only[h,aks] <;> ext
def zL (c:Zk)(lo d:Zj):slicePick c.toArray lo d none=((c.drop (HT.b6 ⇑c 0 lo)).take (HT.b6 ⇑c ⇑c d - HT.b6 ⇑c 0 lo)).toArray:=by
 let⟨f,e,g⟩:=AH lo d c.toArray.size;unfold slicePick;rw[f,e,g];simp only[sliceRange_one,pick_run,ahS] <;> rfl
inductive RL (K:Za1) (x:V) (lo:Zj) (hi:Zj) (H:Hp) (Q:VK):Prop
 |mk (a:Zs) (xs:Zb):x=↑a->aH K H a xs->(∀p,H p=none->Q ↑p (upd H p (.lst (gL xs lo hi))))->RL K x lo hi H Q
def Es:M5 X (RL X.K):=by
 intro e s w H x v u m lo c p Q I j k pl i h;let⟨a,xs,rfl,l,q⟩:=h;ext j;let⟨f,r,d,g⟩:=I.list l;let hlen:=⇑r;erw["list",_,slot_list_getitem.lookup,d.isList.typeIs];rwa[wpAny_getItem_list_slice d.isList k pl i .none (by simp) ?_ (by rw[ahS] <;> omega)];rw[zL,<-hlen];rwa[⟨↑↥s,_,I.laid (t':=s.toks) (o:=.lst (gL xs lo c)) (λb t q=>ahz _ q) (ahG _) ?_,2,q _ (I.aM.fresh (ahG _))⟩];rwa[ahP (uh xs lo c) g,_,(0),(r.drop (HT.b6 ⇑xs 0 lo)).take (HT.b6 ⇑xs ⇑xs c - HT.b6 ⇑xs 0 lo),ahQ _ rfl]
noncomputable def M8:V->Bool
 |.non=>true
 |.bl _=>true
 |.int _=>true
 |.str _=>true
 |_=>false
noncomputable def eqV:V->V->Bool
 |.non,.non=>true
 |.bl a,.bl b=>a==b
 |.bl a,.int b=>(if a then 1 else 0)==b
 |.int a,.bl b=>a==(if b then 1 else 0)
 |.int a,.int b=>a==b
 |.str a,.str b=>a==b
 |_,_=>false
def Xj (x:V)(xs:Zb):Bool:=xs.any λy=>eqV y x
inductive rIn (K:Za1) (neg:Bool) (x:V) (y:V) (H:Hp) (Q:VK):Prop
 |mk (p:Zs) (xs:Zb):y=↑p->(aH K H p xs\/bG K H p xs)->M8 x=true->xs.all M8=true->Q (.bl (if neg then !Xj x xs else Xj x xs)) H->rIn K neg x y H Q
inductive FV (K:Za1) (xs:Zb) (H:Hp) (Q:VK):Prop
 |mk (p:Zs) (ys:Zb):xs=[↑p]->(aH K H p ys\/bG K H p ys)->Q (.int ⇑ys) H->FV K xs H Q
def bL:je X (.builtin "len") (FV X.K):=by
 intro f s l H k j Q I r h;let⟨p,ys,rfl,c,q⟩:=h;let⟨u,rfl,g⟩:=vals1 r;ext g;let m:=rD;rcases c with c|c
 ·let⟨e,d,pl,i⟩:=I.list c;let hlen:=⇑d;rwa[Calls.call_len_list pl.isList (by simp only[ahS] <;> omega) ⟨.int ⇑ys,H,I.tok _,⟨s.toks+ 1,by cbv⟩,q⟩]
 ·let⟨e,d,pl,i⟩:=I.tuple c;let hlen:=⇑d;rwa[len_tuple pl (by simp only[ahS] <;> omega) ⟨.int ⇑ys,H,I.tok _,⟨s.toks+ 1,by cbv⟩,q⟩]
def AI:je X (.type "list") (λw H Q=>∃p ys,w=[↑p]/\(aH X.K H p ys\/bG X.K H p ys)/\∀l,H l=none->Q ↑l (upd H l (.lst ys))):=by
 intro k s z H w B Q I r h;let⟨p,ys,rfl,i,q⟩:=h;let⟨u,rfl,y⟩:=vals1 r;ext y
 let fin:∀(c:Zk),Vals ys c->⇑ys<=sizeLine->∀(d:Heap) (g:Nat),(∀b x,s•b\x->d.get? b\x)->
  d.get? ↥s=some { cls:=.type "list",dict:=none,data:=.seq c.toArray g,slots:=#[] }->EP X k z Q ↑↥s (s<*d):=λc f j d g kp e=>
  ⟨↑↥s,_,I.laid (t':=s.toks) kp (ahG _) (show bY X.prog X.w _ d _ (.lst ys) from ⟨j,c,g,f,e⟩),2,q _ (I.aM.fresh (ahG _))⟩
 rcases i with i|i
 ·let⟨c,f,pl,j⟩:=I.list i;let hlen:=⇑f;let⟨o,t,v,n,m⟩:=pl.isList;rwa[call_list_seq p (.inl rfl) t v m (λd g kp e=>fin c f j d g kp e) (by simp only[ahS] <;> omega)]
 ·let⟨c,f,pl,j⟩:=I.tuple i;let hlen:=⇑f;let⟨o,t,v,n,m⟩:=pl;rwa[call_list_seq p (.inr rfl) t v m (λd g kp e=>fin c f j d g kp e) (by simp only[ahS] <;> omega)]
def qF:je X (.type "tuple") (λm H Q=>∃p ys,m=[↑p]/\((aH X.K H p ys/\∀l,H l=none->Q ↑l (upd H l (.tup ys)))\/(bG X.K H p ys/\Q ↑p H))):=by
 intro c s n H m x Q I r h;let⟨p,ys,rfl,h⟩:=h;let⟨u,rfl,w⟩:=vals1 r;ext w;rcases h with ⟨i,q⟩|⟨i,q⟩
 ·let⟨d,g,pl,k⟩:=I.list i;let hlen:=⇑g;rwa[call_tuple_list pl.isList (λf kp=>?_) (by simp only[ahS] <;> omega)];let j:Inv X c n H (s<*f):=I.kept (t':=s.toks) kp
  let v:Inv X c n (upd H f.objs.size (.tup ys)) { s with heap:=f.push ("tuple">>>.seq d.toArray) }:=
   j.laid (t':=s.toks) (λb o e=>ahz _ e) (ahG _) (show bY X.prog X.w _ _ _ (.tup ys) from ⟨k,d,g,IsTup.new _ _⟩)
  rwa[↑f.objs.size,_,v,2,q _ (j.aM.fresh (ahG _))]
 ·let⟨d,g,pl,k⟩:=I.tuple i;rwa[call_tuple_same pl ⟨↑p,H,I,2,q⟩]
def M9 (K:Za1)(T:String)(x:V)(H:Hp):Prop:=match x with
 |.str _=>T="str"
 |.int _=>T="int"
 |.ref p=>(T="list"/\∃d,aH K H p d)\/(T="tuple"/\∃o,K.lookup p\o/\o.cls=.type "tuple"/\o.dict=none)\/
  (T="dict"/\((∃c,H p\.dK c)\/∃c,H p\.dT c))\/(T="set"/\∃S n,H p\.set S n)
 |_=>False
def Hs {T:String}{x:V}(I:Inv X o D H s)(r:RelV x v)(g:M9 X.K T x H):
 s.TypeIs v T/\∀a,v=↑a->∃l,s•a\l/\l.dict=none:=by
 cases x with
 |str z=>
  let⟨t,rfl⟩:=r;cases (show T="str" from g);rwa[typeIs_str s z t,λ_ e=>nomatch e]
 |int i=>
  let⟨t,rfl⟩:=r;cases (show T="int" from g);rwa[typeIs_int s i t,λ_ e=>nomatch e]
 |ref p=>
  ext r;rcases g with ⟨rfl,w,m⟩|⟨rfl,d,f,u,h⟩|⟨rfl,f⟩|⟨rfl,S,n,f⟩
  ·let⟨q,_,pl,_⟩:=I.list m;rwa[⟨pl.isList.typeIs,λa e=>?_⟩];ext e;let⟨d,n,e,c,h,_⟩:=pl;rwa[d,e,h]
  ·rwa[⟨⟨d,I.dg p d f,u⟩,λa e=>?_⟩];ext e;rwa[d,I.dg _ d f,h]
  ·let z:∃d,s•p\d/\d.ExactDict:=by
    rcases f with ⟨j,f⟩|⟨j,f⟩
    ·let⟨_,_,_,_,d,_,_,e,ex,_⟩:=I.aM p _ f;rwa[d,e,ex]
    ·let⟨_,_,_,_,d,_,_,e,ex,_⟩:=I.aM p _ f;rwa[d,e,ex]
   let⟨d,e,ex⟩:=z;rwa[⟨⟨d,e,ex.1⟩,λa k=>?_⟩];ext k;rwa[d,e,ex.2.1]
  ·let⟨d,_,_,_,e,ex,_⟩:=I.aM p _ f;rwa[⟨⟨d,e,ex.1⟩,λa k=>?_⟩];ext k;rwa[d,e,ex.2.1]
 |_=>exact False.elim g
def aaI (K:Za1)(T:String)(r:V->Zb->Hp->VK->Prop)(to:TE):TE:=λ d H Q=>to d H λx c=>M9 K T x c/\r x [] c Q
def tBM (K:Za1)(T:String)(r:V->Zb->Hp->VK->Prop)(to:TE)(t:TA):TE:=λ d H Q=>to d H λx c=>M9 K T x c/\t d c λf e=>r x f e Q
variable {o e:Expr}{es:Zr}{to:TE}{t:TA}{name:Str}{apos b9:Pos}{T id:String}{r:V->Zb->Hp->VK->Prop}
def Ht (y:PlainAttrs T)(slot:Slot T name id)(f:typeOf (.builtin id)=pure (.type "method_descriptor"))(w:RJ X id r)(n:PE X o to)
 (d:attributeBase o name X.env (eval o X.env)=eval o X.env:=by rfl) (hline:(apos.endLine==b9.line)=true:=by rfl):PE X (.Call (.Attribute o name apos) [] [] b9) (aaI X.K T r to):=by
 intro c s j H Q I h;rwa[wpAny_Call_method0_late d hline (aY (n c s j H _ I h) λv q ζ=>?_)];let⟨x,p,i,g,u,l⟩:=ζ;let⟨m,k⟩:=Hs i g u;rwa[T,id,y,slot,f,m,k,aiH rfl (PySem.evalArgs_none (w c q j p x [] v [] Q i g .nil l))]
def cM (M:PlainAttrs T)(slot:Slot T name id)(i:typeOf (.builtin id)=pure (.type "method_descriptor"))(F:RJ X id r)(z:PE X o to)(L:PA X (e::es) t)
 (f:attributeBase o name X.env (eval o X.env)=eval o X.env:=by rfl)
 (g:((backTo b9 (starEach (e::es) X.env)).all (λx=>!x.1) && (backToKw b9 (keywordEach [] X.env)).all (λx=>x.1.isSome)
  && decide (⇑(e::es)+ ⇑([]:List Keyword)+ (if ([]:List Keyword).isEmpty then 0 else 1)<30))=true:=by rfl)
 (hline:(apos.endLine==b9.line)=true:=by rfl) (C:starEach (e::es) X.env=(false,eval e X.env)::starEach es X.env:=by rfl) (d:(backTo b9 (starEach es X.env)).any (·.1)=false:=by rfl):
 PE X (.Call (.Attribute o name apos) (e::es) [] b9) (tBM X.K T r to t):=by
 intro c s j H Q I h;rwa[wpAny_Call_method_late f g hline rfl (aY (z c s j H _ I h) λv B ζ=>?_)];let⟨x,A,l,k,D,u⟩:=ζ;let⟨w,n⟩:=Hs l k D;erw[T,id,M,slot,i,w,n];let m:=L b9 c B j A _ l u;rw[C]at m ⊢;rwa[aiH (by show (false || (backTo b9 (starEach es X.env)).any (·.1))=false;rw[d] <;> rfl) (ai0 ?_)];rwa[aY m λJ q ζ=>?_];let⟨p,G,y,E,N⟩:=ζ;rwa[F c q j G x p v J Q y k E N]
/- xs.append(e),list.index on a module's tuple .. are RJ facts of 06m -/
end
def Eu (X:Cx)(id:String)(r:V->Zb->Hp->VK->Prop):Prop:=
 ∀(a:List (Zs×Obj)) (s:Zu) (d:St) (H:Hp) (x:V) (c:Zb) (v:Zt) (b:Zk) (Q:VK),Inv X a d H s->RelV x v->Vals c b->r x c H Q->
  X⁻¹ X.A (call (.builtin id) (v::b)) (EP X a d Q) X.xe s
theorem Vals.one:∀{x:V} {a:Zk},Vals [x] a->∃u,a=[u]/\RelV x u
 |_,_,.cons r .nil=>⟨12,r⟩
theorem Vals.zero:∀{a:Zk},Vals [] a->a=[]
 |_,.nil=>rfl
def Vals.dropLast {xs:Zb}{us:Zk}(h:Vals xs us):Vals xs.dropLast us.dropLast:=by
 induction h with
 |nil=>exact .nil
 |cons r t a=>
  cases t with
  |nil=>exact .nil
  |cons q b=>exact .cons r a
theorem Vals.eraseIdx:∀{xs:Zb} {us:Zk} (i:Nat),Vals xs us->Vals (xs.eraseIdx i) (us.eraseIdx i)
 |_,_,_,.nil=>.nil
 |_,_,0,.cons _ t=>t
 |_,_,i+ 1,.cons r t=>.cons r (Vals.eraseIdx i t)
theorem Vals.rep (h:Vals L N):∀k:Nat,Vals (List.replicate k L).flatten (List.replicate k N).flatten
 |0=>.nil
 |k+ 1=>by
  rwa[Vals.append h (Vals.rep h k)]
theorem y3 {a:Type}:∀(l:List a) (i:Nat),⇑(l.eraseIdx i)<=⇑l
 |[],_=>ahG _
 |_::_,0=>ajE _
 |_::r,i+ 1=>Nat.succ_le_succ (y3 r i)
theorem foldl_rep (a:Zk):∀(k:Nat) (acc:Zk),
 List.foldl (λc d=>c++d) acc.toArray (List.replicate k a.toArray)=(acc++(List.replicate k a).flatten).toArray
 |0,acc=>by simp
 |k+ 1,acc=>by
  let e:acc.toArray++a.toArray=(acc++a).toArray:=by simp
  let b:(acc++a)++(List.replicate k a).flatten=acc++(List.replicate (k+ 1) a).flatten:=by
   rw[ajF,akt,aiL]
  rw[<-b,<-foldl_rep a k (acc++a),<-e,ajF,akQ]
section
variable {X:Cx}{pins:List (Zs×Obj)}{σ:St}{H:Hp}{s:Zu}{l:Zs}{xs ys:Zb}
def Inv.AJ {KC:Zk}{f:Zm->Zm}{t':Nat}(I:Inv X pins σ H s)(d:H l\.lst xs)
 (e:s•l\("list">>>.seq N.toArray n)) (a:f N.toArray=KC.toArray) (c:Vals ys KC) (hz:⇑ys<=sizeLine):
 Inv X pins σ (upd H l (.lst ys)) { s with heap:=s.heap.update l (Obj.mapSeq f),toks:=t' }:=by
 let q:=PySem.IsL.update e f;rw[a]at q;rwa[I.write (x:=l) (e:=l) ([d]▸trivial) (.inl rfl) (λi u h g=>(aij s.heap (Obj.mapSeq f) (aiU h)).trans g) ⟨_,q⟩ ?_];rwa[hz,KC,_,c,q]
def Inv.aaJ {t':Nat}(I:Inv X pins σ H s)(a:Vals ys N)(hz:⇑ys<=sizeLine):
 Inv X pins σ (upd H ↥s (.lst ys)) { s with heap:=s.heap.push ("list">>>.seq N.toArray),toks:=t' }:=
 I.laid (λ_ _ q=>ahz _ q) (ahG _) ⟨hz,N,(0),a,ahQ _ rfl⟩
def Inv.fresh (I:Inv X pins σ H s):H ↥s=none:=I.aM.fresh (ahG _)
def Inv.pX (I:Inv X pins σ H s)(c:H l\.lst xs):⇑xs<=sizeLine/\∃(a:Zk) (n:Nat),Vals xs a/\⇑xs=⇑a/\s•l\("list">>>.seq a.toArray n):=by
 let⟨z,a,n,r,e⟩:=I.aM l _ c;rwa[z,a,n,r,⇑r,e]
def KD (h:n<=sizeLine):Builtin.List.listTooLong n=false:=by
 rwa[aik ∅]
end
section
variable {X:Cx}
inductive Ew (x:V) (vs:Zb) (H:Hp) (Q:VK):Prop
 |mk (l:Zs) (xs:Zb) (y:V):x=↑l->vs=[y]->H l\.lst xs->⇑xs<sizeLine->Q .non (upd H l (.lst (xs++[y])))->Ew x vs H Q
theorem bH:Eu X "list.append" Ew:=by
 intro d s p H x j v t Q I g f h;let⟨l,o,y,rfl,rfl,c,k,q⟩:=h;ext g;let⟨u,rfl,i⟩:=f.one;let⟨z,a,n,r,m,e⟩:=I.pX c;rwa[akK F.slot_list_append ⟨_,e,2⟩ F.entry_list_append (F.args_list_append_2 _ _) (PySem.list_append l a.toArray n u (by rw[ahS];omega)) ⟨e,5⟩];rwa[⟨.non,_,I.AJ (KC:=a++[u]) c e (by simp) (r.append (.cons i .nil)) ?_,2,q⟩];rw[ahA,aiM];ext
inductive xX (x:V) (vs:Zb) (H:Hp) (Q:VK):Prop
 |mk (l b:Zs) (xs zs:Zb):x=↑l->vs=[↑b]->H l\.lst xs->H b\.lst zs->⇑xs+ ⇑zs<=sizeLine->Q .non (upd H l (.lst (xs++zs)))->xX x vs H Q
theorem y4:Eu X "list.extend" xX:=by
 intro j s J H x C v L Q I p m h;let⟨l,b,G,B,rfl,rfl,i,y,D,q⟩:=h;ext p;let⟨u,rfl,w⟩:=m.one;ext w;let⟨z,c,n,r,E,e⟩:=I.pX i;let⟨z2,a,A,t,k,o⟩:=I.pX y;let f:c.toArray.size+ a.toArray.size<=sizeLine:=by rw[ahS,ahS];ext
 let d:¬(!c.toArray.isEmpty && Builtin.List.listTooLong (c.toArray.size+ a.toArray.size))=true:=by
  rw[KD f,Bool.and_false];rwa[ain]
 refine akK F.slot_list_extend ⟨_,e,2⟩ F.entry_list_extend (F.args_list_extend_2 _ _)
  (AutoSeq1.list_extend_list_list_0 l c.toArray n b a.toArray A d ∅ ∅) ⟨e,o,5⟩
 rwa[⟨.non,_,I.AJ (KC:=c++a) i e (by simp) (r.append t) ?_,2,q⟩];rw[ahA];ext
inductive RM (x:V) (vs:Zb) (H:Hp) (Q:VK):Prop
 |mk (l:Zs) (xs:Zb) (y:V):x=↑l->vs=[]->H l\.lst xs->xs[⇑xs - 1]?\y->Q y (upd H l (.lst xs.dropLast))->RM x vs H Q
theorem Hu:Eu X "list.pop" RM:=by
 intro g s A H x t v B Q I o i h;let⟨l,w,y,rfl,rfl,f,k,q⟩:=h;ext o;let b:=i.zero;subst b;let⟨z,a,n,r,j,e⟩:=I.pX f;let⟨u,m,p⟩:=r.get k
 let c:a.toArray[a.toArray.size - 1]?\u:=by
  show a.toArray[⇑a - 1]?\u
  rw[<-aki,<-j];rwa[m]
 rwa[akK F.slot_list_pop ⟨_,e,2⟩ F.entry_list_pop (F.args_list_pop_1 _) (MeetsSeq.list_pop_last l a.toArray n u c (by rw[ahS];omega)) ⟨e,5⟩];rwa[⟨y,_,I.AJ (KC:=a.dropLast) f e ?_ r.dropLast ?_,p,q⟩]
 ·cbv
 ·rw[List.length_dropLast];ext
inductive Hv (x:V) (vs:Zb) (H:Hp) (Q:VK):Prop
 |mk (l:Zs) (xs:Zb) (i:Int) (k:Nat) (y:V):x=↑l->vs=[.int i]->H l\.lst xs-> -(2 ^ 63)<=i->i<2 ^ 63->seqIndex? i ⇑xs\k->xs[k]?\y->Q y (upd H l (.lst (xs.eraseIdx k)))->Hv x vs H Q
theorem KG:Eu X "list.pop" Hv:=by
 intro f s J H x D v L Q I A m h;let⟨l,p,i,k,y,rfl,rfl,d,j,g,C,o,q⟩:=h;ext A;let⟨u,rfl,B⟩:=m.one;let⟨t,rfl⟩:=B;let⟨z,a,n,r,G,e⟩:=I.pX d;let⟨w,E,b⟩:=r.get o
 refine akK F.slot_list_pop ⟨_,e,2⟩ F.entry_list_pop (F.args_list_pop_2 _ _)
  (MeetsSeq.list_pop_at l a.toArray n i t k w (fitsIndex_both j g) (by cbv) (by cbv) (by rw[ahS];omega)) ⟨e,5⟩
 rwa[⟨y,_,I.AJ (KC:=a.eraseIdx k) d e ?_ (r.eraseIdx k) ?_,b,q⟩]
 ·cbv
 ·have:=y3 p k;ext
inductive RN (x:V) (vs:Zb) (H:Hp) (Q:VK):Prop
 |mk (l:Zs) (xs:Zb):x=↑l->vs=[]->H l\.lst xs->Q .non (upd H l (.lst []))->RN x vs H Q
inductive RP (x:V) (y:V) (H:Hp) (Q:VK):Prop
 |mk (l b:Zs) (xs zs:Zb):x=↑l->y=↑b->H l\.lst xs->H b\.lst zs->⇑xs+ ⇑zs<=sizeLine->(∀p,H p=none->Q ↑p (upd H p (.lst (xs++zs))))->RP x y H Q
def AK:fz X (binaryOp .Add) RP:=by
 intro d s D H x y v u Q I j k h;let⟨l,b,C,w,rfl,rfl,i,p,A,q⟩:=h;ext j;ext k;let⟨z,c,n,r,B,e⟩:=I.pX i;let⟨z2,a,E,m,f,g⟩:=I.pX p;rwa[PySem.P.add_list e g ?_ (by rw[ahS,ahS];omega)];let o:c.toArray++a.toArray=(c++a).toArray:=by simp
 rw[o];rwa[↑_,_,I.aaJ (t':=s.toks) (r.append m) (by rw[ahA];omega),2,q _ I.fresh]
inductive aaK (x:V) (y:V) (H:Hp) (Q:VK):Prop
 |mk (l:Zs) (k:Int) (xs:Zb):x=↑l->y=.int k->H l\.lst xs-> -(2 ^ 63)<=k->k<2 ^ 63->⇑xs* k.toNat<=sizeLine->(∀p,H p=none->Q ↑p (upd H p (.lst (List.replicate k.toNat xs).flatten)))->aaK x y H Q
def len_rep {a:Type}(xs:List a)(k:Nat):(List.replicate k xs).flatten.length=k* ⇑xs:=by
 induction k with
 |zero=>simp
 |succ k b=>cbv
end
end L2
namespace Att
open PySem PySem.W PySem.Calls PyProof.Rows
def vQ {P:Params}:∀(ns:Zg) (c:Zk),WellAll P h c (ns.map WData.int)->IntsAre c ns:=by
 intro ns
 induction ns with
 |nil=>
  intro c w;ext w;rwa[.nil]
 |cons n ns d=>
  intro c w
  cases w with
  |cons a b=>
   ext a;rwa[.cons _ _ (d _ b)]
def Hw {l:OpenLaw}(v:l.most\n){P:Params}{h:Heap}{b:List WData}{c:Zk}
 (e:l.row.toRowW.claim.pre b=true) (i:WellAll P h c b):
 ∃a m ns,c=[Value.ref a]/\b=[WData.list (ns.map WData.int)]/\h.get? a\("list">>>.seq m.toArray)/\IntsAre m ns/\⇑ns<=n:=by
 let k:WShape.hasAll [] b [.list .int]=true:=(pre_splitW e).1;let x:l.pre.holds [] { args:=b }=true:=(pre_splitW e).2;let⟨d,r,rfl,s,p⟩:=hasAllW_cons k;obtain rfl:=hasAllW_nil p;let⟨y,rfl,u⟩:=hasW_list s;let⟨ns,rfl⟩:=items_int u
 let hlen:⇑ns<=n:=by
  let g:(WTm.not (.lt (.lit (.int (n:Int))) (.len (.arg 0)))).holds [] { args:=[.list (ns.map .int)] }=true:=by
   let g:=(holds_andW x).1;rw[v]at g;rwa[g]
  let j:=condW_of g (w_not (w_lt w_lit (w_len_list (w_arg rfl))));rwa[Nat.le_of_not_lt λq=>?_]
  first
   |(rw[ah9 z]at j;rwa[absurd j (by decide)])
   |(simp at j;omega)
 cases i with
 |cons o w=>
  ext w
  cases o with
  |list t f=>rwa[11,ns,22,t,vQ ns _ f,hlen]
def Hx (l:OpenLaw)(a:List WData):l.row.toRowW.claim.post a (.bool true) a=true:=
 postW_of (r:=l.row.toRowW) (X:=(true==true))
  (show WShape.has [] (.bool true) .bool=true by first|rfl|decide|simp[WShape.has,WShape.arms,WShape.armsAll])
  (show (WTm.eq .res (.lit (.bool true))).value [] { args:=a,res:=some (.bool true),after:=a }=some (.bool (true==true)) from w_eq_bool (w_res rfl) w_lit) rfl
def Dy {l:OpenLaw}{loose:Zp}{XP:(Str->Zl)->Heap->Prop}{z:World->Heap->Prop}{d:DefRec}
 (I:l.most\n) (q:d.params.defaults=[])
 (call:∀(w:World) (c b:Zu) (m s:Str->Zl) (h:Zs) (o:Obj) (pm k doc:Zt) (a:Zs) (e:Zk) (ns:Zg),
  Ground P loose [] XP w c m s b.heap->z w b.heap->
  b•h=some o->o.data=.func (docDef d.name d.params d.body d.scope pm k doc)->b.heap.CodeRec k d.name->m d.name\↑h->
  b•a=some ("list">>>.seq e.toArray)->IntsAre e ns->⇑ns<=n->b.gens=#[]->
  codeAny (model l.prog w) callerA (.call ↑h ⟨[↑a],[]⟩) (λr j=>r=.ok (.ret (.bool true))/\OldK b.heap j.heap/\j.os=b.os/\AllBare j.gens) b):
 WalkO P loose XP z l.row.toRowW d [] (λf e=>PySem.call f e):=by
 intro w c b m s G Y h o pm k doc M kV F A u y t C v x as i hlay N p L;obtain rfl:M=.none:=Dflts.none y q;obtain rfl:kV=.none:=Dflts.noKw y;let⟨a,e,ns,rfl,rfl,g,hints,hlen⟩:=Hw I i p;rwa[enter_call (ajz (call w c b m s h o pm k doc a e ns G Y F (fd_plain A) u t g hints hlen C) λr j D=>?_)];let⟨rfl,B,H,E⟩:=D;rwa[.inl ⟨.bool true,.bool true,[],2,λ_=>rfl,.bool true,Hx l _,λ_=>⟨List.Pairwise.nil,λ_ J=>(nomatch J)⟩⟩,B,H,E]
end Att
namespace L2
open PySem PySem.Spec PyProof.Rows
theorem y6:∀{a:Zk} {ns:Zg},IntsAre a ns->Vals (ns.map V.int) a
 |_,_,.nil=>.nil
 |_,_,.cons n t h=>.cons ⟨t,2⟩ (y6 h)
noncomputable def inClass (s:Stmt)(j:Nat):Stmt:=match s with
 |.ClassDef _ _ _ body _ _ _ _ _ _ _=>body.getD j (.Pass ⟨(0),(0),(0),(0)⟩)
 |_=>.Pass ⟨(0),(0),(0),(0)⟩
noncomputable def cP (s:Stmt):Arguments:=match s with
 |.FunctionDef _ a _ _ _ _ _ _ _ _=>a
 |_=>{ posonlyargs:=[],args:=[],vararg:=none,kwonlyargs:=[],kw_defaults:=[],kwarg:=none,defaults:=[] }
noncomputable def bW (s:Stmt):List Stmt:=match s with
 |.FunctionDef _ _ b _ _ _ _ _ _ _=>b
 |_=>[]
noncomputable def aB (s:Stmt):Scope:=match s with
 |.FunctionDef _ _ _ _ _ _ a _ _ _=>a
 |_=>{ kind:=.function,names:=[],isGenerator:=false,isCoroutine:=false }
abbrev Xk:lC:=λ_ _ _ _ _ _=>False
abbrev E0:XK:=λ_ _ _=>False
structure rE (K:Za1) (x qual:Str) (st:Stmt) (f:Zs) (fd:FuncData):Prop where
 ex:∃(oc:Zt) (od:Zo) (kV doc pm:Zt) (an:Zo) (cC ct:Zt) (AO:Array Zl),
  fd=PySem.W.fnOf x qual (cP st) (bW st) (aB st) .none kV doc pm an cC ct/\K.lookup f\⟨oc,od,.func fd,AO⟩/\PySem.W.codeIn K cC qual=true
 kp:PySem.W.keepIn K ↑f=true
section
variable {K:Za1}
theorem rE.binds {qual:Str}{st:Stmt}{fd:FuncData}{ps:Zp}(F:rE K x qual st a fd)
 (h:∀(kV doc pm:Zt) (c:Zo) (b ct:Zt) (us:Zk),⇑us=⇑ps->bindArgs (PySem.W.fnOf x qual (cP st) (bW st) (aB st) .none kV doc pm c b ct) ⟨us,[]⟩=pure (ps.zip us)):Binds K fd ps []:=by
 let⟨g,f,kV,doc,pm,c,b,ct,e,rfl,lk,d⟩:=F.ex;rwa[.all (h kV doc pm c b ct)]
def Hy {qual:Str}{st:Stmt}{f d:Zo}{b:Array Zl}{kV doc pm e:Zt}(l:K.lookup a\⟨v,f,.func (PySem.W.fnOf x qual (cP st) (bW st) (aB st) .none kV doc pm d u e),b⟩)
 (c:PySem.W.codeIn K u qual=true) (k:PySem.W.keepIn K ↑a=true):rE K x qual st a (PySem.W.fnOf x qual (cP st) (bW st) (aB st) .none kV doc pm d u e):=⟨⟨v,f,kV,doc,pm,d,u,e,b,2,l,c⟩,k⟩
end
def iJ {k:Nat}(a:cw k A):A.units+ 1<cLine:=ahK (Nat.add_le_add_left (by decide:1<=64) _) a.units
section
variable {X:Cx}
def pv (i:Nat){x:Str}{a:Pos}(e:X.N[i]?\x:=by rfl)(d:Q7 X.env.scope x:=by trivial)(c:(x==("__debug__":Str))=false:=by decide)
 (b:(x==("__classdict__":Str))=false:=by decide):PE X (.Name x a) (jl i):=Q8 e d c b
end
def dh {A B:Prop}(h:B):if false=true then A else B:=by
 cbv
def hV {A B:Prop}(h:A):if true=true then A else B:=by
 cbv
def bR {c A B:Prop} [Decidable c](b:c->A)(a:¬c->B):if c then A else B:=by
 cbv
def nj {c A B:Prop} [Decidable c](a:c)(h:B):if (!decide c)=true then A else B:=by
 cbv
def aq (H a:Hp):Prop:=∀b o,H b\o->a b\o
def aq.refl (H:Hp):aq H H:=λ_ _ h=>h
def aq.trans (a:aq H I)(b:aq I J):aq H J:=λc o h=>b c o (a c o h)
def aq.free (e:aq H I){l:Zs}(h:I l=Option.none):H l=Option.none:=by
 cases q:H l with
 |none=>rfl
 |some o=>
  rw[e l o q]at h;ext h
def aq.seq (e:aq H I)(h:aH K H a L):aH K I a L:=by
 rcases h with (h|⟨o,h⟩)|h
 ·rwa[.inl (.inl (e^h))]
 ·rwa[.inl (.inr ⟨o,e^h⟩)]
 ·rwa[.inr h]
end L2
namespace L2
open PySem PySem.Spec PyProof.Rows
section
variable {prog:Program}{w:World}{A:Around}{R:Result->Zu->Prop}{s:Zu}
def Dz {elt target iter:Expr}{scope:Scope}{it acc:Zt}{env:Env}(I:Nat->Zu->Prop)
 (turn:∀n s,I n s->(prog<|>w) A (pyNext it) (λr a=>match r with
  |none=>R (.ok .next) a
  |some v=>(prog<|>w) A (letOwnedTupleGo target it v) (λ_ g=>(prog<|>w) A (assign target env v) (λ_ c=>(prog<|>w) A (eval elt env) (λx d=>
   (prog<|>w) A (call (.builtin "list.append") [acc,x]) (λ_ f=>∃m,m<n/\I m f) (λ_ _=>False) d) (λ_ _=>False) c) (λ_ _=>False) g) (λ_ _=>False) a) (λ_ _=>False) s)
 (n:Nat) (h:I n s):codeAny (model prog w) A (.compLoop (.ListComp elt [⟨target,iter,[],(0)⟩] scope p) 0 it acc env) R s:=by
 rwa[codeAny_loop rfl I (λn s o=>?_) n h];rwa[wpAny_noted ?_];rw[compTurn_list1];rwa[ahy (akr (ahy (aiv (turn n s o) (λr a e=>?_) λ_ _ b=>b.elim)))]
 cases r with
 |none=>exact ahF e
 |some v=>
  rwa[ahy (aiv e (λ_ g i=>?_) λ_ _ b=>b.elim)]
  exact ahy (aiv i (λ_ c j=>ahy (ahy (aiv j (λx d k=>ahy (aiv k
   (λ_ f l=>ahF (ahF ⟨2,l⟩)) λ_ _ b=>b.elim)) λ_ _ b=>b.elim))) λ_ _ b=>b.elim)
end
noncomputable def dC (X:Cx)(a:Zp)(scope:Scope)(cl:List (Str×Zs))(C:Zs)(s:Zu)(H:Hp)(ex:Zn):Cx where
 prog:=X.prog
 w:=X.w
 K:=X.K
 mg:=X.mg
 base:=X.base
 A:=X.A
 N:=a
 eB:=s
 uH:=H
 env:=compEnvC scope cl C X.env
 outer:=X.stack
 stack:=X.stack
 ex:=ex
 fn:=λ_=>false
 calm:=X.calm
 pn:=[]
 xe:=λ_ _=>False
def rF (d:TE)(g:St)(Q:VK)(J:It)(f:Hp):Prop:=∃W:Nat->Nat->Zb->Hp->Prop,(∃m,W 0 m [] f)/\∀i m ys a,W i m ys a->
 (J.stop i a/\⇑ys<=sizeLine/\∀D,a D=none->Q ↑D (upd a D (.lst ys)))\/
 (J.go i a/\⇑ys<sizeLine/\∀x c,J.mj i a x c->d (some x::g) c λy e=>∃b,b<m/\W (i+ 1) b (ys++[y]) e)
def Nb (b:TI)(d:St->St)(c:TE):TE:=λ a H Q=>b a H (rF c (d a) Q)
structure eh (X:Cx) (x:Str) (fns:Zp) (ixs:Zh) (scope:Scope) (cl:List (Str×Zs)):Prop where
 AQ:closureFor scope X.env=pure cl
 sub:∀y c,cl.lookup y\c->X.env.cells.lookup y\c
 cell:∀y∈scope.names,y.2≠.cell
 kind:scope.kind=.function
 names:∀y∈scope.names,y.2=.local->scope.names.lookup y.1=some .local
 own:scope.names.lookup x=some .local
 has:∀y,((relabel scope X.env).names.lookup y=some .cell\/(relabel scope X.env).names.lookup y=some .free)->∃c,cl.lookup y\c
 nd:(x::fns).Nodup
 len:⇑ixs=⇑fns
 at_:∀(j:Nat) (y:Str),fns[j]?\y->∃i:Nat,ixs[j]?\i/\X.N[i]?\y/\(X.env.kindOf y=some .cell\/X.env.kindOf y=some .free)/\∃c,cl.lookup y\c/\((relabel scope X.env).names.lookup y=some .cell\/(relabel scope X.env).names.lookup y=some .free)
noncomputable def iX (ixs:Zh):St->St:=λ a=>ixs.map λi=>(a[i]?).join
section
variable {X:Cx}{x:Str}{scope:Scope}
def ui (a:scope.names.lookup x=some .local):(relabel scope X.env).names.lookup x=some .local:=lookup_relabel_local a
end
def jJ {scope:Scope}(a:∀y∈scope.names,y.2≠.free)(b:∀y∈scope.names,y.2≠.cell)(d:scope.kind=.function)
 (g:∀y∈scope.names,y.2=.local->scope.names.lookup y.1=some .local) (f:scope.names.lookup x=some .local):eh X x [] [] scope [] where
 AQ:=closureFor_none a
 sub:=λy c h=>nomatch h
 cell:=b
 kind:=d
 names:=g
 own:=f
 has:=λy h=>by
  let e:(relabel scope X.env).names=scope.names:=by
   rwa[map_eq_self λz i=>?_]
   let⟨n,k⟩:=z;have:(k==NameKind.free)=false:=by simpa using a _ i
   simp[this]
  rw[e]at h;rcases h with h|h
  ·rwa[absurd rfl (b _ (ai7 h))]
  ·rwa[absurd rfl (a _ (ai7 h))]
 nd:=by simp
 len:=rfl
 at_:=λj y h=>by simp at h
def kI {J:It}{j:TE}{Q:VK}(xs:Zb)(g:V->V)(h:∀i:Nat,i<⇑xs->J.go i H)(q:∀(i:Nat) (x:V) (c:Hp),i<⇑xs->J.mj i H x c->c=H/\xs[i]?\x)
 (d:J.stop ⇑xs H) (k:⇑xs<=sizeLine) (s:∀(i:Nat) (x:V),xs[i]?\x->∀R:VK,R (g x) H->j (some x::D) H R) (o:∀a,H a=none->Q ↑a (upd H a (.lst (xs.map g)))):
 rF j D Q J H:=by
 erw[λi m ys n=>m=⇑xs - i/\i<=⇑xs/\ys=(xs.take i).map g/\n=H,⟨⇑xs,by simp,ah2 _,by simp,2⟩];rintro i m ys n ⟨rfl,t,rfl,rfl⟩;cases b:i<⇑xs
 ·rwa[.inr ⟨h i b,by rw[ahE,aif];ext,λx c f=>?_⟩];let⟨r,l⟩:=q i x c b f;subst r;rwa[s i x l _ ⟨⇑xs - (i+ 1),32,b,52⟩];rw[ajA,l];simp
 ·let e:i=⇑xs:=∅
  subst e;rwa[.inl ⟨d,by rw[ahE,aif];ext,λa p=>?_⟩];rw[ai3];rwa[o a p]
def RT {xs:Zb}(h:bG K H a xs):∀i,i<⇑xs->(yR K a).go i H:=λi b=>⟨xs,xs[i],h,ahC b⟩
def Ph {xs:Zb}(h:bG K H a xs):∀i x b,i<⇑xs->(yR K a).mj i H x b->b=H/\xs[i]?\x:=λi x b _ y=>⟨y.1,y.2 xs h⟩
def KH {xs:Zb}(h:bG K H a xs):(yR K a).stop ⇑xs H:=⟨xs,h,ahG _⟩
def i3 {xs:Zb}(h:aH K H a xs):∀i,i<⇑xs->(yQ K a).go i H:=λi b=>⟨xs,xs[i],h,ahC b⟩
def g6 {xs:Zb}(h:aH K H a xs):∀i x b,i<⇑xs->(yQ K a).mj i H x b->b=H/\xs[i]?\x:=λi x b _ y=>⟨y.1,y.2 xs h⟩
def fL {xs:Zb}(h:aH K H a xs):(yQ K a).stop ⇑xs H:=⟨xs,h,ahG _⟩
inductive KJ (t:TS) (D:Ends) (σ:St) (H:Hp):Prop
 |mk (G:St->Hp->Prop):t { D with nx:=G } σ H->(∀ ik H',G ik H'->D.nx ik H')->KJ t D σ H
def bE {st:Stmt}{t:TS}(h:PS X st t):PS X st (KJ t):=by
 intro a s j H D I ⟨G,e,d⟩;rwa[aY (h a s j H { D with nx:=G } I e) λf k q=>?_]
 cases f with
 |next=>let⟨b,c,i,g⟩:=q;rwa[b,c,i,d b c g]
 |_=>exact q
def g9 {scope:Scope}{env:Env}{k:NameKind}(h:(relabel scope env).names.lookup x\k)(g:k=.cell\/k=.free)(i:∀z∈scope.names,z.2≠.cell):(x,NameKind.free)∈scope.names:=by
 let f:=ai7 h;unfold relabel at f;let⟨⟨n,c⟩,d,e⟩:=aiB.mp f;dsimp only at e;cases hf:(c==NameKind.free && env.scope.kind==.function && env.kindOf n==some .cell)=true
 ·rw[ah4 hf]at e;let a:n=x:=aiN Prod.fst e;rw[ajh,ajh]at hf;let b:c=.free:=eq_of_beq hf.1.1;rw[<-a,<-b];rwa[d]
 ·rw[ahY hf]at e;let a:n=x:=aiN Prod.fst e;let b:c=k:=aiN Prod.snd e;subst a b;rcases g with rfl|rfl
  ·rwa[absurd rfl (i _ d)]
  ·rwa[d]
theorem cU {env:Env}(a:env.scope.kind=.function){y:Str}(b:env.kindOf y=some .cell):∀{names:List (Str×NameKind)},names.lookup y=some .free->
 (names.map λ(n,k)=>if (k==NameKind.free && env.scope.kind==.function && env.kindOf n==some .cell) then (n,NameKind.cell) else (n,k)).lookup y=some .cell
 |[],h=>by simp at h
 |(n,k)::r,h=>by
  let c:=@cU env a y b r
  cbv
def lK {scope:Scope}(b:closureFor scope X.env=pure [(f,c)])(s:X.env.cells.lookup f\c)(m:∀z∈scope.names,z.2≠.cell)(o:scope.kind=.function)
 (r:∀z∈scope.names,z.2=.local->scope.names.lookup z.1=some .local) (q:scope.names.lookup x=some .local) (a:∀z∈scope.names,z.2=.free->z.1=f) (l:x≠f) (p:X.N[i]?\f)
 (g:X.env.kindOf f=some .cell) (n:X.env.scope.kind=.function) (k:scope.names.lookup f=some .free):eh X x [f] [i] scope [(f,c)] where
 AQ:=b
 sub:=λz d h=>by
  cbv
 cell:=m
 kind:=o
 names:=r
 own:=q
 has:=λz h=>by
  let e:z=f:=by
   rcases h with h|h
   ·rwa[a _ (g9 h (.inl rfl) m) rfl]
   ·rwa[a _ (g9 h (.inr rfl) m) rfl]
  subst e;rwa[c,by simp[ajI]]
 nd:=by simp[l]
 len:=rfl
 at_:=λj z h=>by
  cases j with
  |zero=>
   let e:f=z:=by simpa using h
   subst e;rwa[i,2,p,.inl g,c,by simp[ajI],.inl (cU n g k)]
  |succ j=>simp at h
namespace Rv
def Hz:Slot "reversed" "__init__" "object.__init__":=
 .of (owner:="object") (n:="__init__") (by rw[typeLookup_type,builtinLookup_eq_fast];kernel_rfl) ⋯ ⋯ ⋯
  (by first|rwa[.inl (by decide)]|rwa[.inr (by decide)]) (by rw[isSubtype_type];kernel_rfl)
def called:TypeCalled "reversed" "reversed.__new__" "object.__init__":=
 ⟨44,⟨11,PySem.F.mro_reversed⟩,PySem.F.made_reversed,4,by rw[isSubtype_type];kernel_rfl,Hz⟩
def agg (h:Heap)(it t:Zs)(i:Int):Prop:=∃o,h.get? it\o/\o.cls=.type "reversed"/\o.data=.fields #[↑t,rawInt i]
end Rv
def ao (ns:Zg):Zb:=ns.map V.int
def cQ (h:l[i]?\z):(ao l)[i]?\(V.int z):=by
 unfold ao;rw[ahZ,h];rfl
def aO (ns:Zg):⇑(ao ns)=⇑ns:=ahE ..
def cD (h:(ao l)[i]?\q):∃z,q=V.int z/\l[i]?\z:=by
 unfold ao at h
 cbv
def ints_app (a b:Zg):ao (a++b)=ao a++ao b:=aid ..
def all_eq (ns ms:Zg):((~~~(min ⇑ns ⇑ms)).all (λj=>decide (ns[j]?=ms[j]?)) && ⇑ns==⇑ms)=decide (ns=ms):=by
 rw[aiV,ajh,List.all_eq_true,aio,ajW];constructor
 ·rintro ⟨b,a⟩;rwa[ajX λi=>?_]
  cbv
 cbv
section
variable {X:Cx}
inductive V6 (K:Za1) (x:V) (y:V) (H:Hp) (Q:VK):Prop
 |mk (a b:Zs) (ns ms:Zg):x=↑a->y=↑b->bG K H a (ao ns)->bG K H b (ao ms)->Q (.bl (decide (ns=ms))) H->V6 K x y H Q
inductive Nc (K:Za1) (x:V) (y:V) (H:Hp) (Q:VK):Prop
 |mk (a b:Zs) (ns ms:Zg):x=↑a->y=↑b->bG K H a (ao ns)->bG K H b (ao ms)->Q (.bl (!decide (ns=ms))) H->Nc K x y H Q
def xY {b:Zg}{a:Zk}(c:Vals (ao l) N)(g:Vals (ao b) a)(j:Nat)(n:j<N.toArray.size)(i:j<a.toArray.size):
 SeqAt.EqAt A s N.toArray[j] a.toArray[j] (decide (l[j]?=b[j]?)):=by
 let w:=⇑c;let x:=⇑g;rw[aO]at w x;let o:j<⇑N:=by simpa using n
 let k:j<⇑a:=by simpa using i
 let h:l[j]?=some l[j]:=ahC ∅
 let f:b[j]?=some b[j]:=ahC ∅
 let⟨u,p,t,rfl⟩:=c.get (cQ h);let⟨v,r,d,rfl⟩:=g.get (cQ f)
 let m:N.toArray[j]=Value.int l[j] t:=by
  rw[List.getElem_toArray];rwa[Za0 ((ahC o).symm.trans p)]
 let q:a.toArray[j]=Value.int b[j] d:=by
  rw[List.getElem_toArray];rwa[Za0 ((ahC k).symm.trans r)]
 rw[m,q,h,f];have:=SeqAt.EqAt.int_int (A:=A) (s:=s) l[j] t b[j] d
 let e:decide (some l[j]=some b[j])=(l[j]==b[j]):=by
  rw[aiV,aio,ajW];rwa[Za0,aiN some]
 rw[e];rwa[this]
def Pj (z:X.A.units<cLine):fz X (compareOp .NotEq) (Nc X.K):=by
 intro k s D H x y v u Q I A B h;let⟨a,b,f,d,rfl,rfl,C,r,q⟩:=h;ext A;ext B;let⟨g,i,w,_⟩:=I.tuple C;let⟨c,l,p,_⟩:=I.tuple r;rwa[SeqAt.RcNeAt.tuples (e:=λj=>decide (f[j]?=d[j]?)) (show s.heap.IsTuple a g.toArray from w) (show s.heap.IsTuple b c.toArray from p) z (λj t o=>xY i l j t o) X.prog X.w X.xe _ ⟨.bl (!decide (f=d)),H,I,5,q⟩];let m:=⇑i;let n:=⇑l;rw[aO]at m n;show _=Value.bool (!decide (f=d));rw[<-all_eq,ahS,ahS,<-m,<-n]
inductive RV (K:Za1) (xs:Zb) (H:Hp) (Q:VK):Prop
 |mk (x:V) (T:String) (t:Zt) (b:Bool):xs=[x,.ty T]->jH K H x t->PySem.W.kitOne K t (.type T)\b->Q (.bl b) H->RV K xs H Q
def gM:je X (.builtin "isinstance") (RV X.K):=by
 intro a s k H j l Q I r h;let⟨x,T,t,b,rfl,f,e,q⟩:=h;let⟨u,i,rfl,d,g⟩:=vals2 r;ext g;rwa[Hq I d f e λc=>⟨.bl b,H,I.tok c,2,q⟩]
def uP (K:Za1)(T:String):PySem.W.kitOne K (.type T) (.type T)\true:=by
 unfold PySem.W.kitOne
 cbv
def AU (K:Za1):PySem.W.kitOne K (.type "int") (.type "bool")\false:=by
 first|rfl|kernel_rfl|decide
end
def aq.upd {o:HO}(h:H a=Option.none):aq H (upd H a o):=λb u e=>by
 rw[ak (ax e h)];rwa[e]
section
variable {X:Cx}
inductive HB (x:V) (y:V) (H:Hp) (Q:VK):Prop
 |mk (a b:Zs) (xs ys:Zb):x=↑a->y=↑b->H a\.tup xs->H b\.tup ys->⇑xs+ ⇑ys<=sizeLine->(∀p H',aq H H'->H' p\.tup (xs++ys)->Q ↑p H')->HB x y H Q
def KL {ws:Zk}(m:IsTup s.heap a ([]:Zk).toArray)(o:IsTup s.heap b ws.toArray)
 (h:Q ↑b s):(P<|>w) A (binaryOp .Add ↑a ↑b) Q E s:=by
 let⟨⟨cls,q,data,p⟩,k,l,n,i⟩:=id m;let⟨⟨j,f,data2,g⟩,e,d,r,c⟩:=id o;simp only at l i d c;subst l i d c
 exact concat_meets ⟨_,k,2⟩ ⟨_,e,2⟩ noFill_tuple_add seq_tuple_add akY akP (akJ _ _)
  (tuple_addW0 a b ([]:Zk).toArray ws.toArray n r q f p g rfl) ⟨k,e,h⟩
def AV:fz X (binaryOp .Add) HB:=by
 intro c s z H x y v u Q I j k h;let⟨a,b,i,ys,rfl,rfl,g,d,r,q⟩:=h;cases l:i=[]
 ·subst l;ext j;ext k;let⟨f,o,w,_⟩:=I.tuple (bG.of g);let⟨m,A,n,_⟩:=I.tuple (bG.of d);let e:f=[]:=o.tj.mpr rfl;subst e;rwa[KL w n ⟨↑b,H,I,2,q b H (aq.refl H) d⟩]
 ·rwa[Pb c s z H ↑a ↑b v u Q I j k ⟨a,b,i,ys,22,bG.of g,bG.of d,l,r,λe=>?_,λ_ p t=>q p _ (aq.upd t) ah⟩];subst e;rwa[q a H (aq.refl H) ([aib]▸g)]
inductive Nf (x:V) (lo:Zj) (hi:Zj) (H:Hp) (Q:VK):Prop
 |mk (a:Zs) (xs:Zb):x=↑a->H a\.tup xs->(∀p H',aq H H'->H' p\.tup (gL xs lo hi)->Q ↑p H')->Nf x lo hi H Q
end
end L2
namespace HT
open PySem PyProof.Rows
section
variable {prog:Program}{w:World}{A:Around}{E:Zt->Zu->Prop}{s:Zu}
def ri {items:Zm}{lo j:Zj}(c:IsTup s.heap a items)(i:s.heap.IsSliceOf b v u .none)(pl:IsPart v lo)(o:IsPart u j)
 (hw:b6 items.size 0 lo=0/\b6 items.size items.size j=items.size) (h:Q ↑a s):(prog<|>w) A (getItem ↑a ↑b) Q E s:=by
 let⟨os,f,e,k⟩:=id i;let g:s.TypeIs ↑b "slice":=⟨os,f,e⟩;unfold getItem
 try with_reducible rwa[aiw ?_]
 first|rwa[ahy (ahF ?_)]|skip
 rwa[ahy (wpAny_sequenceKey c.typeIs (by decide) ?_)]
 refine ahy (aiE (name:=Str.ofString "__getitem__") c.typeIs aiK
  (aiJ aiK c.typeIs entry_tuple_getitem ?_ (args_tuple_getitem _ _)))
 show wpAny _ _ (Builtin.Tuple.tupleItemsOf ↑a >>=_) _ _ s;rwa[ahy (tupleItemsOf_ c ?_)];rwa[ahy (aj5 g ?_)];rw[ah4 ⋯];rwa[ahy (mq i pl o ?_)];rw[hw.1,hw.2];let d:((((0:Nat):Int)==0 && (1:Int)==1 && (items.size - 0)==items.size)=true):=by simp
 show wpAny _ _ (if (((0:Nat):Int)==0 && (1:Int)==1 && (items.size - 0)==items.size)=true then _ else _) _ _ s;rw[ah4 d];let⟨p,l,n,_⟩:=id c;rwa[ahy (m:=Builtin.Tuple.tupleIsExact _) ?_];unfold Builtin.Tuple.tupleIsExact;rwa[ahy (aj5 c.typeIs (ahF ?_))];show wpAny _ _ (if (Value.type "tuple"==Value.type "tuple")=true then _ else _) _ _ s;rw[ah4 ⋯];rwa[ahy (ak3 (ahF ⟨12,ahF h⟩))]
end
def uQ:fillsNumberSlot (.type "tuple") "mul"=pure false:=
 PySem.fillsNumberSlot_seq (id:="tuple.__mul__") (r:=some (.builtin "tuple.__rmul__")) PySem.F.slot_tuple_mul.lookup ⋯ PySem.F.slot_tuple_rmul.lookup ⋯
def AW:seqRepeat? (.type "tuple")=pure (some (.builtin "tuple.__mul__")):=by
 unfold seqRepeat?;rw[PySem.seqSlot_of (T:="tuple") (name:="__mul__") (id:="tuple.__mul__") PySem.F.slot_tuple_mul.lookup ⋯,PySem.seqSlot_of (T:="tuple") (name:="__rmul__") (id:="tuple.__rmul__") PySem.F.slot_tuple_rmul.lookup ⋯];rfl
def xZ (a:Int)(t:Tok)(l:Zs)(items:Zm)(n:Nat)(e:Zo)(c:Array Zl):
 Meets (Builtin.«int.__rmul__» ⟨[.int a t,↑l],[]⟩) (λ_ R s=>s•l\{ cls:=.type "tuple",dict:=e,data:=.seq items n,slots:=c }/\R (.ok (.ret Value.notImplemented)) s):=
 .of_wp λb w A R s h=>by let⟨f,g,d,i,os⟩:=s;let⟨j,h⟩:=h;wp_walk;rwa[12,h]
def x6 (l:Zs)(items:Zm)(n:Nat)(j:Zo)(c:Array Zl)(x:Int)(u:Tok)(b:¬(decide (x < -(2 ^ 63)) || decide (x>=2 ^ 63))=true)(m:(items.isEmpty || x==1)=true):
 Meets (Builtin.«tuple.__mul__» ⟨[↑l,.int x u],[]⟩) (λ_ R s=>s•l\{ cls:=.type "tuple",dict:=j,data:=.seq items n,slots:=c }/\R (.ok (.ret ↑l)) s):=
 .of_wp λa w A R s h=>by
  let⟨f,g,d,e,os⟩:=s;let⟨i,h⟩:=h;let k:(⟨f,g,d,e,os⟩:Zu).TypeIs ↑l "tuple":=⟨_,i,2⟩
  wp_walk
  rwa[wpAny_ite_false (aik b) ?_]
  wp_walk
  rwa[12,h]
def x8 (l:Zs)(items:Zm)(n:Nat)(j:Zo)(c:Array Zl)(x:Int)(u:Tok)(b:¬(decide (x < -(2 ^ 63)) || decide (x>=2 ^ 63))=true)(o:¬(items.isEmpty || x==1)=true)(m:(decide (x<=0) || items.isEmpty)=true):
 Meets (Builtin.«tuple.__mul__» ⟨[↑l,.int x u],[]⟩) (λ_ R s=>s•l\{ cls:=.type "tuple",dict:=j,data:=.seq items n,slots:=c }/\R (.ok (.ret ↑↥s)) { s with heap:=s.heap.push ("tuple">>>.seq #[]) }):=
 .of_wp λa w A R s h=>by
  let⟨f,g,d,e,os⟩:=s;let⟨i,h⟩:=h;let k:(⟨f,g,d,e,os⟩:Zu).TypeIs ↑l "tuple":=⟨_,i,2⟩
  wp_walk
  rwa[wpAny_ite_false (aik b) ?_]
  wp_walk
  rwa[12,h]
def ya (l:Zs)(items:Zm)(n:Nat)(o:Zo)(f:Array Zl)(x:Int)(u:Tok)(e:¬(decide (x < -(2 ^ 63)) || decide (x>=2 ^ 63))=true)(v:¬(items.isEmpty || x==1)=true)(t:¬(decide (x<=0) || items.isEmpty)=true)
 (j:¬((items.size:Int)* x > (2 ^ 63 - 1) / 8)) (p:¬(Builtin.Tuple.tupleTooMany ((items.size:Int)* x))=true) (r:(List.foldl (λb a=>b++a) #[] (List.replicate x.toNat items)).size<=sizeLine):
 Meets (Builtin.«tuple.__mul__» ⟨[↑l,.int x u],[]⟩) (λ_ R s=>s•l\{ cls:=.type "tuple",dict:=o,data:=.seq items n,slots:=f }/\R (.ok (.ret ↑↥s)) { s with heap:=s.heap.push ("tuple">>>.seq (List.foldl (λb a=>b++a) #[] (List.replicate x.toNat items))) }):=
 .of_wp λc w A R s h=>by
  let⟨k,g,d,i,os⟩:=s;let⟨m,h⟩:=h;let q:(⟨k,g,d,i,os⟩:Zu).TypeIs ↑l "tuple":=⟨_,m,2⟩
  wp_walk
  rwa[wpAny_ite_false (aik e) ?_]
  wp_walk
  rwa[wpAny_ite_false (aik j) ?_]
  wp_walk
  rwa[12,h]
end HT
namespace L2
open PySem PySem.Spec PyProof.Rows
section
variable {X:Cx}{e:Expr}{lo hi:Option Expr}
def AX:M5 X Nf:=by
 intro b s o H x v n k lo hi l Q I i j pl g h;let⟨a,xs,rfl,d,q⟩:=h;cases hw:HT.b6 ⇑xs 0 lo=0/\HT.b6 ⇑xs ⇑xs hi=⇑xs
 ·ext i;let⟨c,r,f,t⟩:=I.tuple (bG.of d);let hlen:c.toArray.size=⇑xs:=by rw[ahS];rwa[r.length.symm]
  erw["tuple",_,aiK.lookup,f.typeIs];rwa[HT.ri f j pl g ([hlen]▸hw) ⟨↑a,H,I,2,q a H (aq.refl H) ?_⟩];unfold gL;rw[hw.1,hw.2,List.drop_zero,Nat.sub_zero,ai3];rwa[d]
 ·rwa[RH b s o H ↑a v n k lo hi l Q I i j pl g ⟨a,xs,2,bG.of d,hw,λp m=>q p _ (aq.upd m) ah⟩]
inductive Ng (x:V) (y:V) (H:Hp) (Q:VK):Prop
 |mk (a:Zs) (k:Int) (xs:Zb):x=↑a->y=.int k->H a\.tup xs-> -(2 ^ 63)<=k->k<2 ^ 63->⇑xs* k.toNat<=sizeLine->(∀p H',aq H H'->H' p\.tup (List.replicate k.toNat xs).flatten->Q ↑p H')->Ng x y H Q
theorem Ey:fz X (binaryOp .Mult) Ng:=by
 intro d s M H x y v u Q I W Z h;let⟨l,k,xs,rfl,rfl,L,h1,h2,J,q⟩:=h;ext W;let⟨t,rfl⟩:=Z;let⟨a,r,V,Y⟩:=I.tuple (bG.of L);let B:=⇑r;let⟨⟨cls,z,data,g⟩,j,hc,n,G⟩:=id V;simp only at hc G;subst hc G
 let A:¬(decide (k < -(2 ^ 63)) || decide (k>=2 ^ 63))=true:=by
  rw[akR,aio,aio];ext
 let D:∀{S:PySem.Spec},Meets (Builtin.«tuple.__mul__» ⟨[↑l,.int k t],[]⟩) (λP R c=>c•l\{ cls:=.type "tuple",dict:=z,data:=.seq a.toArray n,slots:=g }/\S P R c)->
  S X.A (wants (EP X d M Q) X.xe) s->X⁻¹ X.A (binaryOp .Mult ↑l (.int k t)) (EP X d M Q) X.xe s:=λ{S} m hS=>
  wpAny_binaryOp_repeat_ref (T:="tuple") (U:="int") ⋯ ⟨_,j,2⟩ (λc=>typeIs_int c k t) HT.uQ F.fills_int_mul F.slot_int_rmul HT.AW F.slot_int_index.lookup
   (akK F.slot_int_rmul (typeIs_int s k t) F.entry_int_rmul (F.args_int_rmul_2 _ _) (HT.xZ k t l a.toArray n z g)
    ⟨j,2,⟨_,j,2⟩,akK F.slot_tuple_mul ⟨_,j,2⟩ F.entry_tuple_mul (F.args_tuple_mul_2 _ _) m ⟨j,hS⟩⟩)
 cases hc:(a.toArray.isEmpty || k==1)=true
 ·rwa[D (S:=λ_ R c=>R (.ok (.ret ↑l)) c) (HT.x6 l a.toArray n z g k t A hc) ⟨↑l,H,I,2,q l H (aq.refl H) ?_⟩]
  let e:(List.replicate k.toNat xs).flatten=xs:=by
   rw[akR]at hc;rcases hc with hc|hc
   ·have:a=[]:=by simpa using hc
    have:xs=[]:=by
     let w:=B;rw[this]at w;rwa[ai4 w]
    subst this;simp
   ·have:k=1:=by simpa using hc
    subst this;simp
  rw[e];rwa[L]
 ·cases f:(decide (k<=0) || a.toArray.isEmpty)=true
  ·rwa[D (S:=λ_ R c=>R (.ok (.ret ↑↥c)) { c with heap:=c.heap.push ("tuple">>>.seq #[]) }) (HT.x8 l a.toArray n z g k t A hc f) ?_];rwa[⟨↑↥s,_,I.laid (t':=s.toks) (o:=.tup []) (λb O q=>ahz _ q) (ahG _) ?_,2,q _ _ (aq.upd (I.aM.fresh (ahG _))) ?_⟩]
   ·rwa[ah2 _,[],.nil,IsTup.new _ _]
   ·let e:k.toNat=0:=by
     rw[akR,aio]at f;rcases f with f|f
     ·ext
     ·rwa[absurd (by rw[akR];rwa[.inl f]) hc]
    rw[e,ah];rfl
  ·let hk:0<k:=by
    rw[akR,aio]at f;ext
   let p:List.foldl (λE C=>E++C) #[] (List.replicate k.toNat a.toArray)=(List.replicate k.toNat a).flatten.toArray:=by
    have:=foldl_rep a k.toNat [];rw[akj]at this;rwa[this]
   let hlen:(List.replicate k.toNat a).flatten.length<=sizeLine:=by rw[len_rep,Nat.mul_comm,<-B];rwa[J]
   let i:((a.toArray.size:Int)* k)=((⇑xs* k.toNat:Nat):Int):=by
    rw[ahS,<-B,Int.natCast_mul,Int.toNat_of_nonneg ∅]
   let hline:(sizeLine:Nat)<=(2 ^ 63 - 1) / 8:=⋯
   refine D (S:=λ_ R c=>R (.ok (.ret ↑↥c)) { c with heap:=c.heap.push ("tuple">>>.seq (List.foldl (λE C=>E++C) #[] (List.replicate k.toNat a.toArray))) })
    (HT.ya l a.toArray n z g k t A hc f (by rw[i];omega) (by unfold Builtin.Tuple.tupleTooMany;rw[aio,i];omega) ([p,ahS]▸hlen)) ?_
   rw[p];rwa[⟨↑↥s,_,I.laid (t':=s.toks) (o:=.tup (List.replicate k.toNat xs).flatten) (λb O q=>ahz _ q) (ahG _) ?_,2,q _ _ (aq.upd (I.aM.fresh (ahG _))) ah⟩];rwa[[len_rep,Nat.mul_comm]▸J,_,r.rep k.toNat,IsTup.new _ _]
end
noncomputable def tx (l:Zh):Str:=⟨l.toArray⟩
def HC (l:Zh):⇑(tx l)=⇑l:=by
 show l.toArray.size=⇑l;simp
def RW {b:Zh}(h:tx B=tx b):B=b:=by
 have:=aiN (λs:Str=>s.cps.toList) h;rwa[this]
def Ez (h:x.cps.toList=f.cps.toList):x=f:=by
 let⟨a⟩:=x;let⟨b⟩:=f;have:a=b:=Array.toList_inj.mp h;rw[this]
def Nh (x:Str):x=tx x.cps.toList:=Ez rfl
def HD (a b:Zh):tx a++tx b=tx (a++b):=by
 rwa[Ez ?_];show ((tx a).cps++(tx b).cps).toList=(a++b);rw[Array.toList_append];rfl
section
variable {X:Cx}{pos:Pos}
def cR {l:Zh}{j}(h:x=tx l):PE X (.Constant (.str x) j pos) (tC (.str (tx l))):=by
 rw[<-h];rwa[Q9]
noncomputable def AY (n:Int):Zh:=(toString n:Str).cps.toList
def HF (h:n<10000000000):n.log2<1920:=by
 rcases Nat.eq_zero_or_pos n with e|e
 ·subst e;decide
 ·let a:HPow.hPow 2 n.log2<=n:=Nat.log2_self_le ∅;let b:(10000000000:Nat)<2 ^ 1920:=⋯
  rwa[(Nat.pow_lt_pow_iff_right (by decide:1<2)).mp (ahK a (akL h b))]
def KN {n:Int}(a:0<=n)(h:n<10000000000):⇑(AY n)<=10:=by
 have:=toString_length_le (v:=n) a (k:=10) ⋯ h;rwa[this]
end
structure Def (K:Za1) (mg:Str->Zl) (x:Str) (st:Stmt) (ps:Zp) (f:Zs) (fd:FuncData):Prop where
 F:rE K x x st f fd
 m:mg x\↑f
 b:Binds K fd ps []
inductive V7 (t:TE) (σ:St) (H:Hp) (Q:VK):Prop
 |mk (G:V->Hp->Prop):t σ H G->(∀v H',G v H'->Q v H')->V7 t σ H Q
def AZ (ns:Zg)(lo a:Zj):gL (ao ns) lo a=ao ((ns.drop (HT.b6 ⇑ns 0 lo)).take (HT.b6 ⇑ns ⇑ns a - HT.b6 ⇑ns 0 lo)):=by
 unfold gL ao;rw[ahE,List.map_take,List.map_drop]
def fM (r:Int){n:Nat}(h:0<n):∃j:Nat,r % (n:Int)=(j:Int)/\j<n:=by
 let b:=ajc r (show (n:Int)≠0 by omega);let a:=ai1 r (show (0:Int)<(n:Int) by omega);rwa[(r % (n:Int)).toNat,33]
section
variable {κ:Type} [DecidableEq κ]
noncomputable def bA (a:List (κ×V))(k:κ):Zc:=(a.find? λb=>decide (b.1=k)).map (·.2)
noncomputable def putK (a:List (κ×V))(k:κ)(v:V):List (κ×V):=
 if (a.any λb=>decide (b.1=k))=true then a.map (λb=>if b.1=k then (b.1,v) else b) else a++[(k,v)]
noncomputable def fh (a:List (κ×V))(k:κ):List (κ×V):=a.filter λb=>decide (b.1≠k)
def da {p:κ×V}{r:List (κ×V)}{k:κ}(e:p.1=k):bA (p::r) k\p.2:=by simp[bA,akk,e]
def cV {p:κ×V}{r:List (κ×V)}{k:κ}(e:¬p.1=k):bA (p::r) k=bA r k:=by simp[bA,akk,e]
theorem mv (k:κ):∀a:List (κ×V),(a.any λb=>decide (b.1=k))=(bA a k).isSome
 |[]=>rfl
 |p::r=>by
  rw[List.any_cons];cases e:p.1=k
  ·simp only[da e,ah9 e,Bool.true_or,Option.isSome_some]
  ·rw[cV e,aik e,Bool.false_or];rwa[mv k r]
theorem A0 (k j:κ)(y:V):∀a:List (κ×V),bA (a.map λb=>if b.1=k then (b.1,y) else b) j=(bA a j).map λx=>if j=k then y else x
 |[]=>rfl
 |p::r=>by
  let c:=A0 k j y r;rw[aiS];cases h:p.1=k
  ·rw[ah4 h];cases e:p.1=j
   ·rw[da (p:=(p.1,y)) e,da e,Option.map_some,ah4 (e.symm.trans h)]
   ·rw[cV (p:=(p.1,y)) e,cV e,c]
  ·rw[ahY h];cases e:p.1=j
   ·rw[da (p:=p) e,da e,Option.map_some,ahY (λz=>h (e.trans z))]
   ·rw[cV (p:=p) e,cV e,c]
theorem y7 (k j:κ)(y:V):∀a:List (κ×V),bA a k=none->bA (a++[(k,y)]) j=if j=k then some y else bA a j
 |[],_=>by
  cases e:k=j
  ·rw[ah4 e.symm];rwa[da (p:=(k,y)) e]
  ·rw[ahY (λz=>e z.symm)];rwa[cV (p:=(k,y)) e]
 |p::r,b=>by
  rw[akb];let c:¬p.1=k:=λz=>by rw[da z]at b;ext b
  rw[cV c]at b;let d:=y7 k j y r b;cases e:p.1=j
  ·rw[da e,da e,ahY (λz=>c (e.trans z))]
  ·rw[cV e,cV e,d]
def pY (b:List (κ×V))(k j:κ)(y:V):bA (putK b k y) j=if j=k then some y else bA b j:=by
 unfold putK;cases a:(b.any λc=>decide (c.1=k))=true
 ·rw[ah4 a,A0];rw[mv]at a;cases e:j=k
  ·let⟨x,d⟩:=akH.mp a
   cbv
  ·rw[ahY e]
   cases bA b j with
   |none=>rfl
   |some x=>cbv
 ·rw[ahY a];rwa[y7 k j y b ?_];rw[mv]at a
  cases q:bA b k with
  |none=>rfl
  |some x=>rw[q]at a;rwa[(a rfl).elim]
def hH (a:List (κ×V))(k:κ)(v:V):⇑(putK a k v)<=⇑a+ 1:=by
 unfold putK;split
 ·rw[ahE];ext
 ·rw[ahA,ah0,ajd];ext
def A1 {a:List (κ×V)}{k:κ}(v:V)(h:bA a k=none):putK a k v=a++[(k,v)]:=by
 unfold putK;rw[mv,h];rwa[ahY ⋯]
def eK.rH {o:Zc}{u:Zl}(r:eK o u):o.isSome=u.isSome:=by
 cases o with
 |none=>cases u with
  |none=>rfl
  |some _=>exact(show False from r).elim
 |some _=>cases u with
  |none=>exact(show False from r).elim
  |some _=>rfl
def eK.getD {o:Zc}{u:Zl}(r:eK o u)(rd:RelV q v):RelV (o.getD q) (u.getD v):=by
 cases o with
 |none=>cases u with
  |none=>exact rd
  |some _=>exact(show False from r).elim
 |some _=>cases u with
  |none=>exact(show False from r).elim
  |some _=>exact r
def KV.val {a:List (κ×V)}{f:List (κ×Zt)}(r:KV a f)(k:κ):eK (bA a k) (valueAt f k):=by
 induction r with
 |nil=>exact True.intro
 | @cons p q l c h t i=>
   let⟨g,j⟩:=h;cases e:p.1=k
   ·let d:q.1=k:=g.symm.trans e;let b:valueAt (q::c) k\q.2:=by simp[valueAt,akk,d]
    rw[da e,b];rwa[j]
   ·let d:¬q.1=k:=λz=>e (g.trans z)
    let b:valueAt (q::c) k=valueAt c k:=by simp[valueAt,akk,d]
    rw[cV e,b];rwa[i]
def KV.any {a:List (κ×V)}{c:List (κ×Zt)}(r:KV a c)(k:κ):(a.any λb=>decide (b.1=k))=c.any λb=>decide (b.1=k):=by
 induction r with
 |nil=>rfl
 |cons h t d=>rw[List.any_cons,List.any_cons,d,h.1]
def KV.repl {b:List (κ×V)}{c:List (κ×Zt)}(r:KV b c)(k:κ){y:V}{u:Zt}(g:RelV y u):
 KV (b.map λa=>if a.1=k then (a.1,y) else a) (c.map λa=>if a.1=k then (a.1,u) else a):=by
 induction r with
 |nil=>exact .nil
 | @cons p q e f h t d=>
   rw[aiS,aiS];rwa[.cons ?_ d]
   cbv
def KV.put {a:List (κ×V)}{b:List (κ×Zt)}(r:KV a b)(k:κ){y:V}{u:Zt}(c:RelV y u):KV (putK a k y) (stored b k u):=by
 unfold putK stored;rw[r.any k];cases e:(b.any λd=>decide (d.1=k))=true
 ·rw[ah4 e,ah4 e];rwa[r.repl k c]
 ·rw[ahY e,ahY e];rwa[Paired.snoc r ⟨2,c⟩]
def KV.drop {c:List (κ×V)}{d:List (κ×Zt)}(r:KV c d)(k:κ):KV (fh c k) (without d k):=by
 unfold fh without
 induction r with
 |nil=>exact .nil
 | @cons p q l m h t g=>
   let⟨f,i⟩:=h;rw[List.filter_cons,List.filter_cons];cases e:p.1=k
   ·cbv
   ·let j:¬q.1=k:=λz=>e (f.trans z)
    let a:decide (p.1≠k)=true:=by simp[e]
    let b:decide (q.1≠k)=true:=by simp[j]
    rw[ah4 a,ah4 b];rwa[.cons ⟨f,i⟩ g]
def KV.length {a:List (κ×V)}{b:List (κ×Zt)}(r:KV a b):⇑a=⇑b:=Paired.length r
def KP (a:List (κ×V))(k:κ):⇑(fh a k)<=⇑a:=ajK _ _
end
def jK {k:Key}(r:RelV (kV k) u):(bO P w).is k u=true:=by
 cases k with
 |inl i=>let⟨t,e⟩:=(show ∃t,u=Value.int i t from r);subst e;rwa[Dw P w i t]
 |inr x=>let⟨t,e⟩:=(show ∃t,u=Value.str x t from r);subst e;rwa[Dx P w x t]
theorem y8:∀{a:Zd} {b:Zk},Vals (a.map kV) b->ItemsAre (bO P w) a b
 |[],_,r=>by ext r;rwa[.nil]
 |k::a,_,r=>by
  cases r with
  |cons h t=>exact .cons (jK h) (y8 t)
abbrev KT (H:Hp):List (Zd×V)->List (Zd×Zs×Zt)->Prop:=Paired λp q=>p.1=q.1/\H q.2.1\.tup (p.1.map kV)/\RelV p.2 q.2.2
def KT.val {a:List (Zd×V)}{g:List (Zd×Zs×Zt)}(r:KT H a g)(k:Zd):eK (bA a k) ((atKey g k).map (·.2)):=by
 induction r with
 |nil=>exact True.intro
 | @cons p q l c h t i=>
   let⟨f,_,j⟩:=h;cases e:p.1=k
   ·let d:q.1=k:=f.symm.trans e;let b:atKey (q::c) k\q.2:=by simp[atKey,akk,d]
    rw[da e,b];rwa[j]
   ·let d:¬q.1=k:=λz=>e (f.trans z)
    let b:atKey (q::c) k=atKey c k:=by simp[atKey,akk,d]
    rw[cV e,b];rwa[i]
def KT.repl {a:List (Zd×V)}{xs:List (Zd×Zs×Zt)}(r:KT H a xs)(k:Zd){y:V}{u:Zt}(j:RelV y u):
 KT H (a.map λb=>if b.1=k then (b.1,y) else b) (xs.map (putAt k u)):=by
 induction r with
 |nil=>exact .nil
 | @cons p q d e h t c=>
   rw[aiS,aiS];rwa[.cons ?_ c];let⟨g,f,i⟩:=h;unfold putAt
   cbv
def KT.put {a:List (Zd×V)}{c:List (Zd×Zs×Zt)}(r:KT H a c)(k:Zd){b:Zs}{y:V}{u:Zt}(g:H b\.tup (k.map kV))(d:RelV y u):
 KT H (putK a k y) (storedH c k b u):=by
 let e:(a.any λf=>decide (f.1=k))=(atKey c k).isSome:=by
  rw[mv,(r.val k).rH,Option.isSome_map]
 unfold putK storedH;rw[e];cases q:(atKey c k).isSome=true
 ·rw[ah4 q,ah4 q];rwa[r.repl k d]
 ·rw[ahY q,ahY q];rwa[Paired.snoc r ⟨2,g,d⟩]
def KT.keeps {a:List (Zd×V)}{c:List (Zd×Zs×Zt)}(r:KT H a c)(d:∀b ys,H b\.tup ys->I b\.tup ys):KT I a c:=
 Paired.Kl r λ_ _ z=>⟨z.1,d^z.2.1,z.2.2⟩
section
variable {P:Program}{w:World}{H:Hp}{h:Heap}{a:Zs}
def Ni {u:HO}(ok:dM P w H h)(e:Rd H a u):bY P w H h a u:=e.ok ok
def pZ {b:List (Key×V)}(ok:dM P w H h)(e:Rd H a (.dK b)):⇑b<=sizeLine/\(a==sysModules)=false/\∃c,KV b c/\h.DictOf (bO P w) a c:=
 show bY P w H h a (.dK b) from Ni ok e
def tm {b:List (Key×V)}(ok:dM P w H h)(e:H a\.dK b):⇑b<=sizeLine/\(a==sysModules)=false/\∃c,KV b c/\h.DictOf (bO P w) a c:=pZ ok (.inl e)
def mw {c:Zd}(ok:dM P w H h)(e:H a\.tup (c.map kV)):(tupleKind (bO P w)).is h c a:=by
 let⟨_,b,r,o,f,d,n,g⟩:=(show bY P w H h a (.tup (c.map kV)) from ok a _ e);rwa[o,b.toArray,n,f,d,g,by simpa using y8 r]
def p1 {b:List (Zd×V)}(ok:dM P w H h)(e:Rd H a (.dT b)):⇑b<=sizeLine/\(a==sysModules)=false/\
 ∃d,KT H b d/\h.DictOfH (tupleKind (bO P w)) a d:=by
 let⟨z,y,d,r,o,n,u,j,g,s,i,k⟩:=(show bY P w H h a (.dT b) from Ni ok e);rwa[⟨z,y,d,r,o,n,u,j,g,s,i,λx c=>?_,k⟩]
 let all:∀{l:List (Zd×V)} {m:List (Zd×Zs×Zt)},KT H l m->∀x∈m,(tupleKind (bO P w)).is h x.1 x.2.1:=by
  intro l m q
  induction q with
  |nil=>intro x c;rwa[nomatch c]
  | @cons p q A B f t v=>
    intro x c;rcases ahR.mp c with e|c
    ·subst e;rwa[mw ok (by rw[<-f.1];rwa[f.2.1])]
    ·rwa[v x c]
 rwa[all r x c]
def Nj {b:List (Zd×V)}(ok:dM P w H h)(e:H a\.dT b):⇑b<=sizeLine/\(a==sysModules)=false/\
 ∃c,KT H b c/\h.DictOfH (tupleKind (bO P w)) a c:=p1 ok (.inl e)
end
def gf (H:Hp)(a:Zs)(y:V)(r:Zc):Prop:=
 (∃c k,Rd H a (.dK c)/\y=kV k/\r=bA c k)\/∃c k b,Rd H a (.dT c)/\y=↑b/\H b\.tup (k.map kV)/\r=bA c k
def rJ (H:Hp)(a:Zs)(y v:V)(d:Hp):Prop:=
 (∃c k,H a\.dK c/\y=kV k/\⇑c<sizeLine/\d=upd H a (.dK (putK c k v)))\/
 ∃c k b,H a\.dT c/\y=↑b/\H b\.tup (k.map kV)/\⇑c<sizeLine/\d=upd H a (.dT (putK c k v))
def gf.k {b:List (Key×V)}{k:Key}(e:H a\.dK b):gf H a (kV k) (bA b k):=.inl ⟨b,k,.inl e,22⟩
def rJ.k {b:List (Key×V)}{k:Key}(e:H a\.dK b)(c:⇑b<sizeLine):rJ H a (kV k) q (upd H a (.dK (putK b k q))):=.inl ⟨b,k,e,2,c,2⟩
section
variable {X:Cx}{pins:List (Zs×Obj)}{σ:St}{H:Hp}{s:Zu}{a:Zs}{y v:V}{u r:Zt}{o:Zc}{A:Around}{E:Zt->Zu->Prop}
def Inv.big (I:Inv X pins σ H s):sysModules<↥s:=by
 let h:mainGlobals<↥s:=(I.mod.glob.keeps I.bk).lt;rwa[akL ⋯ h]
def HG (F:A.units+ 1<cLine)(I:Inv X pins σ H s)(g:gf H a y (some v))(t:RelV y u)(h:∀d q,Inv X pins σ H q->RelV v d->Q d q):
 X⁻¹ A (getItem ↑a u) Q E s:=by
 rcases g with ⟨f,k,e,n,l⟩|⟨f,k,b,e,n,B,l⟩
 ·subst n;let⟨z,w,x,rel,m⟩:=pZ I.aM e;let⟨d,j,c⟩:=eK.some_of (v:=v) (o:=valueAt x k) ([l]▸rel.val k);rwa[wpAny_getItem_of (jK t) m.mapOf j (h d _ (I.tok _) c)]
 ·subst n;cases (show u=Value.ref b from t);let⟨z,w,D,rel,m⟩:=p1 I.aM e;let⟨d,j,c⟩:=eK.some_of (v:=v) (o:=(atKey D k).map (·.2)) ([l]▸rel.val k);let⟨p,C,i⟩:=aiI.mp j;rwa[wpAny_getItem_heap (ajL F) (mw I.aM B) m C ?_];rw[i];rwa[h d _ (I.tok _) c]
def Pk (p:A.units+ 1<cLine)(I:Inv X pins σ H s)(g:gf H a y o)(m:RelV y u)(h:∀j,Inv X pins σ H j->Q (.bool (!o.isSome)) j):
 X⁻¹ A (compareOp .NotIn u ↑a) Q E s:=by
 rcases g with ⟨d,k,e,i,l⟩|⟨d,k,b,e,i,n,l⟩
 ·subst i;let⟨z,c,t,rel,f⟩:=pZ I.aM e;rwa[wpAny_notIn_of (jK m) c f.mapOf ?_];rw[<-(rel.val k).rH,<-l];rwa[h _ (I.tok _)]
 ·subst i;cases (show u=Value.ref b from m);let⟨z,c,w,rel,f⟩:=p1 I.aM e;rwa[wpAny_notIn_heap (ajL p) (mw I.aM n) c f ?_];let q:=(rel.val k).rH;rw[Option.isSome_map]at q;rw[<-q,<-l];rwa[h _ (I.tok _)]
def j8 {t':Nat}{c:HO}(I:Inv X pins σ H s)(mu:ud (H a))(g:Heap.SameBut a s.heap h)(d:∃q,h.get? a\q)(new:bY X.prog X.w (upd H a c) h a c):
 Inv X pins σ (upd H a c) { s with heap:=h,toks:=t' }:=
 I.write (x:=a) (e:=a) mu (.inl rfl) (λb q f z=>(g.2 b f).trans z) d new
def rK {b:List (Key×V)}{c:List (Key×Zt)}(z:⇑b<=sizeLine)(d:(a==sysModules)=false)(rel:KV b c)(e:h.DictOf (bO P w) a c):
 bY P w I h a (.dK b):=⟨z,d,c,rel,e⟩
def HJ (S:A.units+ 1<cLine)(d:Inv X pins σ H s)(g:rJ H a y v I)(M:RelV y u)(L:RelV v r)(h:∀D,Inv X pins σ I D->U () D):
 X⁻¹ A (setItem ↑a u r) U E s:=by
 rcases g with ⟨f,k,e,C,l,n⟩|⟨f,k,b,e,C,J,l,n⟩
 ·subst C n;let⟨z,m,O,rel,B⟩:=tm d.aM e;let p:⇑O<=sizeLine:=by rw[<-⇑rel];rwa[z]
  let w:⇑(putK f k v)<=sizeLine:=by have:=hH f k v;ext
  rwa[wpAny_setItem_pairs (hsz:=p) (jK M) B λG i x=>h _ ?_]
  let Y:∃q,G.get? a\q:=let ⟨q,_,_,j,_⟩:=i;⟨q,j⟩
  rwa[j8 d ([e]▸True.intro) x Y (rK w m (rel.put k L) i)]
 ·subst C n;cases (show u=Value.ref b from M);let⟨z,m,xs,rel,B⟩:=Nj d.aM e;let p:⇑xs<=sizeLine:=by rw[<-Paired.length rel];rwa[z]
  let w:⇑(putK f k v)<=sizeLine:=by have:=hH f k v;ext
  rwa[wpAny_setItem_heap (hsz:=p) (ajL S) (mw d.aM J) B λG i x=>h _ ?_]
  let⟨q,R,W,j,N,T,P,_,Q⟩:=i;rwa[j8 d ([e]▸True.intro) x ⟨q,j⟩ ⟨w,m,_,(rel.put k J L).keeps λc ys F=>?_,q,R,W,j,N,T,P,Q⟩];rw[ak (bT F e (λz=>nomatch z))];rwa[F]
end
section
variable {X:Cx}{pins:List (Zs×Obj)}{σ:St}{H:Hp}{s:Zu}{a:Zs}{kvs:List (Key×V)}{k:Key}{u:Zt}{A:Around}{E:Zt->Zu->Prop}
def Nk {more:Zk}(I:Inv X pins σ H s)(e:H a\.dK kvs)(g:RelV (kV k) u)(l:bA kvs k\q)(p:more=[]\/∃x,more=[x])
 (h:∀c j,Inv X pins σ (upd H a (.dK (fh kvs k))) j->RelV q c->Q c j):X⁻¹ A (call (.builtin "dict.pop") (↑a::u::more)) Q E s:=by
 let⟨z,r,m,rel,n⟩:=tm I.aM e;let⟨c,y,f⟩:=eK.some_of (v:=q) (o:=valueAt m k) (by rw[<-l];rwa[rel.val k])
 let B:(keyPart u).isSome=true:=by
  cases k with
  |inl i=>let⟨t,b⟩:=(show ∃t,u=Value.int i t from g);subst b;rfl
  |inr x=>let⟨t,b⟩:=(show ∃t,u=Value.str x t from g);subst b;rfl
 let D:argsOk "dict.pop" ⟨↑a::u::more,[]⟩:=by
  rcases p with b|⟨x,b⟩
  ·subst b;rwa[PySem.F.args_dict_pop_2 _ _]
  ·subst b;rwa[PySem.F.args_dict_pop_3^_]
 refine aj6 akl n.typeIs PySem.F.entry_dict_pop D (meets_dict_pop_there (bO X.prog X.w) a (jK g) more p B)
  ⟨m,c,n,by rw[<-⇑rel];rwa[z],y,λv d C=>h c _ ?_ f⟩
 let F:∃b,v.get? a\b:=let ⟨b,_,_,w,_⟩:=d;⟨b,w⟩
 rwa[j8 I ([e]▸True.intro) C F (rK (ahP (KP kvs k) z) r (rel.drop k) d)]
def RX {r:Zt}(I:Inv X pins σ H s)(e:H a\.dK kvs)(b:RelV (kV k) u)(l:bA kvs k=none)(h:∀c,Inv X pins σ H c->Q r c):
 X⁻¹ A (call (.builtin "dict.pop") [↑a,u,r]) Q E s:=by
 let⟨z,g,d,rel,f⟩:=tm I.aM e;let m:valueAt d k=none:=eK.none_of (by rw[<-l];rwa[rel.val k])
 let j:(keyPart u).isSome=true:=by
  cases k with
  |inl i=>let⟨t,q⟩:=(show ∃t,u=Value.int i t from b);subst q;rfl
  |inr x=>let⟨t,q⟩:=(show ∃t,u=Value.str x t from b);subst q;rfl
 rwa[aj6 akl f.typeIs PySem.F.entry_dict_pop (PySem.F.args_dict_pop_3^_) (meets_dict_pop_default (bO X.prog X.w) a (jK b) g j r) ⟨d,f,m,h _ (I.tok _)⟩]
end
def RZ (i:Expr):Prop:=∀b a,subscripted i false b a=operate [b,a] (getItem b a)
def Pl {env:Env}{value slice:Expr}{T id:String}
 (j:typeLookup (.type T) "__getitem__"=pure (some (.builtin id))) (k:RZ slice)
 (h:(P<|>w) A (eval value env) (λo d=>(P<|>w) A (eval slice env) (λi a=>a.TypeIs o T/\(P<|>w) A (getItem o i) Q E a) E d) E s):
 (P<|>w) A (eval (.Subscript value slice p) env) Q E s:=by
 rwa[Subscript_ (aiv h (λo d e=>aiv e (λi a b=>?_) λ_ _ x=>x) λ_ _ x=>x)];let⟨g,b⟩:=b;rwa[ahy ?_];rwa[ahy (wpAny_specialOf g j ?_)]
 let fin:(P<|>w) A (subscripted slice false o i) (λr c=>(P<|>w) A (letTemporaryGo value o r >>=λ_=>pure r) Q E c) E a:=by
  rw[k o i];rwa[wpAny_operating (aiv b (λr c f=>ahy (wpAny_letTemporaryGo (ahF f))) λ_ _ x=>x)]
 first
  |rwa[ahF (ahy fin)]
  |rwa[ahy (ahF (ahy fin))]
  |rwa[ahy fin]
def DB {c:Zc}(I:Inv X o D H s)(g:gf H a q c):s.TypeIs ↑a "dict":=by
 rcases g with ⟨d,k,e,_,_⟩|⟨d,k,b,e,_,_,_⟩
 ·let⟨_,_,h,_,f⟩:=pZ I.aM e;rwa[f.typeIs]
 ·let⟨_,_,i,_,f⟩:=p1 I.aM e;rwa[f.typeIs]
inductive R6 (x y:V) (H:Hp) (Q:VK):Prop
 |mk (a:Zs) (v:V):x=↑a->gf H a y (some v)->Q v H->R6 x y H Q
def V8 (td d:TE):TE:=λ a H Q=>td a H λx c=>d a c λy b=>R6 x y b Q
def Pn (e td:TE):TE:=λ c H Q=>e c H λy d=>td c d λx b=>∃a o,x=↑a/\gf b a y o/\Q (.bl (!o.isSome)) b
inductive R7 (x y v:V) (H:Hp) (N:Hp->Prop):Prop
 |mk (a:Zs) (H4:Hp):x=↑a->rJ H a y v H4->N H4->R7 x y v H N
def V9 (td e b:TE):TS:=λD a H=>b a H λv d=>td a d λx c=>e a c λy f=>R7 x y v f (D.nx a)
section
variable {X:Cx}{o i value:Expr}{pos pos':Pos}{td ty tv:TE}
def EA (p:X.A.units+ 1<cLine)(m:PE X o td)(z:PE X i ty)(t:RZ i):PE X (.Subscript o i pos) (V8 td ty):=by
 intro b s f H Q I h;rwa[Pl PySem.F.slot_dict_getitem.lookup t (aY (m b s f H _ I h) λu q ζ=>?_)];let⟨x,n,j,r,l⟩:=ζ;rwa[aY (z b q f n _ j l) λF D ζ=>?_];let⟨y,A,d,w,a,v,ex,g,B⟩:=ζ;subst ex;obtain rfl:u=Value.ref a:=r;rwa[DB d g,HG p d g w λC E k c=>⟨v,A,k,c,B⟩]
def HK (n:X.A.units+ 1<cLine)(v:PE X i ty)(l:PE X o td):PC X .NotIn i o (Pn ty td):=by
 intro b s c H Q I h;rwa[aY (v b s c H _ I h) λC p ζ=>?_];let⟨y,m,d,t,j⟩:=ζ;rwa[aY (l b p c m _ d j) λu A ζ=>?_];let⟨x,w,k,q,a,r,ex,g,z⟩:=ζ
 subst ex;obtain rfl:u=Value.ref a:=q;rwa[Pk n k g t λB f=>⟨.bl (!r.isSome),w,f,2,z⟩]
def tq (z:X.A.units+ 1<cLine)(t:PE X o td)(F:PE X i ty)(J:PE X value tv)(C:swapsWith value (some (.Subscript o i pos')) pos.line X.env=pure false):
 PS X (.Assign [.Subscript o i pos'] value pos) (V9 td ty tv):=by
 intro b s c H D I h;rwa[wpAny_Assign_Subscript (aY (J b s c H _ I h) λr A ζ=>?_) C];let⟨v,w,f,q,m⟩:=ζ;rwa[aY (t b A c w _ f m) λu l ζ=>?_];let⟨x,G,p,B,L⟩:=ζ;rwa[aY (F b l c G _ p L) λP O ζ=>?_];let⟨y,N,j,E,a,k,ex,g,n⟩:=ζ;subst ex;obtain rfl:u=Value.ref a:=B;rwa[HJ z j g E q λM d=>⟨c,k,d,n⟩]
end
def A2 (h:Heap)(a:sysModules<h.objs.size):bY P w H (h.push ("dict">>>.dict #[])) h.objs.size (.dK []):=
 ⟨ah2 _,ahX.mpr (aiU (ah8 a)),[],.nil,Heap.DictOf.new h⟩
def KQ (h:Heap)(a:sysModules<h.objs.size):bY P w H (h.push ("dict">>>.dict #[])) h.objs.size (.dT []):=
 ⟨ah2 _,ahX.mpr (aiU (ah8 a)),[],.nil,_,#[],(0),ahQ _ rfl,⟨222⟩,22,ajn⟩
def R8:TE:=λ_ H Q=>∀p,H p=none->Q ↑p (upd H p (.dK []))
def Sb:TE:=λ_ H Q=>∀p,H p=none->Q ↑p (upd H p (.dT []))
section
variable {X:Cx}{pos:Pos}
def fN:PE X (.Dict [] [] pos) R8:=λb s d H Q I h=>
 wpAny_Dict_empty ⟨↑↥s,_,I.laid (a:=↥s) (o:=.dK []) (t':=s.toks) (λ_ _ q=>ahz _ q) (ahG _) (A2 s.heap I.big),2,h _ (I.aM.fresh (ahG _))⟩
def KR:PE X (.Dict [] [] pos) Sb:=λb s d H Q I h=>
 wpAny_Dict_empty ⟨↑↥s,_,I.laid (a:=↥s) (o:=.dT []) (t':=s.toks) (λ_ _ q=>ahz _ q) (ahG _) (KQ s.heap I.big),2,h _ (I.aM.fresh (ahG _))⟩
end
def A3:List (TE×TE)->St->Hp->(List (V×V)->Hp->Prop)->Prop
 |[],_,H,Q=>Q [] H
 |(e,b)::r,a,H,Q=>e a H λx f=>b a f λy c=>A3 r a c λd g=>Q ((x,y)::d) g
abbrev VV:List (V×V)->List (Zt×Zt)->Prop:=Paired λp q=>RelV p.1 q.1/\RelV p.2 q.2
def Nm (X:Cx)(c:Pos)(keys:List (Option Expr))(values:Zr)(b:List (TE×TE)):Prop:=
 ∀(a:List (Zs×Obj)) (s:Zu) (d:St) (H:Hp) (Q:List (V×V)->Hp->Prop),Inv X a d H s->A3 b d H Q->
  X⁻¹ X.A (evalPairs (pairTrees keys values X.env c)) (λg h=>∃e f,Inv X a d f h/\VV e g/\Q e f) X.xe s
def Pp:Nm X p [] [] []:=λa s b H Q I h=>pairTrees_nil_walk ⟨[],H,I,.nil,h⟩
def KS {k:Expr}{d:List (Option Expr)}{g f:TE}{b:List (TE×TE)}(l:PE X k g)(E:PE X e f)(w:Nm X p d C b):
 Nm X p (some k::d) (e::C) ((g,f)::b):=λa s c H Q I h=>
 pairTrees_cons_walk (aY (l a s c H _ I h) λu z ⟨x,v,i,A,q⟩=>aY (E a z c v _ i q) λL n ⟨y,D,t,B,F⟩=>
  aY (w a n c D _ t F) λG J ζ=>by let⟨m,j,o,rel,r⟩:=ζ;rwa[⟨(x,y)::m,j,o,.cons ⟨A,B⟩ rel,r⟩])
def i7 (a more:List (Key×V)):List (Key×V):=more.foldl (λacc b=>putK acc b.1 b.2) a
def KV.merge:∀{more:List (Key×V)} {rs:List (Key×Zt)} {a:List (Key×V)} {b:List (Key×Zt)},KV more rs->KV a b->KV (i7 a more) (merged b rs):=by
 intro more rs a b r
 induction r generalizing a b with
 |nil=>intro q;rwa[q]
 | @cons p q f g h t c=>
   intro d
   let e:KV (putK a p.1 p.2) (stored b q.1 q.2):=by
    have:=d.put p.1 h.2;rw[<-h.1];rwa[this]
   rwa[c e]
theorem lb:∀(more a:List (Key×V)),⇑(i7 a more)<=⇑a+ ⇑more
 |[],a=>by show ⇑a<=⇑a+ 0;ext
 |p::r,a=>by
  let b:=lb r (putK a p.1 p.2);let c:=hH a p.1 p.2;show ⇑(i7 (putK a p.1 p.2) r)<=_;rw[ah0];ext
theorem vR {P:Program}{w:World}:∀{d:List (Key×V)} {g:List (Zt×Zt)},VV (d.map λf=>(kV f.1,f.2)) g->∃e,Carries (bO P w) g e/\KV d e
 |[],_,r=>by ext r;rwa[[],True.intro,.nil]
 |p::d,_,r=>by
  cases r with
  | @cons a b as bs h t=>
    let⟨e,c,q⟩:=vR (P:=P) (w:=w) t;let⟨j,i⟩:=b;rwa[(p.1,i)::e,⟨jK h.1,2,c⟩,.cons ⟨2,h.2⟩ q]
def Wa (b:List (TE×TE)):TE:=λ f H Q=>∀p,H p=none->A3 b f (upd H p (.dK [])) λe c=>c p\.dK []/\∃a:List (Key×V),e=a.map (λd=>(kV d.1,d.2))/\⇑a<=15/\Q ↑p (upd c p (.dK (i7 [] a)))
def Pq {keys:List (Option Expr)}{values:Zr}{d:List (TE×TE)}(h:Nm X p keys values d)(g:keys.all (·.isSome)=true)(B:⇑keys=⇑values)(n:keys≠[])
 (j:⇑keys<=15):PE X (.Dict keys values p) (Wa d):=by
 intro f s D H Q I q;let E:=I.aM.fresh (ahG ↥s);let r:=I.laid (a:=↥s) (o:=.dK []) (h':=s.heap.push ("dict">>>.dict #[])) (t':=s.toks) (λ_ _ q=>ahz _ q) (ahG _) (A2 s.heap I.big);rwa[wpAny_Dict_walk (knd:=bO X.prog X.w) g B n j (aY (h f _ D _ _ r (q _ E)) λS R ζ=>?_)];let⟨O,T,l,rel,e,b,G,lk,M⟩:=ζ;subst G;let⟨A,c,rk⟩:=vR (P:=X.prog) (w:=X.w) rel;let⟨z,m,J,v,F⟩:=tm l.aM e;ext v;rwa[⟨A,c,F,λk i C=>⟨↑↥s,152,M⟩⟩]
 let y:⇑(i7 [] b)<=sizeLine:=by
  let x:=lb b [];rw[ajd]at x;rw[sizeLine_eq];ext
 let L:∃q,k.get? ↥s\q:=let ⟨q,_,_,u,_⟩:=i;⟨q,u⟩
 rwa[j8 l ([e]▸True.intro) C L (rK y m (rk.merge .nil) i)]
structure M1 (X:Cx) (o:Expr) (m:Str) (apos:Pos) (e:Expr) (b9:Pos):Prop where
 base:attributeBase o m X.env (eval o X.env)=eval o X.env
 few:((backTo b9 (starEach [e] X.env)).all (λx=>!x.1) && (backToKw b9 (keywordEach [] X.env)).all (λx=>x.1.isSome)
  && decide (⇑([e]:Zr)+ ⇑([]:List Keyword)+ (if ([]:List Keyword).isEmpty then 0 else 1)<30))=true
 line:(apos.endLine==b9.line)=true
 trees:backTo b9 (starEach [e] X.env)=[(false,eval e X.env)]
structure M2 (X:Cx) (o:Expr) (m:Str) (apos:Pos) (e f:Expr) (b9:Pos):Prop where
 base:attributeBase o m X.env (eval o X.env)=eval o X.env
 few:((backTo b9 (starEach [e,f] X.env)).all (λx=>!x.1) && (backToKw b9 (keywordEach [] X.env)).all (λx=>x.1.isSome)
  && decide (⇑([e,f]:Zr)+ ⇑([]:List Keyword)+ (if ([]:List Keyword).isEmpty then 0 else 1)<30))=true
 line:(apos.endLine==b9.line)=true
 trees:backTo b9 (starEach [e,f] X.env)=[(false,eval e X.env),(false,eval f X.env)]
def EB (H:Hp)(a:Zs):Prop:=(∃b,Rd H a (.dK b))\/∃b,Rd H a (.dT b)
def mx (I:Inv X o D H s)(d:EB H a):
 s.TypeIs ↑a "dict"/\(∀b,Value.ref a=↑b->∃c,s•b\c/\c.dict=none)/\(a==sysModules)=false:=by
 rcases d with ⟨h,e⟩|⟨h,e⟩
 ·let⟨_,g,k,_,f⟩:=pZ I.aM e;rwa[⟨f.typeIs,λb q=>?_,g⟩];ext q;let⟨c,_,_,j,i,_⟩:=f;rwa[c,j,i.2.1]
 ·let⟨_,g,l,_,f⟩:=p1 I.aM e;rwa[⟨f.typeIs,λb q=>?_,g⟩];ext q;let⟨c,_,_,j,i,_⟩:=f;rwa[c,j,i.2.1]
section
variable {X:Cx}{pins:List (Zs×Obj)}{σ:St}{H:Hp}{s:Zu}{a:Zs}{y d:V}{u r:Zt}{o:Zc}{A:Around}{E:Zt->Zu->Prop}
def Sd (v:A.units+ 1<cLine)(I:Inv X pins σ H s)(g:gf H a y o)(p:RelV y u)(h:∀n m,Inv X pins σ H m->RelV (o.getD .non) n->Q n m):
 X⁻¹ A (call (.builtin "dict.get") [↑a,u]) Q E s:=by
 rcases g with ⟨i,k,e,j,l⟩|⟨i,k,b,e,j,q,l⟩
 ·subst j;let⟨z,f,w,rel,c⟩:=pZ I.aM e;rwa[aj6 ajp c.typeIs ake (PySem.F.args_dict_get_2 _ _) (meets_dict_get (bO X.prog X.w) a (jK p) f) ⟨_,c.mapOf,h _ _ (I.tok _) ?_⟩];rw[l];rwa[(rel.val k).getD rfl]
 ·subst j;cases (show u=Value.ref b from p);let⟨z,f,t,rel,c⟩:=p1 I.aM e;rwa[aj6 ajp c.typeIs ake (PySem.F.args_dict_get_2 _ _) (meetsH_dict_get (tupleKind (bO X.prog X.w)) a b f) ⟨ajL v,k,t,mw I.aM q,c,h _ _ (I.tok _) ?_⟩];rw[l];rwa[(rel.val k).getD rfl]
def Se (v:A.units+ 1<cLine)(I:Inv X pins σ H s)(g:gf H a y o)(p:RelV y u)(rd:RelV d r)(h:∀n m,Inv X pins σ H m->RelV (o.getD d) n->Q n m):
 X⁻¹ A (call (.builtin "dict.get") [↑a,u,r]) Q E s:=by
 rcases g with ⟨i,k,e,j,l⟩|⟨i,k,b,e,j,q,l⟩
 ·subst j;let⟨z,f,w,rel,c⟩:=pZ I.aM e;rwa[aj6 ajp c.typeIs ake (PySem.F.args_dict_get_3^_) (meets_dict_get_default (bO X.prog X.w) a (jK p) f r) ⟨_,c.mapOf,h _ _ (I.tok _) ?_⟩];rw[l];rwa[(rel.val k).getD rd]
 ·subst j;cases (show u=Value.ref b from p);let⟨z,f,t,rel,c⟩:=p1 I.aM e;rwa[aj6 ajp c.typeIs ake (PySem.F.args_dict_get_3^_) (meetsH_dict_get_default (tupleKind (bO X.prog X.w)) a b f r) ⟨ajL v,k,t,mw I.aM q,c,h _ _ (I.tok _) ?_⟩];rw[l];rwa[(rel.val k).getD rd]
end
inductive EC (x:V) (H:Hp) (G:Zs->Prop):Prop
 |mk (a:Zs):x=↑a->EB H a->G a->EC x H G
def Sf (td e:TE):TE:=λ d H Q=>td d H λx c=>EC x c λa=>e d c λy b=>∃o,gf b a y o/\Q (o.getD .non) b
inductive Sg (ty tx:TE) (σ:St) (x:V) (H1:Hp) (Q:VK):Prop
 |mk (a:Zs):x=↑a->EB H1 a->(ty σ H1 λy H2=>tx σ H2 λz H3=>∃o,gf H3 a y o/\Q (o.getD z) H3)->Sg ty tx σ x H1 Q
def Sh (td c tx:TE):TE:=λ a H Q=>td a H λx b=>Sg c tx a x b Q
inductive Si (a:Zs) (y:V) (H:Hp) (Q:VK):Prop
 |mk (kvs:List (Key×V)) (k:Key) (v:V):H a\.dK kvs->y=kV k->bA kvs k\v->Q v (upd H a (.dK (fh kvs k)))->Si a y H Q
def Sj (td e:TE):TE:=λ c H Q=>td c H λx b=>EC x b λa=>e c b λy d=>Si a y d Q
inductive KW (a:Zs) (y z:V) (H:Hp) (Q:VK):Prop
 |mk (kvs:List (Key×V)) (k:Key):H a\.dK kvs->y=kV k->(∀v,bA kvs k\v->Q v (upd H a (.dK (fh kvs k))))->(bA kvs k=none->Q z H)->KW a y z H Q
def Sl (td e tx:TE):TE:=λ b H Q=>td b H λx c=>EC x c λa=>e b c λy d=>tx b d λz f=>KW a y z f Q
section
variable {X:Cx}{o e f:Expr}{apos b9:Pos}{td ty tx:TE}
def KY (v:X.A.units+ 1<cLine)(q:PE X o td)(C:PE X e ty)(m:M1 X o "get" apos e b9):PE X (.Call (.Attribute o "get" apos) [e] [] b9) (Sf td ty):=by
 intro b s j H Q I h;rwa[ajY m.base m.few m.line aiY ajp PySem.F.type_dict_get (aY (q b s j H _ I h) λu w ζ=>?_)];let⟨x,t,i,z,a,ex,d,n⟩:=ζ;subst ex;obtain rfl:u=Value.ref a:=z;let⟨r,k,_⟩:=mx i d;erw[r,k];rw[m.trees];rwa[aiH rfl (ai0 (aiq (aY (C b w j t _ i n) λL F ζ=>?_)))];let⟨y,B,p,A,G,g,D⟩:=ζ;rwa[aiX ?_];rwa[Sd v p g A λE J l c=>⟨_,B,l,c,D⟩]
def my (D:X.A.units+ 1<cLine)(A:PE X o td)(M:PE X e ty)(w:PE X f tx)(m:M2 X o "get" apos e f b9):PE X (.Call (.Attribute o "get" apos) [e,f] [] b9) (Sh td ty tx):=by
 intro b s i H Q I h;rwa[ajY m.base m.few m.line aiY ajp PySem.F.type_dict_get (aY (A b s i H _ I h) λu E ζ=>?_)];let⟨x,C,j,F,a,ex,d,r⟩:=ζ;subst ex;obtain rfl:u=Value.ref a:=F;let⟨B,k,_⟩:=mx j d;erw[B,k];rw[m.trees]
 rwa[aiH rfl (ai0 (aiq (aY (M b E i C _ j r) λT q ζ=>?_)))];let⟨y,L,v,G,N⟩:=ζ;rwa[ aiq (aY (w b q i L _ v N) λU S ζ=>?_)];let⟨z,n,p,J,R,g,t⟩:=ζ;rwa[aiX ?_]
 rwa[Se D p g G J λP O l c=>⟨_,n,l,c,t⟩]
def KZ (t:PE X o td)(D:PE X e ty)(m:M1 X o "pop" apos e b9):PE X (.Call (.Attribute o "pop" apos) [e] [] b9) (Sj td ty):=by
 intro b s i H Q I h;rwa[ajY m.base m.few m.line aiY akl PySem.F.type_dict_pop (aY (t b s i H _ I h) λu A ζ=>?_)];let⟨x,z,g,B,a,ex,d,q⟩:=ζ;subst ex;obtain rfl:u=Value.ref a:=B;let⟨w,j,_⟩:=mx g d;erw[w,j];rw[m.trees];rwa[aiH rfl (ai0 (aiq (aY (D b A i z _ g q) λO L ζ=>?_)))];let⟨y,M,r,C,n,k,v,F,E,l,G⟩:=ζ;rwa[aiX ?_];subst E;rwa[Nk r F C l (.inl rfl) λJ N p c=>⟨v,_,p,c,G⟩]
def uR (G:PE X o td)(S:PE X e ty)(F:PE X f tx)(m:M2 X o "pop" apos e f b9):PE X (.Call (.Attribute o "pop" apos) [e,f] [] b9) (Sl td ty tx):=by
 intro b s j H Q I h;rwa[ajY m.base m.few m.line aiY akl PySem.F.type_dict_pop (aY (G b s j H _ I h) λu N ζ=>?_)];let⟨x,L,n,O,a,ex,d,C⟩:=ζ;subst ex;obtain rfl:u=Value.ref a:=O;let⟨J,t,_⟩:=mx n d;erw[J,t];rw[m.trees]
 rwa[aiH rfl (ai0 (aiq (aY (S b N j L _ n C) λZ B ζ=>?_)))];let⟨y,R,E,q,V⟩:=ζ;rwa[ aiq (aY (F b B j R _ E V) λU Y ζ=>?_)];let⟨z,A,p,P,c,k,r,T,D,M⟩:=ζ;rwa[aiX ?_]
 subst T
 cases l:bA c k with
 |some v=>exact Nk p r q l (.inr ⟨U,2⟩) λW w g i=>⟨v,_,g,i,D v l⟩
 |none=>exact RX p r q l λw g=>⟨z,A,g,P,M l⟩
end
section
variable {X:Cx}{pins:List (Zs×Obj)}{σ:St}{H:Hp}{s:Zu}{h':Heap}
def Inv.uS {fp:Zn}{o:HO}{t':Nat}(I:Inv X pins σ H s)(k:∀b u,b∉fp->s•b\u->h'.get? b\u)(f:∀b∈fp,pT X pins H b)
 (h:↥s<=a) (new:bY X.prog X.w (upd H a o) h' a o):Inv X pins σ (upd H a o) { s with heap:=h',toks:=t' }:=by
 let g:=I.aM.fresh h;let i:∀b u,H b\u->b∉fp:=λb u e z=>by rw[(f b z).1]at e;ext e
 refine I.step (g':=s.gens) (d':=s.drawn) (ch:=fp) (λb d=>⟨(f b d).2.2.2.1,(f b d).2.1,(f b d).2.2.2.2.1,(f b d).2.2.2.2.2⟩) (λb o _ _ hc e _=>k b o hc e) (λb o _ _ hc e _=>⟨o.slots,k b o hc e⟩)
  (λb o _ e n=>[ak (ah8 (ah5 (ahT e) h))]▸n) (λb o hc e=>⟨o,k b o hc e⟩) (λb l e=>[ak (ax e g)]▸e)
  (λb o u e=>[ak (ax e g)]▸e) (λb x e=>⟨#[],by rw[ak (ax e g),e];simp⟩) (λm t=>?_) (λb u e=>?_) I.bare
 ·let⟨o,p,w,j,r⟩:=t;rwa[o,p,w,k _ o (λz=>(f _ z).2.1 rfl) j,r]
 ·cases d:b=a
  ·subst d;rw[ah]at e;ext e;rwa[new]
  ·rw[ak d]at e;refine(I.aM b u e).ft (λc v hc q=>k c v ?_ q) (λc q=>[ak (ax q g)]▸q) λc l q=>by rw[ak (ax q g)];rwa[q]
   rcases hc with z|z
   ·rw[z];rwa[i b u e]
   ·rwa[i c _ z]
def Inv.yb {fp:Zn}{t':Nat}(I:Inv X pins σ H s)(k:∀b u,b∉fp->s•b\u->h'.get? b\u)(a:∀b∈fp,pT X pins H b):Inv X pins σ H { s with heap:=h',toks:=t' }:=by
 let f:∀b u,H b\u->b∉fp:=λb u e z=>by rw[(a b z).1]at e;ext e
 refine I.step (g':=s.gens) (d':=s.drawn) (ch:=fp) (λb d=>⟨(a b d).2.2.2.1,(a b d).2.1,(a b d).2.2.2.2.1,(a b d).2.2.2.2.2⟩) (λb o _ _ hc e _=>k b o hc e) (λb o _ _ hc e _=>⟨o.slots,k b o hc e⟩)
  (λb o _ e n=>n) (λb o hc e=>⟨o,k b o hc e⟩) (λb h e=>e) (λb o u e=>e) (λb p e=>⟨#[],by rw[e];simp⟩) (λm j=>?_) (λb u e=>?_) I.bare
 ·let⟨o,i,l,g,r⟩:=j;rwa[o,i,l,k _ o (λz=>(a _ z).2.1 rfl) g,r]
 ·rwa[(I.aM b u e).ft (λc v hc q=>k c v ?_ q) (λc q=>q) λc h q=>q]
  rcases hc with z|z
  ·rw[z];rwa[f b u e]
  ·rwa[f c _ z]
end
namespace En
section
variable {prog:Program}{w:World}{A:Around}{E:Zt->Zu->Prop}{s:Zu}
theorem y9 {it:Zs}{fp:Zn}{P:Nat->Zt->Prop}{St:Nat->Heap->Prop}{Q:Zl->Zu->Prop}(D:Draws prog w A.in1 it fp n P St)
 (he:IsEnum s.heap a it z v) (hst:St i s.heap) (j1:i<n) (uj:a≠it) (Xl:a∉fp)
 (hQ:∀x h' I,P i x->IsEnumOut h' a it (z+ 1) x ↥s->St (i+ 1) h'->h'.get? ↥s\("tuple">>>.seq #[.int z I,x])->
  (∀b o,b≠a->b≠it->s•b\o->h'.get? b\o)->Q (some ↑↥s) { s with heap:=h',toks:=I+ 1 }):
 (prog<|>w) A (pyNext ↑a) Q E s:=by
 let hT:s.TypeIs ↑a "enumerate":=⟨_,he,2⟩;unfold pyNext;rwa[ahy (aj7 (aiE (name:=Str.ofString "__next__") hT akm (aiJ akm hT F.entry_enumerate_next ?_ (F.args_enumerate_next_1 _))))];let⟨U,g,d,af5,os⟩:=s;show wpAny _ _ (field ↑a 2 >>=_) _ _ _;rwa[ahy (aiF he rfl (x:=↑it) rfl (ahy (D.item i _ _ _ j1 hst λx j I hPx N h=>?_)))];replace h:Heap.SameBut it U j:=h;let r:IsEnum j a it z v:=(h.2 a uj).trans he;show wpAny _ _ (field ↑a 3 >>=_) _ _ ⟨j,g,d,I,os⟩;rwa[ahy (aiF r rfl (x:=rawInt z) rfl ?_)];show wpAny _ _ (field ↑a 4 >>=_) _ _ ⟨j,g,d,I,os⟩;rwa[ahy (aiF r rfl (x:=.none) rfl ?_)];show wpAny _ _ (mkInt z >>=_) _ _ ⟨j,g,d,I,os⟩;rwa[ahy (wpAny_mkInt ?_)];show wpAny _ _ (setField ↑a 3 (rawInt (z+ 1)) >>=_) _ _ ⟨j,g,d,I+ 1,os⟩;rwa[ahy (aiT r (by simp) λH t f=>?_)];replace f:Heap.SameBut a j H:=f;replace t:IsEnum H a it (z+ 1) v:=t;show wpAny _ _ (setField ↑a 4 .none >>=_) _ _ ⟨H,g,d,I+ 1,os⟩;rwa[ahy (aiT t (by simp) λl u e=>?_)];replace e:Heap.SameBut a H l:=e;replace u:IsEnum l a it (z+ 1) v:=u;show wpAny _ _ (newTuple [.int z I,x] >>=_) _ _ ⟨l,g,d,I+ 1,os⟩;rwa[ahy (wpAny_newTuple ?_)];let B:IsEnum (l.push ("tuple">>>.seq #[.int z I,x])) a it (z+ 1) v:=ahz _ u;generalize C:l.push ("tuple">>>.seq #[.int z I,x])=G at B;let Z:l.objs.size=U.objs.size:=by rw[e.1,f.1,h.1]
 let X:a<U.objs.size:=ahT he;let Wb:G.get? U.objs.size\("tuple">>>.seq #[.int z I,x]):=by rw[<-C,<-Z];rwa[ahQ _ rfl]
 let V:∀b o,b≠a->b≠it->U.get? b\o->G.get? b\o:=λb o c Y W=>by
  rw[<-C];rwa[ahz _ (e.extBut b o c (f.extBut b o c (h.extBut b o Y W)))]
 let T:St (i+ 1) G:=D.frame _ _ _ N λb W o y=>by
  let c:b≠a:=λq=>Xl (q ▸ W)
  rw[<-C];rwa[ahz _ (e.extBut b o c (f.extBut b o c y))]
 show wpAny _ _ (Builtin.SmallTypes.ownedTupleIsFree ↑a >>=_) _ _ ⟨G,g,d,I+ 1,os⟩;rw[Z];clear C u e t f r h N Z l H j;rwa[ahy ?_];unfold Builtin.SmallTypes.ownedTupleIsFree;rwa[ahy (aiF B rfl (x:=.none) rfl (ahF ?_))];simp only[alc];rwa[ahy (ak3 (ahy (aiF B rfl (x:=v) rfl (ahy (aiT B (by simp) λO M m=>?_)))))];replace m:Heap.SameBut a G O:=m;replace M:IsEnum O a it (z+ 1) x:=M;show wpAny _ _ (Builtin.SmallTypes.ownedTupleHandOut ↑a ↑U.objs.size >>=_) _ _ ⟨O,g,d,I+ 1,os⟩;rwa[ahy ?_];unfold Builtin.SmallTypes.ownedTupleHandOut;rwa[ahy (aiT M (by simp) λR L p=>?_)];replace p:Heap.SameBut a O R:=p;replace L:IsEnumOut R a it (z+ 1) x U.objs.size:=L;rwa[aiT L (by simp) λS J k=>?_]
 replace k:Heap.SameBut a R S:=k;replace J:IsEnumOut S a it (z+ 1) x U.objs.size:=J;rwa[ahy (ak4 (ahF ⟨12,ahF (hQ x S I hPx J ?_ ?_ ?_)⟩))]
 ·exact D.frame _ _ _ T λb W o y=>by
   let c:b≠a:=λq=>Xl (q ▸ W)
   rwa[k.extBut b o c (p.extBut b o c (m.extBut b o c y))]
 ·rwa[k.extBut _ _ (aiO X) (p.extBut _ _ (aiO X) (m.extBut _ _ (aiO X) Wb))]
 ·rwa[λb o c Y W=>k.extBut b o c (p.extBut b o c (m.extBut b o c (V b o c Y W)))]
def Pu {T newId:String}{self a:Zt}{kw:List (Str×Zt)}(f:typeLookup (.type T) "__init__"=pure (some (.builtin "object.__init__")))(e:Bind.madeBy (.type T)=pure (some newId))(c:(some newId !=some "object.__new__")=true):
 Meets (Builtin.«object.__init__» ⟨[self,a],kw⟩) (λ_ R s=>s.TypeIs self T/\R (.ok (.ret .none)) s):=by
 rwa[Meets.of_wp λprog w A R s d=>?_]
 let⟨g,b⟩:=d
 repeat (any_goals (first|assumption|wp_step))
 rwa[12,b]
def Wc (a b:Zt):checkTypeCall "enumerate" ⟨[a],[("start",b)]⟩=pure ():=by kernel_rfl
def Wd (a b:Zt):checkBuiltinCall "enumerate.__new__" ⟨[.type "enumerate",a],[("start",b)]⟩=pure ():=by kernel_rfl
theorem Wg (a b c:Zt):argsOk "object.__init__" ⟨[a,b],[("start",c)]⟩:=by
 unfold argsOk;rw[signature?_of (id:="object.__init__") (n:=['_','_','t','i','n','i','_','_']) (o:=['t','c','e','j','b','o']) (by kernel_rfl) F.owner_object]
 kernel_rfl
end
end En
inductive Wh (t:TT) (σ:St) (H:Hp) (Q:(Bool->Hp->Prop)):Prop
 |mk (G:Bool->Hp->Prop):t σ H G->(∀c H',G c H'->Q c H')->Wh t σ H Q
def CXw (P:Program)(w:World):lC:=λa H s E e c=>∃(x C:Zs) (B:Heap) (d:Hp) (f:Zt),e=↑x/\c.os=s.os/\AllBare c.gens/\Heap.FlyingW B a x ↑C f c.heap/\
 Un (cK a) [] H d s.heap c.heap/\dM P w d B/\(∀b o,s•b\o->H b=none->b∉cK a->B.get? b\o)/\(∀b o,s•b\o->b∉cK a->∃g,B.get? b\g)/\E ↑C none d
section
variable {X:Cx}{pos:Pos}
abbrev TJ:=St->Hp->Zh->VK->Prop
def PJ (X:Cx)(c:Zr)(t:TJ):Prop:=
 ∀(a:List (Zs×Obj)) (s:Zu) (b:St) (H:Hp) (acc:Zh) (Q:VK),Inv X a b H s->t b H acc Q->X⁻¹ X.A (joinParts (tx acc) (evalEach c X.env)) (EP X a b Q) X.xe s
def HL:PJ X [] (λ b H acc Q=>⇑acc<=1000000/\Q (.str (tx acc)) H):=λa s b H acc Q I h=>
 joinParts_nil ⟨.str (tx acc),H,I.tok _,⟨12⟩,h.2⟩ ([HC]▸ahP h.1 ⋯)
def tu {d:TE}{t:TJ}(n:PE X e d)(i:PJ X C t)(k:evalEach (e::C) X.env=eval e X.env::evalEach C X.env:=by rfl):
 PJ X (e::C) (λ b H acc Q=>d b H λv c=>∃l,v=.str (tx l)/\⇑acc+ ⇑l<=1000000/\t b c (acc++l) Q):=by
 intro a s b H acc Q I h;rw[k];rwa[joinParts_cons (aY (n a s b H _ I h) λv j ζ=>?_)];let⟨x,c,f,r,l,m,g,q⟩:=ζ;subst m;let⟨o,rfl⟩:=r;erw[5]
 ·rw[HD,HC,ahA];rwa[ahP g ⋯]
 ·rw[HD];rwa[i a j b c (acc++l) Q f q]
def za {b:Expr}{t:TJ}(h:PJ X (e::b::C) t)(d:evalEach (e::b::C) X.env=eval e X.env::eval b X.env::evalEach C X.env:=by rfl):PE X (.JoinedStr (e::b::C) pos) (λ c H Q=>t c H [] Q):=by
 intro a s c H Q I q;rwa[JoinedStr_many ?_];have:=h a s c H [] Q I q;rw[d]at this;rwa[this]
def Pw {d:TE}(j:PE X e d):PE X (.FormattedValue e (-1) none pos) (λ c H Q=>d c H λv b=>∃n:Int,v=.int n/\n.natAbs<10000000000/\Q (.str (tx (AY n))) b):=by
 intro a s c H Q I h;rwa[FormattedValue_plain (aY (j a s c H _ I h) λv l ζ=>?_)];let⟨x,b,f,r,n,i,g,q⟩:=ζ;subst i;let⟨k,rfl⟩:=r;rwa[formatField_int_small (HF g) ?_];rwa[.str (tx (AY n)),b,f.tok _,⟨_,by rw[Nh (toString n:Str)];rfl⟩,q]
abbrev rL:Zk:=[.type "ValueError",.type "Exception",.type "BaseException",.type "object"]
abbrev K0 (K:Za1) (C:Zs):Prop:=PySem.W.excIn K C rL "ValueError.__new__"=true
def Px (XK:K.In h)(q:K0 K a):∃n N nm o bs k s sub r col t E A G D F w,
 h.get? a=some (excClassObj nm o a N bs n k s sub r col t E A G D F "ValueError.__new__")/\h.Ns N w/\w "__init__"=none/\OwnTail h rL n:=by
 let g:PySem.W.excIn K a rL "ValueError.__new__"=true:=q;unfold PySem.W.excIn at g;split at g
 ·rename_i t cls m j;split at g
  ·rename_i H n x y z u nid v e b;simp only[ajh,ajW,Bool.not_eq_true']at g;let⟨⟨⟨⟨⟨rfl,rfl⟩,d⟩,f⟩,i⟩,c⟩:=g;let⟨nm,bs,mro,C,o,B,s,sub,r,col,del⟩:=cls;dsimp only at e d i c;subst e d
   let p:m=#[x,y,z,u,some (.builtin "ValueError.__new__"),v]:=by
    let⟨l⟩:=m;simp only at b;rw[b]
   subst p;rwa[n,C,nm,o,bs,B,s,sub,r,col,t,x,y,z,u,v,_,XK^j,.of_isNs (PySem.W.isNs_of_in XK i),PySem.W.nsMap_none_of_in XK i c,PySem.W.tail_of_in XK f]
  ·ext g
 ·ext g
def HM (C:Zs)(E:XK)(a:TE):TS:=λ_ c H=>a c H λ_ b=>E ↑C none b
theorem K1 {E:XK}{G:TE}{g:Pos}(hc:X.calm=true)(U:Gl X x)(hm:X.mg x\↑a)(S:K0 X.K a)(he:PE X e G)
 (hx:∀(d:List (Zs×Obj)) (k:St) (H:Hp) (s:Zu) (j:Heap) (c:Zs) (V:Zk),Inv X d k H s->Heap.MadeExcOf s.heap j c ↑a V->E ↑a none H->X.xe ↑c (s<*j))
 (O:starEach [e] X.env=[(false,eval e X.env)]:=by rfl) (l:(x==("__debug__":Str))=false:=by decide):
 PS X (.Raise (some (.Call (.Name x p) [e] [] g)) none pos) (HM a E G):=by
 intro d s k H D I h;let⟨L,N,nm,T,bs,f,M,sub,B,col,Q,z,t,R,w,A,C,Y,W,Z,P⟩:=Px I.ok.mod.qC S;let kp:∀{n H' u},Inv X d n H' u->∀b o,X.base.get? b\o->u•b\o:=λJ b o q=>(J.bs b o q).1
 refine wpAny_Raise_call_subT (C:=a) (nm:=nm) (q:=T) (N:=N) (bs:=bs) (bm:=L) (hdct:=f) (sn:=M) (sub:=sub) (ab:=B) (col:=col) (dd:=Q) (k0:=z) (k1:=t) (k2:=R) (k3:=w) (k5:=A)
  F.excBase_ValueError (mN:=C) (P.hasType ⋯) (I.ok.hd hc) (by rw[O];rfl) Z (gb I U hm ⟨25⟩ l)
 rw[O];rwa[ai0 (aiq (aY (he d s k H _ I h) λv s1 ζ=>?_))];let⟨y,H1,i,r,q⟩:=ζ;rwa[aiX ?_];rwa[2,Za4 1,kp i _ _ Y,W.keeps (kp i),P.keeps (kp i),λj c m=>hx d k H1 s1 j c _ i m q]
end
def bY.get {o:HO}(x:bY P w H h a o):∃u,h.get? a\u:=by
 cases o with
 |lst d=>let⟨_,_,_,_,e⟩:=x;rwa[_,e]
 |tup d=>let⟨_,_,_,c,e,_⟩:=x;rwa[_,e]
 |dK b=>let⟨_,_,_,_,o,_,_,e,_⟩:=x;rwa[_,e]
 |dT b=>let⟨_,_,_,_,o,_,_,e,_⟩:=x;rwa[_,e]
 |set S n=>let⟨o,_,_,_,e,_⟩:=x;rwa[_,e]
 |ins C dx fs=>let⟨_,_,_,e,_⟩:=x;rwa[_,e]
 |own y=>exact x
 |xd fs=>let⟨_,⟨_,_,_,e,_⟩,_⟩:=x;rwa[_,e]
 |eX lo j=>let⟨_,_,_,e⟩:=x;rwa[_,e]
 |c9 c u=>let⟨e,_⟩:=x;rwa[_,e]
 |fy i=>rwa[_,show h.get? a=some _ from x]
 |met f y=>rwa[_,show h.get? a=some _ from x]
 |ext g=>let⟨_,e,_⟩:=x;rwa[e]
def yc (x C:Zs)(h:Heap):Prop:=∃a b,h.get? x\a/\a.cls=↑C/\a.data=.fields b
noncomputable def ExO (x C:Zs):HO:=.ext (yc x C)
def Thr (X:Cx)(a:List (Zs×Obj))(g:St)(d:Hp)(x C:Zs)(s:Zu):Prop:=
 ∃(B:Heap) (c:Hp) (s1:Zu) (e:Zt),Inv X a g c s1/\s.os=s1.os/\AllBare s.gens/\Heap.FlyingW B X.stack x ↑C e s.heap/\Un (cK X.stack) [] c d s1.heap s.heap/\dM X.prog X.w d B/\
  (∀b o,s1•b\o->c b=none->b∉cK X.stack->B.get? b\o)/\(∀b o,s1•b\o->b∉cK X.stack->∃f,B.get? b\f)
section
variable {X:Cx}{pins:List (Zs×Obj)}{σ:St}{x:Zs}{s:Zu}
def Inv.Nn {s1:Zu}(I:Inv X pins σ H s1){b:Zs}(c:b∈cK X.stack):∃o,s1•b\o/\∀a,o.data≠.fields a:=by
 let⟨_,o,e,n⟩:=I.stack.mem c;rwa[o,e,n]
abbrev Cx.zb (X:Cx) (x:Zs):Cx:={ X with A:=X.A.mark (some ↑x),calm:=false,xe:=λ_ _=>False }
def Inv.zb (I:Inv X pins σ H s)(x:Zs):Inv (X.zb x) pins σ H s:=
 ⟨⟨I.ok.mod,I.ok.kind,I.ok.glob,I.ok.blt,I.ok.above,I.ok.inj,I.ok.has,I.ok.As,(λz=>by ext z),I.ok.frames,I.ok.Eg,I.ok.MT,I.ok.bs,I.ok.rB,I.ok.uI,I.ok.xN,I.ok.jk,I.ok.uf⟩,I.os,I.bare,I.base,I.loc,I.cell,I.free,I.gI,I.pin,I.aM,I.len⟩
def Inv.Am (ok:X.Ok)(I:Inv (X.zb x) pins σ H s):Inv X pins σ H s:=⟨ok,I.os,I.bare,I.base,I.loc,I.cell,I.free,I.gI,I.pin,I.aM,I.len⟩
def tD {M:Model}(I:Inv X pins σ H s)(Z:X.N.Nodup)(L:X.N[i]?\f)(n:X.env.scope.names.lookup f=some .local)
 (h:∀G,Inv X pins (σ.set i none) H G->U () G):wpAny M A (do bindName X.env f .none;unbindBehindTheSuite X.env f p) U E s:=by
 let⟨m,V,T⟩:=id I.loc;let u:(X.env.scope.kind==.class || (X.env.scope.kind==.module && X.env.locals !=X.env.globals))=false:=by rw[I.ok.kind];rfl
 let t:i < ⇑σ:=by rw[I.len];rwa[(ahD.mp L).1]
 rwa[wpAny_nameGoes_keeps n V u λh' v D l=>?_]
 let g:∀b o,X.eB.heap.get? b\o->b≠X.env.locals:=λb o e=>ah8 (ah5 (ahT e) I.ok.above)
 rwa[h _ ⟨I.ok,I.os,I.bare,⟨λb o e k B n=>(l.2 b (g b o e)).trans (I.base.keep b o e k B n),λb o e k B n=>?_,I.base.free,λb o e n=>?_,I.base.ie,I.base.gH,I.base.ig⟩,⟨_,D,λj y O r w Y=>?_⟩,λy c e=>?_,I.free,I.gI,λa S=>?_,λb Q e=>?_,by simpa using I.len⟩]
 ·let⟨P,r⟩:=I.base.slot b o e k B n;rwa[P,(l.2 b (g b o e)).trans r]
 ·let⟨W,r⟩:=I.base.there b o e n;rwa[W,(l.2 b (g b o e)).trans r]
 ·cases F:j=i
  ·subst F;rw[ait t]at w;ext w
  ·rw[aiZ (aiU F)]at w;let⟨R,N,q⟩:=T j y O r w Y;erw[R,N];rcases q with ⟨k,e⟩|⟨k,c,e,z⟩
   ·rwa[.inl ⟨k,?_⟩];have:y≠f:=λe=>F (uJ Z r (e ▸ L))
    simp[this,e]
   ·rwa[.inr ⟨k,c,e,z.sameBut l (I.lB y c e)⟩]
 ·let⟨J,z⟩:=I.cell y c e;rwa[J,z.sameBut l (I.lB y c e)]
 ·let⟨e,k,ne,nf,d⟩:=I.pin a S;rwa[(l.2 a.1 ne).trans e,k,ne,nf,d]
 ·rwa[(I.aM b Q e).ft (λc J hc q=>(l.2 c ?_).trans q) (λ_ q=>q) λ_ _ q=>q]
  rintro rfl;rcases hc with rfl|hc
  ·rw[I.free]at e;ext e
  ·rw[I.free]at hc;ext hc
end
abbrev XR:=Zs->St->Hp->Prop
def XP (X:Cx)(a:List (Zs×Obj))(R:XR)(e:Zt)(s:Zu):Prop:=∃x C b H,e=↑x/\Thr X a b H x C s/\R C b H
abbrev TH:=Ends->Zs->St->Hp->Prop
def yc.FX {M:Model}{x:Zs}(p:yc x a h):PySem.W.Looks M h (typeOf ↑x) ↑a:=by
 let⟨o,_,c,b,_⟩:=p;rwa[b ▸ (PySem.W.Looks.ld c).andThen .now]
end L2
namespace L2
open PySem PySem.Spec PyProof.Rows PySem.Calls PySem.W Builtin Builtin.ObjectAttr Builtin.Getset_descriptor
structure A4 (K:Za1) (C:Zs):Prop where
 ga:findIn K ↑C "__getattribute__"=some (some (.builtin "BaseException.__getattribute__"))
 gt:findIn K ↑C "__getattr__"=some none
 cl:isClsIn K C=true
 at_:findIn K ↑C "__class__"=some (some (.builtin "object.__class__"))
 gs:specialIn K (.builtin "object.__class__") "__get__"=some (some (.builtin "getset_descriptor.__get__"))
 tk:takesIn K (.builtin "object.__class__")\true
 mo:mroIn K C (.type "object")\true
 be:subIn K ↑C (.type "BaseException")\true
section
variable {prog:Program}{w:World}{A:Around}{E:Zt->Zu->Prop}{s:Zu}{K:Za1}{x C:Zs}
def zM {R:Result->Zu->Prop}(X:K.In s.heap)(e:Looks (model prog w) s.heap (typeOf ↑x) ↑C)(a:mroIn K C (.type "object")\true)
 (h:R (.ok (.ret ↑C)) s):codeAny (model prog w) A (.call (.builtin "getset_descriptor.__get__") ⟨[.builtin "object.__class__",↑x,v],[]⟩) R s:=by
 let⟨b,g,d,t,os⟩:=s;let c:=looks_mroIn (M:=model prog w) X a;rwa[aiP KF.slot_gs.plain KF.entry_gs (KF.slot_gs.check _ _ _ _ _ _ _ _ KF.type_class (KF.args_gs^_) ?_)];unfold Builtin.«getset_descriptor.__get__» descrGet;rw[dga_obj];rwa[ahy (ahF ?_)];unfold descrGetter descrCheckInstance descrNameAndClass isInstance;simp only[KF.owner_class]
 repeat lk
 rwa[⟨akS _ ⋯,akn KF.entry_class ?_⟩];unfold Builtin.«object.__class__» shownTypeOf
 repeat lk
 rwa[h]
theorem zc {M:Model}{g:Array GenState}{d:Drawn}{os:OsState}(e:Looks M h (typeOf ↑x) ↑C)(b:Looks M h (isSubtype ↑C (.type "BaseException")) true)(f:U () ⟨h,g,d,n,os⟩):
 wpAny M A (checkBuiltinCall "BaseException.__getattribute__" ⟨[↑x,v],[]⟩) U E ⟨h,g,d,n,os⟩:=by
 let a:builtinKind "BaseException.__getattribute__"=some .slot:=⋯
 let hsplit:splitId "BaseException.__getattribute__"=some ("BaseException","__getattribute__"):=⋯
 let i:=F.args_bexc_ga ↑x v;let c:Looks M h (isInstance ↑x (.type "BaseException")) true:=e.andThen b;simp only[checkBuiltinCall,a,hsplit];rwa[ahy (c.at ?_)]
 repeat (any_goals (first|assumption|wp_step))
theorem HN {Q:Zl->Zu->Prop}(X:K.In s.heap)(p:yc x C s.heap)(l:A4 K C)(h:Q (some ↑C) { s with toks:=s.toks+ 1 }):(prog<|>w) A (getAttr? ↑x "__class__") Q E s:=by
 let⟨i,e,B,r,o,c,q,k⟩:=l;let⟨a,g,d,t,os⟩:=s;let j:Looks (model prog w) a (typeOf ↑x) ↑C:=p.FX;let v:=looks_findIn (M:=model prog w) X i;let L2:=looks_findIn (M:=model prog w) X e;let n:Looks (model prog w) a (isSubtype ↑C (.type "BaseException")) true:=looks_subIn X k;let y:=looks_findIn (M:=model prog w) X r;let m:Looks (model prog w) a (getOf (some (.builtin "object.__class__"))) (some (.builtin "getset_descriptor.__get__")):=looks_specialIn X o;let Lt:=looks_takesIn (M:=model prog w) X c
 let z:Looks (model prog w) a (find ↑x ↑C "__class__") (.bind (.builtin "getset_descriptor.__get__") (.builtin "object.__class__")):=
  y.andThen (m.andThen ((show Looks (model prog w) a (dataDescriptor? (some (.builtin "object.__class__")) (some (.builtin "getset_descriptor.__get__"))) (some (.builtin "getset_descriptor.__get__",.builtin "object.__class__")) from Lt.andThen .now).andThen (Looks.tag .now)))
 let b:(Value.builtin "BaseException.__getattribute__"==Value.builtin "object.__getattribute__")=false:=⋯
 let f:(onTheHeap (Value.ref C) && Value.builtin "BaseException.__getattribute__"==Value.builtin "object.__getattribute__")=false:=by rw[b];rfl
 let u:=F.excAttr_ValueError.ga.bind ↑x;unfold getAttr? getAttrBy? getAttrBy;rwa[ahy (wpAny_mkText (ahy (aj7 (aiw (ahy (j.at (ahy (v.at ?_))))))))];dsimp only;rw[ahY (by rw[f];decide)];unfold getAttrByItsOwn hookBefore;rw[ah4 (show onTheHeap (Value.ref C)=true from rfl)];rwa[ahy (L2.at (ahy (aj7 (aiw ?_))))];unfold callGetattribute boundAndCalled;rw[ahY ⋯,u];rwa[ahy (ahF ?_)];show wpAny _ _ (call (.builtin "BaseException.__getattribute__") [↑x,.str "__class__" t]) _ _ _;rwa[ajt (aiP F.excAttr_ValueError.ga.plain F.entry_bexc_ga (zc j n ?_))];unfold Builtin.«object.__getattribute__»
 repeat (any_goals (first|with_reducible rwa[ajt (zM (s:=⟨a,g,d,t+ 1,os⟩) X j q ?_)]|lk))
 rwa[h]
def K2 (b:A4 K C):KitX K ↑x ↑C (yc x C) where
 ty:=λ_ _ _ p=>p.FX
 it:=λ_ _ X _=>by
  let a:(clsIn K C).isSome=true:=b.cl;unfold clsIn at a;split at a
  ·rename_i i l c g d;intro u y r o k q;unfold isType loadHead;rwa[ahy (wpAny_loadPart (k^X^d) (ahF q))]
  ·ext a
 ne:=λh m v j n t X f=>by
  let a:(clsIn K C).isSome=true:=b.cl;rwa[Bool.eq_false_iff.mpr λq=>?_]
  let e:C=m:=Value.ref.inj (ajW.mp q);subst e;unfold clsIn at a;split at a
  ·rename_i i l c g d;let z:=(X^d).symm.trans f;ext z
  cbv
 ca:=λX p h=>HN X p b h
end
def Xm:V->Zl
 |.ref a=>some ↑a
 |.ty n=>some (.type n)
 |_=>none
def Py (h:Xm q\u)(r:RelV q v):v=u:=by
 cases q <;> first|(ext h;rwa[r])|ext h
end L2
namespace L2
open PySem PySem.Spec PyProof.Rows
def Pz:bootBuiltins "ValueError"=some (.type "ValueError"):=by decide
section
variable {P:Program}{w:World}{K:Za1}{mg:Str->Zl}{base:Heap}
theorem rE.okN {h:lC}{qual:Str}{st:Stmt}{fd:FuncData}{e:Zp}{k:Nat}{sp:Sp}(F:rE K x qual st a fd)(S:aT Z e (aB st))(len:∀c H Q E,sp c H Q E->⇑c=⇑e)
 (d:∀(b:Zt) (A:Around) (outer:Zq) (s:Zu) (H:Hp) (c:Zb) (Q:VK) (E:XK),cw k (A.deeper (envOfC qual (aB st) ↥s a b))->sp c H Q E->
  ∃t,iS (cF h P w K mg base Z qual (aB st) a b A outer s H E).qD (bW st) t/\t { nx:=λ_ m=>Q .non m,rt:=Q } (start Z c) H):du P w K mg base h (k+ 1) a fd e sp:=by
 let⟨o,q,kV,doc,pm,p,b,ct,n,rfl,lk,g⟩:=F.ex;rwa[Al lk g S len λA outer s H c Q E l f=>?_]
 let⟨t,j,i⟩:=d b A outer s H c Q E l f;rwa[t,j.qD,i]
end
section
variable {prog:Program}{w:World}{A:Around}{R:Result->Zu->Prop}{s:Zu}
def zN {elt target iter:Expr}{scope:Scope}{it acc:Zt}{env:Env}(I:Nat->Zu->Prop)
 (turn:∀n s,I n s->(prog<|>w) A (pyNext it) (λr d=>match r with
  |none=>R (.ok .next) d
  |some v=>(prog<|>w) A (letOwnedTupleGo target it v) (λ_ i=>(prog<|>w) A (assign target env v) (λ_ l=>(prog<|>w) A (isTrue e env (eval e env)) (λb c=>
   match b with
   |true=>(prog<|>w) A (eval elt env) (λx j=>(prog<|>w) A (call (.builtin "list.append") [acc,x]) (λ_ g=>∃m,m<n/\I m g) (λ_ _=>False) j) (λ_ _=>False) c
   |false=>∃m,m<n/\I m c) (λ_ _=>False) l) (λ_ _=>False) i) (λ_ _=>False) d) (λ_ _=>False) s)
 (n:Nat) (h:I n s):codeAny (model prog w) A (.compLoop (.ListComp elt [⟨target,iter,[e],(0)⟩] scope p) 0 it acc env) R s:=by
 rwa[codeAny_loop rfl I (λn s y=>?_) n h];rwa[wpAny_noted ?_];rwa[ahy (akr (ahy (aiv (turn n s y) (λr d f=>?_) λ_ _ a=>a.elim)))]
 cases r with
 |none=>exact ahF f
 |some v=>
  rwa[ahy (aiv f (λ_ i u=>?_) λ_ _ a=>a.elim)];rwa[ahy (aiv u (λ_ l q=>ahy (wpAny_tests_one (aiv q (λok j k=>?_) λ_ _ a=>a.elim))) λ_ _ a=>a.elim)]
  cases ok with
  |false=>exact ahF ⟨2,k⟩
  |true=>
   rwa[ahy (ahy (aiv k (λx g o=>ahy (aiv o (λ_ c t=>ahF (ahF ⟨2,t⟩)) λ_ _ a=>a.elim)) λ_ _ a=>a.elim))]
end
def K3 (k:TT)(g:TE)(e:St)(Q:VK)(J:It)(h:Hp):Prop:=∃W:Nat->Nat->Zb->Hp->Prop,(∃m,W 0 m [] h)/\∀i m ys a,W i m ys a->
 (J.stop i a/\⇑ys<=sizeLine/\∀D,a D=none->Q ↑D (upd a D (.lst ys)))\/
 (J.go i a/\⇑ys<sizeLine/\∀x f,J.mj i a x f->k (some x::e) f λb d=>match b with
  |true=>g (some x::e) d λy j=>∃c,c<m/\W (i+ 1) c (ys++[y]) j
  |false=>∃c,c<m/\W (i+ 1) c ys d)
def oK (b:TI)(e:St->St)(d:TT)(c:TE):TE:=λ a H Q=>b a H (K3 d c (e a) Q)
end L2
namespace L2
open PySem PySem.Spec PyProof.Rows
def K4 {x:Int}(b:0<=x)(a:x<=100000):¬(!Builtin.List.listFitsIndex x)=true:=by
 have:Builtin.List.listFitsIndex x=true:=by
  unfold Builtin.List.listFitsIndex;simp;ext
 cbv
noncomputable def Sn (x:Int)(a:Zt):Zm->Zm:=λxs=>have k:=if x<0 then (x+ ((xs.size:Nat):Int)).toNat else min x.toNat xs.size;(xs.extract 0 k).push a++xs.extract k
def HP (l:Zs)(a:Zk)(n:Nat)(x:Int)(t:Tok)(b:Zt)(e:0<=x)(d:x<=100000)(c:a.toArray.size<=sizeLine):
 Meets (Builtin.«list.insert» ⟨[↑l,.int x t,b],[]⟩) (λ_ R s=>s•l\{ cls:=.type "list",dict:=none,data:=.seq a.toArray n,slots:=#[] }/\R (.ok (.ret Value.none)) { s with heap:=s.heap.update l (Obj.mapSeq (Sn x b)),toks:=s.toks }):=
 PySem.AutoListH.list_insert_list_int_val_1 l a.toArray n x t b (K4 e d) c
def PB {w':Zt}(b:i<=⇑N):Sn (i:Int) w' N.toArray=(N.take i++[w']++N.drop i).toArray:=by
 let a:(if (i:Int)<0 then ((i:Int)+ ((N.toArray.size:Nat):Int)).toNat else min (i:Int).toNat N.toArray.size)=i:=by
  rw[ahY ∅,ahS,aic];ext
 show (N.toArray.extract 0 (if (i:Int)<0 then ((i:Int)+ ((N.toArray.size:Nat):Int)).toNat else min (i:Int).toNat N.toArray.size)).push w'++N.toArray.extract (if (i:Int)<0 then ((i:Int)+ ((N.toArray.size:Nat):Int)).toNat else min (i:Int).toNat N.toArray.size)=_
 cbv
section
variable {X:Cx}
inductive ED (x:V) (vs:Zb) (H:Hp) (Q:VK):Prop
 |mk (l:Zs) (xs:Zb) (i:Nat) (y:V):x=↑l->vs=[.int i,y]->H l\.lst xs->⇑xs<sizeLine->i<=⇑xs->i<=100000->Q .non (upd H l (.lst (xs.take i++[y]++xs.drop i)))->ED x vs H Q
theorem yd:Eu X "list.insert" ED:=by
 intro j s L H x D v N Q I w o h;let⟨l,xs,i,y,rfl,rfl,g,p,G,m,q⟩:=h;ext w;let⟨u,b,rfl,⟨t,rfl⟩,A⟩:=vals2 o;let⟨z,a,n,r,E,e⟩:=I.pX g;let rl:=⇑r
 let c:a.toArray.size<=sizeLine:=by
  rw[ahS,<-rl];rwa[akF p]
 let B:Vals (xs.take i++[y]++xs.drop i) (a.take i++[b]++a.drop i):=((r.take i).append (.cons A .nil)).append (r.drop i)
 let hlen:⇑(xs.take i++[y]++xs.drop i)<=sizeLine:=by
  simp only[ahA,aif,aiC,ah0,ajd];ext
 let J:=I.AJ (t':=s.toks) g e (PB (w':=b) (show i<=⇑a by omega)) B hlen;let d:(0:Int)<=(i:Int):=Int.natCast_nonneg i;let f:(i:Int)<=100000:=∅
 change (i:Int)=k at d f J ⊢;let M:=HP l a n k t b d f c;rwa[akK F.slot_list_insert ⟨_,e,2⟩ F.entry_list_insert (F.args_list_insert_3^_) M ⟨e,5⟩];rwa[.non,_,J,2,q]
end
end L2
namespace L2
open PySem PySem.Spec PyProof.Rows
def mz (h:n∈B):∃i:Nat,B[i]?\n/\∀j,j<i->B[j]?≠some n:=by
 induction B with
 |nil=>ext h
 |cons a B b=>
  cases e:a=n
  ·rwa[(0),by rw[e];rfl,λj c=>∅]
  ·let⟨i,f,d⟩:=b ((ahR.mp h).resolve_left (aiU e));rwa[⟨i+ 1,f,λj c=>?_⟩]
   cases j with
   |zero=>exact λz=>e (Za0 z)
   |succ j=>exact d j ∅
inductive Wi (x:V) (y:V) (H:Hp) (Q:VK):Prop
 |mk (a b:Zs) (ns ms:Zg):x=↑a->y=↑b->H a\.lst (ao ns)->H b\.lst (ao ms)->Q (.bl (decide (ns=ms))) H->Wi x y H Q
noncomputable def eX (lo:Int)(n:Nat):Zg:=(~~~n).map λi:Nat=>lo+ (i:Int)
def oM (lo:Int)(n:Nat):⇑(eX lo n)=n:=by unfold eX;cbv
def Sq {lo:Int}(h:i<n):(eX lo n)[i]?\(lo+ (i:Int)):=by
 unfold eX;rw[ahZ,akD h];rfl
theorem A5:∀(zs:Zg) (us:Zk),⇑us=⇑zs->(∀(i:Nat) (z:Int) (u:Zt),zs[i]?\z->us[i]?\u->∃t,u=.int z t)->Vals (ao zs) us
 |[],[],_,_=>.nil
 |z::zs,u::us,a,h=>.cons (h 0 z u rfl rfl) (A5 zs us (by simpa using a) λi z u c b=>h (i+ 1) z u c b)
 |[],_::_,a,_=>by simp at a
 |_::_,[],a,_=>by simp at a
def FY {lo:Int}{acc:Zm}(h:ItemsOf (λi v=>∃t,v=Value.int (lo + (i:Int)* 1) t) acc n):Vals (ao (eX lo n)) acc.toList:=by
 rwa[A5 _ _ ?_ λi z u a c=>?_]
 ·rw[oM,ai6];rwa[h.1]
 ·let b:i<n:=by
   have:=(ahD.mp a).1;rw[oM]at this;rwa[this]
  rw[Sq b]at a;let⟨t,e⟩:=h.2 i u (by cbv)
  cbv
section
variable {X:Cx}{a:Expr}{ta:TA}{p p2 pos A6:Pos}
def aaL (ta:TA):TE:=λ e H Q=>ta e H λd c=>∃j:Nat,d=[.int j]/\j<=10000/\∀l,c l=none->Q ↑l (upd c l (.lst (ao (eX 0 j))))
def list_range {Q:VK}{lo:Int}{t u v:Tok}(k:X.calm=true)(I:Inv X o D H s)(A:0<=lo)(m:lo<=10000)(B:0<=z)(y:z<=10000)
 (q:∀l,H l=none->Q ↑l (upd H l (.lst (ao (eX lo (z - lo).toNat))))):X⁻¹ X.A (call (.type "list") [↑↥s]) (EP X o D Q) X.xe { s with heap:=s.heap.push ("range">>>.fields #[.int lo t,.int z u,.int 1 v]),toks:=n }:=by
 let i:Inv X o D H { s with heap:=s.heap.push ("range">>>.fields #[.int lo t,.int z u,.int 1 v]),toks:=n }:=I.kept λb c e=>ahz _ e
 let g:Builtin.Range.rangeSize lo z 1=(((z - lo).toNat:Nat):Int):=by rw[rangeSize_one];split <;> ext
 rwa[call_list_range (n:=(z - lo).toNat) (I.ok.hd k) (IsRange.new ..) (small_one ∅ ∅ ∅ ∅) g ∅ λx h f j kp w hit=>?_]
 rwa[⟨↑_,_,i.laid (t':=h) (o:=.lst (ao (eX lo (z - lo).toNat))) kp (ahG _) ⟨5,f.toList,j,FY hit,5⟩,2,q _ (i.aM.fresh (ahG _))⟩]
 ·rw[aO,oM];rwa[ahP (show (z - lo).toNat<=10000 by omega) ⋯]
 ext
def qG (x:X.calm=true)(g:Gl X "list")(f:X.mg "list"=none)(k:Gl X "range")(v:X.mg "range"=none)(w:PA X [a] ta)(o:starEach [a] X.env=[(false,eval a X.env)]:=by rfl)
 (d:starEach [.Call (.Name "range" p) [a] [] pos] X.env=[(false,eval (.Call (.Name "range" p) [a] [] pos) X.env)]:=by rfl):PE X (.Call (.Name "list" p2) [.Call (.Name "range" p) [a] [] pos] [] A6) (aaL ta):=by
 intro c s u H Q I h;rwa[aiz (gT I g f boot_list ?_)];rwa[aiA ?_ d rfl];rw[d];show wpAny _ _ (spliced ((false,eval (.Call (.Name "range" p) [a] [] pos) X.env)::backTo A6 [])) _ _ s;rwa[aiq ?_];rwa[Call_ (gT I k v boot_range (aiA (aY (w pos c s u H _ I h) λB A ζ=>?_) o rfl))];let⟨y,z,l,i,m⟩:=ζ;let⟨j,e,C,q⟩:=m;subst e
 cases i with
 |cons r n=>
  ext n;let⟨t,rfl⟩:=r;rwa[call_range_1 (aiX ?_)];rwa[list_range x l ∅ ∅ ∅ ∅ (by simpa using q)]
end
def dO (H:Hp)(rs:Zn)(rows:Za3):Prop:=⇑rs=⇑rows/\∀(i:Nat) (r:Zs) (a:Zg),rs[i]?\r->rows[i]?\a->H r\(.lst (ao a))
def TabAt (H:Hp)(a:Zs)(rows:Za3):Prop:=∃rs:Zn,H a\.lst (rs.map V.ref)/\dO H rs rows
def dO.same {rs:Zn}{rows:Za3}(h:dO H rs rows)(s:aq H I):dO I rs rows:=⟨h.1,λi r ns b a=>s^h.2 i r ns b a⟩
def TabAt.same {rows:Za3}(h:TabAt H a rows)(s:aq H I):TabAt I a rows:=by
 let⟨rs,c,b⟩:=h;rwa[rs,s^c,b.same s]
def rM {rs:Zn}:∀{a:Zk},Vals (rs.map V.ref) a->a=rs.map Value.ref:=by
 induction rs with
 |nil=>intro a r;ext r;rfl
 |cons c rs b=>
  intro a r
  cases r with
  |cons e d=>ext e;rw[b d];rfl
def ye {a:Type} [DecidableEq a]{ns ms:List a}(h:⇑ns=⇑ms):(List.range ⇑ns).all (λj=>decide (ns[j]?=ms[j]?))=decide (ns=ms):=by
 rw[aiV,List.all_eq_true,aio];constructor
 ·intro b;rwa[ajX λi=>?_]
  cbv
 cbv
section
variable {X:Cx}{pins:List (Zs×Obj)}{σ:St}{H:Hp}{s:Zu}{A:Around}
def PD (I:Inv X pins σ H s){r q:Zs}{ns ms:Zg}(o:H r\.lst (ao ns))(l:H q\.lst (ao ms))(f:A.units<cLine):SeqAt.RcAt A s ↑r ↑q (decide (ns=ms)):=by
 let⟨m,b,c,_⟩:=I.list (aH.of o);let⟨h,g,a,_⟩:=I.list (aH.of l);let i:=⇑b;let p:=⇑g;rw[aO]at i p;cases d:⇑ns=⇑ms
 ·have:=SeqAt.RcAt.lists (A:=A) (e:=λj=>decide (ns[j]?=ms[j]?)) c.isList a.isList (by cbv) f (λj n k=>xY b g j n k);rw[ahS,<-i,ye d]at this;ext
 ·let e:decide (ns=ms)=false:=aik (λz=>d (by rw[z]));rw[e];rwa[SeqAt.RcAt.lists_lengths c.isList a.isList ?_ f]
  cbv
def PF (I:Inv X pins σ H s){r q:Zs}{f d:Zg}(g:H r\.lst (ao f))(c:H q\.lst (ao d))(h:A.units<cLine):SeqAt.EqAt A s ↑r ↑q (decide (f=d)):=by
 cases e:r=q
 ·subst e
  have:f=d:=by
   rw[g]at c;injection c with c
   injection c with c
   unfold ao at c;rwa[(List.map_inj_right (λa b z=>V.int.inj z)).mp c]
  rw[ah9 this];rwa[SeqAt.EqAt.same _]
 ·rwa[SeqAt.EqAt.of_refs e (PD I g c h)]
def FZ (I:Inv X pins σ H s){rs a:Zn}{ns ms:Za3}(g:dO H rs ns)(e:dO H a ms)(n:A.units<cLine)(j:Nat)(m:j<(rs.map Value.ref).toArray.size)(i:j<(a.map Value.ref).toArray.size):
 SeqAt.EqAt A s (rs.map Value.ref).toArray[j] (a.map Value.ref).toArray[j] (decide (ns[j]?=ms[j]?)):=by
 let f:j<⇑rs:=by simpa using m
 let c:j<⇑a:=by simpa using i
 let b:j<⇑ns:=by rw[<-g.1];rwa[f]
 let d:j<⇑ms:=by rw[<-e.1];rwa[c]
 let h:(rs.map Value.ref).toArray[j]=↑rs[j]:=by simp
 let o:(a.map Value.ref).toArray[j]=↑a[j]:=by simp
 rw[h,o];let k:=g.2 j rs[j] ns[j] (ahC f) (ahC b);let l:=e.2 j a[j] ms[j] (ahC c) (ahC d);have:=PF (A:=A) I k l n;rw[ahC b,ahC d]
 let p:decide (some ns[j]=some ms[j])=decide (ns[j]=ms[j]):=by
  rw[aiV,aio,aio];rwa[Za0,aiN some]
 rw[p];rwa[this]
end
section
variable {X:Cx}
inductive Wj (x:V) (y:V) (H:Hp) (Q:VK):Prop
 |mk (a b:Zs) (ns ms:Za3):x=↑a->y=↑b->TabAt H a ns->TabAt H b ms->Q (.bl (decide (ns=ms))) H->Wj x y H Q
inductive Np (x:V) (y:V) (H:Hp) (Q:VK):Prop
 |mk (a b:Zs) (ns ms:Za3):x=↑a->y=↑b->TabAt H a ns->TabAt H b ms->Q (.bl (!decide (ns=ms))) H->Np x y H Q
def PH (w:X.A.units+ 1<cLine):fz X (compareOp .NotEq) Np:=by
 intro k s J H x y v u Q I A B h;let⟨a,b,ns,ms,rfl,rfl,⟨F,E,c⟩,⟨G,o,d⟩,q⟩:=h;ext A;ext B;let⟨p,n,i,_⟩:=I.list (aH.of E);let⟨l,C,g,_⟩:=I.list (aH.of o);let D:=rM n;let t:=rM C;subst D t;cases f:⇑ns=⇑ms
 ·rwa[SeqAt.RcNeAt.lists (e:=λj=>decide (ns[j]?=ms[j]?)) i.isList g.isList (by simp[c.1,d.1,f]) ∅ (λj r m=>FZ I c d w j r m) X.prog X.w X.xe _ ⟨.bl (!decide (ns=ms)),H,I,5,q⟩];show _=Value.bool (!decide (ns=ms));rw[ahS,ahE,c.1,ye f]
 ·let e:decide (ns=ms)=false:=aik (λz=>f (by rw[z]));rw[e]at q;rwa[SeqAt.RcNeAt.lists_lengths i.isList g.isList ?_ ∅ X.prog X.w X.xe _ ⟨.bl true,H,I,2,q⟩];simp[c.1,d.1,f]
inductive Nq (x:V) (y:V) (H:Hp) (Q:VK):Prop
 |mk (a b:Zs) (ns ms:Zg):x=↑a->y=↑b->H a\.lst (ao ns)->H b\.lst (ao ms)->Q (.bl (!decide (ns=ms))) H->Nq x y H Q
def EE (i:X.A.units<cLine):fz X (compareOp .NotEq) Nq:=by
 intro k s D H x y v u Q I w A h;let⟨a,b,ns,ms,rfl,rfl,B,p,q⟩:=h;ext w;ext A;let⟨r,d,f,_⟩:=I.list (aH.of B);let⟨m,l,c,_⟩:=I.list (aH.of p);let n:=⇑d;let C:=⇑l;rw[aO]at n C;cases g:⇑ns=⇑ms
 ·rwa[SeqAt.RcNeAt.lists (e:=λj=>decide (ns[j]?=ms[j]?)) f.isList c.isList (by cbv) i (λj t o=>xY d l j t o) X.prog X.w X.xe _ ⟨.bl (!decide (ns=ms)),H,I,5,q⟩];show _=Value.bool (!decide (ns=ms));rw[ahS,<-n,ye g]
 ·let e:decide (ns=ms)=false:=aik (λz=>g (by rw[z]));rw[e]at q;rwa[SeqAt.RcNeAt.lists_lengths f.isList c.isList ?_ i X.prog X.w X.xe _ ⟨.bl true,H,I,2,q⟩]
  cbv
inductive Wk (xs:Zb) (H:Hp) (Q:VK):Prop
 |mk (b:Bool):xs=[.bl b]->Q (.int (if b=true then 1 else 0)) H->Wk xs H Q
def A7 (h:X.K=K):Hr X (Ky K):=by subst h;rwa[bS]
def EF (h:X.K=K):Hr X (Kz K):=by subst h;rwa[dZ]
def zO (h:X.K=K):je X (.builtin "len") (FV K):=by subst h;rwa[bL]
def jL {z:Str}{scope:Scope}(g:closureFor scope X.env=pure [(f,c),(z,d)])(C:X.env.cells.lookup f\c)(B:X.env.cells.lookup z\d)(r:∀q∈scope.names,q.2≠.cell)(t:scope.kind=.function)
 (y:∀q∈scope.names,q.2=.local->scope.names.lookup q.1=some .local) (v:scope.names.lookup x=some .local) (a:∀q∈scope.names,q.2=.free->q.1=f\/q.1=z) (b:x≠f/\x≠z/\f≠z) (u:X.N[i]?\f) (A:X.N[j]?\z)
 (l:X.env.kindOf f=some .cell) (m:X.env.kindOf z=some .cell) (n:X.env.scope.kind=.function) (o:scope.names.lookup f=some .free) (p:scope.names.lookup z=some .free):eh X x [f,z] [i,j] scope [(f,c),(z,d)] where
 AQ:=g
 sub:=λw e h=>by
  cbv
 cell:=r
 kind:=t
 names:=y
 own:=v
 has:=λw h=>by
  let e:w=f\/w=z:=by
   rcases h with h|h
   ·rwa[a _ (g9 h (.inl rfl) r) rfl]
   ·rwa[a _ (g9 h (.inr rfl) r) rfl]
  cbv
 nd:=by simp[b.1,b.2.1,b.2.2]
 len:=rfl
 at_:=λk w h=>by
  match k,h with
  |0,h=>
   let e:f=w:=by simpa using h
   subst e;rwa[i,2,u,.inl l,c,by simp[ajI],.inl (cU n l o)]
  |1,h=>
   let e:z=w:=by simpa using h
   subst e;let s:(z==f)=false:=ahX.mpr (λq=>b.2.2 q.symm);rwa[j,2,A,.inl m,d,by simp[ajI,s],.inl (cU n m p)]
  |k+ 2,h=>simp at h
end
def cf (H:Hp)(a:Zn)(ws:Za3):Prop:=⇑a=⇑ws/\∀(i:Nat) (p:Zs) (w:Zg),a[i]?\p->ws[i]?\w->H p\(.tup (ao w))
def bX (H:Hp)(a:Zs)(c:Za3):Prop:=∃b:Zn,H a\.lst (b.map V.ref)/\cf H b c
def cf.keep {ws:Za3}(h:cf H F ws)(s:∀p a,H p\.tup a->I p\.tup a):cf I F ws:=⟨h.1,λi p w c b=>s^h.2 i p w c b⟩
def cf.same {ws:Za3}(h:cf H F ws)(s:aq H I):cf I F ws:=h.keep λp a e=>s^e
def bX.same {ws:Za3}(h:bX H a ws)(s:aq H I):bX I a ws:=by
 let⟨b,d,c⟩:=h;rwa[b,s^d,c.same s]
def cf.snoc {ps:Zn}{ws:Za3}(h:cf H ps ws)(e:H a\.tup (ao l)):cf H (ps++[a]) (ws++[l]):=by
 rwa[⟨by rw[ahA,ahA,h.1];rfl,λi q u c b=>?_⟩];cases d:i<⇑ps
 ·rw[ahN d]at c;rw[ahN (by rw[<-h.1];rwa[d])]at b;rwa[h.2 i q u c b]
 ·rw[ahO ∅]at c;rw[ahO (by rw[<-h.1];omega)]at b;rw[ahH.mp (ahB c),ahH.mp (ahB b)];rwa[e]
inductive Wm (x:V) (y:V) (H:Hp) (Q:VK):Prop
 |mk (a b:Zs) (ns ms:Za3):x=↑a->y=↑b->bX H a ns->bX H b ms->Q (.bl (decide (ns=ms))) H->Wm x y H Q
section
variable {X:Cx}
inductive Wn (x:V) (y:V) (H:Hp) (Q:VK):Prop
 |mk (k:Int) (a:Zs) (ns:Zg):x=.int k->y=↑a->H a\.lst (ao ns)->Q (.bl (decide (k∈ns))) H->Wn x y H Q
inductive K5 (x:V) (y:V) (H:Hp) (Q:VK):Prop
 |mk (k:Int) (a:Zs) (ns:Zg):x=.int k->y=↑a->H a\.lst (ao ns)->Q (.bl (!decide (k∈ns))) H->K5 x y H Q
noncomputable def isInt (k:Int):Zt->Bool
 |.int z _=>z==k
 |_=>false
inductive EG (x:V) (vs:Zb) (H:Hp) (Q:VK):Prop
 |mk (a:Zs) (ns:Zg) (k:Int):x=↑a->vs=[.int k]->H a\.lst (ao ns)->k∈ns->(∀i:Nat,ns[i]?\k->(∀j,j<i->ns[j]?≠some k)->Q (.int i) H)->EG x vs H Q
def HQ (h:z∈l):∃i:Nat,l[i]?\z/\∀j,j<i->l[j]?≠some z:=by
 induction l with
 |nil=>ext h
 |cons a l c=>
  cases e:a=z
  ·rwa[(0),by rw[e];rfl,λj d=>∅]
  ·let⟨i,g,f⟩:=c ((ahR.mp h).resolve_left (aiU e));rwa[⟨i+ 1,g,λj d=>?_⟩]
   cases j with
   |zero=>exact λb=>e (Za0 b)
   |succ j=>exact f j ∅
theorem zP:Eu X "list.index" EG:=by
 intro B s R H x O v S Q I L C h;let⟨a,ns,k,rfl,rfl,J,d,q⟩:=h;ext L;let⟨u,rfl,M⟩:=C.one;let⟨t,rfl⟩:=M;let⟨z,b,n,r,E,e⟩:=I.pX J;rw[aO]at z E;let⟨i,o,A⟩:=HQ d;let P:i<⇑ns:=(ahD.mp o).1
 let at_:∀(m:Nat) (d:m<b.toArray.size),isInt k b.toArray[m]=decide (ns[m]?\k):=λm d=>by
  let c:m<⇑b:=by simpa using d
  let g:ns[m]?\(ns[m]'∅):=ahC ∅
  let⟨w,p,f,rfl⟩:=r.get (cQ g)
  let l:b.toArray[m]=Value.int (ns[m]'∅) f:=by
   rw[List.getElem_toArray];rwa[Za0 ((ahC c).symm.trans p)]
  rw[l,g];show (ns[m]'∅==k)=_;rw[aiV,ajW,aio];rwa[λz=>by rw[z],λz=>Za0 z]
 let D:(sizeLine:Nat)<2 ^ 62:=⋯
 refine akK F.slot_list_index ⟨_,e,2⟩ F.entry_list_index (F.args_list_index_2 _ _)
  (SeqAt.list_indexAt a b.toArray n none #[] (.int k t) (isInt k) i (by rw[ahS];omega) ∅ ([at_]▸ah9 o) (λm d j=>[at_]▸aik (A m j))) ⟨e,λy G=>?_,5⟩
 ·let⟨m,d,N⟩:=ajw.mp (Array.mem_toList_iff.mpr G);let c:m<⇑b:=by simpa using d
  let g:ns[m]?\(ns[m]'∅):=ahC ∅
  let⟨w,p,f,rfl⟩:=r.get (cQ g)
  let l:y=Value.int (ns[m]'∅) f:=by
   rw[<-N];rwa[Za0 ((ahC c).symm.trans p)]
  rw[l];rwa[SeqAt.EqAt.int_int _ f k t]
 ·rwa[.int i,H,I.tok _,⟨12⟩,q i o A]
end
def A8 (K:Za1)(a:Zs):It:=
 ⟨λi H=>∃xs x,aH K H a xs/\xs[i]?\x,λi H x b=>∃p v,H p=none/\(∀ys,aH K H a ys->ys[i]?\v)/\x=↑p/\b=upd H p (.tup [.int (i:Int),v]),λi H=>∃xs,aH K H a xs/\⇑xs=i⟩
def oN {o u:Obj}(c:h.get? a\o)(d:h.get? b\u)(e:o.cls≠u.cls):a≠b:=λz=>by
 cbv
theorem F0 {elts:Zr}{x1:Nat}{tp:Pos}(e it a:Zs)(Z:e≠it):
 Turn P w K (.Tuple elts x1 tp) (A8 K a) [e,it] e (λi h=>(∃c,IsEnum h e it (i:Int) c)/\h.IsListIter it a i) where
 mem:=by simp
 obj:=λi h st b f=>by
  let⟨⟨c,l⟩,o,ho,L,hd⟩:=st
  cbv
 keep:=λi h h' st k=>by
  let⟨⟨c,l⟩,hl⟩:=st;rwa[⟨c,k e (by simp) _ l⟩,hl.at λo e=>k it (by simp) o e]
 item:=by
  intro X hP hw hK L i C s σ H E I M st U;subst hP hw hK;let⟨⟨c,l⟩,g⟩:=st;let⟨xs,x,N,J⟩:=U;let⟨d,V,p,hz⟩:=I.list N;let⟨u,hu,ru⟩:=V.get J;let hit:=p.isList;let⟨o1,n,lD,HR⟩:=id hit;let⟨o2,m,Y,hd2⟩:=id g;let r:a≠it:=oN n m (by cbv);let hea:e≠a:=oN l n (by cbv);let D:=Draws.list (prog:=X.prog) (w:=X.w) (A:=X.A.in1) (I.ok.hd L) it a r d.toArray;let EH:e<↥s:=ahT l;let Xn:i<⇑d:=(ahD.mp hu).1;rwa[En.y9 D l ⟨g,hit⟩ ∅ Z (by cbv) λy h' S W ho Sr v hk=>?_]
  let ey:u=y:=by
   let h2:d[i]?\y:=by simpa using W
   rwa[Za0 (hu.symm.trans h2)]
  subst ey;erw[12];rwa[wpAny_letOwnedTupleGo_enum ho λt he' j=>?_]
  let O:t.get? ↥s\("tuple">>>.seq #[.int (i:Int) S,u]):=(j.2 _ (aiO EH)).trans v
  let R:∀b G,b∉[e,it]->s•b\G->t.get? b\G:=λb G f q=>by
   let h1:b≠e:=λz=>f (by simp[z])
   let h2:b≠it:=λz=>f (by simp[z])
   rwa[(j.2 b h1).trans (hk b G h1 h2 q)]
  let Ss:=I.aM.fresh (ahG ↥s);rwa[⟨↑↥s,_,I.uS (fp:=[e,it]) (a:=↥s) (o:=.tup [.int (i:Int),x]) (h':=t) (t':=S+ 1) R M (ahG _) ?_,2,⟨_,x,Ss,λys hy=>[I.uK hy N]▸J,22⟩,⟨⟨u,5⟩,5⟩,λb f=>?_⟩]
  ·rwa[Za4 2,[.int (i:Int) S,u],.cons ⟨12⟩ (.cons ru .nil),_,O,212]
  ·cbv
  ·exact(D.frame _ _ _ Sr λb f o q=>(j.2 b (by
    cbv)).trans q).1
  ·rw[ak]
   ·rwa[(M b f).1]
   ·intro z;subst z;rcases ahR.mp f with z|f
    ·cbv
    ·rwa[absurd (ahT m) (by rw[<-ahH.mp f];rwa[aiR _])]
 done:=by
  intro X hP hw hK L i C s σ H E I M st U;subst hP hw hK;let⟨⟨c,l⟩,g⟩:=st;let⟨xs,N,J⟩:=U;let⟨d,V,p,hz⟩:=I.list N;let hit:=p.isList;let⟨o1,n,lD,HR⟩:=id hit;let⟨o2,m,Y,hd2⟩:=id g;let r:a≠it:=oN n m (by cbv);let D:=Draws.list (prog:=X.prog) (w:=X.w) (A:=X.A.in1) (I.ok.hd L) it a r d.toArray;let T:d.toArray.size=i:=by rw[ahS,<-⇑V];rwa[J]
  rwa[wpAny_pyNext_enum_endD D l ([T]▸⟨g,hit⟩) λh' eb=>⟨2,I.yb (fp:=[e,it]) (t':=s.toks) (λb o f q=>eb b o (λz=>f (by simp[z])) q) M⟩]
 self:=λA i s Q E st h=>by
  let⟨⟨c,l⟩,_⟩:=st;let v:s.TypeIs ↑e "enumerate":=⟨_,l,2⟩;rwa[wpAny_pyIter_slot v ako (aiJ ako v F.entry_enumerate_iter ?_ (F.args_enumerate_iter_1 _))];show wpAny _ _ (ret ↑e) _ _ s;rwa[ahF ⟨12,"enumerate",_,v,akm.lookup,h⟩]
section
variable {X:Cx}
def Sv (K:Za1)(e:TA):TI:=λ f H R=>e f H λc b=>∃a,c=[↑a]/\(∃d,aH K b a d)/\R (A8 K a) b
def K6 {m:TE}{elts:Zr}{c i:Pos}(x:Gl X "enumerate")(E:X.mg "enumerate"=none)(F:PE X e m)(r:starEach [e] X.env=[(false,eval e X.env)]):
 PI X (.Tuple elts n p) (.Call (.Name "enumerate" c) [e] [] i) (Sv X.K (jI m j6)):=by
 intro a s t H R I h;rwa[Call_ (gT I x E boot_enumerate (aiA (aY ((ae F aj r) i a s t H _ I h) λQ s1 ζ=>?_) r rfl))];let⟨L,o,f,v,C⟩:=ζ;let⟨l,rfl,⟨O,A⟩,q⟩:=C;let⟨u,rfl,G⟩:=vals1 v;ext G;let⟨B,M,pl,N⟩:=f.list A;rwa[call_enumerate_list pl.isList λk g hit D y=>?_]
 let z:Inv X a t o (s1<*k):=f.kept (t':=s1.toks) y;let T:=F0 (P:=X.prog) (w:=X.w) (K:=X.K) (elts:=elts) (x1:=n) (tp:=p) (↥s1+ 1) ↥s1 l (Nat.succ_ne_self _);rwa[T.self _ 0 (s1<*k) _ _ ⟨⟨_,g⟩,hit⟩ ⟨1111,o,2,z,T,⟨⟨_,g⟩,hit⟩,λb j=>?_,q⟩];rcases ahR.mp j with d|j
 ·subst d;rwa[f.pU (ajE _) (f.aM.fresh (ajE _))]
 ·rw[ahH.mp j];rwa[f.pU (ahG _) (f.aM.fresh (ahG _))]
end
def HS {xs:Zb}{g:TG}{k:TS}(b:Nat->St->Hp->Prop)(o:b 0 D H)(s:∀i D H,i<=⇑xs->b i D H->aH K H a xs)
 (u:∀i v D H p,xs[i]?\v->H p=none->b i D H->g ↑p D (upd H p (.tup [.int (i:Int),v])) λ d j=>k { G with nx:=b (i+ 1),ct:=b (i+ 1),bk:=G.nx } d j) (n:∀ D H,b ⇑xs D H->G.nx D H):
 ∃W:Nat->Nat->St->Hp->Prop,(∃m,W 0 m D H)/\∀i m D H,W i m D H->
  ((A8 K a).stop i H/\G.nx D H)\/((A8 K a).go i H/\∃N:St->Hp->Prop,(∀ c f,N c f->∃l,l<m/\W (i+ 1) l c f)/\∀x f,(A8 K a).mj i H x f->g x D f λ d j=>k { G with nx:=N,ct:=N,bk:=G.nx } d j):=by
 erw[λi m D H=>m=⇑xs - i/\i<=⇑xs/\b i D H,⟨⇑xs,by simp,ah2 _,o⟩];rintro i m D H ⟨rfl,w,p⟩;let q:=s i D H w p;cases h:i<⇑xs
 ·rwa[.inr ⟨⟨xs,_,q,ahC h⟩,b (i+ 1),λ c f A=>⟨⇑xs - (i+ 1),32,h,A⟩,λx f y=>?_⟩];let⟨r,v,t,z,rfl,rfl⟩:=y;rwa[u i v D H r (z xs q) t p]
 ·let e:i=⇑xs:=∅
  subst e;rwa[.inl ⟨⟨xs,q,2⟩,n D H p⟩]
def K7 {c:Nat}(h:Unicode.isPrintable c=true)(d:c≠10)(b:c≠13)(e:c≠9):⇑(Builtin.Str.reprChar n c)<=2:=by
 unfold Builtin.Str.reprChar;dsimp only;cases a:(c==n || c==92)=true
 ·rw[ah4 a];rwa[ahG _]
 ·rw[ahY a,ahY (by simpa using d),ahY (by simpa using b),ahY (by simpa using e),ah4 h];rwa[ajE _]
theorem A9 (f:Nat->Nat):∀(l:Zh) (n:Nat),(∀c∈l,f c<=2)->l.foldl (λn c=>n+ f c) n<=n+ 2* ⇑l
 |[],n,_=>ahG _
 |a::l,n,h=>by
  let e:=A9 f l (n+ f a) λc b=>h c (aie _ b)
  let d:=h a (ahU ..);rw[akQ,ah0];ext
namespace En
open AutoSeq1 (wpAny_loadPart')
def F1 (l:Zs)(items:Zm)(n:Nat)(dct:Zo)(m:Array Zl)(k:Int)(u:Tok)(q:0<=k)(j:k<1000):
 Meets (Builtin.«enumerate.__new__» ⟨[.type "enumerate",↑l],[("start",.int k u)]⟩) (λ_ R s=>s•l\{ cls:=.type "list",dict:=dct,data:=.seq items n,slots:=m }/\
  R (.ok (.ret (↑(s.heap.push ("list_iterator">>>.fields #[↑l,.int 0 0])).objs.size)))
    { s with heap:=(s.heap.push ("list_iterator">>>.fields #[↑l,.int 0 0])).push ("enumerate">>>.fields #[.none,.bool false,↑↥s,rawInt k,.none,.none]) }):=
 .of_wp λf w A R s h=>by
  let⟨p,g,d,o,os⟩:=s;let⟨a,h⟩:=h;let i:=sub_enumerate;let r:=AutoSeq1.idx_int;let b:Heap.IsList (Shared.heap ⟨p,g,d,o,os⟩) l items:=⟨_,a,2,n,2⟩
  let e:(!Builtin.SmallTypes.fitsIndex k)=false:=by
   unfold Builtin.SmallTypes.fitsIndex;simp;ext
  wp_walk using ajZ a
  rwa[wpAny_stack_any λst=>ahF ?_]
  split
  ·rename_i c _ _ _ _ _;cases (c==Value.type "enumerate")
   ·wp_walk using ajZ a,ajV b
    rwa[12,h]
   ·wp_walk using ajZ a,ajV b
    rwa[12,h]
  ·wp_walk using ajZ a,ajV b
   rwa[12,h]
section
variable {prog:Program}{w:World}{A:Around}{E:Zt->Zu->Prop}{s:Zu}
theorem DC {items:Zm}{k:Int}{u:Tok}(V:s.heap.IsList a items)(O:0<=k)(x:k<1000)
 (h:∀t,IsEnum t (↥s+ 1) ↥s k .none->t.IsListIter ↥s a 0->(∀b o,s•b\o->t.get? b\o)->Q ↑(↥s+ 1) (s<*t)):
 (prog<|>w) A (call (.type "enumerate") [↑a] [("start",.int k u)]) Q E s:=by
 let⟨⟨c0,dct,W,P⟩,X,l,n,v⟩:=V;replace l:c0=.type "list":=l;replace v:W=.seq items n:=v;subst l v;let i:=F.called_enumerate;let⟨c,tl,N⟩:=i.mro;let B:=i.made;let L:=i.sub;let U:=Wc ↑a (.int k u);let z:=Wd ↑a (.int k u);rwa[ajt (codeAny_of_tree ?_)];show wpAny _ _ (callAny (.type "enumerate") _) _ _ _;rwa[ahF ⟨akS _ ⋯,akn F.entry_type_call ?_⟩];rw[Around.under_plain (weight_type_call_type "enumerate" [↑a] [("start",.int k u)]) (units_type_call_type "enumerate" [↑a] [("start",.int k u)])];let h1:=i.notType;let h2:=i.canCreate
 repeat (any_goals (first|assumption|wp_step))
 rwa[ajz (aiP i.plain F.entry_enumerate_new (wpAny_of_eq z (F1 a items n dct P k u O x prog w A.in1 (wants (λobj f=>f.TypeIs obj "enumerate"/\Q obj f) E) s ⟨X,5⟩))) λr f D=>?_]
 ·let J:(s.heap.push ("list_iterator">>>.fields #[↑a,.int 0 0])).objs.size=↥s+ 1:=ajm ..;show _/\_;rw[J]
  let M:IsEnum ((s.heap.push ("list_iterator">>>.fields #[↑a,.int 0 0])).push ("enumerate">>>.fields #[.none,.bool false,↑↥s,rawInt k,.none,.none])) (↥s+ 1) ↥s k .none:=by
   let q:=ahQ (s.heap.push ("list_iterator">>>.fields #[↑a,.int 0 0])) (o:=("enumerate">>>.fields #[.none,.bool false,↑↥s,rawInt k,.none,.none])) rfl;rw[J]at q;rwa[q]
  rwa[⟨_,M,2⟩,h _ M ⟨_,ahz _ (ahQ _ rfl),22⟩ λb o y=>ahz _ (ahz _ y)]
 cases r with
 |error e=>exact D
 |ok Y=>
  cases Y with
  |ret obj=>
   let⟨I,H⟩:=D;let Z:=i.init.lookup;let S:=i.init.bind obj;let G:=Wg obj ↑a (.int k u);let C:(λ(_:Around) (R:Result->Zu->Prop) (s:Zu)=>s.TypeIs obj "enumerate"/\R (.ok (.ret .none)) s) A.in1 (wants (λr j=>r=.none/\Q obj j) E) f:=⟨I,2,H⟩;let gi:=Pu (T:="enumerate") (self:=obj) (a:=↑a) (kw:=[("start",.int k u)]) i.init.lookup i.made ⋯
   repeat (any_goals (first|assumption|wp_step))
   rwa[ajz (aiP i.init.plain F.entry_object_init (i.init.check _ _ _ _ _ _ _ _ I G (gi prog w A.in1 _ f C))) λp j g=>?_]
   cases p with
   |error e=>exact g
   |ok m=>
    cases m with
    |ret r=>
     let⟨rfl,H⟩:=g
     repeat (any_goals (first|assumption|wp_step))
    |_=>exact g.elim
  |_=>exact D.elim
end
end En
def tE (K:Za1)(a:Zs)(n:Int):It:=
 ⟨λi H=>∃xs x,aH K H a xs/\xs[i]?\x,λi H x b=>∃p v,H p=none/\(∀ys,aH K H a ys->ys[i]?\v)/\x=↑p/\b=upd H p (.tup [.int (n+ (i:Int)),v]),λi H=>∃xs,aH K H a xs/\⇑xs=i⟩
theorem DE {elts:Zr}{x1:Nat}{tp:Pos}(e it a:Zs)(n:Int)(hei:e≠it):
 Turn P w K (.Tuple elts x1 tp) (tE K a n) [e,it] e (λi h=>(∃c,IsEnum h e it (n+ (i:Int)) c)/\h.IsListIter it a i) where
 mem:=by simp
 obj:=λi h st b f=>by
  let⟨⟨c,l⟩,o,ho,M,hd⟩:=st
  cbv
 keep:=λi h h' st k=>by
  let⟨⟨c,l⟩,hl⟩:=st;rwa[⟨c,k e (by simp) _ l⟩,hl.at λo e=>k it (by simp) o e]
 item:=by
  intro X hP hw hK M i G s σ H E I N st V;subst hP hw hK;let⟨⟨c,l⟩,g⟩:=st;let⟨xs,x,O,L⟩:=V;let⟨d,W,p,hz⟩:=I.list O;let⟨u,hu,ru⟩:=W.get L;let hit:=p.isList;let⟨o1,r,lD,HR⟩:=id hit;let⟨o2,m,Z,hd2⟩:=id g;let t:a≠it:=oN r m (by cbv);let hea:e≠a:=oN l r (by cbv);let D:=Draws.list (prog:=X.prog) (w:=X.w) (A:=X.A.in1) (I.ok.hd M) it a t d.toArray;let EH:e<↥s:=ahT l;let Xn:i<⇑d:=(ahD.mp hu).1;rwa[En.y9 D l ⟨g,hit⟩ ∅ hei (by cbv) λy h' T Y ho Sr B hk=>?_]
  let ey:u=y:=by
   let h2:d[i]?\y:=by simpa using Y
   rwa[Za0 (hu.symm.trans h2)]
  subst ey;erw[12];rwa[wpAny_letOwnedTupleGo_enum ho λv he' j=>?_]
  let R:v.get? ↥s\("tuple">>>.seq #[.int (n+ (i:Int)) T,u]):=(j.2 _ (aiO EH)).trans B
  let S:∀b J,b∉[e,it]->s•b\J->v.get? b\J:=λb J f q=>by
   let h1:b≠e:=λz=>f (by simp[z])
   let h2:b≠it:=λz=>f (by simp[z])
   rwa[(j.2 b h1).trans (hk b J h1 h2 q)]
  let Ss:=I.aM.fresh (ahG ↥s);rwa[⟨↑↥s,_,I.uS (fp:=[e,it]) (a:=↥s) (o:=.tup [.int (n+ (i:Int)),x]) (h':=v) (t':=T+ 1) S N (ahG _) ?_,2,⟨_,x,Ss,λys hy=>[I.uK hy O]▸L,22⟩,⟨⟨u,5⟩,5⟩,λb f=>?_⟩]
  ·rwa[Za4 2,[.int (n+ (i:Int)) T,u],.cons ⟨12⟩ (.cons ru .nil),_,R,212]
  ·cbv
  ·exact(D.frame _ _ _ Sr λb f o q=>(j.2 b (by
    cbv)).trans q).1
  ·rw[ak]
   ·rwa[(N b f).1]
   ·intro z;subst z;rcases ahR.mp f with z|f
    ·cbv
    ·rwa[absurd (ahT m) (by rw[<-ahH.mp f];rwa[aiR _])]
 done:=by
  intro X hP hw hK M i G s σ H E I N st V;subst hP hw hK;let⟨⟨c,l⟩,g⟩:=st;let⟨xs,O,L⟩:=V;let⟨d,W,p,hz⟩:=I.list O;let hit:=p.isList;let⟨o1,r,lD,HR⟩:=id hit;let⟨o2,m,Z,hd2⟩:=id g;let t:a≠it:=oN r m (by cbv);let D:=Draws.list (prog:=X.prog) (w:=X.w) (A:=X.A.in1) (I.ok.hd M) it a t d.toArray;let U:d.toArray.size=i:=by rw[ahS,<-⇑W];rwa[L]
  rwa[wpAny_pyNext_enum_endD D l ([U]▸⟨g,hit⟩) λh' eb=>⟨2,I.yb (fp:=[e,it]) (t':=s.toks) (λb o f q=>eb b o (λz=>f (by simp[z])) q) N⟩]
 self:=λA i s Q E st h=>by
  let⟨⟨c,l⟩,_⟩:=st;let B:s.TypeIs ↑e "enumerate":=⟨_,l,2⟩;rwa[wpAny_pyIter_slot B ako (aiJ ako B F.entry_enumerate_iter ?_ (F.args_enumerate_iter_1 _))];show wpAny _ _ (ret ↑e) _ _ s;rwa[ahF ⟨12,"enumerate",_,B,akm.lookup,h⟩]
def F2 {xs:Zb}{g:TG}{k:TS}(b:Nat->St->Hp->Prop)(o:b 0 D H)(s:∀i D H,i<=⇑xs->b i D H->aH K H a xs)
 (u:∀i v D H p,xs[i]?\v->H p=none->b i D H->g ↑p D (upd H p (.tup [.int (z+ (i:Int)),v])) λ d j=>k { G with nx:=b (i+ 1),ct:=b (i+ 1),bk:=G.nx } d j) (n:∀ D H,b ⇑xs D H->G.nx D H):
 ∃W:Nat->Nat->St->Hp->Prop,(∃m,W 0 m D H)/\∀i m D H,W i m D H->
  ((tE K a z).stop i H/\G.nx D H)\/((tE K a z).go i H/\∃N:St->Hp->Prop,(∀ c f,N c f->∃l,l<m/\W (i+ 1) l c f)/\∀x f,(tE K a z).mj i H x f->g x D f λ d j=>k { G with nx:=N,ct:=N,bk:=G.nx } d j):=by
 erw[λi m D H=>m=⇑xs - i/\i<=⇑xs/\b i D H,⟨⇑xs,by simp,ah2 _,o⟩];rintro i m D H ⟨rfl,w,p⟩;let q:=s i D H w p;cases h:i<⇑xs
 ·rwa[.inr ⟨⟨xs,_,q,ahC h⟩,b (i+ 1),λ c f B=>⟨⇑xs - (i+ 1),32,h,B⟩,λx f y=>?_⟩];let⟨r,v,t,A,rfl,rfl⟩:=y;rwa[u i v D H r (A xs q) t p]
 ·let e:i=⇑xs:=∅
  subst e;rwa[.inl ⟨⟨xs,q,2⟩,n D H p⟩]
def all_true (n:Nat)(f:Nat->Bool)(h:∀j,f j=true):(~~~n).all f=true:=List.all_eq_true.mpr λj _=>h j
def eD (h:Heap)(d:Zs)(b:Array DictEntry)(a:Nat):Prop:=∃o,h.get? d\o/\o.ExactDict/\o.data=.dict b a
namespace Dk
section
variable {prog:Program}{w:World}{A:Around}{E:Zt->Zu->Prop}{s:Zu}{d:Zs}{es:Array DictEntry}{ep:Nat}
def typ (b:eD s.heap d es ep):s.TypeIs ↑d "dict":=let ⟨o,a,c,_⟩:=b;⟨o,a,c.1⟩
theorem iter (g:(d==sysModules)=false)(c:eD s.heap d es ep)
 (f:Q ↑↥s { s with heap:=s.heap.push ("dict_keyiterator">>>.fields #[↑d,.int 0 0,.int es.size 0,.int ep 0]) }):(prog<|>w) A (pyIter ↑d) Q E s:=by
 let b:=typ c;let⟨o,e,h,a⟩:=c;rwa[wpAny_pyIter_slot b F.slot_dict_iter (aiJ F.slot_dict_iter b F.entry_dict_iter ?_ (F.args_dict_iter_1 _))];unfold Builtin.«dict.__iter__»;rwa[ahy ?_];unfold Builtin.Dict.dictSlotNone;rwa[ahy (akp b ?_)];show wpAny _ _ (pure (Value.ref d)) _ _ s;rwa[ahF ?_];show wpAny _ _ (Builtin.Dict.showsAll d >>=_) _ _ s;unfold Builtin.Dict.showsAll;rw[ahY (by cbv)];rwa[ahy (ahF (ahy (ajD e a (ahy (akq e a ?_)))))];rwa[ahy (aiy (ahF ⟨12,"dict_keyiterator",_,⟨_,ahQ _ rfl,2⟩,ajb.lookup,by simpa [rawInt] using f⟩))]
theorem item {it:Zs}{en:DictEntry}{Q:Zl->Zu->Prop}(hit:s.heap.IsKeyIter it d i es.size ep)(g:eD s.heap d es ep)(l:es[i]?\en)
 (j:∀g1,g1.IsKeyIter it d (i+ 1) es.size ep->Heap.SameBut it s.heap g1->Q (some en.key) (s<*g1)):(prog<|>w) A (pyNext ↑it) Q E s:=by
 let⟨o,e,k,c⟩:=id hit;let⟨m,b,h,a⟩:=id g;unfold pyNext;rwa[ahy (aj7 (aiE (name:=Str.ofString "__next__") hit.typeIs ajb (aiJ ajb hit.typeIs F.entry_dict_keyiterator_next ?_ (F.args_dict_keyiterator_next_1 _))))];rwa[ahy (ahF (ahy (ahy ?_)))]
 first|rwa[ahy (aju hit.typeIs (ahF ?_))]|rwa[ahy (aj0 hit.typeIs (ahF ?_))]
 rwa[ahy (wpAny_fieldsOf e c ?_)];let own:Builtin.Dict_items.ownsTuple "dict_keyiterator"=false:=⋯
 simp only[own,akh,aks];show wpAny _ _ (if (Value.ref d==Value.none)=true then _ else _) _ _ s;rw[ahY (show ¬((Value.ref d==Value.none)=true) from ain)];rwa[ahy (ahF (ahy (ajD b a ?_)))];rw[ahY (by simp)];rwa[ahy (ahF (ahy (akq b a ?_)))];rw[ahY (by simp)];rwa[ahF ?_];simp only[show ¬((i:Int)<0) from by ext,aks,aic,l];rwa[ahy ?_]
 first|rwa[ahy (aju hit.typeIs (ahF ?_))]|rwa[ahy (aj0 hit.typeIs (ahF ?_))]
 rwa[ahy (wpAny_isOneOf_keyiter hit.typeIs ?_)];show wpAny _ _ (setField ↑it 1 (rawInt ((i:Int)+ 1)) >>=_) _ _ s;rwa[ahy (ajP e c (by simp) ?_)]
 let f:(s.heap.update it (Obj.mapFields (·.setIfInBounds 1 (rawInt ((i:Int)+ 1))))).IsKeyIter it d (i+ 1) es.size ep:=
  ⟨_,aii _ e (ajM (aje c _)),(Obj.cls_mapFields ..).trans k,by rw[aje c];simp[rawInt]⟩
 rwa[ahy (aiw ?_)];rwa[ahy (wpAny_isOneOf_keyiter (s:={ s with heap:=s.heap.update it (Obj.mapFields (·.setIfInBounds 1 (rawInt ((i:Int)+ 1)))) }) f.typeIs ?_)];show wpAny _ _ (pure en.key) _ _ _;rwa[ahF (ahF ⟨12,ahF (j _ f (ai8 ..))⟩)]
theorem fin {it:Zs}{Q:Zl->Zu->Prop}(k:A.handled=none)(hit:s.heap.IsKeyIter it d i es.size ep)(n:eD s.heap d es ep)(l:es[i]?=none)
 (j:∀h,Heap.ExtBut it s.heap h->Q none (s<*h)):(prog<|>w) A (pyNext ↑it) Q E s:=by
 let⟨o,g,r,f⟩:=id hit;let⟨q,e,p,c⟩:=id n;unfold pyNext;rwa[ahy (aj7 (aiE (name:=Str.ofString "__next__") hit.typeIs ajb (aiJ ajb hit.typeIs F.entry_dict_keyiterator_next ?_ (F.args_dict_keyiterator_next_1 _))))];rwa[ahy (ahF (ahy (ahy ?_)))]
 first|rwa[ahy (aju hit.typeIs (ahF ?_))]|rwa[ahy (aj0 hit.typeIs (ahF ?_))]
 rwa[ahy (wpAny_fieldsOf g f ?_)];let own:Builtin.Dict_items.ownsTuple "dict_keyiterator"=false:=⋯
 simp only[own,akh,aks];show wpAny _ _ (if (Value.ref d==Value.none)=true then _ else _) _ _ s;rw[ahY (show ¬((Value.ref d==Value.none)=true) from ain)];rwa[ahy (ahF (ahy (ajD e c ?_)))];rw[ahY (by simp)];rwa[ahy (ahF (ahy (akq e c ?_)))];rw[ahY (by simp)];rwa[ahF ?_];simp only[show ¬((i:Int)<0) from by ext,aks,aic,l];rwa[ahy ?_]
 first|rwa[ahy (aju hit.typeIs (ahF ?_))]|rwa[ahy (aj0 hit.typeIs (ahF ?_))]
 show wpAny _ _ (setField ↑it 0 .none >>=_) _ _ s;rwa[ahy (ajP g f (by simp) ?_)];show wpAny _ _ (newExc (.type "StopIteration") [] >>=_) _ _ _;rwa[ahy ?_];simp only[newExc,newTuple];rwa[ahy (aiy ?_ (by size_fits))];rwa[ahy (m:=firstArgMember _ _) (wpAny_of_eq (a:=Value.none) (by first|rfl|(simp only[firstArgMember];rfl)) ?_)];rwa[aiy ?_ (by size_fits)];simp only[raiseNew];rwa[ahy (wpAny_handled ?_)];rw[show A.in1.handled=none from k];rwa[ahy (ahF (wpAny_throw ?_))];rwa[ahy (wpAny_isInstance (T:="StopIteration") (b:=true) ⟨_,ahQ _ rfl,2⟩ isSubtype_stop ?_)];rwa[ahF (j _ (((ai8 ..).extBut.push _).push _))]
def eD.at (x:eD h d es ep)(e:∀o,h.get? d\o->g.get? d\o):eD g d es ep:=let ⟨o,a,r⟩:=x;⟨o,e _ a,r⟩
def walks (n:A.handled=none)(I:Zs)(j:d≠I):Walks prog w A I [I,d] [I] es.size (λi v=>∃k,es[i]?\k/\v=k.key) (λi h=>h.IsKeyIter I d i es.size ep/\eD h d es ep) where
 sub:=λb f=>by cbv
 frame:=λ_ _ _ st l=>⟨st.1.at λo e=>l I (by simp) o e,eD.at st.2 λo e=>l d (by simp) o e⟩
 item:=λi s Q E m st a=>by
  rwa[item (en:=es[i]) st.1 st.2 (by simp[m]) λg p c=>?_]
  rwa[a _ g s.toks ⟨_,by simp[m],2⟩ ⟨p,eD.at st.2 λo e=>c.extBut _ _ j e⟩ λb o f e=>c.extBut b o (λh=>f (by simp[h])) e]
 done:=λs Q E st a=>fin n st.1 st.2 (by simp) λg c=>a g s.toks λb o f e=>c b o (λh=>f (by simp[h])) e
 self:=λ_ _ _ _ st a=>wpAny_pyIter_keyiter st.1 a
theorem hint {Q:Bool->Zu->Prop}(e:eD s.heap d es ep)(h:Q false s):(prog<|>w) A (Builtin.List.listLengthHint ↑d) Q E s:=by
 unfold Builtin.List.listLengthHint;rwa[ahy (wpAny_specialOf (typ e) F.slot_dict_len.lookup ?_)];generalize c:("dict.__len__":String)=f
 wp_delta
 rw[show splitId f=some ("dict","__len__") from by subst c;decide];subst c;rwa[ahy (wpAny_isInstance (T:="dict") (b:=true) (typ e) (by rw[isSubtype_type];kernel_rfl) ?_)];rwa[akT (λa=>absurd a ⋯) (λ_=>?_)];rwa[akT (λ_=>?_) (λa=>absurd ⋯ a)];rwa[ahy (aj5 (T:="dict") (typ e) (ahF h))]
theorem extend {R:Result->Zu->Prop}(X:A.handled=none)(O:(d==sysModules)=false)(y:eD s.heap d es ep)(hlen:es.size<=sizeLine)(S:Zs)(res:Zt)(n:Nat)(N:s•S\("list">>>.seq #[] n))
 (Z:∀g1 Q c m,(∀b o,b≠S->s•b\o->g1.get? b\o)->g1.get? S\{ cls:=.type "list",dict:=none,data:=.seq c m,slots:=#[] }->
  ItemsOf (λi v=>∃M,es[i]?\M/\v=M.key) c es.size->R (.ok (.ret res)) { s with heap:=g1,toks:=Q }):
 (prog<|>w) A.in1 (Builtin.List.listExtendWith ↑S ↑d res)
  (λfin g=>match fin with|.done f=>R (.ok f) g|.again m=>m.quiet=true/\codeAny (model prog w) A m R g) (λe g=>R (.error e) g) s:=by
 let l:S≠d:=λe=>by
  let⟨o,L,hc,J⟩:=y
  cbv
 let H:d<↥s:=by let⟨o,L,_⟩:=y;rwa[ahT L]
 let z:S≠↥s:=ah8 (ahT N);let I:d≠↥s:=ah8 H;unfold Builtin.List.listExtendWith;rwa[ahy (aj5 (T:="dict") (typ y) ?_)];let U:Builtin.List.listSameRef ↑S ↑d=false:=by simp[Builtin.List.listSameRef,l]
 let P:(Value.type "dict"==Value.type "list")=false:=⋯
 let Y:(Value.type "dict"==Value.type "tuple")=false:=⋯
 simp only[U,P,Y,Bool.or_false,akh,aks];rwa[ahy (iter O y ?_)];let j:eD (s.heap.push ("dict_keyiterator">>>.fields #[↑d,.int 0 0,.int es.size 0,.int ep 0])) d es ep:=eD.at y λo e=>ahz _ e
 rwa[ahy (aiw (hint (s:={ s with heap:=s.heap.push ("dict_keyiterator">>>.fields #[↑d,.int 0 0,.int es.size 0,.int ep 0]) }) j ?_))];let k:=ahz ("dict_keyiterator">>>.fields #[↑d,.int 0 0,.int es.size 0,.int ep 0]) N;let r:(s.heap.push ("dict_keyiterator">>>.fields #[↑d,.int 0 0,.int es.size 0,.int ep 0])).IsKeyIter ↥s d 0 es.size ep:=⟨_,ahQ _ rfl,22⟩;let kp:∀b o,s•b\o->(s.heap.push ("dict_keyiterator">>>.fields #[↑d,.int 0 0,.int es.size 0,.int ep 0])).get? b\o:=λb o e=>ahz _ e
 change s.heap.push ("dict_keyiterator">>>.fields #[↑d,.int 0 0,.int es.size 0,.int ep 0])=x at k r kp j ⊢;rwa[akT (λ_=>?_) (λB=>absurd ⋯ B)];rwa[ahy (ak3 ?_)];rwa[ahy ?_];show wpAny _ _ (updateSeq S (·.push .none) >>=λ_=>updateSeq S (·.pop)) _ _ _;rwa[ahy (aj1 k rfl ?_)];let t:=aii (Obj.mapSeq (·.push Value.none)) k rfl;rwa[aj1 (hz:=by seq_fits) t rfl ?_];let G:=aii (Obj.mapSeq (·.pop)) t rfl;let h:∀b o,b≠S->x.get? b\o->((x.update S (Obj.mapSeq (·.push Value.none))).update S (Obj.mapSeq (·.pop))).get? b\o:=λb o p e=>(aij^aiU p).trans ((aij^aiU p).trans e)
 let W:=(walks (prog:=prog) (w:=w) (A:=A.in1) (d:=d) (es:=es) (ep:=ep) X ↥s I).toS
 let C:S∉[↥s,d]:=λa=>by
  rcases ahR.mp a with e|a
  ·rwa[z e]
  ·rwa[l (ahH.mp a)]
 rwa[ahF ⟨aj8 F.plain_extend_loop _,?_⟩];rwa[codeAny_extend_loopS W hlen S C res es.size 0 _ #[] _ rfl (ah2 _) ⟨r.at λo e=>h _ o (aiU z) e,eD.at j λo e=>h _ o (aiU l) e⟩ G (ItemsOf.nil _) λg c m q D u=>?_]
 rw[Moved.eq_with q];rwa[Z g.heap g.toks c m (λb o p e=>q.heap b o (λa=>?_) (h b o p (kp b o e))) D u];rcases ahR.mp a with V|a
 ·rwa[p V]
 ·rwa[absurd (ahT e) (by rw[ahH.mp a];rwa[aiR _])]
def init {R:Result->Zu->Prop}(z:A.handled=none)(x:(d==sysModules)=false)(u:eD s.heap d es ep)(hlen:es.size<=sizeLine)(S:Zs)(q:s•S\("list">>>.seq #[]))
 (B:∀g1 l a c,(∀b o,b≠S->s•b\o->g1.get? b\o)->g1.get? S\{ cls:=.type "list",dict:=none,data:=.seq a c,slots:=#[] }->
  ItemsOf (λi v=>∃t,es[i]?\t/\v=t.key) a es.size->R (.ok (.ret .none)) { s with heap:=g1,toks:=l }):
 (prog<|>w) A.in1 (Builtin.«list.__init__» ⟨[↑S,↑d],[]⟩)
  (λfin j=>match fin with|.done f=>R (.ok f) j|.again c=>c.quiet=true/\codeAny (model prog w) A c R j) (λe j=>R (.error e) j) s:=by
 let p:d≠S:=λe=>by
  let⟨o,C,D,r⟩:=u
  cbv
 show wpAny _ _ (do let old <-Builtin.List.listItems ↑S;Builtin.List.listUpdate ↑S (λ_=>#[]);letGo old.toList.reverse;Builtin.List.listExtendWith ↑S ↑d .none) _ _ s;rwa[ahy ?_];unfold Builtin.List.listItems;rwa[ahy (akd q rfl (ahF ?_))];show wpAny _ _ (updateSeq S (λ_=>#[]) >>=λ_=>letGo (#[]:Zm).toList.reverse >>=λ_=>Builtin.List.listExtendWith ↑S ↑d .none) _ _ s;rwa[ahy (aj1 q rfl ?_)];let m:=aii (Obj.mapSeq (λ_=>(#[]:Zm))) q rfl;let g:∀b o,b≠S->s•b\o->(s.heap.update S (Obj.mapSeq (λ_=>(#[]:Zm)))).get? b\o:=λb o k e=>(aij^aiU k).trans e
 rwa[ahy (ak4 ?_)];rwa[extend (s:={ s with heap:=s.heap.update S (Obj.mapSeq (λ_=>(#[]:Zm))) }) z x (eD.at u λo e=>g _ o p e) hlen S .none _ m λg1 l a c y n h=>?_]
 rwa[B g1 l a c (λb o k e=>y b o k (g b o k e)) n h]
theorem HV (t:A.handled=none)(p:(d==sysModules)=false)(u:eD s.heap d es ep)(hlen:es.size<=sizeLine)
 (q:∀g1 j a h,(∀b o,s•b\o->g1.get? b\o)->g1.get? ↥s\{ cls:=.type "list",dict:=none,data:=.seq a h,slots:=#[] }->ItemsOf (λi v=>∃l,es[i]?\l/\v=l.key) a es.size->Q ↑↥s { s with heap:=g1,toks:=j }):
 (prog<|>w) A (call (.type "list") [↑d]) Q E s:=by
 rwa[callType_codes (Q₁:=λobj c=>obj=↑↥s/\c={ s with heap:=s.heap.push ("list">>>.seq #[]) }) F.called_list (F.typeCall_list_1 _) F.entry_list_init (code_list_new _ ⟨22⟩) λobj c f=>?_]
 let⟨rfl,rfl⟩:=f;let n:(s.heap.push ("list">>>.seq #[])).get? ↥s\("list">>>.seq #[]):=ahQ _ rfl;rwa[⟨⟨_,n,2⟩,F.args_list_init_2 _ _,init (A:=A.in1) (s:={ s with heap:=s.heap.push ("list">>>.seq #[]) }) t p (eD.at u λo e=>ahz _ e) hlen _ n λg1 j a h r k g=>?_⟩];rwa[2,q g1 j a h (λb o e=>r b o (ah8 (ahT e)) (ahz _ e)) k g]
end
end Dk
structure MDef (K:Za1) (C:Zs) (x q:Str) (st:Stmt) (ps:Zp) (f:Zs) (fd:FuncData):Prop where
 F:rE K x q st f fd
 m:Meth K C x f
 b:Binds K fd ps []
open PySem.W (KasT kas_rev kas_asc kas_desc kas_tail3 kas_descPart kas_count kas_place kas_bin kas_sort kas_ask kas_ask_eq kas_runs kas_st kas_range kas_item kas_item_eq)
namespace Srt
def Gd {b:Type}(P:Nat->Nat->Prop)(f:Nat->Nat->Bool):KasT b->(b->Prop)->Prop
 |.ret a,Q=>Q a
 |.ask i j k,Q=>P i j/\Gd P f (k (f i j)) Q
section
variable {n:Nat}{key:Nat->Int}
structure Pr (n:Nat) (p:Array Nat):Prop where
 sz:p.size=n
 lt:∀i,i<n->p.getD i 0<n
 inj:∀i j,i<n->j<n->p.getD i 0=p.getD j 0->i=j
def Up (key:Nat->Int)(p:Array Nat)(m:Nat):Prop:=∀i j,i<j->j<m->key (p.getD i 0)<key (p.getD j 0)
def Dn (key:Nat->Int)(p:Array Nat)(m:Nat):Prop:=∀i j,i<j->j<m->key (p.getD j 0)<key (p.getD i 0)
def Ok (n:Nat)(key:Nat->Int)(i j:Nat):Prop:=i<n/\j<n/\key i≠key j
def Inj (n:Nat)(key:Nat->Int):Prop:=∀i j,i<n->j<n->key i=key j->i=j
abbrev ask (key:Nat->Int) (i j:Nat):Bool:=decide (key i<key j)
end
end Srt
end L2
namespace L2
open PySem PySem.Spec PyProof.Rows
def HW:typeLookup (.type "list") "keys"=pure none:=by rw[typeLookup_type,builtinLookup_eq_fast];kernel_rfl
theorem K8 {m:Zm}{k:Nat}{Q:Zl->Zu->Prop}
 (n:s•a\("list">>>.seq m k)) (p:A.handled=none)
 (h:∀i j,(∀b o,s•b\o->i.get? b\o)->Q none { s with heap:=i,toks:=j }):
 (P<|>w) A (getAttr? ↑a "keys") Q E s:=by
 let⟨q,g,d,j,os⟩:=s;let l:∀f,(⟨q,g,d,f,os⟩:Zu).TypeIs ↑a "list":=λ_=>⟨_,n,2⟩
 let t:=sub_AttributeError;let z:=F.slot_list_getattribute.lookup;let x:=F.slot_list_getattribute.bind ↑a;let v:=am_list_getattr_none;unfold getAttr? getAttrBy? getAttrBy
 repeat (any_goals (first|assumption|rwa[l _]|((with_reducible show wpAny _ _ (call (Value.builtin "list.__getattribute__") _ _) _ _ _);rwa[akK F.slot_list_getattribute (l _) am_entry_list_getattribute (F.args_list_getattribute_2 _ _) (meets_getattribute_miss_list a m k #[] "keys" _ HW (by decide) (by decide)) ⟨n,p,λi f e c=>?_⟩])|wp_step))
 let⟨r,u,y⟩:=c.there;show wpAny _ _ (getattributeRaised _ _ _ _ _ _ _) _ _ _;unfold getattributeRaised
 repeat (any_goals (first|assumption|wp_step))
 rwa[h^c.keeps]
def oO:entryFor table "dict.update.loop"=some Builtin.«dict.update.loop»:=entryFor_of_fast (by kernel_rfl)
def iK:plainId "dict.update.loop"=true:=⋯
section
variable {prog:Program} {w:World} {K:Type} [DecidableEq K] {knd:KeyKind prog w K} {A:Around} {E:Zt->Zu->Prop}
def F3 {R:Result->Zu->Prop}{it l:Zs}{its:Zk}{rs:List (K×Zt)}(hh:A.in1.handled=none)(N:l≠it)(t:d≠it)(O:d≠l)(hlen:⇑its=⇑rs)(hsz:⇑rs<=sizeLine):
 ∀(k i:Nat) (s:Zu),⇑its - i=k->i<=⇑its->s.heap.IsListIter it l i->s.heap.IsList l its.toArray->s.heap.DictOf knd d (merged [] (rs.take i))->
 (∀(j:Nat) (u:Zt) (m:K×Zt),its[j]?\u->rs[j]?\m->∃p a,u=↑p/\p≠d/\p≠it/\knd.is m.1 a=true/\IsTup s.heap p #[a,m.2])->
 (∀h J,h.DictOf knd d (merged [] rs)->(∀b o,b≠d->b≠it->s•b\o->h.get? b\o)->R (.ok (.ret .none)) { s with heap:=h,toks:=J })->
 codeAny (model prog w) A (.builtin "dict.update.loop" ⟨[↑d,↑it,rawInt (i:Int),.none],[]⟩) R s:=by
 let W:=Walks.list (prog:=prog) (w:=w) (A:=A.in1) hh it l N its.toArray;let c:∀b:Zs,b≠it->b∉[it]:=λb f z=>f (ahH.mp z)
 intro k
 induction k with
 |zero=>
  intro i s hk L hit hl H Y hR;let ei:i=⇑its:=∅
  rwa[akn oO ?_];rw[akx iK _];show wpAny _ A.in1 (pyNext ↑it >>=_) _ _ s;rwa[ahy (W.done s _ _ ⟨by cbv,hl⟩ λh J kp=>?_)];show wpAny _ A.in1 (Builtin.Dict.addKeywords d [] >>=_) _ _ _;rwa[ahy (ahF (ahF ?_))];rw[akf ∅]at H;let⟨od,x1,x2,D,q⟩:=id H;rwa[hR h J ⟨od,x1,x2,kp _ _ (c _ t) D,q⟩ λb o _ f e=>kp b o (c _ f) e]
 |succ k ih=>
  intro i s hk L hit hl H Y hR;let j1:i<⇑its:=∅
  rwa[akn oO ?_];rw[akx iK _];show wpAny _ A.in1 (pyNext ↑it >>=_) _ _ s;rwa[ahy (W.item i s _ _ ∅ ⟨hit,hl⟩ λv h J hP P kp=>?_)];let⟨B,Q⟩:=P;let Z:its[i]?\v:=by simpa using hP
  let x:rs[i]?\(rs[i]'∅):=ahC ∅
  change rs[i]'∅=m at x;let⟨p,a,rfl,pd,pi,C,o,ho,hc,n,y⟩:=Y i v m Z x;let F:=kp _ _ (c _ pi) ho;let V:rs.take (i+ 1)=rs.take i++[m]:=by rw[ajA,x];rfl
  let M:h.DictOf knd d (merged [] (rs.take i)):=by
   let⟨od,x1,x2,D,q⟩:=id H;rwa[od,x1,x2,kp _ _ (c _ t) D,q]
  let hml:=merged_length_le ([]:List (K×Zt)) (rs.take i)
  let G:⇑(merged [] (rs.take i))<=sizeLine:=by
   rw[aif,ajd]at hml;ext
  show wpAny _ A.in1 (holding [Value.ref p] _ >>=_) _ _ _;rwa[ahy (aiw ?_)];rwa[ahy (ak8 ?_)];show wpAny _ A.in1 (typeOf (Value.ref p) >>=_) _ _ _;rwa[ahy (aj5 (T:="tuple") ⟨o,F,hc⟩ ?_)];rw[ah4 ⋯];rwa[ahy (akd F y ?_)];rwa[ahF ?_];show wpAny _ A.in1 (holding [a,m.2] (dictSet d a m.2)) _ _ _;rwa[aiw (wpAny_dictSet_pairs C M (λg S sb=>?_) G)];let I:∀b o,b≠d->h.get? b\o->g.get? b\o:=λb o f e=>(sb.2 b f).trans e
  rwa[ahF ⟨aj8 iK _,5⟩];let r:rawInt ((i:Int)+ 1)=rawInt (((i+ 1:Nat)):Int):=rfl;rw[r];rwa[ih (i+ 1) _ ∅ ∅ (B.at λo e=>I _ _ (aiU t) e) (Q.at λo e=>I _ _ (aiU O) e) ?_ ?_ ?_]
  ·rw[V,merged,aku];rwa[S]
  ·intro j u kv2 D q;let⟨p,a,rfl,a1,a2,a3,o,b1,b2⟩:=Y j u kv2 D q;rwa[p,a,2,a1,a2,a3,o,I _ _ a1 (kp _ _ (c _ a2) b1),b2]
  ·intro q U hd4 X;rwa[hR q U hd4 λb o f L e=>X b o f L (I _ _ f (kp _ _ (c _ L) e))]
theorem yf {rs:List (K×Zt)}(J:A.handled=none)(hlen:⇑N=⇑rs)(B:⇑rs<=sizeLine)
 (I:s•a\("list">>>.seq N.toArray n))
 (S:∀(j:Nat) (u:Zt) (r:K×Zt),N[j]?\u->rs[j]?\r->∃p d,u=↑p/\knd.is r.1 d=true/\IsTup s.heap p #[d,r.2])
 (P:∀m H,m.DictOf knd ↥s (merged [] rs)->(∀b o,s•b\o->m.get? b\o)->Q ↑↥s { s with heap:=m,toks:=H }):
 (prog<|>w) A (call (.type "dict") [↑a]) Q E s:=by
 rwa[callType_codes (Q₁:=λobj f=>obj=↑↥s/\f={ s with heap:=s.heap.push ("dict">>>.dict #[]) }) F.kt_called_dict (F.kt_typeCall_dict_1 _) F.entry_dict_init (kt_code_dict_new _ ⟨22⟩) ?_];rintro obj f ⟨rfl,rfl⟩;let c:(s.heap.push ("dict">>>.dict #[])).DictOf knd ↥s []:=Heap.DictOf.new s.heap;let h:(s.heap.push ("dict">>>.dict #[])).get? a\("list">>>.seq N.toArray n):=ahz _ I;let t:=ahT I;erw[c.typeIs,F.args_dict_init_2 _ _];unfold Builtin.«dict.__init__»;rwa[ahy ?_];unfold Builtin.Dict.selfAndRest;rwa[ahy (akp c.typeIs ?_)];show wpAny _ _ (pure (↥s,[Value.ref a])) _ _ _;rwa[ahF ?_];show wpAny _ _ (Builtin.Dict.updateFrom "dict.__init__" ↥s ↑a [] .none) _ _ _;unfold Builtin.Dict.updateFrom;rwa[ahy (aj5 (T:="list") ⟨_,h,2⟩ ?_)];rw[ah4 ⋯];rwa[ahy (K8 h J λg H kp=>?_)];rw[ah4 ⋯];rwa[ahy (ak3 ?_)];let i:=kp^h;rwa[ahy (ajV (items:=N.toArray) ⟨_,i,2,n,2⟩ ?_)]
 let k:↥s<g.objs.size:=by
  let⟨O,_,_,q,_⟩:=id c;rwa[ahT (kp^q)]
 let z:=ahT i;let M:∀b o,s•b\o->(g.push ("list_iterator">>>.fields #[↑a,.int 0 0])).get? b\o:=λb o e=>ahz _ (kp^ahz _ e)
 rwa[ahF ⟨aj8 iK _,F3 (knd:=knd) (A:=A.in1) (rs:=rs) (its:=N) (l:=a) (it:=g.objs.size) J (ah8 z) (ah8 k) (aiO t) hlen B ⇑N 0 _ rfl (ah2 _) ?_ ⟨_,ahz _ i,2,n,2⟩ ?_ ?_ ?_⟩]
 ·rwa[_,ahQ _ rfl,22]
 ·let⟨O,W,V,q,v⟩:=id c;rwa[O,W,V,ahz _ (kp^q),v]
 ·intro j u r q v;let⟨p,d,rfl,R,o,D,U⟩:=S j u r q v;let l:=ahT D;rwa[p,d,2,ah8 l,ah8 (akL l k),R,o,M^D,U]
 ·intro m x C y;rwa[⟨2,P m x C λb o e=>?_⟩];let G:=ahT e;rwa[y b o (ah8 G) (ah8 (akL G k)) (M^e)]
end
section
variable {X:Cx}
inductive HX (xs:Zb) (H:Hp) (Q:VK):Prop
 |mk (l:Zs) (ps:Zn) (kvs:List (Key×V)):xs=[↑l]->H l\.lst (ps.map V.ref)->⇑ps=⇑kvs->(∀(i:Nat) (p:Zs) (kv:Key×V),ps[i]?\p->kvs[i]?\kv->H p\.tup [kV kv.1,kv.2])->(∀d,H d=none->Q ↑d (upd H d (.dK (i7 [] kvs))))->HX xs H Q
def K9 (ok:dM P w H h):∀(c:Zn) (a:List (Key×V)),⇑c=⇑a->(∀(i:Nat) (p:Zs) (b:Key×V),c[i]?\p->a[i]?\b->H p\.tup [kV b.1,b.2])->
 ∃k:List (Key×Zt),KV a k/\∀(j:Nat) (p:Zs) (b:Key×Zt),c[j]?\p->k[j]?\b->∃e,(bO P w).is b.1 e=true/\IsTup h p #[e,b.2]:=by
 intro c
 induction c with
 |nil=>exact λa l _=>by cases a with|nil=>exact⟨[],.nil,λj p b d=>by simp at d⟩|cons=>ext l
 |cons p c y=>
  intro a l n
  cases a with
  |nil=>ext l
  |cons b a=>
   let⟨k,o,x⟩:=y a (by simpa using l) λi q b d g=>n (i+ 1) q b (by simpa using d) (by simpa using g)
   obtain⟨-,s,t,r⟩:=ok p _ (n 0 p b rfl rfl);let⟨u,v,rfl,z,m⟩:=vals2 t;rwa[⟨(b.1,v)::k,.cons ⟨2,m⟩ o,λj q f d g=>?_⟩]
   cases j with
   |zero=>
    obtain rfl:p=q:=by simpa using d
    obtain rfl:(b.1,v)=f:=by simpa using g
    rwa[u,jK z,r]
   |succ j=>exact x j q f (by simpa using d) (by simpa using g)
def vT (M:X.calm=true):je X (.type "dict") HX:=by
 intro m s P H O R Q I r h;let⟨l,k,a,rfl,C,hlen,B,q⟩:=h;let⟨u,rfl,D⟩:=vals1 r;ext D;let⟨A,y,c,z,v⟩:=I.aM l _ C;obtain rfl:=rM z;let⟨rs,i,G⟩:=K9 I.aM k a hlen B;let t:⇑a=⇑rs:=⇑i;rw[ahE]at A;rwa[yf (knd:=bO X.prog X.w) (rs:=rs) (I.ok.hd M) (by cbv) ∅ v (λj u E b o=>?_) λg w F kp=>?_]
 ·rw[ahZ]at b
  cases e:k[j]? with
  |none=>rw[e]at b;ext b
  |some p=>
   rw[e]at b;let⟨d,n,J⟩:=G j p E e o;rwa[p,d,(Za0 b).symm,n,J]
 ·let L:KV (i7 [] a) (merged [] rs):=KV.merge i .nil;let f:=lb a [];rw[ajd]at f;rwa[↑↥s,_,I.laid (t':=w) kp (ahG _) (rK ∅ (ahX.mpr (aiU (ah8 I.big))) L F),2,q _ (I.aM.fresh (ahG _))]
end
section
variable {X:Cx}{pins:List (Zs×Obj)}{σ:St}{H:Hp}{s:Zu}{d:Zs}{u:HO}{o:Obj}
def Inv.freeze (I:Inv X pins σ H s)(e:H d\u)(mu:ud (some u))(g:s•d\o):Inv X pins σ (upd H d (.c9 o u)) s:=by
 let a:ud (H d):=by rw[e];rwa[mu]
 let b:∀c y,H c\.own y->c≠d:=λc y r z=>by subst z;rw[r]at a;rwa[a]
 let jj:∀c f,H c\.tup f->c≠d:=λc f r z=>by subst z;rw[r]at a;rwa[a]
 let new:bY X.prog X.w (upd H d (.c9 o u)) s.heap d u:=(I.aM d u e).ft (λc v _ r=>r) (λc r=>[ak (b^r)]▸r) λc f r=>by rw[ak (jj^r)];rwa[r]
 rwa[j8 (t':=s.toks) I a (Heap.SameBut.refl _ _) ⟨o,g⟩ ⟨g,new⟩]
def Inv.F4 (I:Inv X pins σ H s)(e:H d\.c9 o u)(mu:ud (some u))(l:∀o u,X.uH d≠some (.c9 o u)):Inv X pins σ (upd H d u) s:=by
 let j:∀b,H b=none->b≠d:=λb n z=>by cbv
 let g:∀c y,H c\.own y->c≠d:=λc y r z=>by cbv
 let jj:∀c h,H c\.tup h->c≠d:=λc h r z=>by cbv
 rwa[⟨I.ok,I.os,I.bare,⟨I.base.keep,I.base.slot,λb i q n A=>?_,I.base.there,λb h q=>?_,λb i v q=>?_,λb t q=>?_⟩,I.loc,I.cell,5,λx c q=>?_,λp w=>?_,λb v q=>?_,I.len⟩]
 ·let f:=I.base.free b i q n A;rw[ak (j b f)];rwa[f]
 ·let f:=I.base.ie b h q;rw[ak (jj^f)];rwa[f]
 ·let f:=I.base.gH b i v q;rw[ak (λz=>l i v (by rw[<-z];rwa[q]))];rwa[f]
 ·let⟨m,f⟩:=I.base.ig b t q;erw[m];rw[ak (λz=>by cbv)];rwa[f]
 ·rw[ak (j _ I.free)];rwa[I.free]
 ·let f:=I.gI x c q;rw[ak (j _ f)];rwa[f]
 ·let⟨a,b,c⟩:=I.pin p w;rwa[⟨a,5,c⟩];rw[ak (j _ b)];rwa[b]
 ·let st:∀b v,bY X.prog X.w H s.heap b v->bY X.prog X.w (upd H d u) s.heap b v:=λb v q=>q.ft (λc v _ r=>r) (λc r=>[ak (g^r)]▸r) λc h r=>by rw[ak (jj^r)];rwa[r]
  cases k:b=d
  ·subst k;rw[ah]at q;obtain rfl:=Za0 q;rwa[st^(I.aM^e).2]
  ·rw[ak k]at q;rwa[st^I.aM b v q]
def Inv.La (I:Inv X pins σ H s)(e:H d\u)(mu:ud (some u)):∀o u,X.uH d≠some (.c9 o u):=λo v q=>by
 rw[I.base.gH d o v q]at e;ext e;rwa[mu]
def Wo (t:TS):TS:=λD σ H=>∃(d:Zs) (u:HO),H d\u/\ud (some u)/\
 t { nx:=λ b a=>∃o,a d\.c9 o u/\D.nx b (upd a d u),rt:=λv a=>∃o,a d\.c9 o u/\D.rt v (upd a d u),
     bk:=λ b a=>∃o,a d\.c9 o u/\D.bk b (upd a d u),ct:=λ b a=>∃o,a d\.c9 o u/\D.ct b (upd a d u) } σ H
def EI {st:Stmt}{t:TS}(h:PS X st t):PS X st (Wo t):=by
 intro pins s σ H D I q;let⟨d,u,e,mu,q⟩:=q;let i:=I.La e mu;rwa[aY (h pins s σ H _ I q) λf l p=>?_]
 cases f with
 |next=>let⟨a,j,b,o,c,g⟩:=p;rwa[a,_,b.F4 c mu i,g]
 |brk=>let⟨a,j,b,o,c,g⟩:=p;rwa[a,_,b.F4 c mu i,g]
 |cont=>let⟨a,j,b,o,c,g⟩:=p;rwa[a,_,b.F4 c mu i,g]
 |ret v=>let⟨k,a,j,b,r,o,c,g⟩:=p;rwa[k,a,_,b.F4 c mu i,r,g]
end
def Ba (d:Zs)(o:Obj)(a:List (Key×V)):It:=
 ⟨λi H=>i<⇑a/\H d\.c9 o (.dK a),λi H x c=>c=H/\∃b,a[i]?\b/\x=kV b.1,λi H=>⇑a<=i/\H d\.c9 o (.dK a)⟩
def PL {k:Key}(h:(bO P w).is k v=true):RelV (kV k) v:=by
 cases k with
 |inl i=>
  let a:Value.isInt i v=true:=h
  cases v with
  |int j t=>simp[Value.isInt]at a;subst a;rwa[12]
  |_=>simp[Value.isInt]at a
 |inr x=>
  let a:Value.isStrOf x v=true:=h
  cases v with
  |str j t=>simp[Value.isStrOf]at a;subst a;rwa[12]
  |_=>simp[Value.isStrOf]at a
inductive Dt where
 |i (n:Int)|s (l:Zh)|n|b (k:Bool)|t (xs:List Dt)|l (xs:List Dt)
inductive bQ (H:Hp):Nat->V->Dt->Prop where
 |i {k:Nat} {n:Int}:bQ H k (.int n) (.i n)
 |s {k:Nat} {l:Zh}:bQ H k (.str (tx l)) (.s l)
 |n {k:Nat}:bQ H k .non .n
 |b {k:Nat} {c:Bool}:bQ H k (.bl c) (.b c)
 |t {k:Nat} {a:Zs} {vs:Zb} {ds:List Dt}:H a\.tup vs->⇑vs=⇑ds->(∀(j:Nat) (v:V) (d:Dt),vs[j]?\v->ds[j]?\d->bQ H k v d)->bQ H (k+ 1) ↑a (.t ds)
 |l {k:Nat} {a:Zs} {vs:Zb} {ds:List Dt}:H a\.lst vs->⇑vs=⇑ds->(∀(j:Nat) (v:V) (d:Dt),vs[j]?\v->ds[j]?\d->bQ H k v d)->bQ H (k+ 1) ↑a (.l ds)
def bQ.keep (j:∀a e,H a\.tup e->I a\.tup e)(g:∀a e,H a\.lst e->I a\.lst e){k:Nat}{v:V}{d:Dt}(h:bQ H k v d):bQ I k v d:=by
 induction h with
 |i=>exact .i
 |s=>exact .s
 |n=>exact .n
 |b=>exact .b
 |t a b c f=>exact .t (j^a) b f
 |l a b c f=>exact .l (g^a) b f
def bQ.same (s:aq H I){k:Nat}{v:V}{d:Dt}(h:bQ H k v d):bQ I k v d:=h.keep (λ_ _ e=>s^e) (λ_ _ e=>s^e)
def bQ.up {k:Nat}{d:Dt}(h:bQ H k q d):bQ H (k+ 1) q d:=by
 induction h with
 |i=>exact .i
 |s=>exact .s
 |n=>exact .n
 |b=>exact .b
 |t a b c e=>exact .t a b e
 |l a b c e=>exact .l a b e
def bQ.le {k:Nat}{d:Dt}(h:bQ H k q d)(a:k<=m):bQ H m q d:=by
 let⟨j,rfl⟩:=Nat.exists_eq_add_of_le a;clear a
 induction j with
 |zero=>exact h
 |succ j b=>exact b.up
section
variable {s:Zu}
def DF (n:Int)(t a:Tok):SeqAt.EqAt A s (.int n t) (.int n a) true:=by
 have:=SeqAt.EqAt.int_int (A:=A) (s:=s) n t n a
 cbv
def DG (x:Str)(t a:Tok):SeqAt.EqAt A s (.str x t) (.str x a) true:=by
 have:=SeqAt.EqAt.str_str (A:=A) (s:=s) x t x a
 cbv
end
inductive Wq (x:V) (y:V) (H:Hp) (Q:VK):Prop
 |mk (d:Dt) (a b:Zs):x=↑a->y=↑b->bQ H 8 x d->bQ H 8 y d->Q (.bl true) H->Wq x y H Q
inductive Wr (x:V) (y:V) (H:Hp) (Q:VK):Prop
 |mk (d:Dt) (a b:Zs):x=↑a->y=↑b->bQ H 8 x d->bQ H 8 y d->Q (.bl false) H->Wr x y H Q
noncomputable def nI (l:Zh):Zg:=l.map λn:Nat=>(n:Int)
def bZ (l:Zh):⇑(nI l)=⇑l:=ahE ..
def jM (h:B[i]?\n):(nI B)[i]?\(n:Int):=by unfold nI;rw[ahZ,h];rfl
def iu (a b:Zh):nI (a++b)=nI a++nI b:=aid ..
def Sw (l:Zh)(i n:Nat):(nI l).set i (n:Int)=nI (l.set i n):=by unfold nI;rw[List.map_set]
structure RS where
 L:Nat
 q:Nat
 rows:List Dt
 ways:List (List (Int×Nat))
 gaps:Za3
 aX:Zh
 called:List Zh
 a9:Zh
def wK (l:List (Int×Nat)):List (Key×V):=l.map λp=>(Sum.inl p.1,V.int p.2)
noncomputable def gK (l:Zg):List (Key×V):=l.map λs=>(Sum.inl s,V.bl true)
noncomputable def fu (l:List (Int×Nat))(s:Int):Zi:=(l.find? λp=>decide (p.1=s)).map (·.2)
noncomputable def iY (l:List (Int×Nat))(s:Int)(r:Nat):List (Int×Nat):=if (l.any λp=>decide (p.1=s))=true then l.map λp=>if p.1=s then (p.1,r) else p else l++[(s,r)]
def Bb (l:List (Int×Nat)):⇑(wK l)=⇑l:=ahE ..
def Sx (l:Zg):⇑(gK l)=⇑l:=ahE ..
def Sy (a b:Int):decide ((Sum.inl a:Key)=Sum.inl b)=decide (a=b):=by
 cbv
theorem kJ (s:Int):∀l:List (Int×Nat),bA (wK l) (Sum.inl s)=(fu l s).map λr:Nat=>V.int (r:Int)
 |[]=>rfl
 |p::l=>by
  let b:=kJ s l;cases h:p.1=s
  ·let e:bA (wK (p::l)) (Sum.inl s)\(V.int p.2):=da (p:=(Sum.inl p.1,V.int p.2)) (by rw[h]);let a:fu (p::l) s\p.2:=by unfold fu;rw[List.find?_cons_of_pos (by cbv)];rfl
   rw[e,a];rfl
  ·let e:bA (wK (p::l)) (Sum.inl s)=bA (wK l) (Sum.inl s):=cV (p:=(Sum.inl p.1,V.int p.2)) (λz=>h (Sum.inl.inj z));let a:fu (p::l) s=fu l s:=by unfold fu;rw[akg (by simpa using h)]
   rw[e,a,b]
def Bc (l:List (Int×Nat))(s:Int)(r:Nat):putK (wK l) (Sum.inl s) (.int r)=wK (iY l s r):=by
 unfold putK iY
 let a:((wK l).any λb=>decide (b.1=Sum.inl s))=l.any λp=>decide (p.1=s):=by
  unfold wK;rw[List.any_map]
  congr 1
  funext p
  rwa[Sy _ _]
 rw[a];split
 ·unfold wK;rw[aip,aip];rwa[aiG λp _=>?_]
  cbv
 ·unfold wK;rw[aid];rfl
def Lb (l:List (Int×Nat))(s t:Int)(r:Nat):fu (iY l s r) t=if t=s then some r else fu l t:=by
 let c:=kJ t (iY l s r);rw[<-Bc,pY,kJ]at c
 let inj:∀a b:Zi,(a.map λr:Nat=>V.int (r:Int))=(b.map λr:Nat=>V.int (r:Int))->a=b:=λa b h=>by
  cases a <;> cases b <;> simp at h ⊢
  ext
 apply inj;rw[<-c];cases e:t=s
 ·rw[ah4 e,ah4 (by rw[e])];rfl
 ·rw[ahY e,ahY (λz=>e (Sum.inl.inj z))]
def Lc (l:List (Int×Nat))(s:Int)(r:Nat):⇑(iY l s r)<=⇑l+ 1:=by
 unfold iY;split
 ·rw[ahE];ext
 ·rw[ahA];rwa[ahG _]
def PN (l:Zg)(s:Int):fh (gK l) (Sum.inl s)=gK (l.filter λx=>decide (x≠s)):=by
 unfold fh gK;rw[List.filter_map]
 congr 1
 rwa[ak5 λx _=>?_]
 cbv
theorem HY (s:Int):∀l:Zg,bA (gK l) (Sum.inl s)=if s∈l then some (V.bl true) else none
 |[]=>rfl
 |x::l=>by
  cases h:x=s
  ·rw[ah4 (by cbv)];rwa[da (p:=(Sum.inl x,V.bl true)) (by rw[h])]
  ·let e:bA (gK (x::l)) (Sum.inl s)=bA (gK l) (Sum.inl s):=cV (p:=(Sum.inl x,V.bl true)) (λz=>h (Sum.inl.inj z));rw[e,HY s l]
   cbv
theorem zf:∀(more acc:List (Key×V)),((acc++more).map (·.1)).Nodup->i7 acc more=acc++more
 |[],acc,_=>(aib _).symm
 |p::more,acc,h=>by
  let b:bA acc p.1=none:=by
   unfold bA;rw[List.find?_eq_none.mpr ?_];rfl;intro q a;rw[aio];intro e;rw[aid,aiD]at h;rwa[h.2.2 q.1 (aj9 a) p.1 (aj9 ahU) e]
  show i7 (putK acc p.1 p.2) more=_;rw[A1 _ b,zf more (acc++[(p.1,p.2)]) ([aiL]▸h),aiL];rfl
structure RA where
 dx:Zs
 aR:Zs
 aW:Zs
 aG:Zs
 aE:Zs
 aC:Zs
 aN:Zs
 rs:Zn
 ws:Zn
 gs:Zn
 cs:Zn
noncomputable def fw (L made:Int)(a:RA):List (Str×V):=[("letters",.int L),("made",.int made),("rows",↑a.aR),("ways",↑a.aW),("gaps",↑a.aG),("elders",↑a.aE),("called",↑a.aC),("went",↑a.aN)]
def HZ (L m n:Int)(a:RA):bI "made" (.int n) (fw L m a)=fw L n a:=by
 let h:¬(("letters":Str)="made"):=⋯
 unfold fw;simp only[bI,ahY h,alc]
def vU (L m:Int)(a:RA):(fw L m a).lookup ("letters":Str)\(.int L):=by kernel_rfl
def tF (L m:Int)(a:RA):(fw L m a).lookup ("made":Str)\(.int m):=by kernel_rfl
def tG (L m:Int)(a:RA):(fw L m a).lookup ("rows":Str)\↑a.aR:=by kernel_rfl
def iL (L m:Int)(a:RA):(fw L m a).lookup ("ways":Str)\↑a.aW:=by kernel_rfl
def tH (L m:Int)(a:RA):(fw L m a).lookup ("gaps":Str)\↑a.aG:=by kernel_rfl
def ju (L m:Int)(a:RA):(fw L m a).lookup ("elders":Str)\↑a.aE:=by kernel_rfl
def nk (L m:Int)(a:RA):(fw L m a).lookup ("called":Str)\↑a.aC:=by kernel_rfl
def tI (L m:Int)(a:RA):(fw L m a).lookup ("went":Str)\↑a.aN:=by kernel_rfl
def cS (L m:Int)(a:RA){x:Str}(h:x∉(["letters","made","rows","ways","gaps","elders","called","went"]:Zp)):(fw L m a).lookup x=none:=by
 simp only[ahR,ail,ajN,not_or]at h;let⟨f,d,i,e,g,b,j,c⟩:=h;unfold fw;simp only[List.lookup,ahX.mpr f,ahX.mpr d,ahX.mpr i,ahX.mpr e,ahX.mpr g,ahX.mpr b,ahX.mpr j,ahX.mpr c]
theorem dP:∀{fs:List (Str×V)},fs.lookup f=none->bI f q fs=fs++[(f,q)]
 |[],_=>rfl
 |(g,x)::r,h=>by
  cases e:g=f
  ·cbv
  ·let a:(f==g)=false:=ahX.mpr (aiU e);simp only[List.lookup,a]at h;show (if g=f then _ else _)=_;rw[ahY e,dP h];rfl
inductive mB:Dt->Prop where
 |i {n:Int}:mB (.i n)
 |s {l:Zh}:mB (.s l)
 |t {ds:List Dt}:⇑ds<=100000->(∀d∈ds,mB d)->mB (.t ds)
def bQ.fW (q:∀a g,H a\.tup g->I a\.tup g){k:Nat}{v:V}{d:Dt}(h:bQ H k v d)(m:mB d):bQ I k v d:=by
 induction h with
 |i=>exact .i
 |s=>exact .s
 |n=>exact .n
 |b=>exact .b
 |t a b c e=>
  cases m with
  |t _ o=>exact .t (q^a) b λj v d p f=>e j v d p f (o d (ahB f))
 |l a b c e=>ext m
def Each {a:Type}(R:Zs->a->Prop)(b:Zn)(xs:List a):Prop:=⇑b=⇑xs/\∀(i:Nat) (p:Zs) (x:a),b[i]?\p->xs[i]?\x->R p x
def Each.imp {e:Type}{R c:Zs->e->Prop}{a:List e}(h:Each R F a)(f:∀p x,p∈F->x∈a->R p x->c p x):Each c F a:=
 ⟨h.1,λi p x d b=>f p x (ahB d) (ahB b) (h.2 i p x d b)⟩
def Each.snoc {d:Type}{R:Zs->d->Prop}{ps:Zn}{xs:List d}{x:d}(h:Each R ps xs)(f:R a x):Each R (ps++[a]) (xs++[x]):=by
 rwa[⟨by rw[ahA,ahA,h.1];rfl,λi q y c b=>?_⟩];cases e:i<⇑ps
 ·rw[ahN e]at c;rw[ahN (by rw[<-h.1];rwa[e])]at b;rwa[h.2 i q y c b]
 ·rw[ahO ∅]at c;rw[ahO (by rw[<-h.1];omega)]at b;rw[ahH.mp (ahB c),ahH.mp (ahB b)];rwa[f]
def Each.at {a:Type}{R:Zs->a->Prop}{b:List a}(h:Each R F b){i:Nat}{x:a}(d:b[i]?\x):∃p,F[i]?\p/\R p x:=by
 let c:i<⇑F:=by rw[h.1];rwa[(ahD.mp d).1]
 rwa[_,ahC c,h.2 i _ x (ahC c) d]
def Each.mem {b:Type}{R:Zs->b->Prop}{xs:List b}(h:Each R F xs){p:Zs}(d:p∈F):∃x,x∈xs/\R p x:=by
 let⟨i,c⟩:=aiu d;let a:i<⇑xs:=by rw[<-h.1];rwa[(ahD.mp c).1]
 rwa[_,ahB (ahC a),h.2 i p _ c (ahC a)]
theorem Each.set {d:Type}{R b:Zs->d->Prop}{xs:List d}{x:d}(h:Each R F xs)(g:F[i]?\a)(m:b a x)(l:F.Nodup)(f:∀q y,q∈F->q≠a->R q y->b q y):Each b F (xs.set i x):=by
 rwa[⟨[ah6]▸h.1,λj q y c k=>?_⟩];cases e:i=j
 ·cbv
 ·rw[aiZ e]at k;rwa[f q y (ahB c) (λz=>?_) (h.2 j q y c k)];subst z;rwa[e ((List.getElem?_inj (ahD.mp g).1 l).mp (g.trans c.symm))]
noncomputable def RA.lists (a:RA):Zn:=a.aR::a.aW::a.aG::a.aE::a.aC::a.aN::a.cs
noncomputable def RA.eM (a:RA):Zn:=a.ws++a.gs
def RA.own (a:RA)(r b:Zs):Prop:=b=r\/b∈a.lists\/b∈a.eM
structure ay (C:Zs) (H:Hp) (r:Zs) (S:RS) (a:RA):Prop where
 ins:H r\(.ins C a.dx (fw S.L S.q a))
 hR:H a.aR\(.lst (a.rs.map V.ref))
 hW:H a.aW\(.lst (a.ws.map V.ref))
 hG:H a.aG\(.lst (a.gs.map V.ref))
 hE:H a.aE\(.lst (ao (nI S.aX)))
 hC:H a.aC\(.lst (a.cs.map V.ref))
 hN:H a.aN\(.lst (ao (nI S.a9)))
 rR:Each (λp d=>bQ H 4 ↑p d) a.rs S.rows
 rW:Each (λp l=>H p\.dK (wK l)) a.ws S.ways
 rG:Each (λp l=>H p\.dK (gK l)) a.gs S.gaps
 rC:Each (λp l=>H p\.lst (ao (nI l))) a.cs S.called
 flat:∀d∈S.rows,mB d
 iT:a.lists.Nodup
 mC:a.eM.Nodup
section
variable {C:Zs}{H H':Hp}{r:Zs}{S:RS}{a:RA}
def ay.keep (h:ay C H r S a)(k:∀b o,a.own r b->H b\o->H' b\o)(j:∀b g,H b\.tup g->H' b\.tup g):ay C H' r S a:=by
 let c:∀b o,b∈a.lists->H b\o->H' b\o:=λb o f=>k b o (.inr (.inl f))
 let i:∀b o,b∈a.eM->H b\o->H' b\o:=λb o f=>k b o (.inr (.inr f))
 rwa[k _ _ (.inl rfl) h.ins,c _ _ (by simp[RA.lists]) h.hR,c _ _ (by simp[RA.lists]) h.hW,c _ _ (by simp[RA.lists]) h.hG,c _ _ (by simp[RA.lists]) h.hE,c _ _ (by simp[RA.lists]) h.hC,c _ _ (by simp[RA.lists]) h.hN,h.rR.imp λp x _ l e=>e.fW j (h.flat x l),h.rW.imp λp x d _ e=>i _ _ (ah3 _ d) e,h.rG.imp λp x d _ e=>i _ _ (ahI _ d) e,h.rC.imp λp x d _ e=>c _ _ (by simp[RA.lists,d]) e,h.flat,h.iT,h.mC]
def ay.same (h:ay C H r S a)(s:aq H H'):ay C H' r S a:=h.keep (λ_ _ _ e=>s^e) (λ_ _ e=>s^e)
def ay.there (h:ay C H r S a){b:Zs}(c:a.own r b):∃o,H b\o:=by
 rcases c with rfl|c|c
 ·rwa[⟨_,h.ins⟩]
 ·unfold RA.lists at c;simp only[ahR]at c;rcases c with rfl|rfl|rfl|rfl|rfl|rfl|c
  ·rwa[⟨_,h.hR⟩]
  ·rwa[⟨_,h.hW⟩]
  ·rwa[⟨_,h.hG⟩]
  ·rwa[⟨_,h.hE⟩]
  ·rwa[⟨_,h.hC⟩]
  ·rwa[⟨_,h.hN⟩]
  ·let⟨x,_,e⟩:=h.rC.mem c;rwa[_,e]
 ·rcases ahL.mp c with c|c
  ·let⟨x,_,e⟩:=h.rW.mem c;rwa[_,e]
  ·let⟨x,_,e⟩:=h.rG.mem c;rwa[_,e]
def ay.tJ (h:ay C H r S a){b:Zs}{f:Zb}(e:H b\.tup f):¬a.own r b:=λc=>by
 rcases c with rfl|c|c
 ·rw[h.ins]at e;ext e
 ·unfold RA.lists at c;simp only[ahR]at c;rcases c with rfl|rfl|rfl|rfl|rfl|rfl|c
  ·rw[h.hR]at e;ext e
  ·rw[h.hW]at e;ext e
  ·rw[h.hG]at e;ext e
  ·rw[h.hE]at e;ext e
  ·rw[h.hC]at e;ext e
  ·rw[h.hN]at e;ext e
  ·let⟨x,_,d⟩:=h.rC.mem c;cbv
 ·rcases ahL.mp c with c|c
  ·let⟨x,_,d⟩:=h.rW.mem c;cbv
  ·let⟨x,_,d⟩:=h.rG.mem c;cbv
end
end L2
variable {S T:L2.RS}{O:L2.RA}
namespace L2
open PySem PySem.Spec PyProof.Rows
section
variable {C:Zs}{H:Hp}{r:Zs}{S:RS}{a:RA}
def fX:a.aR∈a.lists:=by simp[RA.lists]
def fY:a.aW∈a.lists:=by simp[RA.lists]
def jf:a.aG∈a.lists:=by simp[RA.lists]
def gN:a.aE∈a.lists:=by simp[RA.lists]
def iM:a.aC∈a.lists:=by simp[RA.lists]
def hX:a.aN∈a.lists:=by simp[RA.lists]
def gj (h:b∈a.cs):b∈a.lists:=by simp[RA.lists,h]
def dD (h:b∈a.ws):b∈a.eM:=ah3 _ h
def gk (h:b∈a.gs):b∈a.eM:=ahI _ h
def ay.Nr (h:ay C H r S a){b:Zs}(c:b∈a.lists):∃d,H b\(.lst d):=by
 unfold RA.lists at c;simp only[ahR]at c;rcases c with rfl|rfl|rfl|rfl|rfl|rfl|c
 ·rwa[⟨_,h.hR⟩]
 ·rwa[⟨_,h.hW⟩]
 ·rwa[⟨_,h.hG⟩]
 ·rwa[⟨_,h.hE⟩]
 ·rwa[⟨_,h.hC⟩]
 ·rwa[⟨_,h.hN⟩]
 ·let⟨x,_,e⟩:=h.rC.mem c;rwa[_,e]
def ay.qH (h:ay C H r S a){b:Zs}(c:b∈a.eM):∃d,H b\(.dK d):=by
 rcases ahL.mp c with c|c
 ·let⟨x,_,e⟩:=h.rW.mem c;rwa[_,e]
 ·let⟨x,_,e⟩:=h.rG.mem c;rwa[_,e]
def ay.rl (h:ay C H r S a){b:Zs}(c:b∈a.lists):r≠b:=by let⟨d,e⟩:=h.Nr c;rwa[bT h.ins e (by cbv)]
def ay.rd (h:ay C H r S a){b:Zs}(c:b∈a.eM):r≠b:=by let⟨d,e⟩:=h.qH c;rwa[bT h.ins e (by cbv)]
def ay.ld (h:ay C H r S a){b c:Zs}(d:b∈a.lists)(hc:c∈a.eM):b≠c:=by
 let⟨f,e⟩:=h.Nr d;let⟨ys,g⟩:=h.qH hc
 cbv
def ay.tl (h:ay C H r S a){b c:Zs}{d:Zb}(e:H b\.tup d)(hc:c∈a.lists):b≠c:=λz=>h.tJ e (.inr (.inl ([z]▸hc)))
def ay.td (h:ay C H r S a){b c:Zs}{d:Zb}(e:H b\.tup d)(hc:c∈a.eM):b≠c:=λz=>h.tJ e (.inr (.inr ([z]▸hc)))
def ay.tr (h:ay C H r S a){b:Zs}{c:Zb}(d:H b\.tup c):b≠r:=λz=>h.tJ d (.inl z)
def ay.PQ (h:ay C H r S a)(n:Nat):ay C (upd H r (.ins C a.dx (fw S.L n a))) r { S with q:=n } a:=by
 let c:∀b o,b∈a.lists->H b\o->upd H r (.ins C a.dx (fw S.L n a)) b\o:=λb o f e=>by rw[ak (h.rl f).symm];rwa[e]
 let g:∀b o,b∈a.eM->H b\o->upd H r (.ins C a.dx (fw S.L n a)) b\o:=λb o f e=>by rw[ak (h.rd f).symm];rwa[e]
 rwa[ah,c _ _ fX h.hR,c _ _ fY h.hW,c _ _ jf h.hG,c _ _ gN h.hE,c _ _ iM h.hC,c _ _ hX h.hN,h.rR.imp λp x _ j e=>e.fW (λb k i=>[ak (h.tr i)]▸i) (h.flat x j),h.rW.imp λp x d _ e=>g _ _ (dD d) e,h.rG.imp λp x d _ e=>g _ _ (gk d) e,h.rC.imp λp x d _ e=>c _ _ (gj d) e,h.flat,h.iT,h.mC]
def ay.jv (h:ay C H r S a){q:Zs}{o:HO}(c:q∈a.lists):upd H q o r\.ins C a.dx (fw S.L S.q a)/\(∀b x,b∈a.lists->b≠q->H b\x->upd H q o b\x)/\(∀b x,b∈a.eM->H b\x->upd H q o b\x)/\∀b d,H b\.tup d->upd H q o b\(.tup d):=
 ⟨[ak (h.rl c)]▸h.ins,λb x _ n e=>[ak n]▸e,λb x f e=>[ak (h.ld c f).symm]▸e,λb d e=>[ak (h.tl e c)]▸e⟩
def vV (b:a.lists.Nodup):(a.aR≠a.aW/\a.aR≠a.aG/\a.aR≠a.aE/\a.aR≠a.aC/\a.aR≠a.aN)/\(a.aW≠a.aG/\a.aW≠a.aE/\a.aW≠a.aC/\a.aW≠a.aN)/\(a.aG≠a.aE/\a.aG≠a.aC/\a.aG≠a.aN)/\(a.aE≠a.aC/\a.aE≠a.aN)/\a.aC≠a.aN/\∀p∈a.cs,p≠a.aR/\p≠a.aW/\p≠a.aG/\p≠a.aE/\p≠a.aC/\p≠a.aN:=by
 unfold RA.lists at b
 cbv
def ay.Bd (h:ay C H r S a){p:Zs}{d:Dt}(j:bQ H 4 ↑p d)(hd:mB d):ay C (upd H a.aR (.lst (a.rs.map V.ref++[↑p]))) r { S with rows:=S.rows++[d] } { a with rs:=a.rs++[p] }:=by
 let⟨m,c,i,g⟩:=h.jv (o:=.lst (a.rs.map V.ref++[↑p])) (fX (a:=a));obtain⟨⟨n1,n2,n,s,k⟩,-,-,-,-,l⟩:=vV h.iT
 rwa[⟨m,5,c _ _ fY n1.symm h.hW,c _ _ jf n2.symm h.hG,c _ _ gN n.symm h.hE,c _ _ iM s.symm h.hC,c _ _ hX k.symm h.hN,(h.rR.imp λq x _ f e=>e.fW g (h.flat x f)).snoc (j.fW g hd),h.rW.imp λq x b _ e=>i _ _ (dD b) e,h.rG.imp λq x b _ e=>i _ _ (gk b) e,h.rC.imp λq x b _ e=>c _ _ (gj b) (l q b).1 e,λx f=>?_,h.iT,h.mC⟩]
 ·rw[ah,aid];rfl
 ·rcases ahL.mp f with f|f
  ·rwa[h.flat x f]
  cbv
def ay.Sz (h:ay C H r S a){p:Zs}{l:List (Int×Nat)}(g:H p\.dK (wK l))(t:p∉a.eM):ay C (upd H a.aW (.lst (a.ws.map V.ref++[↑p]))) r { S with ways:=S.ways++[l] } { a with ws:=a.ws++[p] }:=by
 let⟨j,c,f,n⟩:=h.jv (o:=.lst (a.ws.map V.ref++[↑p])) (fY (a:=a));obtain⟨⟨n1,-⟩,⟨n2,k,m,i⟩,-,-,-,u⟩:=vV h.iT;let d:upd H a.aW (.lst (a.ws.map V.ref++[↑p])) p\(.dK (wK l)):=by rw[ak (bT g h.hW (by cbv))];rwa[g]
 erw[j,c _ _ fX n1 h.hR,5,c _ _ jf n2.symm h.hG,c _ _ gN k.symm h.hE,c _ _ iM m.symm h.hC,c _ _ hX i.symm h.hN,h.rR.imp λq x _ s e=>e.fW n (h.flat x s),(h.rW.imp λq x b _ e=>f _ _ (dD b) e).snoc d,h.rG.imp λq x b _ e=>f _ _ (gk b) e,h.rC.imp λq x b _ e=>c _ _ (gj b) (u q b).2.1 e,h.flat,h.iT]
 ·rw[ah,aid];rfl
 ·show (a.ws++[p]++a.gs).Nodup;rw[aiL];rwa[(List.perm_middle.nodup_iff).mpr (aih.mpr ⟨t,h.mC⟩)]
def ay.SD (h:ay C H r S a){p:Zs}{l:Zg}(i:H p\.dK (gK l))(u:p∉a.eM):ay C (upd H a.aG (.lst (a.gs.map V.ref++[↑p]))) r { S with gaps:=S.gaps++[l] } { a with gs:=a.gs++[p] }:=by
 let⟨k,c,g,s⟩:=h.jv (o:=.lst (a.gs.map V.ref++[↑p])) (jf (a:=a));obtain⟨⟨-,n1,-⟩,⟨n2,-⟩,⟨m,n,j⟩,-,-,v⟩:=vV h.iT;let d:upd H a.aG (.lst (a.gs.map V.ref++[↑p])) p\(.dK (gK l)):=by rw[ak (bT i h.hG (by cbv))];rwa[i]
 erw[k,c _ _ fX n1 h.hR,c _ _ fY n2 h.hW,5,c _ _ gN m.symm h.hE,c _ _ iM n.symm h.hC,c _ _ hX j.symm h.hN,h.rR.imp λq x _ f e=>e.fW s (h.flat x f),h.rW.imp λq x b _ e=>g _ _ (dD b) e,(h.rG.imp λq x b _ e=>g _ _ (gk b) e).snoc d,h.rC.imp λq x b _ e=>c _ _ (gj b) (v q b).2.2.1 e,h.flat,h.iT]
 ·rw[ah,aid];rfl
 ·show (a.ws++(a.gs++[p])).Nodup;rw[<-aiL];rwa[aiD.mpr ⟨h.mC,by simp,λx f y t z=>?_⟩];rw[ahH.mp t]at z;rwa[u (z ▸ f)]
def ay.zg (h:ay C H r S a)(d:Zh):ay C (upd H a.aE (.lst (ao (nI d)))) r { S with aX:=d } a:=by
 let⟨k,c,f,g⟩:=h.jv (o:=.lst (ao (nI d))) (gN (a:=a));obtain⟨⟨-,-,n1,-⟩,⟨-,n2,-⟩,⟨l,-⟩,⟨n,i⟩,-,j⟩:=vV h.iT
 rwa[k,c _ _ fX n1 h.hR,c _ _ fY n2 h.hW,c _ _ jf l h.hG,ah,c _ _ iM n.symm h.hC,c _ _ hX i.symm h.hN,h.rR.imp λq x _ m e=>e.fW g (h.flat x m),h.rW.imp λq x b _ e=>f _ _ (dD b) e,h.rG.imp λq x b _ e=>f _ _ (gk b) e,h.rC.imp λq x b _ e=>c _ _ (gj b) (j q b).2.2.2.1 e,h.flat,h.iT,h.mC]
def ay.PR (h:ay C H r S a)(d:Zh):ay C (upd H a.aN (.lst (ao (nI d)))) r { S with a9:=d } a:=by
 let⟨k,c,f,g⟩:=h.jv (o:=.lst (ao (nI d))) (hX (a:=a));obtain⟨⟨-,-,-,-,n1⟩,⟨-,-,-,n2⟩,⟨-,-,l⟩,⟨-,n⟩,i,j⟩:=vV h.iT
 rwa[k,c _ _ fX n1 h.hR,c _ _ fY n2 h.hW,c _ _ jf l h.hG,c _ _ gN n h.hE,c _ _ iM i h.hC,ah,h.rR.imp λq x _ m e=>e.fW g (h.flat x m),h.rW.imp λq x b _ e=>f _ _ (dD b) e,h.rG.imp λq x b _ e=>f _ _ (gk b) e,h.rC.imp λq x b _ e=>c _ _ (gj b) (j q b).2.2.2.2.2 e,h.flat,h.iT,h.mC]
def ay.Ia (h:ay C H r S a){p:Zs}{l:Zh}(t:H p\.lst (ao (nI l)))(u:p∉a.lists):ay C (upd H a.aC (.lst (a.cs.map V.ref++[↑p]))) r { S with called:=S.called++[l] } { a with cs:=a.cs++[p] }:=by
 let⟨k,c,g,s⟩:=h.jv (o:=.lst (a.cs.map V.ref++[↑p])) (iM (a:=a));obtain⟨⟨-,-,-,n1,-⟩,⟨-,-,n2,-⟩,⟨-,m,-⟩,⟨n,-⟩,j,v⟩:=vV h.iT;let f:p≠a.aC:=λz=>u ([z]▸iM)
 let d:upd H a.aC (.lst (a.cs.map V.ref++[↑p])) p\(.lst (ao (nI l))):=by rw[ak f];rwa[t]
 rwa[⟨k,c _ _ fX n1 h.hR,c _ _ fY n2 h.hW,c _ _ jf m h.hG,c _ _ gN n h.hE,5,c _ _ hX j.symm h.hN,h.rR.imp λq x _ i e=>e.fW s (h.flat x i),h.rW.imp λq x b _ e=>g _ _ (dD b) e,h.rG.imp λq x b _ e=>g _ _ (gk b) e,(h.rC.imp λq x b _ e=>c _ _ (gj b) (v q b).2.2.2.2.1 e).snoc d,h.flat,5,h.mC⟩]
 ·rw[ah,aid];rfl
 ·rwa[aiD.mpr ⟨h.iT,by simp,λx i y w z=>?_⟩]
  cbv
def ay.Ib (h:ay C H r S a){i:Nat}{p:Zs}(g:a.cs[i]?\p)(l:Zh):ay C (upd H p (.lst (ao (nI l)))) r { S with called:=S.called.set i l } a:=by
 let j:=ahB g;let⟨m,b,f,u⟩:=h.jv (o:=.lst (ao (nI l))) (gj j);obtain⟨-,-,-,-,-,z⟩:=vV h.iT;let⟨n1,n2,s,t,k,v⟩:=z p j
 let d:a.cs.Nodup:=by
  have:=h.iT;unfold RA.lists at this;simp only[aih]at this;rwa[this.2.2.2.2.2.2]
 rwa[m,b _ _ fX n1.symm h.hR,b _ _ fY n2.symm h.hW,b _ _ jf s.symm h.hG,b _ _ gN t.symm h.hE,b _ _ iM k.symm h.hC,b _ _ hX v.symm h.hN,h.rR.imp λq x _ w e=>e.fW u (h.flat x w),h.rW.imp λq x c _ e=>f _ _ (dD c) e,h.rG.imp λq x c _ e=>f _ _ (gk c) e,h.rC.set g ah d λq y c n e=>b _ _ (gj c) n e,h.flat,h.iT,h.mC]
def ay.EJ (h:ay C H r S a){q:Zs}{o:HO}(c:q∈a.eM):upd H q o r\.ins C a.dx (fw S.L S.q a)/\(∀b x,b∈a.eM->b≠q->H b\x->upd H q o b\x)/\(∀b x,b∈a.lists->H b\x->upd H q o b\x)/\∀b d,H b\.tup d->upd H q o b\(.tup d):=
 ⟨[ak (h.rd c)]▸h.ins,λb x _ n e=>[ak n]▸e,λb x f e=>[ak (h.ld f c)]▸e,λb d e=>[ak (h.td e c)]▸e⟩
def ay.Be (h:ay C H r S a){i:Nat}{p:Zs}(f:a.ws[i]?\p)(l:List (Int×Nat)):ay C (upd H p (.dK (wK l))) r { S with ways:=S.ways.set i l } a:=by
 let g:=ahB f;let⟨j,d,b,k⟩:=h.EJ (o:=.dK (wK l)) (dD g);let nd:=aiD.mp h.mC
 rwa[j,b _ _ fX h.hR,b _ _ fY h.hW,b _ _ jf h.hG,b _ _ gN h.hE,b _ _ iM h.hC,b _ _ hX h.hN,h.rR.imp λq x _ m e=>e.fW k (h.flat x m),h.rW.set f ah nd.1 λq y c n e=>d _ _ (dD c) n e,h.rG.imp λq x c _ e=>d _ _ (gk c) (λz=>nd.2.2 p g q c z.symm) e,h.rC.imp λq x c _ e=>b _ _ (gj c) e,h.flat,h.iT,h.mC]
def ay.SF (h:ay C H r S a){i:Nat}{p:Zs}(f:a.gs[i]?\p)(l:Zg):ay C (upd H p (.dK (gK l))) r { S with gaps:=S.gaps.set i l } a:=by
 let g:=ahB f;let⟨j,d,b,k⟩:=h.EJ (o:=.dK (gK l)) (gk g);let nd:=aiD.mp h.mC
 rwa[j,b _ _ fX h.hR,b _ _ fY h.hW,b _ _ jf h.hG,b _ _ gN h.hE,b _ _ iM h.hC,b _ _ hX h.hN,h.rR.imp λq x _ m e=>e.fW k (h.flat x m),h.rW.imp λq x c _ e=>d _ _ (dD c) (λz=>nd.2.2 q c p g z) e,h.rG.set f ah nd.2.1 λq y c n e=>d _ _ (gk c) n e,h.rC.imp λq x c _ e=>b _ _ (gj c) e,h.flat,h.iT,h.mC]
end
noncomputable def RS.j9 (S:RS)(i:Nat)(l:List (Int×Nat)):RS:={ S with ways:=S.ways.set i l }
noncomputable def RS.setG (S:RS)(i:Nat)(l:Zg):RS:={ S with gaps:=S.gaps.set i l }
noncomputable def RS.way (S:RS)(c:Nat):List (Int×Nat):=S.ways.getD c []
def RS.gap (S:RS)(c:Nat):Zg:=S.gaps.getD c []
def RS.by (S:RS)(c:Nat)(z:Int):Zi:=fu (S.way c) z
def RS.cj (S:RS)(c:Nat)(z:Int)(d:Nat):RS:=S.j9 c (iY (S.way c) z d)
def RS.lL (S:RS)(c:Nat)(z:Int):RS:=S.setG c ((S.gap c).filter λx=>decide (x≠z))
def RS.keep (S:RS)(c:Nat)(z:Int)(d:Nat):RS:=(((S.cj c z d).cj d (-z) c).lL c z).lL d (-z)
noncomputable def kK (c:Nat)(z:Int)(n:Nat):Dt:=.t [.s [110,101,119],.i c,.i z,.i n]
def RS.grown (S:RS)(c:Nat)(z:Int)(gaps:Zg):RS:={ S with q:=S.q+ 1,rows:=S.rows++[kK c z S.q],ways:=S.ways++[[]],gaps:=S.gaps++[gaps],aX:=S.aX++[S.q],called:=S.called++[[S.q]] }
def RS.make (S:RS)(c:Nat)(z:Int)(gaps:Zg):RS:=(S.grown c z gaps).keep c z S.q
noncomputable def RS.new (L:Nat)(gaps:Zg):RS:=⟨L,(1),[],[[]],[gaps],[0],[[0]],[]⟩
structure RS.Wf (S:RS):Prop where
 w:⇑S.ways=S.q
 g:⇑S.gaps=S.q
 e:⇑S.aX=S.q
 c:⇑S.called=S.q
section
variable {X:Cx}{e:Expr}{f:Str}{ta:TE}{pos:Pos}
def PV (a:X.K=K)(b:PE X e ta)(c:attributeBase e f X.env (eval e X.env)=eval e X.env):PE X (.Attribute e f pos) (Rw K ta f):=by
 subst a;rwa[aF b c]
end
def ny {J:It}{p:TE}{Q:VK}(n:Nat)(u:Nat->V)(R:Hp->V->Nat->Prop)(G:∀r b v i,aq r b->R r v i->R b v i)(q:n<=sizeLine)
 (l:∀(i:Nat) b,aq H b->i<n->J.go i b) (C:∀(i:Nat) (x:V) (b d:Hp),aq H b->i<n->J.mj i b x d->d=b/\x=u i) (g:∀b,aq H b->J.stop n b)
 (E:∀(i:Nat) (b:Hp) (y:VK),i<n->aq H b->(∀v d,aq b d->R d v i->y v d)->p (some (u i)::D) b y)
 (z:∀a b ys,aq H b->b a=none->⇑ys=n->(∀(i:Nat) (v:V),ys[i]?\v->R b v i)->Q ↑a (upd b a (.lst ys))):rF p D Q J H:=by
 erw[λi m ys b=>m=n - i/\i<=n/\⇑ys=i/\aq H b/\∀(j:Nat) (v:V),ys[j]?\v->R b v j,⟨n,by simp,ah2 _,2,λ_ _ e=>e,λj v h=>by simp at h⟩];rintro i m ys b ⟨rfl,M,s,s2,t⟩;cases c:i<n
 ·rwa[.inr ⟨l i b s2 c,3,λx d k=>?_⟩];let⟨rfl,rfl⟩:=C i x b d s2 c k;rwa[E i _ _ c s2 λv L o F=>⟨n - (i+ 1),32,c,by rw[ahA,s];rfl,s2.trans o,λj w f=>?_⟩]
  cases I:j<⇑ys
  ·rw[ahN I]at f;rwa[G _ _ _ _ o (t j w f)]
  ·rw[ahO ∅]at f
   let B:j - ⇑ys=0:=by
    have:=(ahD.mp f).1;rw[aiM]at this;ext
   rw[B]at f;have:j=i:=∅
   subst this;rw[<-Za0 f];rwa[F]
 ·let e:i=n:=∅
  subst e;rwa[.inl ⟨g b s2,3,λa A=>z a b ys s2 A s t⟩]
theorem tK {P:Nat->Zs->Prop}:∀(ys:Zb) (k:Nat),(∀(i:Nat) (v:V),ys[i]?\v->∃p,v=↑p/\P (k+ i) p)->∃a:Zn,ys=a.map V.ref/\∀(i:Nat) (p:Zs),a[i]?\p->P (k+ i) p
 |[],_,_=>⟨[],2,λi p h=>by simp at h⟩
 |v::ys,k,h=>by
  let⟨p,rfl,f⟩:=h 0 v rfl
  let⟨a,rfl,b⟩:=tK (P:=P) ys (k+ 1) λi w c=>by
   let⟨q,e,d⟩:=h (i+ 1) w (by simpa using c)
   cbv
  rwa[⟨p::a,2,λi q d=>?_⟩]
  cases i with
  |zero=>cbv
  |succ i=>
   cbv
theorem jw {f:Str}{v:V}{n:Nat}:∀{fs:List (Str×V)},⇑fs<=n->⇑(bI f v fs)<=n+ 1
 |[],h=>by show 1<=n+ 1;ext
 |(g,x)::r,h=>by
  show ⇑(if g=f then (g,v)::r else (g,x)::bI f v r)<=n+ 1;rw[ah0]at h;split
  ·rw[ah0];ext
  ·have:=jw (f:=f) (v:=v) (n:=n - 1) (fs:=r) ∅;rw[ah0];ext
def qI (K:Za1):PySem.W.kitOne K (.type "int") (.type "tuple")\false:=by first|rfl|kernel_rfl
def rN (K:Za1):PySem.W.kitOne K (.type "int") (.type "list")\false:=by first|rfl|kernel_rfl
def rO (K:Za1):PySem.W.kitOne K (.type "int") (.type "dict")\false:=by first|rfl|kernel_rfl
def qJ (K:Za1):PySem.W.kitOne K (.type "str") (.type "tuple")\false:=by first|rfl|kernel_rfl
def rP (K:Za1):PySem.W.kitOne K (.type "str") (.type "list")\false:=by first|rfl|kernel_rfl
def rQ (K:Za1):PySem.W.kitOne K (.type "str") (.type "dict")\false:=by first|rfl|kernel_rfl
theorem rS:∀{d:List DictEntry} {f:List (Key×Zt)} {c:List (Key×V)},Pairs (bO P w) d f->KV c f->Vals (c.map λi=>kV i.1) (d.map (·.key))
 |[],_,_,.nil,r=>by ext r;rwa[.nil]
 |e::d,_,_,.cons g j h,r=>by
  cases r with
  |cons a b=>
   rw[aiS,aiS];rwa[.cons ?_ (rS h b)];rw[a.1];rwa[PL g]
theorem pairs_len:∀{b:List DictEntry} {a:List (Key×Zt)},Pairs (bO P w) b a->⇑b=⇑a
 |_,_,.nil=>rfl
 |_,_,.cons _ _ h=>by rw[ah0,ah0,pairs_len h]
section
variable {X:Cx}
inductive Ic (xs:Zb) (H:Hp) (Q:VK):Prop
 |mk (d:Zs) (kvs:List (Key×V)):xs=[↑d]->H d\.dK kvs->(∀l,H l=none->Q ↑l (upd H l (.lst (kvs.map λkv=>kV kv.1))))->Ic xs H Q
def jN (O:X.calm=true):je X (.type "list") Ic:=by
 intro w s U H S Y Q I r h;let⟨d,c,rfl,x,q⟩:=h;let⟨u,rfl,G⟩:=vals1 r;ext G;let⟨C,n,A,rel,o,g,W,E,k,e,R,t,V⟩:=tm I.aM x;let hlen:⇑c=⇑A:=⇑rel;let m:=pairs_len t;let D:g.size=⇑c:=by rw[<-ai6,m,hlen]
 rwa[Dk.HV (I.ok.hd O) n ⟨o,E,k,e⟩ ∅ λF z a y l f b=>?_]
 let N:a.toList=g.toList.map (·.key):=by
  rwa[ajX λi=>?_]
  rw[aki,ahZ,aki]
  cases j:a[i]? with
  |none=>
   let L:g.size<=i:=by
    let p:a.size<=i:=Array.getElem?_eq_none_iff.mp j;rw[b.1]at p;rwa[p]
   rw[akZ L];rfl
  |some v=>
   let⟨T,M,rfl⟩:=b.2 i v j;rw[M];rfl
 let B:a=(g.toList.map (·.key)).toArray:=by rw[<-N]
 rw[B]at f;let j:=rS t rel;rwa[↑↥s,_,I.laid (t':=z) l (ahG _) (show bY X.prog X.w _ F _ (.lst (c.map λJ=>kV J.1)) from ⟨[ahE]▸C,_,y,j,f⟩),2,q _ (I.aM.fresh (ahG _))]
end
section
variable {C:Zs}{H:Hp}{r:Zs}{S:RS}{a:RA}
theorem ay.SG (h:ay C H r S a){i:Nat}(v:i<⇑a.ws){q:Zs}{l:List (Int×Nat)}(d:H q\.dK (wK l))(w:q∉a.eM):ay C (upd H a.aW (.lst ((a.ws.map V.ref).set i ↑q))) r { S with ways:=S.ways.set i l } { a with ws:=a.ws.set i q }:=by
 let⟨D,g,n,G⟩:=h.jv (o:=.lst ((a.ws.map V.ref).set i ↑q)) (fY (a:=a));obtain⟨⟨n1,-⟩,⟨n2,E,F,B⟩,-,-,-,Q⟩:=vV h.iT;let k:upd H a.aW (.lst ((a.ws.map V.ref).set i ↑q)) q\(.dK (wK l)):=by rw[ak (bT d h.hW f!"")];rwa[d]
 let nd:=aiD.mp h.mC
 erw[D,g _ _ fX n1 h.hR,5,g _ _ jf n2.symm h.hG,g _ _ gN E.symm h.hE,g _ _ iM F.symm h.hC,g _ _ hX B.symm h.hN,h.rR.imp λq x _ f e=>e.fW G (h.flat x f),5,h.rG.imp λq x d _ e=>n _ _ (gk d) e,h.rC.imp λq x d _ e=>g _ _ (gj d) (Q q d).2.1 e,h.flat,h.iT]
 ·show upd H a.aW _ a.aW\.lst ((a.ws.set i q).map V.ref);rw[ah,List.map_set]
 ·rwa[⟨by show ⇑(a.ws.set i q)=⇑(S.ways.set i l);rw[ah6,ah6];rwa[h.rW.1],λj p x O L=>?_⟩];let b:(a.ws.set i q)[j]?\p:=O
  let c:(S.ways.set i l)[j]?\x:=L
  cases z:i=j
  ·subst z;rw[ait v]at b;rw[ait (by rw[<-h.rW.1];rwa[v])]at c;obtain rfl:=Za0 b;obtain rfl:=Za0 c;rwa[k]
  ·rw[aiZ z]at b c;rwa[n _ _ (dD (ahB b)) (h.rW.2 j p x b c)]
 ·show (a.ws.set i q++a.gs).Nodup;let M:q∉a.ws:=λz=>w (ah3 _ z)
  let s:q∉a.gs:=λz=>w (ahI _ z)
  rwa[aiD.mpr ⟨5,nd.2.1,λx f y u z=>?_⟩]
  ·have:∀(l:Zn) (i:Nat),l.Nodup->q∉l->(l.set i q).Nodup:=by
    intro l
    induction l with
    |nil=>intro i _ _;simp
    |cons x l P=>
     intro i I m;let⟨N,t⟩:=aih.mp I;let J:q≠x:=λz=>m ([z]▸ahU)
     let A:q∉l:=λz=>m (aie _ z)
     cases i with
     |zero=>exact aih.mpr ⟨A,t⟩
     |succ i=>
      rwa[aih.mpr ⟨λz=>?_,P i t A⟩];rcases ajQ z with z|z
      ·rwa[N z]
      ·rwa[J z.symm]
   rwa[this a.ws i nd.1 M]
  ·rcases ajQ f with f|f
   ·rwa[nd.2.2 x f y u z]
   ·rw[<-f,z]at s;rwa[s u]
end
def PX (l:List (Int×Nat))(s:Int):fh (wK l) (Sum.inl s)=wK (l.filter λp=>decide (p.1≠s)):=by
 unfold fh wK;rw[List.filter_map]
 congr 1
 rwa[ak5 λx _=>?_]
 cbv
def Ie (l:List (Int×Nat))(s t:Int):fu (l.filter λp=>decide (p.1≠s)) t=if t=s then none else fu l t:=by
 induction l with
 |nil=>split <;> rfl
 |cons p l a=>
  let b:∀(q:Int×Nat) (m:List (Int×Nat)),fu (q::m) t=if q.1=t then some q.2 else fu m t:=λq m=>by
   unfold fu
   cbv
  cbv
abbrev Way:=Nat×Int×Nat
abbrev Ze:=List Way
def RS.aw (S:RS)(c:Nat):Nat:=S.aX.getD c 0
def RS.ck (S:RS)(c:Nat):Zh:=S.called.getD c []
noncomputable def hJ (c:Nat)(z:Int)(x y:Nat):Dt:=.t [.s [109,101,101,116],.i c,.i z,.i x,.i y]
def RS.joined (S:RS)(c:Nat)(z:Int)(x y:Nat):RS:=
 { S with rows:=S.rows++[hJ c z x y],a9:=S.a9++[y],aX:=(S.ck y).foldl (λa n=>a.set n x) S.aX,called:=S.called.set x (S.ck x++S.ck y) }
def RS.oQ (S:RS)(c:Nat)(z:Int):RS:=S.j9 c ((S.way c).filter λp=>decide (p.1≠z))
def jx (c:Nat)(st:RS×Ze)(p:Int×Nat):RS×Ze:=(if p.2≠c then st.1.oQ p.2 (-p.1) else st.1,st.2++[(c,p.1,p.2)])
def RS.oR (S:RS)(c:Nat)(a:Ze):RS×Ze:=(S.way c).foldl (jx c) (S.j9 c [],a)
def RS.meet (S:RS)(c:Nat)(z:Int)(x y:Nat)(a:Ze):RS×Ze:=(S.joined c z (min x y) (max x y)).oR (max x y) a
def RS.takeIn (S:RS)(a:Ze)(w:Way):RS×Ze:=
 if (S.by (S.aw w.1) w.2.1).getD (S.aw w.2.2)≠S.aw w.2.2 then S.meet (S.aw w.1) w.2.1 ((S.by (S.aw w.1) w.2.1).getD (S.aw w.2.2)) (S.aw w.2.2) a
 else if (S.by (S.aw w.2.2) (-w.2.1)).getD (S.aw w.1)≠S.aw w.1 then S.meet (S.aw w.2.2) (-w.2.1) ((S.by (S.aw w.2.2) (-w.2.1)).getD (S.aw w.1)) (S.aw w.1) a
 else (S.keep (S.aw w.1) w.2.1 (S.aw w.2.2),a)
structure F5 (S:RS) (c:Nat):Prop where
 nd:((S.way c).map (·.1)).Nodup
 lt:∀q∈S.way c,q.2<S.q
 bk:∀q∈S.way c,q.2≠c->(S.by q.2 (-q.1)).isSome=true
def jm {l:List (Int×Nat)}(a:n<⇑S.ways):(S.j9 n l).way m=if m=n then l else S.way m:=by
 unfold RS.j9 RS.way
 cbv
def jy (a:n<⇑S.ways):(S.cj n z i).by m y=if m=n/\y=z then some i else S.by m y:=by
 unfold RS.cj RS.by;rw[jm a];cases h:m=n
 ·subst h;rw[ah4 rfl,Lb]
  cbv
 cbv
def F6 (a:n<⇑S.ways):(S.oQ n z).by m y=if m=n/\y=z then none else S.by m y:=by
 unfold RS.oQ RS.by;rw[jm a];cases h:m=n
 ·subst h;rw[ah4 rfl,Ie]
  cbv
 ·rw[ahY h,ahY (λq=>h q.1)]
def PY {l:List (Int×Nat)}(a:n<⇑S.ways):(S.j9 n l).by m z=if m=n then fu l z else S.by m z:=by
 unfold RS.by;rw[jm a];split <;> rfl
def dc (c:Nat)(S:RS)(a:Ze)(b:List (Int×Nat)):RS×Ze:=b.foldl (jx c) (S.j9 c [],a)
def iw (c:Nat)(S:RS)(a:Ze)(b:List (Int×Nat))(p:Int×Nat):dc c S a (b++[p])=jx c (dc c S a b) p:=by unfold dc;cbv
def snoc_ind {b:Type}{P:List b->Prop}(f:P [])(d:∀l x,P l->P (l++[x])):∀l,P l:=λl=>by
 have:∀n (l:List b),⇑l=n->P l:=by
  intro n
  induction n with
  |zero=>cbv
  |succ n c=>
   intro l e;let a:l≠[]:=λz=>by rw[z]at e;ext e
   rw[<-ajx a];rwa[d^(c _ (by rw[List.length_dropLast];omega))]
 rwa[this _ l rfl]
def zh (c:Nat)(S:RS)(a:Ze):∀b:List (Int×Nat),(dc c S a b).2=a++b.map λp=>(c,p.1,p.2):=by
 rwa[snoc_ind (by simp[dc]) λb p d=>?_]
 rw[iw];show (dc c S a b).2++_=_
 cbv
def gF (c:Nat)(S:RS)(a:Ze):∀b:List (Int×Nat),(dc c S a b).1.ways.length=⇑S.ways/\(dc c S a b).1={ S with ways:=(dc c S a b).1.ways }:=by
 rwa[snoc_ind ⟨by simp[dc,RS.j9],2⟩ λb p d=>?_]
 rw[iw];unfold jx;cases h:p.2≠c
 ·simp only[h,alc,aj2,ne_eq];erw[5]
  ·show ⇑(List.set^_)=_;rw[ah6];rwa[d.1]
  ·unfold RS.oQ RS.j9;rw[d.2]
 ·simp only[h,aks];rwa[d]
def yg {c:Ze}(m:n<⇑S.ways):∀f:List (Int×Nat),(∀q∈f,q.2<⇑S.ways)->∀d z,(dc n S c f).1.by d z=if d=n\/∃q∈f,q.2=d/\z= -q.1 then none else S.by d z:=by
 rwa[snoc_ind (λ_ d z=>?_) λf p l i d z=>?_]
 ·show (S.j9 n []).by d z=_;rw[PY m];cases h:d=n
  ·rw[ah4 h,ah4 (.inl h)];rfl
  cbv
 ·let g:=l (λq a=>i q (ah3 _ a)) d z;let j:=i p (ahI _ ahU);rw[iw];unfold jx;cases h:p.2≠n
  ·simp only[h,alc,aj2,ne_eq];rw[F6 ([(gF n S c f).1]▸j),g];cases e:d=p.2/\z= -p.1
   ·rw[ah4 e,ah4 (.inr ⟨p,ahI _ ahU,e.1.symm,e.2⟩)]
   ·rw[ahY e];cases b:d=n\/∃q∈f,q.2=d/\z= -q.1
    ·rw[ah4 b,ah4 (b.imp id λζ=>by let⟨q,a,r⟩:=ζ;rwa[⟨q,ah3 _ a,r⟩])]
    ·rw[ahY b,ahY];rintro (q|⟨q,a,r⟩)
     ·rwa[b (.inl q)]
     ·rcases ahL.mp a with a|a
      ·rwa[b (.inr ⟨q,a,r⟩)]
      ·rw[ahH.mp a]at r;rwa[e ⟨r.1.symm,r.2⟩]
  ·simp only[h,aks];rw[g];let k:p.2=n:=akv.mp h;cases b:d=n\/∃q∈f,q.2=d/\z= -q.1
   ·rw[ah4 b,ah4 (b.imp id λζ=>by let⟨q,a,r⟩:=ζ;rwa[⟨q,ah3 _ a,r⟩])]
   ·rw[ahY b,ahY];rintro (q|⟨q,a,r⟩)
    ·rwa[b (.inl q)]
    ·rcases ahL.mp a with a|a
     ·rwa[b (.inr ⟨q,a,r⟩)]
     ·rw[ahH.mp a]at r;rwa[b (.inl (r.1.symm.trans k))]
inductive Cg (R:Za2):Nat->Nat->Prop where
 |refl (a:Nat):Cg R a a
 |symm {a b:Nat}:Cg R a b->Cg R b a
 |trans {a b c:Nat}:Cg R a b->Cg R b c->Cg R a c
 |step {a a' b b':Nat} {z:Int}:R a z b->R a' z b'->Cg R a a'->Cg R b b'
def Cg.mono {e:Za2}(h:∀a z b,R a z b->e a z b){a b:Nat}(c:Cg R a b):Cg e a b:=by
 induction c with
 |refl=>exact .refl _
 |symm _ d=>exact .symm d
 |trans _ _ f g=>exact .trans f g
 |step r1 r2 _ d=>exact .step (h _ _ _ r1) (h _ _ _ r2) d
def Im (S:RS)(R:Za2)(c:Nat)(z:Int)(d:Nat):Prop:=∃a b,R a z b/\S.aw a=c/\S.aw b=d
def zi (S:RS)(a:Ze)(c:Nat)(z:Int)(d:Nat):Prop:=S.by c z=some d\/∃w∈a,(S.aw w.1=c/\w.2.1=z/\S.aw w.2.2=d)\/(S.aw w.1=d/\w.2.1= -z/\S.aw w.2.2=c)
structure Good (S:RS) (pend:Ze) (R:Za2):Prop where
 wf:S.Wf
 el:∀c,c<S.q->S.aw c<=c/\S.aw (S.aw c)=S.aw c
 ca:∀e,e<S.q->S.aw e=e->∀c,c∈S.ck e↔c<S.q/\S.aw c=e
 cb:∀e c,c∈S.ck e->c<S.q
 cn:∀e,(S.ck e).Nodup
 kn:∀c,((S.way c).map (·.1)).Nodup
 st:∀c z d,S.by c z=some d->c<S.q/\d<S.q/\S.aw c=c/\S.aw d=d
 sy:∀c z d,S.by c z=some d->S.by d (-z)=some c
 pl:∀w∈pend,w.1<S.q/\w.2.2<S.q
 rl:∀c z d,R c z d->c<S.q/\d<S.q/\R d (-z) c
 cv:∀c z d,R c z d->zi S pend (S.aw c) z (S.aw d)
 so:∀c z d,S.by c z=some d->Im S R c z d
 sp:∀w∈pend,Im S R (S.aw w.1) w.2.1 (S.aw w.2.2)
 cg:∀c,c<S.q->Cg R c (S.aw c)
section
variable {S:RS}{pend:Ze}{R:Za2}
def Good.lt (h:Good S pend R){c:Nat}(hc:c<S.q):S.aw c<S.q:=ahK (h.el c hc).1 hc
def Im.back (h:Good S pend R){c d:Nat}{z:Int}(i:Im S R c z d):Im S R d (-z) c:=by
 let⟨b,e,r,a,f⟩:=i;rwa[e,b,(h.rl _ _ _ r).2.2,f,a]
def Good.must (h:Good S pend R){c x y:Nat}{z:Int}(i:Im S R c z x)(j:Im S R c z y):Cg R x y:=by
 let⟨p,n,r1,e,l⟩:=i;let⟨m,o,r2,f1,d⟩:=j;let⟨g,l2,_⟩:=h.rl _ _ _ r1;let⟨k,f,_⟩:=h.rl _ _ _ r2;let a1:=h.cg _ g;let a2:=h.cg _ l2;let a:=h.cg _ k;let b:=h.cg _ f;rw[e]at a1;rw[l]at a2;rw[f1]at a;rw[d]at b;rwa[a2.symm.trans ((Cg.step r1 r2 (a1.trans a.symm)).trans b)]
def Good.keep (h:Good S pend R){c d:Nat}{z:Int}(hc:c<S.q)(hd:d<S.q)(C:S.aw c=c)(ed:S.aw d=d)(i:Im S R c z d)(J:S.by c z=none\/S.by c z=some d)(H:S.by d (-z)=none\/S.by d (-z)=some c){f:Ze}(y:∀w∈f,w∈pend)
 (B:∀w∈pend,w∉f->S.aw w.1=c/\w.2.1=z/\S.aw w.2.2=d):Good (S.keep c z d) f R:=by
 let t:c<⇑S.ways:=by rw[h.wf.w];rwa[hc]
 let n:d<⇑S.ways:=by rw[h.wf.w];rwa[hd]
 let k:∀a s,(S.keep c z d).by a s=if a=d/\s= -z then some c else if a=c/\s=z then some d else S.by a s:=λa s=>by
  show ((S.cj c z d).cj d (-z) c).by a s=_;rw[jy (by show d<⇑(S.ways.set c _);rw[ah6];rwa[n]),jy t]
 let o:∀a s b,S.by a s=some b->(S.keep c z d).by a s=some b:=λa s b e=>by
  rw[k];cases g:a=d/\s= -z
  ·rw[ah4 g];let⟨rfl,rfl⟩:=g;rcases H with q|q <;> rw[q]at e <;> ext e
   rfl
  ·rw[ahY g];cases j:a=c/\s=z
   ·rw[ah4 j];let⟨rfl,rfl⟩:=j;rcases J with q|q <;> rw[q]at e <;> ext e
    rfl
   ·rw[ahY j];rwa[e]
 let el:∀a,(S.keep c z d).aw a=S.aw a:=λa=>rfl
 let new:∀a s b,(S.keep c z d).by a s=some b->(a=d/\s= -z/\b=c)\/(a=c/\s=z/\b=d)\/S.by a s=some b:=λa s b e=>by
  rw[k]at e;cases g:a=d/\s= -z
  ·rw[ah4 g]at e;rwa[.inl ⟨g.1,g.2,(Za0 e).symm⟩]
  ·rw[ahY g]at e;cases j:a=c/\s=z
   ·rw[ah4 j]at e;rwa[.inr (.inl ⟨j.1,j.2,(Za0 e).symm⟩)]
   ·rw[ahY j]at e;rwa[.inr (.inr e)]
 let m:(S.keep c z d).by d (-z)=some c:=by rw[k,ah4 ⟨22⟩]
 let put2:(S.keep c z d).by c z=some d:=by
  rw[k];cases g:c=d/\z= -z
  ·rw[ah4 g,g.1]
  ·rw[ahY g,ah4 ⟨22⟩]
 let u:∀(l:List (Int×Nat)) (s:Int) (r:Nat),(l.map (·.1)).Nodup->((iY l s r).map (·.1)).Nodup:=λl s r D=>by
  unfold iY;split
  ·rw[aip]
   have:((λx:Int×Nat=>x.1) ∘ λp:Int×Nat=>if p.1=s then (p.1,r) else p)=λx=>x.1:=by
    funext p
    show (if p.1=s then (p.1,r) else p).1=p.1;split <;> rfl
   rw[this];rwa[D]
  ·rename_i q;rw[aid];rwa[aiD.mpr ⟨D,by simp,λa M b I e=>q ?_⟩];let⟨p,y,rfl⟩:=aiB.mp M;have:b=s:=by simpa using I
   rwa[List.any_eq_true.mpr ⟨p,y,ah9 (e.trans this)⟩]
 rwa[⟨⟨55,h.wf.e,h.wf.c⟩,h.el,h.ca,h.cb,h.cn,λa=>?_,λa s b e=>?_,λa s b e=>?_,λw v=>h.pl w (y w v),h.rl,λa s b r=>?_,λa s b e=>?_,λw v=>h.sp w (y w v),h.cg⟩]
 ·show ⇑((List.set^_).set _ _)=S.q;rw[ah6,ah6];rwa[h.wf.w]
 ·show ⇑((List.set^_).set _ _)=S.q;rw[ah6,ah6];rwa[h.wf.g]
 ·show ((((S.cj c z d).cj d (-z) c).way a).map (·.1)).Nodup;unfold RS.cj;rw[jm (by show d<⇑(S.ways.set c _);rw[ah6];rwa[n])]
  let k1:∀a,(((S.j9 c (iY (S.way c) z d)).way a).map (·.1)).Nodup:=λa=>by
   rw[jm t];split
   ·rwa[u _ _ _ (h.kn c)]
   ·rwa[h.kn a]
  split
  ·rwa[u _ _ _ (k1 d)]
  ·rwa[k1 a]
 ·rcases new a s b e with ⟨rfl,rfl,rfl⟩|⟨rfl,rfl,rfl⟩|e
  ·rwa[⟨hd,hc,ed,C⟩]
  ·rwa[⟨hc,hd,C,ed⟩]
  ·rwa[h.st a s b e]
 ·rcases new a s b e with ⟨rfl,rfl,rfl⟩|⟨rfl,rfl,rfl⟩|e
  ·rw[ajv];rwa[put2]
  ·rwa[m]
  ·rwa[o _ _ _ (h.sy _ _ _ e)]
 ·rcases h.cv a s b r with q|⟨w,v,q⟩
  ·rwa[.inl (o _ _ _ q)]
  ·cases F:w∈f
   ·rwa[.inr ⟨w,F,q⟩]
   ·let⟨f1,E,G⟩:=B w v F;rwa[.inl ?_];show (S.keep c z d).by (S.aw a) s=some (S.aw b);rcases q with ⟨g,j,A⟩|⟨g,j,A⟩
    ·rw[<-g,<-j,<-A,f1,E,G];rwa[put2]
    ·let L:s= -z:=by rw[<-E,j,ajv]
     rw[<-g,<-A,f1,G,L];rwa[m]
 ·rcases new a s b e with ⟨rfl,rfl,rfl⟩|⟨rfl,rfl,rfl⟩|e
  ·rwa[Im.back h i]
  ·rwa[i]
  ·rwa[h.so a s b e]
end
theorem Bf (x:Nat):∀(l b:Zh) (a:Nat),(∀n∈l,n<⇑b)->(l.foldl (λb n=>b.set n x) b).getD a 0=if a∈l then x else b.getD a 0
 |[],b,a,_=>by simp
 |n::l,b,a,h=>by
  rw[akQ,Bf x l (b.set n x) a (λm c=>[ah6]▸h m (aie _ c))]
  cbv
theorem zj (x:Nat):∀(l a:Zh),⇑(l.foldl (λa n=>a.set n x) a)=⇑a
 |[],_=>rfl
 |n::l,a=>by rw[akQ,zj x l,ah6]
def rT {l:List (Int×Nat)}{r:Nat}(h:fu l z\r):(z,r)∈l:=by
 let⟨q,a,rfl⟩:=aiI.mp h
 cbv
def jz {l:List (Int×Nat)}(a:(l.map (·.1)).Nodup){q:Int×Nat}(h:q∈l):fu l q.1\q.2:=by
 induction l with
 |nil=>ext h
 |cons p l b=>
  unfold fu;rw[aiS,aih]at a;cases e:p.1=q.1
  ·cbv
  ·rw[akg (by simpa using e)];rcases ahR.mp h with rfl|h
   ·rwa[absurd rfl e]
   ·rwa[b a.2 h]
theorem lM:∀(n:Nat) (l:Zh),l.Nodup->(∀x∈l,x<n)->⇑l<=n
 |0,[],_,_=>ahG _
 |0,a::l,_,h=>absurd (h a (ahU ..)) ∅
 |n+ 1,l,b,h=>by
  cases c:n∈l
  ·have:=lM n (l.erase n) (b.erase n) (λx d=>by
    cbv)
   rw[aj3 c]at this;ext
  ·have:=lM n l b (λx d=>by
    cbv)
   ext
theorem rV:∀(k l:Zg),l.Nodup->(∀x∈l,x∈k)->⇑l<=⇑k
 |[],[],_,_=>ahG _
 |[],a::l,_,h=>by have:=h a ahU;cbv
 |y::k,l,b,h=>by
  cases c:y∈l
  ·have:=rV k (l.erase y) (b.erase y) (λx d=>by
    cbv)
   rw[aj3 c]at this;rw[ah0];ext
  ·have:=rV k l b (λx d=>by
    cbv)
   rw[ah0];ext
def PZ {pend:Ze}(i:n<⇑S.ways)(e:∀a,((S.way a).map (·.1)).Nodup):∀c:List (Int×Nat),(∀q∈c,q.2<⇑S.ways)->∀a,(((dc n S pend c).1.way a).map (·.1)).Nodup:=by
 rwa[snoc_ind (λ_ a=>?_) λc p g d a=>?_]
 ·show (((S.j9 n []).way a).map (·.1)).Nodup;rw[jm i];split
  ·rwa[ajn]
  ·rwa[e a]
 ·let b:=g (λq f=>d q (ah3 _ f));rw[iw];unfold jx;cases h:p.2≠n
  ·simp only[h,alc,aj2,ne_eq];unfold RS.oQ;rw[jm ([(gF n S pend c).1]▸d p (ahI _ ahU))];split
   ·rwa[List.Nodup.sublist (List.Sublist.map _ ajG) (b p.2)]
   ·rwa[b a]
  ·simp only[h,aks];rwa[b a]
section
variable {S:RS}{pend:Ze}{R:Za2}
def zi.back (h:Good S pend R){b:RS}{a:Ze}(sy:∀c z d,b.by c z=some d->b.by d (-z)=some c){c d:Nat}{z:Int}(i:zi b a c z d):zi b a d (-z) c:=by
 rcases i with q|⟨w,j,q⟩
 ·rwa[.inl (sy _ _ _ q)]
 ·rwa[.inr ⟨w,j,?_⟩];rcases q with ⟨e,g,f⟩|⟨e,g,f⟩
  ·rwa[.inr ⟨e,by rw[g,ajv],f⟩]
  ·rwa[.inl ⟨e,g,f⟩]
def Good.meet (h:Good S pend R){c x y:Nat}{z:Int}(Y:S.by c z=some x)(hy:y<S.q)(ey:S.aw y=y)(hxy:x≠y)(iy:Im S R c z y){d:Ze}(hp:∀w∈d,w∈pend)
 (hcv:∀w∈pend,w∉d->(S.aw w.1=c/\w.2.1=z/\S.aw w.2.2=y)\/(S.aw w.1=y/\w.2.1= -z/\S.aw w.2.2=c)):
 Good (S.meet c z x y d).1 (S.meet c z x y d).2 R/\(∀a,(S.meet c z x y d).1.aw a=if S.aw a=max x y then min x y else S.aw a)/\(S.meet c z x y d).2=d++(S.way (max x y)).map (λp=>(max x y,p.1,p.2)):=by
 let⟨hc,hxm,ec,ex⟩:=h.st _ _ _ Y;let A:Cg R x y:=h.must (h.so _ _ _ Y) iy;let Q:min x y<S.q:=∅
 let F:max x y<S.q:=∅
 let J:min x y<max x y:=∅
 let T:S.aw (min x y)=min x y:=by rcases ajB x y with q|q;rw[aj4 ∅];rwa[ex];rw[akB ∅];rwa[ey]
 let N:S.aw (max x y)=max x y:=by rcases ajB x y with q|q;rw[ak9 ∅];rwa[ey];rw[akU ∅];rwa[ex]
 let L:x=min x y\/x=max x y:=∅
 let H:y=min x y\/y=max x y:=∅
 let j:Cg R (max x y) (min x y):=by
  rcases ajB x y with q|q
  ·rw[ak9 (by omega),aj4 (by omega)];rwa[A.symm]
  ·rw[akU ∅,akB ∅];rwa[A]
 unfold RS.meet;change max x y=v at F J N L H j ⊢;change min x y=u at Q J T L H j ⊢;let I:v<⇑S.ways:=by rw[h.wf.w];rwa[F]
 let O:∀q∈S.way v,q.2<⇑S.ways:=λq E=>by
  rw[h.wf.w];rwa[(h.st v q.1 q.2 (jz (h.kn v) E)).2.1]
 let hP:((S.joined c z u v).oR v d)=dc v (S.joined c z u v) d (S.way v):=rfl;rw[hP];let rest:=gF v (S.joined c z u v) d (S.way v);let byJ:∀a s,(S.joined c z u v).by a s=S.by a s:=λa s=>rfl
 let SJ:∀a s,(dc v (S.joined c z u v) d (S.way v)).1.by a s=if a=v\/S.by a s=some v then none else S.by a s:=λa s=>by
  rw[yg (S:=S.joined c z u v) I _ O,byJ]
  have:(a=v\/∃q∈S.way v,q.2=a/\s= -q.1)↔(a=v\/S.by a s=some v):=by
   rwa[or_congr Iff.rfl ⟨5,λe=>?_⟩]
   ·rintro ⟨q,E,rfl,rfl⟩;rwa[h.sy _ _ _ (jz (h.kn v) E)]
   ·have:=rT (h.sy _ _ _ e);rwa[_,this,2,(ajv s).symm]
  simp only[this]
 let o:(dc v (S.joined c z u v) d (S.way v)).2=d++(S.way v).map λp=>(v,p.1,p.2):=zh _ _ _ _
 let G:=PZ (S:=S.joined c z u v) (pend:=d) I h.kn (S.way v) O
 let heq:∀a,(dc v (S.joined c z u v) d (S.way v)).1.aw a=if S.aw a=v then u else S.aw a:=λa=>by
  rw[rest.2];show ((S.ck v).foldl (λD n=>D.set n u) S.aX).getD a 0=_;rw[Bf u _ _ _ (λn hn=>[h.wf.e]▸h.cb v n hn)];cases i:a<S.q
  ·have:=h.ca v F N a;cases e:S.aw a=v
   ·cbv
   ·rw[ahY (λq=>e (this.mp q).2),ahY e];rfl
  ·let P:S.aw a=0:=by unfold RS.aw;rw[ahJ,aim (by rw[h.wf.e];omega)];rfl
   rw[ahY (λq=>i (h.cb v a q)),ahY ∅];rfl
 let k:∀e,(dc v (S.joined c z u v) d (S.way v)).1.ck e=if e=u then S.ck u++S.ck v else S.ck e:=λe=>by
  rw[rest.2];show (S.called.set u (S.ck u++S.ck v)).getD e []=_;rw[ahJ];cases q:e=u
  ·subst q;rw[ait ([h.wf.c]▸Q),ah4 rfl];rfl
  ·rw[aiZ (aiU q),ahY q];unfold RS.ck;cbv
 let f:(dc v (S.joined c z u v) d (S.way v)).1.q=S.q:=by rw[rest.2];rfl
 let M:(dc v (S.joined c z u v) d (S.way v)).1.Wf:=by
  erw[[rest.1,f]▸h.wf.w,55]
  ·rw[rest.2];rwa[h.wf.g]
  ·rw[rest.2];show ⇑((S.ck v).foldl (λD n=>D.set n u) S.aX)=S.q;rw[zj];rwa[h.wf.e]
  ·rw[rest.2];show ⇑(S.called.set u (S.ck u++S.ck v))=S.q;rw[ah6];rwa[h.wf.c]
 change (dc v (S.joined c z u v) d (S.way v)).2=P2 at o ⊢;change (dc v (S.joined c z u v) d (S.way v)).1=g at rest SJ G heq k f M ⊢;rwa[⟨5,heq,o⟩]
 let bo:∀a s b,g.by a s=some b↔S.by a s=some b/\a≠v/\b≠v:=λa s b=>by
  cbv
 let nv2:∀a,g.aw (S.aw a)=g.aw a:=λa=>by
  rw[heq,heq];cases i:a<S.q
  ·rw[(h.el a i).2]
  ·let P:∀a,¬a<S.q->S.aw a=0:=λa i=>by unfold RS.aw;rw[ahJ,aim (by rw[h.wf.e];omega)];rfl
   rw[P a i];have:S.aw 0=0:=by have:=(h.el 0 ∅).1;ext
   rw[this]
 let l:∀{a b},S.aw a=S.aw b->g.aw a=g.aw b:=λ{a b} e=>by cbv
 let C:∀a s b,g.by a s=some b->g.by b (-s)=some a:=λa s b e=>by
  rw[bo]at e ⊢;rwa[h.sy _ _ _ e.1,e.2.2,e.2.1]
 let std:∀{a},S.aw a=a->g.aw a=if a=v then u else a:=λ{a} e=>by rw[heq,e]
 let kept:∀p s q,S.by p s=some q->zi g P2 (g.aw p) s (g.aw q):=λp s q e=>by
  let⟨lp,lq,ep,eq⟩:=h.st _ _ _ e;cases h1:p=v
  ·rwa[.inr ⟨(v,s,q),5,.inl ⟨by rw[h1],22⟩⟩];rw[o];rw[h1]at e;rwa[ahI _ (aiB.mpr ⟨(s,q),rT e,2⟩)]
  ·cases h2:q=v
   ·rwa[.inr ⟨(v,-s,p),5,.inr ⟨by rw[h2],22⟩⟩];rw[o];let e':=h.sy _ _ _ e;rw[h2]at e';rwa[ahI _ (aiB.mpr ⟨(-s,p),rT e',2⟩)]
   ·rwa[.inl ?_]
    cbv
 let eu2:g.aw u=u:=by rw[std T,ahY ∅]
 let V:g.aw v=u:=by rw[std N,ah4 rfl]
 let exy:g.aw x=g.aw y:=by
  let t:g.aw x=u:=by cbv
  let m:g.aw y=u:=by cbv
  rw[t,m]
 let imq:∀{a b s},Im S R (S.aw a) s (S.aw b)->Im g R (g.aw a) s (g.aw b):=λ{a b s} ζ=>by let⟨a',b',r,e1,e2⟩:=ζ;rwa[⟨a',b',r,l e1,l e2⟩]
 rwa[⟨M,λa i=>?_,λe he ee a=>?_,λe a i=>?_,λe=>?_,G,λa s b e=>?_,C,λw hw=>?_,λa s b r=>?_,λa s b r=>?_,λa s b e=>?_,λw hw=>?_,λa i=>?_⟩]
 ·rw[f]at i;let⟨U,l2⟩:=h.el a i;rw[heq]
  cbv
 ·rw[f]at he ⊢;rw[k];let nev:e≠v:=λz=>by rw[z,V]at ee;ext
  cases q:e=u
  ·subst q;rw[ah4 rfl,ahL,h.ca _ Q T,h.ca v F N,heq]
   cbv
  ·rw[ahY q]
   let P:S.aw e=e:=by
    rw[heq]at ee;cases B:S.aw e=v
    ·cbv
    ·cbv
   rw[h.ca e he P,heq]
   cbv
 ·rw[f];rw[k]at i;split at i
  ·rcases ahL.mp i with i|i
   ·rwa[h.cb^i]
   ·rwa[h.cb^i]
  ·rwa[h.cb^i]
 ·rw[k];split
  ·rwa[aiD.mpr ⟨h.cn _,h.cn _,λa i b hb e=>?_⟩];let t:=((h.ca _ Q T a).mp i).2;let m:=((h.ca v F N b).mp hb).2;rw[e,m]at t;ext
  ·rwa[h.cn _]
 ·rw[bo]at e;let⟨U,l2,W,X⟩:=h.st _ _ _ e.1;rwa[[f]▸U,[f]▸l2,by rw[std W,ahY e.2.1],by rw[std X,ahY e.2.2]]
 ·rw[f];rw[o]at hw;rcases ahL.mp hw with hw|hw
  ·rwa[h.pl w (hp w hw)]
  ·let⟨q,E,rfl⟩:=aiB.mp hw;rwa[F,(h.st v q.1 q.2 (jz (h.kn v) E)).2.1]
 ·rw[f];rwa[h.rl a s b r]
 ·rcases h.cv a s b r with q|⟨w,hw,q⟩
  ·cbv
  ·cases hm:w∈d
   ·rwa[.inr ⟨w,by cbv,?_⟩];rcases q with ⟨t,m,B⟩|⟨t,m,B⟩
    ·rwa[.inl ⟨l t,m,l B⟩]
    ·rwa[.inr ⟨l t,m,l B⟩]
   ·let base:zi g P2 (g.aw c) z (g.aw y):=by rw[<-exy];rwa[kept _ _ _ Y]
    let one:∀{p q:Nat},S.aw p=c->S.aw q=y->g.aw p=g.aw c/\g.aw q=g.aw y:=λ{p q} e1 e2=>⟨by cbv,by cbv⟩
    rcases hcv w hw hm with ⟨f1,Z,f3⟩|⟨f1,Z,f3⟩
    ·rcases q with ⟨t,m,B⟩|⟨t,m,B⟩
     ·cbv
     ·let⟨g1,g2⟩:=one (t.symm.trans f1) (B.symm.trans f3);let D:s= -z:=by rw[<-Z,m,ajv]
      rw[g1,g2,D];rwa[zi.back h C base]
    ·rcases q with ⟨t,m,B⟩|⟨t,m,B⟩
     ·let⟨g1,g2⟩:=one (B.symm.trans f3) (t.symm.trans f1);let D:s= -z:=by rw[<-m,Z]
      rw[g1,g2,D];rwa[zi.back h C base]
     cbv
 ·rw[bo]at e;let⟨U,l2,W,X⟩:=h.st _ _ _ e.1;have:=h.so _ _ _ e.1
  cbv
 ·rw[o]at hw;rcases ahL.mp hw with hw|hw
  ·rwa[imq (h.sp w (hp w hw))]
  ·let⟨q,E,rfl⟩:=aiB.mp hw;let e:=jz (h.kn v) E;let⟨U,l2,W,X⟩:=h.st v q.1 q.2 e;have:=h.so _ _ _ e
   cbv
 ·rw[f]at i;rw[heq];split
  ·rename_i q;have:=h.cg a i;rw[q]at this;rwa[this.trans j]
  ·rwa[h.cg a i]
end
def RS.stand (S:RS):Nat:=(~~~S.q).countP λc=>decide (S.aw c=c)
theorem lO {p p':Nat->Bool}{v:Nat}(h:∀a,p' a=(p a && decide (a≠v)))(b:p v=true):∀n,(~~~n).countP p'+ (if v<n then 1 else 0)=(~~~n).countP p
 |0=>rfl
 |n+ 1=>by
  let c:=lO h b n;rw[ajf,ajg,ajg,<-c];rw[ajq,ajq,h n];cases e:n=v
  ·subst e;rw[b,ahY (aiR n),ah4 (ai2 n)];simp
  ·have:decide (n≠v)=true:=ah9 e;rw[this,Bool.and_true];let d:(v<n+ 1)=(v<n):=propext ⟨λ_=>∅,λ_=>∅⟩;simp only[d];ext
def mu (k:Nat)(S:RS)(pend:Ze):Nat:=S.stand* (k+ 1)+ ⇑pend
section
variable {S:RS}{pend:Ze}{R:Za2}{w:Way}{ks:Zg}
def Good.Ig (h:Good S pend R)(e:∀c z d,R c z d->z∈ks)(c:Nat):⇑(S.way c)<=⇑ks:=by
 have:=rV ks ((S.way c).map (·.1)) (h.kn c) (λx g=>by
  let⟨q,f,rfl⟩:=aiB.mp g;let⟨a,b,r,_⟩:=h.so c q.1 q.2 (jz (h.kn c) f);rwa[e _ _ _ r])
 rw[ahE]at this;rwa[this]
def Good.SK (h:Good S pend R)(c:Nat):⇑(S.ck c)<=S.q:=lM _ _ (h.cn c) λx a=>h.cb c x a
def Good.take (h:Good S (pend++[w]) R)(L:∀c z d,R c z d->z∈ks):Good (S.takeIn pend w).1 (S.takeIn pend w).2 R/\mu ⇑ks (S.takeIn pend w).1 (S.takeIn pend w).2<mu ⇑ks S (pend++[w])/\(S.takeIn pend w).1.q=S.q/\(S.takeIn pend w).1.L=S.L/\
 ((S.takeIn pend w).1.stand=S.stand/\(S.takeIn pend w).1.rows=S.rows/\(S.takeIn pend w).1.a9=S.a9\/(S.takeIn pend w).1.stand+ 1=S.stand/\∃c z x y,S.by c z=some x/\Im S R c z y/\y<S.q/\S.aw y=y/\x≠y/\(S.takeIn pend w).1.rows=S.rows++[hJ c z (min x y) (max x y)]/\(S.takeIn pend w).1.a9=S.a9++[max x y]/\∀a,(S.takeIn pend w).1.aw a=if S.aw a=max x y then min x y else S.aw a):=by
 let hw:=h.pl w (ahI _ ahU);let k:=h.sp w (ahI _ ahU);let hc:=h.lt hw.1;let hd:=h.lt hw.2;let l:=(h.el _ hw.1).2;let ed:=(h.el _ hw.2).2;let F:∀x∈pend,x∈pend++[w]:=λx i=>ah3 _ i
 let last:∀x∈pend++[w],x∉pend->x=w:=λx i nx=>by
  cbv
 let met:∀{c x y:Nat} {z:Int},S.by c z=some x->y<S.q->S.aw y=y->x≠y->Im S R c z y->((S.aw w.1=c/\w.2.1=z/\S.aw w.2.2=y)\/(S.aw w.1=y/\w.2.1= -z/\S.aw w.2.2=c))->
  Good (S.meet c z x y pend).1 (S.meet c z x y pend).2 R/\mu ⇑ks (S.meet c z x y pend).1 (S.meet c z x y pend).2<mu ⇑ks S (pend++[w])/\(S.meet c z x y pend).1.q=S.q/\(S.meet c z x y pend).1.L=S.L/\(S.meet c z x y pend).1.stand+ 1=S.stand/\(S.meet c z x y pend).1.rows=S.rows++[hJ c z (min x y) (max x y)]/\(S.meet c z x y pend).1.a9=S.a9++[max x y]/\∀a,(S.meet c z x y pend).1.aw a=if S.aw a=max x y then min x y else S.aw a:=by
  intro c x y z i O D s P B;let⟨g,G,M⟩:=h.meet i O D s P F (λx i nx=>[last x i nx]▸B);let⟨hc,U,l,ex⟩:=h.st _ _ _ i;let rest:=(gF (max x y) (S.joined c z (min x y) (max x y)) pend ((S.joined c z (min x y) (max x y)).way (max x y))).2
  let J:(S.meet c z x y pend).1.q=S.q:=by
   show (dc (max x y) (S.joined c z (min x y) (max x y)) pend ((S.joined c z (min x y) (max x y)).way (max x y))).1.q=_;rw[rest];rfl
  let N:(S.meet c z x y pend).1.L=S.L:=by
   show (dc (max x y) (S.joined c z (min x y) (max x y)) pend ((S.joined c z (min x y) (max x y)).way (max x y))).1.L=_;rw[rest];rfl
  let Q:(S.meet c z x y pend).1.rows=S.rows++[hJ c z (min x y) (max x y)]:=by
   show (dc (max x y) (S.joined c z (min x y) (max x y)) pend ((S.joined c z (min x y) (max x y)).way (max x y))).1.rows=_;rw[rest];rfl
  let T:(S.meet c z x y pend).1.a9=S.a9++[max x y]:=by
   show (dc (max x y) (S.joined c z (min x y) (max x y)) pend ((S.joined c z (min x y) (max x y)).way (max x y))).1.a9=_;rw[rest];rfl
  let E:S.aw (max x y)=max x y:=by rcases ajB x y with q|q;rw[ak9 ∅];rwa[D];rw[akU ∅];rwa[ex]
  let I:(S.meet c z x y pend).1.stand+ 1=S.stand:=by
   unfold RS.stand;rw[J]
   have:=lO (p:=λc=>decide (S.aw c=c)) (p':=λa=>decide ((S.meet c z x y pend).1.aw a=a)) (v:=max x y) (λa=>by
    rw[G,aiV,ajh,aio,aio,aio];cases q:S.aw a=max x y
    ·rw[ah4 q];constructor
     ·intro e;let j:S.aw (min x y)=min x y:=by rcases ajB x y with q|q;rw[aj4 ∅];rwa[ex];rw[akB ∅];rwa[D]
      rw[e]at j;ext
     ·rintro ⟨V,j⟩;rwa[absurd (V.symm.trans q) j]
    ·rw[ahY q];rwa[λe=>⟨e,λj=>q ([j]▸E)⟩,λe=>e.1]) (ah9 E) S.q
   rw[ah4 ∅]at this;rwa[this]
  let W:=h.Ig L (max x y);rwa[⟨g,5,J,N,I,Q,T,G⟩];unfold mu;rw[M,<-I,ahA,ahA,ahE,ak6,Nat.one_mul];ext
 unfold RS.takeIn;cases f:(S.by (S.aw w.1) w.2.1).getD (S.aw w.2.2)≠S.aw w.2.2
 ·rw[ah4 f]
  cases e:S.by (S.aw w.1) w.2.1 with
  |none=>rw[e]at f;rwa[absurd rfl f]
  |some x=>
   rw[e]at f;let⟨A,C,o,t,r,u,n,m⟩:=met e hd ed f k (.inl ⟨222⟩);rwa[A,C,o,t,.inr ⟨r,11,x,_,e,k,hd,ed,f,u,n,m⟩]
 ·rw[ahY f];cases b:(S.by (S.aw w.2.2) (-w.2.1)).getD (S.aw w.1)≠S.aw w.1
  ·rw[ah4 b]
   cases e:S.by (S.aw w.2.2) (-w.2.1) with
   |none=>rw[e]at b;rwa[absurd rfl b]
   |some x=>
    rw[e]at b;let H:=Im.back h k;let⟨A,C,o,t,r,u,n,m⟩:=met e hc l b H (.inr ⟨2,(ajv _).symm,2⟩);rwa[A,C,o,t,.inr ⟨r,11,x,_,e,H,hc,l,b,u,n,m⟩]
  ·rw[ahY b]
   let k1:S.by (S.aw w.1) w.2.1=none\/S.by (S.aw w.1) w.2.1=some (S.aw w.2.2):=by
    cases e:S.by (S.aw w.1) w.2.1 with
    |none=>exact .inl rfl
    |some x=>rw[e]at f;rwa[.inr (aiN some (akv.mp f))]
   let k2:S.by (S.aw w.2.2) (-w.2.1)=none\/S.by (S.aw w.2.2) (-w.2.1)=some (S.aw w.1):=by
    cases e:S.by (S.aw w.2.2) (-w.2.1) with
    |none=>exact .inl rfl
    |some x=>rw[e]at b;rwa[.inr (aiN some (akv.mp b))]
   rwa[⟨h.keep hc hd l ed k k1 k2 F (λx i nx=>[last x i nx]▸⟨222⟩),522,.inl ⟨222⟩⟩];show S.stand* _+ ⇑pend<S.stand* _+ ⇑(pend++[w]);rw[ahA];have:⇑([w]:Ze)=1:=rfl;ext
def Good.fin (h:Good S [] R){a b:Nat}(i:a<S.q)(k:b<S.q):S.aw a=S.aw b↔Cg R a b:=by
 let det:∀{a d b g:Nat} {z:Int},R a z b->R d z g->S.aw a=S.aw d->S.aw b=S.aw g:=λ{a d b g z} r1 r2 e=>by
  rcases h.cv _ _ _ r1 with p|⟨w,m,_⟩
  ·rcases h.cv _ _ _ r2 with q|⟨w,m,_⟩
   ·cbv
   cbv
  cbv
 constructor
 ·intro e;let j:=h.cg a i;let n:=h.cg b k;rw[e]at j;rwa[j.trans n.symm]
 ·intro c;clear i k
  induction c with
  |refl=>rfl
  |symm _ f=>exact f.symm
  |trans _ _ l o=>exact l.trans o
  |step r1 r2 _ f=>exact det r1 r2 f
def Good.rX (h:Good S [] R){c d:Nat}{z:Int}:S.by c z=some d↔Im S R c z d:=by
 constructor
 ·rwa[h.so c z d]
 ·rintro ⟨b,e,r,rfl,rfl⟩;rcases h.cv _ _ _ r with q|⟨w,a,_⟩
  ·rwa[q]
  cbv
end
noncomputable def fO (R:Za2)(c:Nat)(z:Int)(d:Nat):Za2:=λa s b=>R a s b\/(a=c/\s=z/\b=d)\/(a=d/\s= -z/\b=c)
def iz:∀a s b,R a s b->fO R n z m a s b:=λ_ _ _ r=>.inl r
def kb:fO R n z m n z m:=.inr (.inl ⟨222⟩)
def uT (L:Nat)(g:Zg):Good (RS.new L g) [] (λ_ _ _=>False) where
 wf:=⟨2222⟩
 el:=λc a=>by
  have:c=0:=by have:c<1:=a;ext
  subst this;rwa[ahG _,2]
 ca:=λe f _ c=>by
  have:e=0:=by have:e<1:=f;ext
  subst this;show c∈[0]↔c<1/\(RS.new L g).aw c=0
  cbv
 cb:=λe c a=>by
  have:(RS.new L g).ck e=[0]\/(RS.new L g).ck e=[]:=by
   rcases e with _|e
   ·rwa[.inl rfl]
   ·rwa[.inr rfl]
  show c<1
  cbv
 cn:=λe=>by
  rcases e with _|e
  ·show [0].Nodup;simp
  ·rwa[ajn]
 kn:=λc=>by
  rcases c with _|c <;> rwa[ajn]
 st:=λc z d h=>by
  have:(RS.new L g).by c z=none:=by rcases c with _|c <;> rfl
  cbv
 sy:=λc z d h=>by
  have:(RS.new L g).by c z=none:=by rcases c with _|c <;> rfl
  cbv
 pl:=λw b=>by ext b
 rl:=λ_ _ _ h=>h.elim
 cv:=λ_ _ _ h=>h.elim
 so:=λc z d h=>by
  have:(RS.new L g).by c z=none:=by rcases c with _|c <;> rfl
  cbv
 sp:=λw b=>by ext b
 cg:=λc a=>by
  have:c=0:=by have:c<1:=a;ext
  subst this;rwa[.refl _]
section
variable {S:RS}{R:Za2}
def Good.lay (h:Good S [] R){c d:Nat}(z:Int)(hc:c<S.q)(hd:d<S.q)(rows:List Dt):Good { S with rows:=rows } [(c,z,d)] (fO R c z d) where
 wf:=⟨h.wf.w,h.wf.g,h.wf.e,h.wf.c⟩
 el:=h.el
 ca:=h.ca
 cb:=h.cb
 cn:=h.cn
 kn:=h.kn
 st:=h.st
 sy:=h.sy
 pl:=λw f=>by rw[ahH.mp f];rwa[hc,hd]
 rl:=by
  rintro a s b (r|⟨rfl,rfl,rfl⟩|⟨rfl,rfl,rfl⟩)
  ·let⟨i,o,j⟩:=h.rl _ _ _ r;rwa[i,o,.inl j]
  ·rwa[hc,hd,.inr (.inr ⟨222⟩)]
  ·rwa[hd,hc,.inr (.inl ⟨2,ajv _,2⟩)]
 cv:=by
  rintro a s b (r|⟨rfl,rfl,rfl⟩|⟨rfl,rfl,rfl⟩)
  ·rcases h.cv _ _ _ r with q|⟨w,f,_⟩
   ·rwa[.inl q]
   ·ext f
  ·rwa[.inr ⟨_,ahU,.inl ⟨rfl,rfl,rfl⟩⟩]
  ·rwa[.inr ⟨_,ahU,.inr ⟨rfl,(ajv _).symm,rfl⟩⟩]
 so:=λa s b e=>by
  let⟨g,l,r,m,k⟩:=h.so a s b e;rwa[g,l,.inl r,m,k]
 sp:=λw f=>by
  rw[ahH.mp f];rwa[c,d,kb,22]
 cg:=λa n=>(h.cg a n).mono iz
def fA (hw:S.Wf)(c:Nat)(z:Int)(g:Zg)(a:Nat):(S.grown c z g).aw a=if a=S.q then S.q else S.aw a:=by
 unfold RS.aw;show (S.aX++[S.q]).getD a 0=_;rw[ahJ];cases e:a=S.q
 ·rw[ah4 e,e,ahO ([hw.e]▸ahG _),hw.e,ajC];rfl
 ·rw[ahY e,ahJ];cases q:a<S.q
  ·rw[ahN ([hw.e]▸q)]
  ·rw[aim (by rw[ahA,hw.e];show S.q+ 1<=a;omega),aim (by rw[hw.e];omega)]
def rY (hw:S.Wf)(c:Nat)(z:Int)(g:Zg)(a:Nat):(S.grown c z g).ck a=if a=S.q then [S.q] else S.ck a:=by
 unfold RS.ck;show (S.called++[[S.q]]).getD a []=_;rw[ahJ];cases e:a=S.q
 ·rw[ah4 e,e,ahO ([hw.c]▸ahG _),hw.c,ajC];rfl
 ·rw[ahY e,ahJ];cases q:a<S.q
  ·rw[ahN ([hw.c]▸q)]
  ·rw[aim (by rw[ahA,hw.c];show S.q+ 1<=a;omega),aim (by rw[hw.c];omega)]
def nB (d:S.Wf)(c:Nat)(z:Int)(g:Zg)(a:Nat):(S.grown c z g).way a=S.way a:=by
 unfold RS.way;show (S.ways++[[]]).getD a []=_;rw[ahJ,ahJ];cases q:a<⇑S.ways
 ·rw[ahN q]
 ·rw[ahO ∅,aim (l:=S.ways) ∅];cases b:a - ⇑S.ways=0
  ·rw[b];rfl
  ·cbv
def Good.make (h:Good S [] R){c:Nat}{z:Int}(hc:c<S.q)(x:S.aw c=c)(C:S.by c z=none)(g:Zg):Good (S.make c z g) [] (fO R c z S.q):=by
 let hw:=h.wf;let d:∀a,a<S.q->(S.grown c z g).aw a=S.aw a:=λa m=>by rw[fA hw,ahY ∅]
 let f:(S.grown c z g).aw S.q=S.q:=by rw[fA hw,ah4 rfl]
 let j:∀a s,(S.grown c z g).by a s=S.by a s:=λa s=>by unfold RS.by;rw[nB hw]
 let G:Good (S.grown c z g) [(c,z,S.q)] (fO R c z S.q):=by
  rwa[⟨⟨5555⟩,λa m=>?_,λe D ee a=>?_,λe a m=>?_,λe=>?_,λa=>?_,λa s b e=>?_,λa s b e=>?_,λw hw=>?_,55,λa s b e=>?_,λw hw=>?_,λa m=>?_⟩]
  ·show ⇑(S.ways++[[]])=S.q+ 1;rw[ahA,hw.w];rfl
  ·show ⇑(S.gaps++[_])=S.q+ 1;rw[ahA,hw.g];rfl
  ·show ⇑(S.aX++[_])=S.q+ 1;rw[ahA,hw.e];rfl
  ·show ⇑(S.called++[_])=S.q+ 1;rw[ahA,hw.c];rfl
  ·let t:a<S.q+ 1:=m;cases e:a=S.q
   ·rw[e,f];rwa[ahG _,f]
   ·let o:a<S.q:=∅
    rw[d a o];let⟨l,k⟩:=h.el a o;rwa[l,[d _ ∅]▸k]
  ·let A:e<S.q+ 1:=D;show _↔a<S.q+ 1/\_;rw[rY hw,fA hw];cases q:e=S.q
   ·subst q;rw[ah4 rfl,ahH];constructor
    ·rintro rfl;rwa[3,by cbv]
    ·rintro ⟨l,k⟩;cases n:a=S.q
     ·rwa[n]
     ·rw[ahY n]at k;have:=(h.el a ∅).1;ext
   ·let o:e<S.q:=∅
    rw[d e o]at ee;rw[ahY q,h.ca e o ee a]
    cbv
  ·show a<S.q+ 1;rw[rY hw]at m;split at m
   ·rw[ahH.mp m];ext
   ·rwa[aja (h.cb e a m)]
  ·rw[rY hw];split
   ·simp
   ·rwa[h.cn e]
  ·rw[nB hw];rwa[h.kn a]
  ·rw[j]at e;let⟨l,k,n,B⟩:=h.st a s b e;rwa[aja l,aja k,[d a l]▸n,[d b k]▸B]
  ·rw[j]at e ⊢;rwa[h.sy a s b e]
  ·rw[ahH.mp hw];rwa[aja hc,ai2 _]
  ·rintro a s b (r|⟨rfl,rfl,rfl⟩|⟨rfl,rfl,rfl⟩)
   ·let⟨l,k,n⟩:=h.rl _ _ _ r;rwa[aja l,aja k,.inl n]
   ·rwa[aja hc,ai2 _,.inr (.inr ⟨222⟩)]
   ·rwa[ai2 _,aja hc,.inr (.inl ⟨2,ajv _,2⟩)]
  ·rintro a s b (r|⟨rfl,rfl,rfl⟩|⟨rfl,rfl,rfl⟩)
   ·let⟨l,k,_⟩:=h.rl _ _ _ r;rcases h.cv _ _ _ r with q|⟨w,hw,_⟩
    ·rwa[.inl (by rw[d a l,d b k,j];rwa[q])]
    ·ext hw
   ·rwa[.inr ⟨_,ahU,.inl ⟨rfl,rfl,rfl⟩⟩]
   ·rwa[.inr ⟨_,ahU,.inr ⟨rfl,(ajv _).symm,rfl⟩⟩]
  ·rw[j]at e;let⟨u,v,r,p,y⟩:=h.so a s b e;let⟨l,k,_⟩:=h.rl _ _ _ r;rwa[u,v,.inl r,[d u l]▸p,[d v k]▸y]
  ·rw[ahH.mp hw];rwa[c,S.q,kb,22]
  ·let t:a<S.q+ 1:=m;cases e:a=S.q
   ·rw[e,f];rwa[.refl _]
   ·rw[d a ∅];rwa[(h.cg a ∅).mono iz]
 let p:(S.grown c z g).aw c=c:=by rw[d c hc];rwa[x]
 let i:=G.sp _ ahU;rw[show (c,z,S.q).1=c from rfl,show (c,z,S.q).2.2=S.q from rfl,p,f]at i;rwa[G.keep (aja hc) (ai2 _) p f i (.inl ([j]▸C)) (.inl ?_) (λw hw=>by ext hw) (λw hw _=>[ahH.mp hw]▸⟨p,2,f⟩)];rw[j]
 cases e:S.by S.q (-z) with
 |none=>rfl
 |some b=>have:=(h.st _ _ _ e).1;ext
end
def aaM (n:Nat)(s:Int):Za2:=λa z b=>(z=s/\b=a+ 1/\b<n)\/(z= -s/\a=b+ 1/\a<n)
inductive Wt (x:V) (y:V) (H:Hp) (Q:VK):Prop
 |mk (a b:Zs) (xs:Zb) (t:Str):x=↑a->y=↑b->H a\.tup xs->H b\.tup [.str t]->(xs=[]\/(∃n,xs=[.int n])\/∃t',xs=[.str t'])->Q (.bl (decide (xs=[V.str t]))) H->Wt x y H Q
section
variable {X:Cx}
def F7 {z v:Str}{scope:Scope}(g:closureFor scope X.env=pure [(f,c),(z,d),(v,a)])(J:X.env.cells.lookup f\c)(I:X.env.cells.lookup z\d)(L:X.env.cells.lookup v\a)(A:∀q∈scope.names,q.2≠.cell)(C:scope.kind=.function)
 (G:∀q∈scope.names,q.2=.local->scope.names.lookup q.1=some .local) (F:scope.names.lookup x=some .local) (e:∀q∈scope.names,q.2=.free->q.1=f\/q.1=z\/q.1=v) (b:(x≠f/\x≠z/\x≠v)/\f≠z/\f≠v/\z≠v) (E:X.N[i]?\f) (H:X.N[j]?\z) (D:X.N[n]?\v)
 (m:X.env.kindOf f=some .cell) (o:X.env.kindOf z=some .cell) (p:X.env.kindOf v=some .cell) (l:X.env.scope.kind=.function) (s:scope.names.lookup f=some .free) (u:scope.names.lookup z=some .free) (y:scope.names.lookup v=some .free):eh X x [f,z,v] [i,j,n] scope [(f,c),(z,d),(v,a)] where
 AQ:=g
 sub:=λw q h=>by
  cbv
 cell:=A
 kind:=C
 names:=G
 own:=F
 has:=λw h=>by
  let B:w=f\/w=z\/w=v:=by
   rcases h with h|h
   ·rwa[e _ (g9 h (.inl rfl) A) rfl]
   ·rwa[e _ (g9 h (.inr rfl) A) rfl]
  cbv
 nd:=by simp[b.1.1,b.1.2.1,b.1.2.2,b.2.1,b.2.2.1,b.2.2.2]
 len:=rfl
 at_:=λk w h=>by
  match k,h with
  |0,h=>
   let a:f=w:=by simpa using h
   subst a;rwa[i,2,E,.inl m,c,by simp[ajI],.inl (cU l m s)]
  |1,h=>
   let a:z=w:=by simpa using h
   subst a;let r:(z==f)=false:=ahX.mpr (λq=>b.2.1 q.symm);rwa[j,2,H,.inl o,d,by simp[ajI,r],.inl (cU l o u)]
  |2,h=>
   let B:v=w:=by simpa using h
   subst B;let r:(v==f)=false:=ahX.mpr (λq=>b.2.2.1 q.symm);let t:(v==z)=false:=ahX.mpr (λq=>b.2.2.2 q.symm);rwa[n,2,D,.inl p,a,by simp[ajI,r,t],.inl (cU l p y)]
  |k+ 3,h=>simp at h
end
end L2
namespace L2
def iA {a z:TS}(h:let b:TS:=z;aS a b G D H):(aS a z) G D H:=h
def fP {a b z:TS}(h:let c:TS:=z;let d:TS:=aS b c;aS a d G D H):(aS a (aS b z)) G D H:=h
def iB {a b c z:TS}(h:let f:TS:=z;let e:TS:=aS c f;let d:TS:=aS b e;aS a d G D H):(aS a (aS b (aS c z))) G D H:=h
def p5 {b c d a z:TS}(h:let g:TS:=z;let i:TS:=aS a g;let f:TS:=aS d i;let e:TS:=aS c f;aS b e G D H):(aS b (aS c (aS d (aS a z)))) G D H:=h
noncomputable def mD {b c d a e z:TS}(h:let g:TS:=z;let j:TS:=aS e g;let k:TS:=aS a j;let i:TS:=aS d k;let f:TS:=aS c i;aS b f G D H):(aS b (aS c (aS d (aS a (aS e z))))) G D H:=h
def mE {b c d a e f z:TS}(h:let m:TS:=z;let i:TS:=aS f m;let l:TS:=aS e i;let j:TS:=aS a l;let k:TS:=aS d j;let g:TS:=aS c k;aS b g G D H):(aS b (aS c (aS d (aS a (aS e (aS f z)))))) G D H:=h
def Bg {f g b d c e a z:TS}(h:let i:TS:=z;let o:TS:=aS a i;let l:TS:=aS e o;let k:TS:=aS c l;let n:TS:=aS d k;let j:TS:=aS b n;let m:TS:=aS g j;aS f m G D H):(aS f (aS g (aS b (aS d (aS c (aS e (aS a z))))))) G D H:=h
def Ld {g i c e d f b a z:TS}(h:let q:TS:=z;let j:TS:=aS a q;let p:TS:=aS b j;let m:TS:=aS f p;let l:TS:=aS d m;let n:TS:=aS e l;let k:TS:=aS c n;let o:TS:=aS i k;aS g o G D H):(aS g (aS i (aS c (aS e (aS d (aS f (aS b (aS a z)))))))) G D H:=h
def Ih {k l e g f j d c i a z:TS}(h:let b:TS:=z;let s:TS:=aS a b;let u:TS:=aS i s;let m:TS:=aS c u;let t:TS:=aS d m;let p:TS:=aS j t;let o:TS:=aS f p;let q:TS:=aS g o;let n:TS:=aS e q;let r:TS:=aS l n;aS k r G D H):(aS k (aS l (aS e (aS g (aS f (aS j (aS d (aS c (aS i (aS a z)))))))))) G D H:=h
def Ii {q r l n m p k j o a b c d z:TS}(h:let g:TS:=z;let i:TS:=aS d g;let e:TS:=aS c i;let f:TS:=aS b e;let y:TS:=aS a f;let B:TS:=aS o y;let s:TS:=aS j B;let A:TS:=aS k s;let v:TS:=aS p A;let u:TS:=aS m v;let w:TS:=aS n u;let t:TS:=aS l w;let x:TS:=aS r t;aS q x G D H):(aS q (aS r (aS l (aS n (aS m (aS p (aS k (aS j (aS o (aS a (aS b (aS c (aS d z))))))))))))) G D H:=h
theorem args_is1 {b:Type}:∀{us:List b},⇑us=1->∃a,us=[a]
 |[a],_=>⟨a,2⟩
theorem args_is2 {c:Type}:∀{us:List c},⇑us=2->∃a b,us=[a,b]
 |[a,b],_=>⟨a,b,2⟩
theorem args_is3 {d:Type}:∀{us:List d},⇑us=3->∃a c b,us=[a,c,b]
 |[a,c,b],_=>⟨a,c,b,2⟩
theorem args_is4 {e:Type}:∀{us:List e},⇑us=4->∃a b d c,us=[a,b,d,c]
 |[a,b,d,c],_=>⟨a,b,d,c,2⟩
theorem args_is5 {f:Type}:∀{us:List f},⇑us=5->∃a c e d b,us=[a,c,e,d,b]
 |[a,c,e,d,b],_=>⟨a,c,e,d,b,2⟩
theorem args_is6 {g:Type}:∀{us:List g},⇑us=6->∃a c e d b f,us=[a,c,e,d,b,f]
 |[a,c,e,d,b,f],_=>⟨a,c,e,d,b,f,2⟩
structure eP (S:RS) (R:Za2) (ks:Zg):Prop where
 sub:∀c,c<S.q->(S.gap c).Sublist ks
 im:∀c,c<S.q->S.aw c=c->∀z∈ks,z∉S.gap c->∃d,Im S R c z d
 by_:∀c z d,S.by c z=some d->z∉S.gap c
section
variable {S:RS}{pend:Ze}{R:Za2}{ks:Zg}
def jA {x:Nat}(a:n<⇑S.gaps):(S.lL n z).gap x=if x=n then (S.gap n).filter (λy=>decide (y≠z)) else S.gap x:=by
 unfold RS.lL RS.setG RS.gap
 cbv
def zk:(S.lL n z).gaps.length=⇑S.gaps:=by
 rwa[ah6 ..]
def p6 {x:Nat}(b:n<⇑S.gaps)(c:m<⇑S.gaps):y∈(S.keep n z m).gap x↔y∈S.gap x/\¬(x=n/\y=z)/\¬(x=m/\y= -z):=by
 unfold RS.keep;let a:∀x,((S.cj n z m).cj m (-z) n).gap x=S.gap x:=λx=>rfl
 rw[jA ([zk]▸c),jA (by rwa[b]),jA (by rwa[b]),a,a,a]
 cbv
def rZ {x:Nat}(d:n<⇑S.gaps)(e:m<⇑S.gaps):((S.keep n z m).gap x).Sublist (S.gap x):=by
 unfold RS.keep;let b:∀x,((S.cj n z m).cj m (-z) n).gap x=S.gap x:=λx=>rfl
 rw[jA ([zk]▸e),jA (by rwa[d]),jA (by rwa[d]),b,b,b];cases c:x=m
 ·subst c;rw[ah4 rfl];cases a:x=n
  ·subst a;rw[ah4 rfl];rwa[List.Sublist.trans ajG ajG]
  ·rw[ahY a];rwa[ajG]
 ·rw[ahY c];cases a:x=n
  ·subst a;rw[ah4 rfl];rwa[ajG]
  cbv
def EK {x:Nat}(b:n<⇑S.ways)(a:m<⇑S.ways):(S.keep n z m).by x y=if x=m/\y= -z then some n else if x=n/\y=z then some m else S.by x y:=by
 show (((S.cj n z m).cj m (-z) n)).by x y=_;rw[jy (by unfold RS.cj RS.j9;rw[ah6];rwa[a]),jy b]
def eP.keep (h:eP S R ks)(g:Good S pend R){c d:Nat}{z:Int}(hc:c<S.q)(hd:d<S.q)(i:Im S R c z d):eP (S.keep c z d) R ks:=by
 let j:c<⇑S.gaps:=by rw[g.wf.g];rwa[hc]
 let b:d<⇑S.gaps:=by rw[g.wf.g];rwa[hd]
 rwa[⟨λx k=>(rZ j b).trans (h.sub x k),λx k ex y o m=>?_,λx y e l=>?_⟩]
 ·rw[p6 j b]at m;cases f:x=c/\y=z
  ·rw[f.1,f.2];rwa[d,i]
  ·cases a:x=d/\y= -z
   ·rw[a.1,a.2];rwa[c,i.back g]
   ·rwa[h.im x k ex y o λq=>m ⟨q,f,a⟩]
 ·rw[EK ([g.wf.w]▸hc) ([g.wf.w]▸hd)]at l;rw[p6 j b];rintro ⟨q,n,p⟩;rw[ahY p,ahY n]at l;rwa[h.by_ x y e l q]
def Le {x:Nat}:(S.meet n z x m pend).1.gaps=S.gaps:=by
 have:=(gF (max x m) (S.joined n z (min x m) (max x m)) pend ((S.joined n z (min x m) (max x m)).way (max x m))).2;have:=aiN RS.gaps this;rwa[this]
def eP.meet (h:eP S R ks)(g:Good S pend R){c x y:Nat}{z:Int}(w:S.by c z=some x)(G:y<S.q)(H:S.aw y=y)(t:x≠y){d:Ze}
 (made:(S.meet c z x y d).1.q=S.q) (aw:∀a,(S.meet c z x y d).1.aw a=if S.aw a=max x y then min x y else S.aw a):eP (S.meet c z x y d).1 R ks:=by
 let k:∀a,(S.meet c z x y d).1.gap a=S.gap a:=λa=>by unfold RS.gap;rw[Le]
 let⟨_,A,_,ex⟩:=g.st _ _ _ w;let l:max x y<S.q:=by rcases akM x y with q|q <;> ext
 let ft:∀a,a<S.q->(S.meet c z x y d).1.aw a=a->S.aw a=a/\a≠max x y:=λa i e=>by
  rw[aw]at e;let C:=(g.el a i).1;cases q:S.aw a=max x y
  ·rw[ah4 q]at e;ext
  ·cbv
 rwa[⟨λa i=>[k]▸h.sub a (by rw[<-made];rwa[i]),λa i D s v m=>?_,λa s b o=>?_⟩]
 ·rw[k]at m;let⟨B,F⟩:=ft a (by rw[<-made];rwa[i]) D;let⟨b,n,u,r,E,I⟩:=h.im a (by rw[<-made];rwa[i]) B s v m;rwa[_,n,u,r,by cbv,2]
 ·rw[k]
  let j:∀q∈(S.joined c z (min x y) (max x y)).way (max x y),q.2<(S.joined c z (min x y) (max x y)).ways.length:=λq p=>by
   show q.2<⇑S.ways;rw[g.wf.w];rwa[(g.st _ _ _ (jz (g.kn (max x y)) p)).2.1]
  let f:(dc (max x y) (S.joined c z (min x y) (max x y)) d ((S.joined c z (min x y) (max x y)).way (max x y))).1.by a s=some b:=o;rw[yg (by show max x y<⇑S.ways;rw[g.wf.w];rwa[l]) _ j]at f;split at f
  ·ext f
  ·rwa[h.by_ a s b f]
def zl {x:Nat}:(S.meet n z x m pend).1.q=S.q:=by
 have:=(gF (max x m) (S.joined n z (min x m) (max x m)) pend ((S.joined n z (min x m) (max x m)).way (max x m))).2;have:=aiN RS.q this;rwa[this]
def eP.take {w:Way}(hG:eP S R ks)(h:Good S (pend++[w]) R):eP (S.takeIn pend w).1 R ks:=by
 let hw:=h.pl w (ahI _ ahU);let d:=h.sp w (ahI _ ahU);let hc:=h.lt hw.1;let hd:=h.lt hw.2;let i:=(h.el _ hw.1).2;let ed:=(h.el _ hw.2).2;let g:∀x∈pend,x∈pend++[w]:=λx b=>ah3 _ b
 let last:∀x∈pend++[w],x∉pend->x=w:=λx b nx=>by
  cbv
 unfold RS.takeIn;cases c:(S.by (S.aw w.1) w.2.1).getD (S.aw w.2.2)≠S.aw w.2.2
 ·rw[ah4 c]
  cases e:S.by (S.aw w.1) w.2.1 with
  |none=>cbv
  |some x=>
   rw[e]at c;let⟨_,f,_⟩:=h.meet e hd ed c d g (λx b nx=>[last x b nx]▸.inl ⟨222⟩);rwa[hG.meet h e hd ed c zl f]
 ·rw[ahY c];cases a:(S.by (S.aw w.2.2) (-w.2.1)).getD (S.aw w.1)≠S.aw w.1
  ·rw[ah4 a]
   cases e:S.by (S.aw w.2.2) (-w.2.1) with
   |none=>rw[e]at a;rwa[absurd rfl a]
   |some x=>
    rw[e]at a;let⟨_,f,_⟩:=h.meet e hc i a (d.back h) g (λx b nx=>[last x b nx]▸.inr ⟨2,(ajv _).symm,2⟩);rwa[hG.meet h e hc i a zl f]
  ·rw[ahY a];rwa[hG.keep h hc hd d]
def eP.more {e:Za2}(h:eP S R ks)(g:∀a z b,R a z b->e a z b):eP S e ks:=⟨h.sub,λc hc i z hz m=>by
 let⟨d,j,k,r,f,l⟩:=h.im c hc i z hz m;rwa[d,j,k,g _ _ _ r,f,l],h.by_⟩
def eP.rows (h:eP S R ks)(rows:List Dt):eP { S with rows:=rows } R ks:=⟨h.sub,h.im,h.by_⟩
def P0 (L:Nat)(g:Zg):eP (RS.new L g) (λ_ _ _=>False) g:=by
 rwa[⟨λc a=>?_,λc a _ z f b=>?_,λc z d e=>?_⟩]
 ·let a:c<1:=a;rw[show c=0 by ext];rwa[List.Sublist.refl _]
 ·let a:c<1:=a;rw[show c=0 by ext]at b;rwa[absurd f b]
 ·have:(RS.new L g).by c z=none:=by rcases c with _|c <;> rfl
  cbv
def eP.make (h:eP S R ks)(g:Good S [] R){c:Nat}{z:Int}(hc:c<S.q)(B:S.aw c=c)(L:S.by c z=none):eP (S.make c z ks) (fO R c z S.q) ks:=by
 let u:∀x,(S.grown c z ks).gap x=if x=S.q then ks else S.gap x:=λx=>by
  unfold RS.gap;show (S.gaps++[ks]).getD x []=_;rw[ahJ,ahJ];cases i:x=S.q
  ·subst i;rw[ah4 rfl,ahO ([g.wf.g]▸ahG _),g.wf.g,ajC];rfl
  ·rw[ahY i];cases F:x<⇑S.gaps
   ·rw[ahN F]
   ·have:=g.wf.g;rw[ahO ∅,aim (by rw[aiM];omega),aim ∅]
 let E:∀x y,(S.grown c z ks).by x y=S.by x y:=λx y=>by unfold RS.by;rw[nB g.wf]
 let j:c<(S.grown c z ks).gaps.length:=by show c<⇑(S.gaps++[ks]);rw[ahA,g.wf.g];ext
 let l:S.q<(S.grown c z ks).gaps.length:=by show S.q<⇑(S.gaps++[ks]);rw[ahA,g.wf.g,aiM];ext
 let p:c<(S.grown c z ks).ways.length:=by show c<⇑(S.ways++[[]]);rw[ahA,g.wf.w];ext
 let v:S.q<(S.grown c z ks).ways.length:=by show S.q<⇑(S.ways++[[]]);rw[ahA,g.wf.w,aiM];ext
 let ee:∀x,(S.make c z ks).aw x=if x=S.q then S.q else S.aw x:=λx=>fA g.wf c z ks x
 let m:∀a s b,S.by a s=some b->a≠S.q:=λa s b e q=>by have:=(g.st _ _ _ e).1;ext
 rwa[⟨λx i=>?_,λx i ex y w f=>?_,λx y e n=>?_⟩]
 ·rwa[(rZ j l).trans ?_];rw[u];cases q:x=S.q
  ·cbv
  ·rw[ahY q];let i:x<S.q+ 1:=i;rwa[h.sub x ∅]
 ·let f:y∉((S.grown c z ks).keep c z S.q).gap x:=f;rw[p6 j l,u]at f;cases t:x=c/\y=z
  ·erw[S.q,c,S.q,[t.2]▸kb,5]
   ·cbv
   cbv
  ·cases o:x=S.q/\y= -z
   ·erw[c,S.q,c,[o.2]▸.inr (.inr ⟨222⟩),5]
    ·rw[ee,ah4 rfl,o.1]
    ·rw[ee,ahY ∅];rwa[B]
   ·cases q:x=S.q
    ·rw[ah4 q]at f;rwa[absurd ⟨w,t,o⟩ f]
    ·rw[ahY q]at f;let i:x<S.q+ 1:=i;rw[ee,ahY q]at ex;let⟨d,A,G,r,H,D⟩:=h.im x ∅ ex y w λk=>f ⟨k,t,o⟩
     let J:=g.rl _ _ _ r;rwa[d,A,G,.inl r,[ee,ahY ∅]▸H,[ee,ahY ∅]▸D]
 ·let n:((S.grown c z ks).keep c z S.q).by x y=some e:=n;rw[EK p v,E]at n;show y∉((S.grown c z ks).keep c z S.q).gap x;rw[p6 j l,u];rintro ⟨q,C,I⟩;rw[ahY I,ahY C]at n;rw[ahY (m _ _ _ n)]at q;rwa[h.by_ x y e n q]
def eP.fin (h:eP S R ks)(g:Good S [] R)(nd:ks.Nodup){c:Nat}(hc:c<S.q)(f:S.aw c=c):S.gap c=ks.filter λz=>(S.by c z).isNone:=by
 let sl:∀{l k:Zg},l.Sublist k->k.Nodup->l=k.filter λz=>decide (z∈l):=λ{l k} s=>by
  induction s with
  |slnil=>intro _;rfl
  |cons a s b=>
   cbv
  |cons_cons a s b=>
   intro m;let j:=aih.mp m;rw[akV (by simp)]
   congr 1
   conv=>lhs;rw[b j.2]
   rwa[ak5 λz hz=>?_]
   cbv
 rw[sl (h.sub c hc) nd];rwa[ak5 λz hz=>?_]
 cases e:S.by c z with
 |some d=>
  have:=h.by_ c z d e;simp[this]
 |none=>
  cases q:z∈S.gap c
  ·simp[q]
  ·let⟨d,i⟩:=h.im c hc f z hz q;have:=g.rX.mpr i
   cbv
end
end L2
namespace L2
open PySem PySem.Spec PyProof.Rows
structure Fly (B:Heap) (l:Zq) (x:Zs) (cls a0:Zt) (h:Heap):Prop where
 stays:B.StaysIn h
 new:B.get? x=none
 agh:h.FunFrames B l
 tr:∃fl,h.TracedAtW B x cls a0 fl
def P1 {tg:Expr}(d it:Zs)(o:Obj)(p:Array DictEntry)(ep:Nat)(a:List (Key×V))(B:o.data=.dict p ep):Turn P w K tg (Ba d o a) [it] it (λi h=>h.IsKeyIter it d i p.size ep) where
 mem:=by simp
 obj:=λi h st b l=>by
  let e:b=it:=by simpa using l
  subst e;let⟨o,e,c,d⟩:=st
  cbv
 keep:=λi h y st k=>st.at λo e=>k it (by simp) o e
 item:=by
  intro X hP R N hc i g s σ H E I A st G;subst hP R N;let⟨C,D⟩:=G;obtain⟨f,-,U,L,rel,o2,SM,S,q,F,u,h4,z,h6⟩:=I.aM d _ D;rw[f]at q;obtain rfl:=Za0 q;rw[B]at u;injection u with Y O
  subst Y O;let hv:=rS z rel;let m:=pairs_len z;let j:⇑a=⇑L:=KV.length rel;let Q:p.size=⇑a:=by rw[<-ai6,m,j]
  let n:p[i]?\(p[i]'∅):=Array.getElem?_eq_getElem ∅
  change p[i]'∅=en at n;let r:a[i]?\(a[i]'C):=ahC C
  change a[i]'C=W at r;let⟨u0,v,rk⟩:=hv.get (i:=i) (x:=kV W.1) (by cbv);rw[ahZ,aki,n]at v;obtain rfl:en.key=u0:=Za0 v;let⟨J,M,f2,f3,Z,T⟩:=A it (by simp);rwa[Dk.item st ⟨_,f,F,B⟩ n λy t sb=>?_]
  let I1:Inv X g σ H (s<*y):=I.turned (t':=s.toks) (λb o l e=>(sb.2 b l).trans e) J M f3 Z T;let⟨oi,e,c,dd⟩:=id t;rwa[12,Ak (s:=(s<*y)) e c dd ⋯ ⟨kV W.1,H,I1,rk,⟨2,W,r,2⟩,t,λb l=>(A b l).1⟩]
 done:=by
  intro X hP R N hc i g s σ H E I A st G;subst hP R N;let⟨C,D⟩:=G;obtain⟨f,-,U,L,rel,o2,SM,S,q,F,u,h4,z,h6⟩:=I.aM d _ D;rw[f]at q;obtain rfl:=Za0 q;rw[B]at u;injection u with Y O
  subst Y O;let m:=pairs_len z;let j:⇑a=⇑L:=KV.length rel;let Q:p.size=⇑a:=by rw[<-ai6,m,j]
  let⟨J,M,f2,f3,Z,T⟩:=A it (by simp);rwa[Dk.fin (I.ok.hd hc) st ⟨_,f,F,B⟩ (akZ ∅) λy eb=>⟨2,I.turned (t':=s.toks) (λb o l e=>eb b o l e) J M f3 Z T⟩]
 self:=λ_ _ _ _ _ st h=>wpAny_pyIter_keyiter st h
section
variable {X:Cx}{tg:Expr}
def iDK (tl:TE):TI:=λ c H R=>tl c H λx b=>∃d a,x=↑d/\b d\.dK a/\∀o,R (Ba d o a) (upd b d (.c9 o (.dK a)))
def Wu {tl:TE}(y:PE X e tl):PI X tg e (iDK tl):=by
 intro c s B H R I h;rwa[aY (y c s B H _ I h) λu s1 ζ=>?_];let⟨x,J,f,A,d,g,ex,k,q⟩:=ζ
 subst ex;ext A;obtain⟨-,j,E,rel,o,m,p,l,r,n,F,G,L⟩:=f.aM d _ k;rwa[Dk.iter j ⟨o,l,r,n⟩ ?_];let v:=(f.freeze k True.intro l).kept (h':=s1.heap.push ("dict_keyiterator">>>.fields #[↑d,.int 0 0,.int m.size 0,.int p 0])) (t':=s1.toks) λb o a=>ahz _ a
 let T:=P1 (P:=X.prog) (w:=X.w) (K:=X.K) (tg:=tg) d ↥s1 o m p g n;rwa[⟨111112,v,T,⟨_,ahQ _ rfl,22⟩,λb t=>?_,q o⟩];rw[ahH.mp t];let i:=f.aM.fresh (ahG ↥s1);rwa[f.pU (ahG _) ([ak (λz=>by cbv)]▸i)]
end
def SN {o:Obj}{kvs:List (Key×V)}{g:TG}{l:TS}(a:Nat->St->Hp->Prop)(s:a 0 D H)(u:∀i D H,i<=⇑kvs->a i D H->H d\.c9 o (.dK kvs))
 (v:∀i j D H,kvs[i]?\j->a i D H->g (kV j.1) D H λ c k=>l { G with nx:=a (i+ 1),ct:=a (i+ 1),bk:=G.nx } c k) (r:∀ D H,a ⇑kvs D H->G.nx D H):
 ∃W:Nat->Nat->St->Hp->Prop,(∃m,W 0 m D H)/\∀i m D H,W i m D H->
  ((Ba d o kvs).stop i H/\G.nx D H)\/((Ba d o kvs).go i H/\∃N:St->Hp->Prop,(∀ b f,N b f->∃n,n<m/\W (i+ 1) n b f)/\∀x f,(Ba d o kvs).mj i H x f->g x D f λ c k=>l { G with nx:=N,ct:=N,bk:=G.nx } c k):=by
 erw[λi m D H=>m=⇑kvs - i/\i<=⇑kvs/\a i D H,⟨⇑kvs,by simp,ah2 _,s⟩];rintro i m D H ⟨rfl,w,p⟩;let q:=u i D H w p;cases h:i<⇑kvs
 ·rwa[.inr ⟨⟨h,q⟩,a (i+ 1),λ b f z=>⟨⇑kvs - (i+ 1),32,h,z⟩,λx f y=>?_⟩];let⟨rfl,j,t,rfl⟩:=y;rwa[v i j D _ t p]
 ·let e:i=⇑kvs:=∅
  subst e;rwa[.inl ⟨⟨ahG _,q⟩,r D H p⟩]
inductive Xo (a:Zs) (y z:V) (H:Hp) (Q:VK):Prop
 |mk (kvs:List (Key×V)) (k:Key):H a\.dK kvs->y=kV k->⇑kvs<sizeLine->(∀v,bA kvs k\v->Q v H)->(bA kvs k=none->Q z (upd H a (.dK (putK kvs k z))))->Xo a y z H Q
def Wv (td e tx:TE):TE:=λ b H Q=>td b H λx c=>EC x c λa=>e b c λy d=>tx b d λz f=>Xo a y z f Q
section
variable {X:Cx}{o e f:Expr}{apos b9:Pos}{td ty tx:TE}
def nF (T:PE X o td)(t:PE X e ty)(S:PE X f tx)(m:M2 X o "setdefault" apos e f b9):PE X (.Call (.Attribute o "setdefault" apos) [e,f] [] b9) (Wv td ty tx):=by
 intro c s p H Q I h;rwa[ajY m.base m.few m.line aiY ajy PySem.F.type_dict_setdefault (aY (T c s p H _ I h) λu Z ζ=>?_)];let⟨x,V,A,rx,a,ex,d,N⟩:=ζ;subst ex;obtain rfl:u=Value.ref a:=rx;let⟨U,F,_⟩:=mx A d;erw[U,F];rw[m.trees]
 rwa[aiH rfl (ai0 (aiq (aY (t c Z p V _ A N) λiv M ζ=>?_)))];let⟨y,H2,P,ry,q2⟩:=ζ;rwa[ aiq (aY (S c M p H2 _ P q2) λfv s3 ζ=>?_)];let⟨z,J,n,C,g,k,E,ey,G,O,W⟩:=ζ;rwa[aiX ?_]
 subst ey;let⟨R,w,B,rel,D⟩:=tm n.aM E;let b:=rel.val k;let j:⇑B<=sizeLine:=by rw[<-⇑rel];rwa[R]
 rwa[aj6 ajy D.typeIs PySem.F.entry_dict_setdefault (PySem.F.args_dict_setdefault_3^_) (kt_meets_setdefault (bO X.prog X.w) a (jK ry) w fv) ⟨B,D,j,λv hv=>?_,λhn g1 i sb=>?_⟩]
 ·rw[hv]at b
  cases l:bA g k with
  |none=>rw[l]at b;rwa[b.elim]
  |some r=>
   rw[l]at b;rwa[r,J,n.tok _,b,O r l]
 ·rw[hn]at b
  cases l:bA g k with
  |some r=>rw[l]at b;rwa[b.elim]
  |none=>
   let Y:⇑(putK g k z)<=sizeLine:=by have:=hH g k z;ext
   let t:∃q,g1.get? a\q:=let ⟨q,_,_,L,_⟩:=i;⟨q,L⟩
   rwa[z,_,j8 n ([E]▸True.intro) sb t (rK Y w (rel.put k C) i),C,W l]
end
namespace Di
section
variable {prog:Program}{w:World}{A:Around}{E:Zt->Zu->Prop}{s:Zu}{d:Zs}{es:Array DictEntry}{ep:Nat}
def meets (d:Zs)(a:(d==sysModules)=false):MeetsIn prog w (Builtin.«dict.items» ⟨[↑d],[]⟩) (λ_ R s=>(∃es ep,eD s.heap d es ep)/\R (.ok (.ret ↑↥s)) { s with heap:=s.heap.push ("dict_items">>>.fields #[↑d]) }):=
 .of_wp λA R s ζ=>by
  let⟨⟨es,ep,b⟩,h⟩:=ζ
  rwa[ahy ?_];rwa[ahy (akp (Dk.typ b) ?_)];rwa[ahF ?_];unfold Builtin.Dict.showsAll;rw[ahY (by rw[a];decide)];rwa[ahy (ahF (ahy (aiy (ahF ⟨12,h⟩))))]
theorem iter (c:s.heap.IsItemsView a d)(h:eD s.heap d es ep)
 (j:Q ↑↥s { s with heap:=s.heap.push ("dict_itemiterator">>>.fields #[.none,.bool false,↑d,.int 0 0,.int es.size 0,.int ep 0,.none,.none]) }):(prog<|>w) A (pyIter ↑a) Q E s:=by
 let⟨k,f,i,e⟩:=id c;let⟨o,g,l,b⟩:=id h;rwa[wpAny_pyIter_slot c.typeIs F.slot_dict_items_iter (aiJ F.slot_dict_items_iter c.typeIs F.entry_dict_items_iter ?_ (F.args_dict_items_iter_1 _))];rwa[ahy (ahF (ahy ?_))];rwa[ahy (aiF f e (x:=↑d) rfl (ahF (ahy ?_)))];rwa[ahy (ajD g b (ahy (akq g b ?_)))];let own:Builtin.Dict_items.ownsTuple "dict_itemiterator"=true:=⋯
 simp only[own,alc];rwa[aiy (ahF ⟨12,"dict_itemiterator",_,⟨_,ahQ _ rfl,2⟩,ai5.lookup,5⟩) (by simp only[sizeOk,Builtin.Dict_items.ownedTupleFields,ahS,ahA,ah0,ajd,sizeLine_eq];omega)];simpa [rawInt,Builtin.Dict_items.ownedTupleFields] using j
theorem item {it:Zs}{en:DictEntry}{ok:Zt}{Q:Zl->Zu->Prop}(hit:IsItemIter s.heap it d i es.size ep ok v)(I:eD s.heap d es ep)(H:es[i]?\en)
 (D:∀g,IsItemIterOut g it d (i+ 1) es.size ep en.key en.val ↥s->g.get? ↥s\("tuple">>>.seq #[en.key,en.val])->
  (∀b o,b≠it->s•b\o->g.get? b\o)->Q (some ↑↥s) (s<*g)):(prog<|>w) A (pyNext ↑it) Q E s:=by
 let⟨f,q,p,n,os⟩:=s;let⟨R,m,M,h⟩:=id I;let c:Shared.TypeIs ⟨f,q,p,n,os⟩ ↑it "dict_itemiterator":=⟨_,hit,2⟩;rwa[ahy (aj7 (aiE (name:=Str.ofString "__next__") c ai5 (aiJ ai5 c F.entry_dict_itemiterator_next ?_ (F.args_dict_itemiterator_next_1 _))))];rwa[ahy (ahF (ahy (ahy ?_)))]
 first|(rwa[ahy (ajr c (ahF ?_))];skip)|(rwa[ahy (ajR c (ahF ?_))];skip)
 rwa[ahy (wpAny_fieldsOf hit rfl ?_)];let own:Builtin.Dict_items.ownsTuple "dict_itemiterator"=true:=⋯
 show wpAny _ _ (if (Value.ref d==Value.none)=true then _ else _) _ _ _;rw[ahY (show ¬((Value.ref d==Value.none)=true) by cbv)];rwa[ahy (ahF (ahy (ajD m h ?_)))];rw[ahY (by simp)];rwa[ahy (ahF (ahy (akq m h ?_)))];rw[ahY (by simp)];rwa[ahF ?_];simp only[show ¬((i:Int)<0) by ext,aks,aic,H];rwa[ahy ?_]
 first|(rwa[ahy (ajr c (ahF ?_))];skip)|(rwa[ahy (ajR c (ahF ?_))];skip)
 rwa[ahy (wpAny_isOneOf_itemiter c ?_)];show wpAny _ _ (setField ↑it 3 (rawInt ((i:Int)+ 1)) >>=_) _ _ ⟨f,q,p,n,os⟩
 rwa[ahy (aiT hit (by simp) λg1 u s1=>?_)];let j:Shared.TypeIs ⟨g1,q,p,n,os⟩ ↑it "dict_itemiterator":=⟨_,u,2⟩;rwa[ahy (aiw (ahy (wpAny_isOneOf_itemiter j (ahy (wpAny_isOneOf_itemiter j ?_)))))];rwa[ahy (wpAny_newTuple ?_)];let k:IsItemIter (g1.push ("tuple">>>.seq #[en.key,en.val])) it d (i+ 1) es.size ep ok v:=ahz _ u;generalize l:g1.push ("tuple">>>.seq #[en.key,en.val])=g2 at k;let z1:g1.objs.size=f.objs.size:=s1.1;let y:it<f.objs.size:=ahT hit;let z:g2.get? f.objs.size\("tuple">>>.seq #[en.key,en.val]):=by rw[<-l,<-z1];rwa[ahQ _ rfl]
 let J:∀b o,b≠it->f.get? b\o->g2.get? b\o:=λb o a e=>by rw[<-l];rwa[ahz _ (s1.extBut b o a e)]
 show wpAny _ _ (Builtin.Dict_items.ownedTupleIsFree ↑it >>=_) _ _ ⟨g2,q,p,n,os⟩;rw[z1];rwa[ahy ?_];rwa[ahy (aiF k rfl (x:=.none) rfl (ahF ?_))];rwa[ahy (aiF k rfl (x:=ok) rfl (ahy (aiF k rfl (x:=v) rfl ?_)))];rwa[ahy (aiT k (by simp) λS L s3=>?_)];rwa[ahy (aiT L (by simp) λO N s4=>?_)];rwa[ahy (aiT N (by simp) λP B s5=>?_)];rwa[ahy (aiT B (by simp) λr G C=>?_)];let t:∀b o,b≠it->g2.get? b\o->r.get? b\o:=λb o a e=>C.extBut b o a (s5.extBut b o a (s4.extBut b o a (s3.extBut b o a e)))
 rwa[ahy (ak4 (ahF (ahF ⟨12,ahF (D r G (t _ _ (aiO y) z) λb o a e=>t b o a (J b o a e))⟩)))]
theorem fin {it:Zs}{ok:Zt}{Q:Zl->Zu->Prop}(j:A.handled=none)(hit:IsItemIter s.heap it d i es.size ep ok v)(h:eD s.heap d es ep)(n:es[i]?=none)
 (l:∀g,Heap.ExtBut it s.heap g->Q none (s<*g)):(prog<|>w) A (pyNext ↑it) Q E s:=by
 let⟨o,f,k,e⟩:=id h;let c:s.TypeIs ↑it "dict_itemiterator":=⟨_,hit,2⟩;rwa[ahy (aj7 (aiE (name:=Str.ofString "__next__") c ai5 (aiJ ai5 c F.entry_dict_itemiterator_next ?_ (F.args_dict_itemiterator_next_1 _))))];rwa[ahy (ahF (ahy (ahy ?_)))]
 first|(rwa[ahy (ajr c (ahF ?_))];skip)|(rwa[ahy (ajR c (ahF ?_))];skip)
 rwa[ahy (wpAny_fieldsOf hit rfl ?_)];let own:Builtin.Dict_items.ownsTuple "dict_itemiterator"=true:=⋯
 show wpAny _ _ (if (Value.ref d==Value.none)=true then _ else _) _ _ s;rw[ahY (show ¬((Value.ref d==Value.none)=true) by cbv)];rwa[ahy (ahF (ahy (ajD f e ?_)))];rw[ahY (by simp)];rwa[ahy (ahF (ahy (akq f e ?_)))];rw[ahY (by simp)];rwa[ahF ?_];simp only[show ¬((i:Int)<0) by ext,aks,aic,n];rwa[ahy ?_]
 first|(rwa[ahy (ajr c (ahF ?_))];skip)|(rwa[ahy (ajR c (ahF ?_))];skip)
 show wpAny _ _ (setField ↑it 2 .none >>=_) _ _ s;rwa[ahy (ajP hit rfl (by simp) ?_)];rwa[ahy ?_];rwa[ahy (m:=firstArgMember _ _) (wpAny_of_eq (a:=Value.none) (by first|rfl|(simp only[firstArgMember];rfl)) ?_)];rwa[aiy ?_ (by size_fits)];rwa[ahy (wpAny_handled ?_)];rw[show A.in1.handled=none from j];rwa[ahy (ahF (wpAny_throw ?_))];rwa[ahy (wpAny_isInstance (T:="StopIteration") (b:=true) ⟨_,ahQ _ rfl,2⟩ isSubtype_stop ?_)];rwa[ahF (l _ (((ai8 ..).extBut.push _).push _))]
end
end Di
theorem zo {c b:Type}{R:c->b->Prop}:∀{e:List c} {ys:List b},Paired R e ys->∀{i:Nat} {x:c} {y:b},e[i]?\x->ys[i]?\y->R x y
 |[],_,h,i,x,y,a,_=>by simp at a
 |k::f,_,h,i,x,y,a,d=>by
  cases h with
  |cons g j=>
   cases i with
   |zero=>rw[<-Za0 a,<-Za0 d];rwa[g]
   |succ i=>exact zo j a d
def Bh (d:Zs)(o:Obj)(a:List (Zd×V)):It:=
 ⟨λi H=>i<⇑a/\H d\.c9 o (.dT a),λi H x c=>∃p kp b,a[i]?\b/\H p=none/\H kp\.tup (b.1.map kV)/\x=↑p/\c=upd H p (.tup [↑kp,b.2]),λi H=>⇑a<=i/\H d\.c9 o (.dT a)⟩
def P8 {elts:Zr}{x1:Nat}{tp:Pos}(d it:Zs)(o:Obj)(C:Array DictEntry)(ep:Nat)(c:List (Zd×V))(B:o.data=.dict C ep):
 Turn P w K (.Tuple elts x1 tp) (Bh d o c) [it] it (λi h=>∃ok p,IsItemIter h it d i C.size ep ok p) where
 mem:=by simp
 obj:=λi h st b m=>by
  cbv
 keep:=λi h h' ζ k=>by let⟨ok,p,e⟩:=ζ;rwa[⟨ok,p,k it (by simp) _ e⟩]
 item:=by
  intro X hP hw hK hc i r s σ H E I x st M;let⟨ok,p,hit⟩:=st;let⟨D,F⟩:=M;obtain⟨f,-,hsm,ys,v,o2,SM,Y,j,L,t,S,h5⟩:=I.aM d _ F;rw[f]at j;obtain rfl:=Za0 j;rw[B]at t;injection t with e1 T
  subst e1 T;let R:⇑c=⇑ys:=Paired.length v;let Z:ys[i]?\(ys[i]'∅):=ahC ∅
  change ys[i]'∅=y at Z;let U:C[i]?\(entryOfKey (tupleKind (bO X.prog X.w)) y):=by rw[entry_at S,Z];rfl
  let l:c[i]?\(c[i]'D):=ahC D
  change c[i]'D=u at l;let hk:u.1=y.1/\H y.2.1\.tup (u.1.map kV)/\RelV u.2 y.2.2:=zo v l Z;let il:it<↥s:=ahT hit;rwa[Di.item hit ⟨_,f,L,B⟩ U λg ho' hT O=>⟨12,wpAny_letOwnedTupleGo_items ho' λg2 W sb=>?_⟩]
  let N:g2.get? ↥s\("tuple">>>.seq #[↑y.2.1,y.2.2]):=(sb.2 _ (aiO il)).trans hT
  let G:∀b n,b∉[it]->s•b\n->g2.get? b\n:=λb n m q=>by
   let j:b≠it:=λz=>m (by simp[z])
   rwa[(sb.2 b j).trans (O b n j q)]
  let J:=I.aM.fresh (ahG ↥s);rwa[⟨↑↥s,_,I.uS (fp:=[it]) (a:=↥s) (o:=.tup [↑y.2.1,u.2]) (h':=g2) (t':=s.toks) G x (ahG _) ?_,2,⟨_,y.2.1,u,l,J,hk.2.1,22⟩,⟨11,W⟩,λb m=>?_⟩]
  ·rwa[Za4 2,[↑y.2.1,y.2.2],.cons rfl (.cons hk.2.2 .nil),_,N,212]
  ·rw[ahH.mp m,ak (ah8 il)];rwa[(x it (by simp)).1]
 done:=by
  intro X hP hw hK hc i r s σ H E I x st M;let⟨ok,p,hit⟩:=st;let⟨D,F⟩:=M;obtain⟨f,-,hsm,ys,v,o2,SM,Y,j,L,t,S,h5⟩:=I.aM d _ F;rw[f]at j;obtain rfl:=Za0 j;rw[B]at t;injection t with e1 T
  subst e1 T;let R:⇑c=⇑ys:=Paired.length v;let hsz:C.size=⇑ys:=size_of_entries S;rwa[Di.fin (I.ok.hd hc) hit ⟨_,f,L,B⟩ (akZ ∅) λg eb=>⟨2,I.yb (fp:=[it]) (t':=s.toks) (λb n m q=>eb b n (λz=>m (by simp[z])) q) x⟩]
 self:=λA i s Q E ζ h=>by let⟨ok,p,hit⟩:=ζ;rwa[PySem.W.kcp_self hit h]
section
variable {X:Cx}
def iDI (tl:TE):TI:=λ c H R=>tl c H λx b=>∃d a,x=↑d/\b d\.dT a/\∀o,R (Bh d o a) (upd b d (.c9 o (.dT a)))
def Ww {tl:TE}{elts:Zr}{apos c:Pos}(N:PE X e tl)(f:attributeBase e "items" X.env (eval e X.env)=eval e X.env)(hline:(apos.endLine==c.line)=true):
 PI X (.Tuple elts n p) (.Call (.Attribute e "items" apos) [] [] c) (iDI tl):=by
 intro r s Q H R I h;rwa[wpAny_Call_method0_late f hline (aY (N r s Q H _ I h) λu s1 ζ=>?_)];let⟨x,M,k,O,d,j,ex,v,q⟩:=ζ;subst ex;ext O;obtain⟨-,C,ys,V,o,m,t,A,E,D,Y,Z⟩:=k.aM d _ v;let l:eD s1.heap d m t:=⟨o,A,E,D⟩;let B:EB M d:=.inr ⟨j,.inl v⟩;let⟨F,G,_⟩:=mx k B;rwa[⟨"dict","dict.items",aiY,PySem.F.slot_dict_items,PySem.F.type_dict_items,F,G,aiH rfl (PySem.evalArgs_none ?_)⟩];rwa[aj6 PySem.F.slot_dict_items F PySem.F.entry_dict_items (PySem.F.args_dict_items_1 _) (Di.meets d C) ⟨⟨m,t,l⟩,5⟩];let S:(s1.heap.push ("dict_items">>>.fields #[↑d])).IsItemsView ↥s1 d:=⟨_,ahQ _ rfl,22⟩;let g:eD (s1.heap.push ("dict_items">>>.fields #[↑d])) d m t:=⟨o,ahz _ A,E,D⟩;rwa[Di.iter (s:={ s1 with heap:=s1.heap.push ("dict_items">>>.fields #[↑d]) }) S g ?_];let L:=(k.freeze v True.intro A).kept (h':=(s1.heap.push ("dict_items">>>.fields #[↑d])).push ("dict_itemiterator">>>.fields #[.none,.bool false,↑d,.int 0 0,.int m.size 0,.int t 0,.none,.none])) (t':=s1.toks) λb o a=>ahz _ (ahz _ a)
 let i:↥s1<=(s1.heap.push ("dict_items">>>.fields #[↑d])).objs.size:=by rw[ajm];ext
 let T:=P8 (P:=X.prog) (w:=X.w) (K:=X.K) (elts:=elts) (x1:=n) (tp:=p) d (s1.heap.push ("dict_items">>>.fields #[↑d])).objs.size o m t j D;rwa[⟨111112,L,T,⟨11,ahQ _ rfl⟩,λb J=>?_,q o⟩];rw[ahH.mp J];let y:=k.aM.fresh i;rwa[k.pU i ([ak (λz=>by cbv)]▸y)]
end
def SQ {o:Obj}{kvs:List (Zd×V)}{g:TG}{l:TS}(a:Nat->St->Hp->Prop)(u:a 0 D H)(w:∀i D H,i<=⇑kvs->a i D H->H d\.c9 o (.dT kvs))
 (A:∀i j D H p kp,kvs[i]?\j->H p=none->H kp\.tup (j.1.map kV)->a i D H->g ↑p D (upd H p (.tup [↑kp,j.2])) λ c k=>l { G with nx:=a (i+ 1),ct:=a (i+ 1),bk:=G.nx } c k) (r:∀ D H,a ⇑kvs D H->G.nx D H):
 ∃W:Nat->Nat->St->Hp->Prop,(∃m,W 0 m D H)/\∀i m D H,W i m D H->
  ((Bh d o kvs).stop i H/\G.nx D H)\/((Bh d o kvs).go i H/\∃N:St->Hp->Prop,(∀ b f,N b f->∃n,n<m/\W (i+ 1) n b f)/\∀x f,(Bh d o kvs).mj i H x f->g x D f λ c k=>l { G with nx:=N,ct:=N,bk:=G.nx } c k):=by
 erw[λi m D H=>m=⇑kvs - i/\i<=⇑kvs/\a i D H,⟨⇑kvs,by simp,ah2 _,u⟩];rintro i m D H ⟨rfl,B,p⟩;let q:=w i D H B p;cases h:i<⇑kvs
 ·rwa[.inr ⟨⟨h,q⟩,a (i+ 1),λ b f C=>⟨⇑kvs - (i+ 1),32,h,C⟩,λx f y=>?_⟩];let⟨t,kp,j,v,s,z,rfl,rfl⟩:=y;rwa[A i j D _ t kp v s z p]
 ·let e:i=⇑kvs:=∅
  subst e;rwa[.inl ⟨⟨ahG _,q⟩,r D H p⟩]
theorem uU:∀(n:Nat) (l:Zg) (lo:Int),l.Nodup->(∀x∈l,lo<=x/\x<lo+ n)->⇑l<=n
 |0,[],_,_,_=>ahG _
 |0,x::l,lo,_,h=>by have:=h x (ahU ..);ext
 |n+ 1,l,lo,b,h=>by
  cases c:lo+ n∈l
  ·let d:=uU n (l.erase (lo+ n)) lo (b.erase _) λx a=>by
    let e:=(b.mem_erase_iff.mp a);let f:=h x e.2;ext
   rw[aj3 c]at d;ext
  ·let d:=uU n l lo b λx a=>by
    let f:=h x a;let g:x≠lo+ n:=λz=>c (by rw[<-z];rwa[a])
    ext
   ext
section
variable {κ:Type} [DecidableEq κ]
def Ij (b:List (κ×V))(k j:κ):bA (fh b k) j=if j=k then none else bA b j:=by
 unfold fh
 induction b with
 |nil=>split <;> rfl
 |cons p r e=>
  cases c:p.1=k
  ·rw[List.filter_cons_of_neg (by simp[c]),e];cases a:j=k
   ·cbv
   ·rw[ahY a,ahY a,cV (λz=>a (z.symm.trans c))]
  ·rw[akV (by simp[c])];cases a:p.1=j
   ·rw[da a,ahY (λz=>c (a.trans z)),da a]
   ·rw[cV a,e];cases d:j=k
    ·cbv
    ·rw[ahY d,ahY d,cV a]
def Bi (a:List (κ×V))(k:κ)(v:V):(putK a k v).map (·.1)=if k∈a.map (·.1) then a.map (·.1) else a.map (·.1)++[k]:=by
 unfold putK;cases h:(a.any λb=>decide (b.1=k))=true
 ·let c:k∈a.map (·.1):=by
   let⟨b,e,d⟩:=List.any_eq_true.mp h;rwa[aiB.mpr ⟨b,e,aia d⟩]
  rw[ah4 h,ah4 c,aip];rwa[aiG λb _=>?_]
  cbv
 cbv
def SR {a:List (κ×V)}(k:κ)(v:V)(h:(a.map (·.1)).Nodup):((putK a k v).map (·.1)).Nodup:=by
 rw[Bi]
 cbv
def P9 {a:List (κ×V)}(k:κ)(h:(a.map (·.1)).Nodup):((fh a k).map (·.1)).Nodup:=by
 rwa[List.Nodup.sublist ((ajG).map _) h]
def Bj {a:List (κ×V)}(h:(a.map (·.1)).Nodup){b:κ×V}(hm:b∈a):bA a b.1\b.2:=by
 induction a with
 |nil=>ext hm
 |cons p r c=>
  rw[aiS,aih]at h;rcases ahR.mp hm with e|hm
  ·rw[e];rwa[da rfl]
  ·rw[cV (λz=>h.1 ([z]▸aj9 hm))];rwa[c h.2 hm]
def Lf {a:List (κ×V)}{k:κ}(h:bA a k\q):(k,q)∈a:=by
 unfold bA at h
 cases e:a.find? λb=>decide (b.1=k) with
 |none=>rw[e]at h;ext h
 |some b=>
  cbv
end
def DI (H:Hp)(d:Zs)(f:Int->Zc):Prop:=∃a:List (Key×V),H d\.dK a/\(a.map (·.1)).Nodup/\(∀b∈a,∃i:Int,b.1=Sum.inl i)/\∀i:Int,bA a (Sum.inl i)=f i
def DI.at {f:Int->Zc}(h:DI H d f)(k:∀o,H d\o->I d\o):DI I d f:=by
 let⟨a,c,b⟩:=h;rwa[a,k _ c,b]
def DI.congr {f g:Int->Zc}(h:DI H d f)(e:∀i,f i=g i):DI H d g:=by
 let⟨a,j,b,k,c⟩:=h;rwa[a,j,b,k,λi=>(c i).trans (e i)]
def Bk {a:List (Key×V)}{f:Int->Zc}(e:(a.map (·.1)).Nodup)(h:∀c∈a,∃i:Int,c.1=Sum.inl i)(g:∀i:Int,bA a (Sum.inl i)=f i)(i:Int)(v:V):DI (upd H d (.dK (putK a (Sum.inl i) v))) d (λj=>if j=i then some v else f j):=by
 rwa[⟨_,ah,SR^e,λc b=>?_,λj=>?_⟩]
 ·have:c.1∈(putK a (Sum.inl i) v).map (·.1):=aj9 b;rw[Bi]at this
  cbv
 ·rw[pY]
  cbv
def Qa {a:List (Key×V)}{f:Int->Zc}(e:(a.map (·.1)).Nodup)(g:∀c∈a,∃i:Int,c.1=Sum.inl i)(h:∀i:Int,bA a (Sum.inl i)=f i)(i:Int):DI (upd H d (.dK (fh a (Sum.inl i)))) d (λj=>if j=i then none else f j):=by
 rwa[⟨_,ah,P9 _ e,λc b=>g c ((ajo.mp b).1),λj=>?_⟩];rw[Ij]
 cbv
def vW {c:List (Key×V)}{f:Int->Zc}(k:(c.map (·.1)).Nodup)(m:∀d∈c,∃i:Int,d.1=Sum.inl i)(p:∀i:Int,bA c (Sum.inl i)=f i){n:Nat}{lo:Int}(o:∀i v,f i\v->lo<=i/\i<lo+ n):⇑c<=n:=by
 let h:=uU n (c.map λd=>match d.1 with|Sum.inl i=>i|Sum.inr _=>0) lo ?_ λx r=>?_
 ·rw[ahE]at h;rwa[h]
 ·let e:c.map (·.1)=(c.map λd=>match d.1 with|Sum.inl i=>i|Sum.inr _=>(0:Int)).map Sum.inl:=by
   rw[aip];rwa[aiG λd g=>?_]
   let⟨i,j⟩:=m d g;show d.1=Sum.inl (match d.1 with|Sum.inl i=>i|Sum.inr _=>(0:Int));rw[j]
  rw[e]at k;rwa[List.Pairwise.imp (λ{a b} q z=>q (aiN Sum.inl z)) (ajl.mp k)]
 ·let⟨d,g,rfl⟩:=aiB.mp r;let⟨i,j⟩:=m d g;let l:=Bj k g;rw[j,p]at l;rw[j];rwa[o i _ l]
abbrev bD:=Int->Int->Int->Bool
structure dU (H:Hp) (k:Zs) (D:Int->Zo) (E:Int->Int->Zo) (S:bD):Prop where
 top:DI H k λc=>(D c).map V.ref
 row:∀c d,D c\d->DI H d λs=>(E c s).map V.ref
 zp:∀c s e,E c s\e->DI H e λo=>if S c s o=true then some (.bl true) else none
 ed:∀c s e,E c s\e->∃d,D c\d
 se:∀c s o,S c s o=true->∃e,E c s\e
 nd:∀c d,D c\d->d≠k
 ne:∀c s e,E c s\e->e≠k
 dd:∀c c' d,D c\d->D c'\d->c=c'
 de:∀c c' s d,D c\d->E c' s\d->False
 ee:∀c s c' s' e,E c s\e->E c' s'\e->c=c'/\s=s'
def uV (k:Zs)(D:Int->Zo)(E:Int->Int->Zo)(b:Zs):Prop:=b=k\/(∃c,D c\b)\/∃c s,E c s\b
section
variable {H H':Hp}{k:Zs}{D:Int->Zo}{E:Int->Int->Zo}{S:bD}
def dU.keep (h:dU H k D E S)(f:∀b o,uV k D E b->H b\o->H' b\o):dU H' k D E S:=
 ⟨h.top.at λo e=>f _ _ (.inl rfl) e,λc d e=>(h.row c d e).at λo q=>f _ _ (.inr (.inl ⟨c,e⟩)) q,λc s e q=>(h.zp c s e q).at λo r=>f _ _ (.inr (.inr ⟨c,s,q⟩)) r,h.ed,h.se,h.nd,h.ne,h.dd,h.de,h.ee⟩
def dU.same (h:dU H k D E S)(s:aq H H'):dU H' k D E S:=h.keep λb o _ e=>s b o e
def dU.there (h:dU H k D E S){b:Zs}(d:uV k D E b):∃a,H b\(.dK a):=by
 rcases d with rfl|⟨c,e⟩|⟨c,s,e⟩
 ·let⟨a,q,_⟩:=h.top;rwa[a,q]
 ·let⟨a,q,_⟩:=h.row c b e;rwa[a,q]
 ·let⟨a,q,_⟩:=h.zp c s b e;rwa[a,q]
def dU.congr (h:dU H k D E S){d:Int->Zo}{b:Int->Int->Zo}{a:bD}(e:∀c,D c=d c)(g:∀c s,E c s=b c s)(f:∀c s o,S c s o=a c s o):dU H k d b a:=by
 obtain rfl:D=d:=funext e;obtain rfl:E=b:=funext λc=>funext (g c)
 obtain rfl:S=a:=funext λc=>funext λs=>funext (f c s)
 rwa[h]
def dU.SV (h:dU H k D E S):∃a:List (Key×V),H k\.dK a/\(a.map (·.1)).Nodup/\(∀b∈a,∃i:Int,b.1=Sum.inl i)/\∀i:Int,bA a (Sum.inl i)=(D i).map V.ref:=h.top
def dU.Lg (h:dU H k D E S){c:Int}{d:Zs}(hd:D c\d):∃a:List (Key×V),H d\.dK a/\(a.map (·.1)).Nodup/\(∀b∈a,∃i:Int,b.1=Sum.inl i)/\∀i:Int,bA a (Sum.inl i)=(E c i).map V.ref:=h.row c d hd
def dU.SW (h:dU H k D E S){c s:Int}{e:Zs}(d:E c s\e):∃a:List (Key×V),H e\.dK a/\(a.map (·.1)).Nodup/\(∀b∈a,∃i:Int,b.1=Sum.inl i)/\∀i:Int,bA a (Sum.inl i)=if S c s i=true then some (.bl true) else none:=h.zp c s e d
def dU.Qb (h:dU H k D E S){c s:Int}{d e:Zs}(hd:D c\d)(N:E c s=none){j:List (Key×V)}(B:H d\.dK j)(J:H e\.dK [])(nw:¬uV k D E e):
 dU (upd H d (.dK (putK j (Sum.inl s) ↑e))) k D (λb f=>if b=c/\f=s then some e else E b f) S:=by
 let x:e≠d:=λz=>nw (.inr (.inl ⟨c,[z]▸hd⟩))
 let⟨t,C,L,F,I⟩:=h.row c d hd;rw[B]at C;obtain rfl:j=t:=by cbv
 rwa[⟨h.top.at λo q=>?_,λb u i=>?_,λb f m a=>?_,λb f m a=>?_,λb f o G=>?_,h.nd,λb f m a=>?_,h.dd,λb r f u i a=>?_,λb f r w m p l=>?_⟩]
 ·rw[ak (h.nd c d hd).symm];rwa[q]
 ·cases g:b=c
  ·subst g;have:u=d:=by rw[hd]at i;rwa[(Za0 i).symm]
   subst this;rwa[(Bk L F I s ↑e).congr λf=>?_]
   cbv
  ·let y:u≠d:=λz=>g (h.dd _ _ _ i ([z]▸hd))
   rwa[((h.row b u i).at λo q=>[ak y]▸q).congr λf=>?_]
   cbv
 ·cases g:b=c/\f=s
  ·rw[ah4 g]at a;obtain rfl:=Za0 a;let⟨rfl,rfl⟩:=g;rwa[⟨[],[ak x]▸J,by simp,(λM A=>by ext A),λo=>?_⟩]
   cases q:S b f o with
   |true=>let⟨m,z⟩:=h.se _ _ _ q;cbv
   |false=>dsimp only;rw[q];rfl
  ·rw[ahY g]at a;exact(h.zp b f m a).at λo q=>by rw[ak (λz=>h.de c b f d hd (by cbv))];rwa[q]
 ·cases g:b=c/\f=s
  ·cbv
  ·rw[ahY g]at a;rwa[h.ed _ _ _ a]
 ·cases g:b=c/\f=s
  ·rwa[e,ah4 g]
  ·let⟨m,z⟩:=h.se _ _ _ G;cbv
 ·cases g:b=c/\f=s
  ·rw[ah4 g]at a;obtain rfl:=Za0 a;rwa[λz=>nw (.inl z)]
  ·rw[ahY g]at a;rwa[h.ne _ _ _ a]
 ·cases g:r=c/\f=s
  ·rw[ah4 g]at a;obtain rfl:=Za0 a;rwa[nw (.inr (.inl ⟨b,i⟩))]
  ·rw[ahY g]at a;rwa[h.de _ _ _ _ i a]
 ·cases v:b=c/\f=s
  ·rw[ah4 v]at p;obtain rfl:=Za0 p;cases n:r=c/\w=s
   ·rwa[v.1.trans n.1.symm,v.2.trans n.2.symm]
   ·rw[ahY n]at l;rwa[(nw (.inr (.inr ⟨r,w,l⟩))).elim]
  ·rw[ahY v]at p;cases n:r=c/\w=s
   ·rw[ah4 n]at l;obtain rfl:=Za0 l;rwa[(nw (.inr (.inr ⟨b,f,p⟩))).elim]
   ·rw[ahY n]at l;rwa[h.ee _ _ _ _ _ p l]
def dU.setCell (h:dU H k D E S){c s:Int}{e:Zs}(j:E c s\e){u:HO}{g:Int->Bool}(p:DI (upd H e u) e λo=>if g o=true then some (.bl true) else none):
 dU (upd H e u) k D E (λa b o=>if a=c/\b=s then g o else S a b o):=by
 rwa[⟨h.top.at λo q=>?_,λa m d=>(h.row a m d).at λo q=>?_,λa b n f=>?_,h.ed,λa b o l=>?_,h.nd,h.ne,h.dd,h.de,h.ee⟩]
 ·rw[ak (h.ne _ _ _ j).symm];rwa[q]
 ·rw[ak (λz=>h.de _ _ _ _ d ([z]▸j))];rwa[q]
 ·cases i:a=c/\b=s
  ·cbv
  ·refine((h.zp a b n f).at λo q=>?_).congr λo=>by rw[ahY i]
   rw[ak (λz=>i (h.ee _ _ _ _ _ f ([z]▸j)))];rwa[q]
 ·cases i:a=c/\b=s
  ·cbv
  ·rw[ahY i]at l;rwa[h.se _ _ _ l]
def dU.SX (h:dU H k D E S){c s:Int}{e:Zs}(j:E c s\e){a:List (Key×V)}(l:H e\.dK a)(o:Int):
 dU (upd H e (.dK (putK a (Sum.inl o) (.bl true)))) k D E (λi f b=>S i f b || (decide (i=c) && decide (f=s) && decide (b=o))):=by
 let⟨d,n,q,p,m⟩:=h.zp c s e j;rw[l]at n;obtain rfl:a=d:=by cbv
 rwa[(h.setCell (g:=λb=>S c s b || decide (b=o)) j ((Bk q p m o (.bl true)).congr λb=>?_)).congr (λ_=>rfl) (λ_ _=>rfl) λi f b=>?_]
 ·cbv
 cbv
def dU.Qc (h:dU H k D E S){n:Int}{d:Zs}(hd:D n=none){g:List (Key×V)}(v:H k\.dK g)(A:H d\.dK [])(nw:¬uV k D E d):
 dU (upd H k (.dK (putK g (Sum.inl n) ↑d))) k (λc=>if c=n then some d else D c) E S:=by
 let⟨m,w,B,x,y⟩:=h.top;rw[v]at w;obtain rfl:g=m:=by cbv
 let t:d≠k:=λz=>nw (.inl z)
 let en:∀s,E n s=none:=λs=>by
  cases q:E n s with
  |none=>rfl
  |some e=>let⟨i,z⟩:=h.ed _ _ _ q;cbv
 rwa[⟨(Bk B x y n ↑d).congr λc=>?_,λc i a=>?_,λc s e p=>(h.zp c s e p).at λo q=>?_,λc s e p=>?_,h.se,λc i a=>?_,h.ne,λc r i b f=>?_,λc r s i b f=>?_,h.ee⟩]
 ·cbv
 ·cases e:c=n
  ·rw[ah4 e]at a;obtain rfl:=Za0 a;subst e;rwa[⟨[],[ak t]▸A,by simp,(λC u=>by ext u),λs=>?_⟩];dsimp only;rw[en s];rfl
  ·rw[ahY e]at a;exact(h.row c i a).at λo q=>by rw[ak (h.nd^a)];rwa[q]
 ·rw[ak (h.ne _ _ _ p)];rwa[q]
 ·let⟨i,z⟩:=h.ed _ _ _ p
  cbv
 ·cases e:c=n
  ·cbv
  ·rw[ahY e]at a;rwa[h.nd^a]
 ·cases j:c=n
  ·rw[ah4 j]at b;obtain rfl:=Za0 b;cases l:r=n
   ·rw[j,l]
   ·rw[ahY l]at f;rwa[(nw (.inr (.inl ⟨_,f⟩))).elim]
  ·rw[ahY j]at b;cases l:r=n
   ·rw[ah4 l]at f;obtain rfl:=Za0 f;rwa[(nw (.inr (.inl ⟨_,b⟩))).elim]
   ·rw[ahY l]at f;rwa[h.dd _ _ _ b f]
 ·cases j:c=n
  ·rw[ah4 j]at b;obtain rfl:=Za0 b;rwa[nw (.inr (.inr ⟨11,f⟩))]
  ·rw[ahY j]at b;rwa[h.de _ _ _ _ b f]
end
namespace Et
section
variable {prog:Program}{w:World}{A:Around}{E:Zt->Zu->Prop}{s:Zu}
theorem item {it:Zs}{items:Zm}{x:Zt}(hit:s.heap.IsTupleIter it a i)(f:s.heap.IsTuple a items)(k:items[i]?\x)
 (h:∀g,g.IsTupleIter it a (i+ 1)->Heap.SameBut it s.heap g->Q x (s<*g)):(prog<|>w) A (Builtin.SmallTypes.nextOf ↑it) Q E s:=by
 let⟨o,c,j,b⟩:=id hit;let⟨m,e,_,l,d⟩:=f;rwa[ahy (aiE (name:=Str.ofString "__next__") hit.typeIs ajH (aiJ ajH hit.typeIs F.entry_tuple_iterator_next ?_ (F.args_tuple_iterator_next_1 _)))];show wpAny _ _ (field ↑it 0 >>=_) _ _ s;rwa[ahy (aiF c b (x:=↑a) rfl ?_)];rw[ahY (show ¬((Value.ref a==Value.none)=true) by cbv)];rwa[ahy (aiF c b (x:=.int i 0) rfl ?_)];rwa[ahy (akd e d ?_)];simp only[aic,k];rwa[ahy (ajP c b (by simp) (ahF ⟨x,2,ahF (h _ ⟨_,aii _ c (ajM (aje b _)),(Obj.cls_mapFields ..).trans j,by rw[aje b];simp[rawInt]⟩ (ai8 ..))⟩))]
theorem fin {it:Zs}{items:Zm}(j:A.handled=none)(hit:s.heap.IsTupleIter it a i)(k:s.heap.IsTuple a items)(n:items[i]?=none)
 (l:∀g e,Heap.ExtBut it s.heap g->(∃o,g.get? e\o/\o.cls=.type "StopIteration")->E ↑e (s<*g)):(prog<|>w) A (Builtin.SmallTypes.nextOf ↑it) Q E s:=by
 let⟨o,f,q,c⟩:=id hit;let⟨r,d,_,p,h⟩:=k;rwa[ahy (aiE (name:=Str.ofString "__next__") hit.typeIs ajH (aiJ ajH hit.typeIs F.entry_tuple_iterator_next ?_ (F.args_tuple_iterator_next_1 _)))];show wpAny _ _ (field ↑it 0 >>=_) _ _ s;rwa[ahy (aiF f c (x:=↑a) rfl ?_)];rw[ahY (show ¬((Value.ref a==Value.none)=true) by cbv)];rwa[ahy (aiF f c (x:=.int i 0) rfl ?_)];rwa[ahy (akd d h ?_)];simp only[aic,n];rwa[ahy (ak3 (ahy (ajP f c (by simp) ?_)))];rwa[ahy ?_];rwa[ahy (m:=firstArgMember _ _) (wpAny_of_eq (a:=Value.none) (by first|rfl|(simp only[firstArgMember];rfl)) ?_)];rwa[aiy ?_ (by size_fits)];rwa[ahy (wpAny_handled ?_)];first|rw[show A.in1.handled=none from j]|rw[j]
 rwa[ahy (ahF (wpAny_throw ?_))];rwa[l _ _ (((ai8 ..).extBut.push _).push _) ⟨_,ahQ _ rfl,2⟩]
end
def meets (l:Zs)(items:Zm)(n:Nat)(dct:Zo)(j:Array Zl):
 Meets (Builtin.«enumerate.__new__» ⟨[.type "enumerate",↑l],[]⟩) (λ_ R s=>s•l\{ cls:=.type "tuple",dict:=dct,data:=.seq items n,slots:=j }/\
  R (.ok (.ret (↑(s.heap.push ("tuple_iterator">>>.fields #[↑l,.int 0 0])).objs.size)))
    { s with heap:=(s.heap.push ("tuple_iterator">>>.fields #[↑l,.int 0 0])).push ("enumerate">>>.fields #[.none,.bool false,↑↥s,rawInt 0,.none,.none]) }):=
 .of_wp λb w A R s h=>by
  let⟨i,g,d,k,os⟩:=s;let⟨a,h⟩:=h;let e:=sub_enumerate;let f:Heap.IsTuple (Shared.heap ⟨i,g,d,k,os⟩) l items:=⟨_,a,2,n,2⟩
  wp_walk using ajZ a;rwa[wpAny_stack_any λst=>ahF ?_]
  split
  ·rename_i c _ _ _ _ _;cases (c==Value.type "enumerate") <;> (wp_walk using ajZ a,wpAny_pyIter_tuple f;rwa[12,h])
  ·wp_walk using ajZ a,wpAny_pyIter_tuple f;rwa[12,h]
theorem call {items:Zm}(k:s.heap.IsTuple a items)
 (h:∀g,IsEnum g (↥s+ 1) ↥s 0 .none->g.IsTupleIter ↥s a 0->g.objs.size=↥s+ 2->(∀b o,s•b\o->g.get? b\o)->Q ↑(↥s+ 1) (s<*g)):
 (P<|>w) A (call (.type "enumerate") [↑a]) Q E s:=by
 let⟨⟨c,dct,l,j⟩,m,f,n,d⟩:=k;replace f:c=.type "tuple":=f;replace d:l=.seq items n:=d;subst f d;rwa[callType_new F.called_enumerate ⋯ (F.typeCall_enumerate_1 _) (F.newCall_enumerate_1 _) (λobj=>F.args_object_init_2 obj _) F.entry_enumerate_new (meets a items n dct j) ⟨m,5⟩];let e:(s.heap.push ("tuple_iterator">>>.fields #[↑a,.int 0 0])).objs.size=↥s+ 1:=ajm ..;show _/\_;rw[e]
 let i:IsEnum ((s.heap.push ("tuple_iterator">>>.fields #[↑a,.int 0 0])).push ("enumerate">>>.fields #[.none,.bool false,↑↥s,rawInt 0,.none,.none])) (↥s+ 1) ↥s 0 .none:=by
  have:=ahQ (s.heap.push ("tuple_iterator">>>.fields #[↑a,.int 0 0])) (o:=("enumerate">>>.fields #[.none,.bool false,↑↥s,rawInt 0,.none,.none])) rfl;rw[e]at this;rwa[this]
 rwa[⟨_,i,2⟩,h _ i ⟨_,ahz _ (ahQ _ rfl),22⟩ (by rw[ajm,e]) λb o x=>ahz _ (ahz _ x)]
end Et
section
variable {K:Za1}{mg:Str->Zl}{h:Heap}{C f:Zs}{x q:Str}{st:Stmt}{ps:Zp}{oc kV doc pm cC ct:Zt}{od an:Zo}{AO:Array Zl}
theorem Def.of (X:K.In h)(G:h.Ns mainGlobals mg)(a:PySem.W.nsIn K mainGlobals x\some ↑f)(l:K.lookup f\⟨oc,od,.func (PySem.W.fnOf x x (cP st) (bW st) (aB st) .none kV doc pm an cC ct),AO⟩)(c:PySem.W.codeIn K cC x=true)(k:PySem.W.keepIn K ↑f=true)
 (b:∀(kV doc pm:Zt) (an:Zo) (cC ct:Zt) (us:Zk),⇑us=⇑ps->bindArgs (PySem.W.fnOf x x (cP st) (bW st) (aB st) .none kV doc pm an cC ct) ⟨us,[]⟩=pure (ps.zip us)):Def K mg x st ps f (PySem.W.fnOf x x (cP st) (bW st) (aB st) .none kV doc pm an cC ct):=
 let F:=Hy (st:=st) l c k
 ⟨F,PySem.W.mg_of X G a,F.binds (ps:=ps) b⟩
theorem MDef.of (a:PySem.W.findIn K ↑C x\some ↑f)(i:PySem.W.isFn K ↑f=true)(l:K.lookup f\⟨oc,od,.func (PySem.W.fnOf x q (cP st) (bW st) (aB st) .none kV doc pm an cC ct),AO⟩)(c:PySem.W.codeIn K cC q=true)(k:PySem.W.keepIn K ↑f=true)
 (b:∀(kV doc pm:Zt) (an:Zo) (cC ct:Zt) (us:Zk),⇑us=⇑ps->bindArgs (PySem.W.fnOf x q (cP st) (bW st) (aB st) .none kV doc pm an cC ct) ⟨us,[]⟩=pure (ps.zip us)):MDef K C x q st ps f (PySem.W.fnOf x q (cP st) (bW st) (aB st) .none kV doc pm an cC ct):=
 let F:=Hy (st:=st) l c k
 ⟨F,⟨a,i,k⟩,F.binds (ps:=ps) b⟩
def Def.fd {fd:FuncData}(D:Def K mg x st ps f fd):∃(kV doc pm:Zt) (an:Zo) (cC ct:Zt),fd=PySem.W.fnOf x x (cP st) (bW st) (aB st) .none kV doc pm an cC ct:=by
 let⟨oc,od,kV,doc,pm,an,cC,ct,AO,e,_⟩:=D.F.ex;rwa[kV,doc,pm,an,cC,ct,e]
end
end L2
namespace L2
noncomputable def wk (b:Nat->Int->Zi):Nat->Zg->Zi
 |c,[]=>some c
 |c,z::w=>match b c z with
  |none=>none
  |some d=>wk b d w
section
variable {b:Nat->Int->Zi}
def iN (h:b n z\m):wk b n (z::l)=wk b m l:=by
 show (match b n z with|none=>none|some m=>wk b m l)=_;rw[h]
def iC (h:wk b n (z::l)\m):∃d,b n z\d/\wk b d l\m:=by
 cases q:b n z with
 |none=>
  let a:(match b n z with|none=>none|some d=>wk b d l)\m:=h;rw[q]at a;ext a
 |some d=>rw[iN q]at h;rwa[d,2,h]
theorem oS:∀{u v:Zg} {c d:Nat},wk b c u\d->wk b c (u++v)=wk b d v
 |[],v,c,d,h=>by rw[Za0 h];rfl
 |z::u,v,c,d,h=>by
  let⟨e,f,a⟩:=iC h;rw[akb,iN f];rwa[oS a]
theorem Bl:∀{u v:Zg} {c e:Nat},wk b c (u++v)\e->∃d,wk b c u\d/\wk b d v\e
 |[],v,c,e,h=>⟨c,2,h⟩
 |z::u,v,c,e,h=>by
  let⟨d,i,a⟩:=iC h;let⟨f,j,g⟩:=Bl a;rwa[f,[iN i]▸j,g]
def SY (h:b n z\m):wk b n [z]\m:=by rw[iN h];rfl
def take_snoc (h:l[i]?\z):l.take (i+ 1)=l.take i++[z]:=by rw[ajA,h];rfl
def drop_cons (h:l[i]?\z):l.drop i=z::l.drop (i+ 1):=by
 let a:=(ahD.mp h).1;rw[aky a,(ahD.mp h).2]
end
structure Later (S S':RS):Prop where
 el:∀c,c<S.q->S'.aw (S.aw c)=S'.aw c
 by_:∀c z d,S.by c z=some d->S'.by (S'.aw c) z=some (S'.aw d)
def Later.of {l:Za2}(h:Good S [] R)(g:Good T [] l)(i:∀a z b,R a z b->l a z b)(k:S.q<=T.q):Later S T:=by
 let el:∀c,c<S.q->T.aw (S.aw c)=T.aw c:=λc hc=>(g.fin (ah5 (h.lt hc) k) (ah5 hc k)).mpr ((h.cg c hc).mono i).symm
 rwa[⟨el,λc z d e=>?_⟩];let⟨f,j,r,n,m⟩:=h.so _ _ _ e;let⟨o,l2,_⟩:=h.rl _ _ _ r;rw[<-n,<-m,el f o,el j l2];rwa[g.rX.mpr ⟨f,j,i _ _ _ r,22⟩]
theorem Later.wk (h:Later S T):∀{w:Zg} {c d:Nat},wk S.by c w=some d->wk T.by (T.aw c) w=some (T.aw d)
 |[],c,d,e=>by rw[Za0 e];rfl
 |z::w,c,d,e=>by
  let⟨f,b,a⟩:=iC e;rw[iN (h.by_ _ _ _ b)];rwa[Later.wk h a]
structure Gg where
 which:Nat
 word:Zg
 start:Nat
 front:Nat
 first:Nat
 bu:Nat
 last:Nat
abbrev Zf:=List (Option Gg)
noncomputable def Gg.z1 (g:Gg):Int:=g.word.getD g.first 0
noncomputable def Gg.z2 (g:Gg):Int:=-(g.word.getD g.last 0)
structure GI (S:RS) (g:Gg):Prop where
 fl:g.first<=g.last
 ll:g.last<⇑g.word
 s:g.start<S.q
 f:g.front<S.q
 r:g.bu<S.q
 wf:wk S.by (S.aw g.start) (g.word.take g.first)=some (S.aw g.front)
 wr:wk S.by (S.aw g.bu) (g.word.drop (g.last+ 1))=some (S.aw g.start)
def GI.later {g:Gg}(h:GI S g)(l:Later S T)(a:S.q<=T.q):GI T g:=by
 let c:=l.wk h.wf;let b:=l.wk h.wr;rw[l.el _ h.s,l.el _ h.f]at c;rw[l.el _ h.r,l.el _ h.s]at b;rwa[h.fl,h.ll,ah5 h.s a,ah5 h.f a,ah5 h.r a,c,b]
def Gg.qK {g:Gg}(h:g.first<⇑g.word):g.word[g.first]?\g.z1:=by
 unfold Gg.z1
 cbv
def Gg.at2 {g:Gg}(h:g.last<⇑g.word):g.word[g.last]?\(-g.z2):=by
 unfold Gg.z2
 cbv
structure Xp (S:RS) (g g':Gg):Prop where
 wh:g'.which=g.which
 wo:g'.word=g.word
 st:g'.start=g.start
 gi:GI S g'
 ef:S.aw g'.front=g'.front
 er:S.aw g'.bu=g'.bu
 n1:g'.first<g'.last->S.by g'.front g'.z1=none
 n2:g'.first<g'.last->S.by g'.bu g'.z2=none
 k1:S.aw g.front=g.front->S.by g.front g.z1=none->g'.front=g.front/\g'.first=g.first
 k2:S.aw g.bu=g.bu->S.by g.bu g.z2=none->g'.bu=g.bu/\g'.last=g.last
def GI.whole {g:Gg}(h:GI S g)(e:g.first=g.last)(c:S.aw g.start=g.start)(ef:S.aw g.front=g.front)(er:S.aw g.bu=g.bu)(d:S.by g.front g.z1=some g.bu):wk S.by g.start g.word=some g.start:=by
 let b:=h.wf;let a:=h.wr;rw[c,ef]at b;rw[c,er,<-e]at a;let hz:=Gg.qK (g:=g) ([e]▸h.ll);have:g.word=g.word.take g.first++(g.z1::g.word.drop (g.first+ 1)):=by rw[<-drop_cons hz,ajs]
 rw[this,oS b,iN d];rwa[a]
noncomputable def eN (m:Nat)(W:bD)(n:Int):Nat:=(~~~(m* 2001)).countP λc=>W ((c / 2001:Nat):Int) (((c % 2001:Nat):Int) - 1000) n
def vX (m G:Nat)(W:bD):Nat:=((~~~G).map λn:Nat=>eN m W n).sum
def gn (W:bD)(r s:Int):bD:=λb a n=>W b a n && !(decide (b=r) && decide (a=s))
def S0 {r:Nat}(a:r<m)(b: -1000<=z/\z<=1000):r* 2001+ (z+ 1000).toNat<m* 2001:=by
 have:(r+ 1)* 2001<=m* 2001:=ajS _ a;ext
def Ik {c r:Nat}(f: -1000<=z/\z<=1000):(((c / 2001:Nat):Int)=(r:Int)/\((c % 2001:Nat):Int) - 1000=z)↔c=r* 2001+ (z+ 1000).toNat:=by
 constructor
 ·rintro ⟨e,d⟩;have:=Nat.div_add_mod c 2001;ext
 ·intro h;subst h
  let a:(r* 2001+ (z+ 1000).toNat) / 2001=r:=by
   rw[Nat.mul_comm,Nat.mul_add_div ⋯,Nat.div_eq_of_lt ∅];ext
  let b:(r* 2001+ (z+ 1000).toNat) % 2001=(z+ 1000).toNat:=by
   rw[Nat.mul_comm,Nat.mul_add_mod,Nat.mod_eq_of_lt ∅]
  rw[a,b];ext
def S5 {r:Nat}{W:bD}(n:Int)(f:r<m)(b: -1000<=z/\z<=1000):eN m (gn W r z) n+ (if W r z n=true then 1 else 0)=eN m W n:=by
 let d:=S0 f b
 let dec:∀c:Nat,(decide (((c / 2001:Nat):Int)=(r:Int)) && decide (((c % 2001:Nat):Int) - 1000=z))=decide (c=r* 2001+ (z+ 1000).toNat):=λc=>by
  rw[<-Bool.decide_and,decide_eq_decide];rwa[Ik b]
 let at_:=(Ik (c:=r* 2001+ (z+ 1000).toNat) (r:=r) b).mpr rfl;unfold eN gn;cases a:W r z n=true
 ·rw[ah4 a]
  have:=lO (p:=λc:Nat=>W ((c / 2001:Nat):Int) (((c % 2001:Nat):Int) - 1000) n) (p':=λc:Nat=>W ((c / 2001:Nat):Int) (((c % 2001:Nat):Int) - 1000) n && !(decide (((c / 2001:Nat):Int)=(r:Int)) && decide (((c % 2001:Nat):Int) - 1000=z))) (v:=r* 2001+ (z+ 1000).toNat) (λc=>by
   rw[dec c,<-decide_not]) ([at_.1,at_.2]▸a) (m* 2001)
  rw[ah4 d]at this;rwa[this]
 ·rw[ahY a,Nat.add_zero];rwa[List.countP_congr λc _=>?_]
  rw[ajh];rwa[⟨λh=>h.1,λh=>⟨h,5⟩⟩];rw[dec c]
  cases e:decide (c=r* 2001+ (z+ 1000).toNat) with
  |false=>rfl
  |true=>
   rw[aia e,at_.1,at_.2]at h;rwa[absurd h a]
theorem zq:∀(l:Zh) (f g h:Nat->Nat),(∀n∈l,f n+ g n=h n)->(l.map f).sum+ (l.map g).sum=(l.map h).sum
 |[],_,_,_,_=>rfl
 |a::l,f,g,h,e=>by
  let c:=zq l f g h λn b=>e n (aie _ b)
  have:=e a (ahU ..);simp only[aiS,List.sum_cons];ext
theorem EL (p:Nat->Bool):∀l:Zh,(l.map λn=>if p n=true then 1 else 0).sum=l.countP p
 |[]=>rfl
 |a::l=>by
  rw[aiS,List.sum_cons,EL p l,ala];ext
def Qd {G r:Nat}{W:bD}(a:r<m)(b: -1000<=z/\z<=1000):vX m G (gn W r z)+ (~~~G).countP (λn:Nat=>W r z n)=vX m G W:=by
 unfold vX;rw[<-EL (λn:Nat=>W r z n)];rwa[zq _ _ _ _ λn _=>S5 n a b]
theorem Qe:∀{l:Zh} {a b:Nat},l.Nodup->(∀x∈l,x=a\/x=b)->⇑l<=2
 |[],_,_,_,_=>⋯
 |[_],_,_,_,_=>ajE 1
 |[_,_],_,_,_,_=>ahG 2
 |x::y::z::r,a,b,e,h=>by
  let f:=h x (by simp);let c:=h y (by simp);let d:=h z (by simp)
  cbv
def S6 {W:bD}{p q:Int×Int}(h:∀r s,W r s z=true->(r,s)=p\/(r,s)=q):eN m W z<=2:=by
 unfold eN;rw[List.countP_eq_length_filter];rwa[Qe (a:=(p.1* 2001+ (p.2+ 1000)).toNat) (b:=(q.1* 2001+ (q.2+ 1000)).toNat) (alb.filter _) λc d=>?_]
 let f:=Nat.div_add_mod c 2001;rcases h _ _ (ajo.mp d).2 with e|e
 ·left;rw[<-e];dsimp only;ext
 ·right;rw[<-e];dsimp only;ext
theorem Il:∀(l:Zh) (f:Nat->Nat) (k:Nat),(∀n∈l,f n<=k)->(l.map f).sum<=⇑l* k
 |[],_,_,_=>by simp
 |a::l,f,k,h=>by
  let c:=Il l f k λn b=>h n (aie _ b)
  have:=h a (ahU ..);rw[aiS,List.sum_cons,ah0,ak6];ext
def Qf {W:bD}(h:∀a:Nat,∃p q:Int×Int,∀r s,W r s a=true->(r,s)=p\/(r,s)=q):vX m n W<=2* n:=by
 have:=Il (~~~n) (λa:Nat=>eN m W a) 2 λa _=>by
  let⟨p,q,e⟩:=h a;rwa[S6 e]
 rw[air]at this;unfold vX;ext
structure CI (S:RS) (bs:List (Nat×Zg×Nat)) (gs:Zf) (ag:Zh) (W:bD) (Ex:Nat->Int->Prop) (x:Zi):Prop where
 len:⇑gs=⇑bs
 al:∀(n:Nat) (g:Gg),gs[n]?\some g->bs[n]?\(g.which,g.word,g.start)/\GI S g/\(n∈ag\/some n=x\/(g.first<g.last/\W g.front g.z1 n=true/\W g.bu g.z2 n=true))
 de:∀(n:Nat) (b:Nat×Zg×Nat),gs[n]?\none->some n≠x->bs[n]?\b->S.aw b.2.2≠b.2.2\/wk S.by b.2.2 b.2.1=some b.2.2
 ab:∀n∈ag,n<⇑gs
 en:∀r s n,W r s n=true->∃r' n':Nat,r=r'/\n=n'/\r'<S.q/\n'<⇑gs/\(-1000<=s/\s<=1000)/\(S.aw r'=r'/\S.by r' s=none\/Ex r' s)
 sl:∀n:Nat,∃p q:Int×Int,(∀r s,W r s n=true->(r,s)=p\/(r,s)=q)/\∀g,gs[n]?\some g->p=((g.front:Int),g.z1)/\q=((g.bu:Int),g.z2)
 bd:∀b∈bs,∀z∈b.2.1,-1000<=z/\z<=1000
def fQ:Nat->Int->Prop:=λ_ _=>False
section
variable {S:RS}{bs:List (Nat×Zg×Nat)}{gs:Zf}{ag:Zh}{W:bD}{Ex:Nat->Int->Prop}{x:Zi}{n:Nat}
def CI.pop (h:CI S bs gs (ag++[n]) W Ex none):CI S bs gs ag W Ex (some n):=by
 rwa[⟨h.len,λk g e=>?_,λk b e _=>h.de k b e (λz=>by ext z),λk a=>h.ab k (ah3 _ a),h.en,h.sl,h.bd⟩];let⟨d,c,f⟩:=h.al k g e
 cbv
def CI.done (h:CI S bs gs ag W Ex (some n))(e:gs[n]?\none)(k:∀b,bs[n]?\b->S.aw b.2.2≠b.2.2\/wk S.by b.2.2 b.2.1=some b.2.2):CI S bs gs ag W Ex none:=by
 rwa[⟨h.len,λm g c=>?_,λm b c _ d=>?_,h.ab,h.en,h.sl,h.bd⟩]
 ·let⟨i,f,a⟩:=h.al m g c;erw[i,f];rcases a with a|a|a
  ·rwa[.inl a]
  ·cbv
  ·rwa[.inr (.inr a)]
 ·cases q:m=n
  ·rw[q]at d;rwa[k b d]
  ·rwa[h.de m b c (λz=>q (Za0 z)) d]
def fB {c:Type}{l:List c}{a b:c}(h:(l.set i a)[j]?\b):(j=i/\b=a)\/(j≠i/\l[j]?\b):=by
 cbv
def CI.kill (h:CI S bs gs ag W Ex (some n)):CI S bs (gs.set n none) ag W Ex (some n):=by
 rwa[⟨[ah6]▸h.len,λm g e=>?_,λm b e q f=>?_,λk a=>[ah6]▸h.ab k a,λr s k e=>?_,λm=>?_,h.bd⟩]
 ·rcases fB e with ⟨_,z⟩|⟨z,e⟩
  ·ext z
  ·rwa[h.al m g e]
 ·rcases fB e with ⟨z,_⟩|⟨z,e⟩
  ·cbv
  ·rwa[h.de m b e q f]
 ·rw[ah6];rwa[h.en r s k e]
 ·let⟨p,q,d,c⟩:=h.sl m;rwa[⟨p,q,d,λg e=>?_⟩];rcases fB e with ⟨_,z⟩|⟨_,e⟩
  ·ext z
  ·rwa[c g e]
def addW (W:bD)(r s n:Int):bD:=λc a b=>W c a b || (decide (c=r) && decide (a=s) && decide (b=n))
def dE {W:bD}{r n a b:Int}:addW W r z n y a b=true↔W y a b=true\/(y=r/\a=z/\b=n):=by
 unfold addW
 cbv
def dz {W:bD}{r a b:Int}:gn W r z y a b=true↔W y a b=true/\¬(y=r/\a=z):=by
 unfold gn
 cbv
def CI.waits (h:CI S bs gs ag W fQ (some n)){g c:Gg}(e:gs[n]?\some g)(a:Xp S g c)(d:c.first<c.last):CI S bs (gs.set n (some c)) ag (addW (addW W c.front c.z1 n) c.bu c.z2 n) fQ none:=by
 let⟨t,N,_⟩:=h.al n g e;let C:=(ahD.mp e).1;let gi:=a.gi;let A:∀z∈c.word,-1000<=z/\z<=1000:=λz hz=>h.bd _ (ahB t) z (by rw[<-a.wo];rwa[hz])
 let E:=A _ (ahB (Gg.qK (g:=c) (by have:=gi.ll;omega)));let O:=A _ (ahB (Gg.at2 (g:=c) gi.ll));rwa[⟨[ah6]▸h.len,λm u q=>?_,λm b q _ I=>?_,λk F=>[ah6]▸h.ab k F,λr s k q=>?_,λm=>?_,h.bd⟩]
 ·rcases fB q with ⟨rfl,z⟩|⟨z,q⟩
  ·ext z;rwa[⟨by rw[t,a.wh,a.wo,a.st],gi,.inr (.inr ⟨d,dE.mpr (.inl (dE.mpr (.inr ⟨222⟩))),dE.mpr (.inr ⟨222⟩)⟩)⟩]
  ·let⟨i,j,f⟩:=h.al m u q;erw[i,j];rcases f with f|f|⟨f,G,H⟩
   ·rwa[.inl f]
   ·cbv
   ·rwa[.inr (.inr ⟨f,dE.mpr (.inl (dE.mpr (.inl G))),dE.mpr (.inl (dE.mpr (.inl H)))⟩)]
 ·rcases fB q with ⟨_,z⟩|⟨z,q⟩
  ·ext z
  ·rwa[h.de m b q (λy=>z (Za0 y)) I]
 ·rw[ah6];rcases dE.mp q with q|⟨rfl,rfl,rfl⟩
  ·rcases dE.mp q with q|⟨rfl,rfl,rfl⟩
   ·rwa[h.en r s k q]
   ·rwa[⟨_,n,rfl,rfl,gi.f,C,E,.inl ⟨a.ef,a.n1 d⟩⟩]
  ·rwa[⟨_,n,rfl,rfl,gi.r,C,by ext,.inl ⟨a.er,a.n2 d⟩⟩]
 ·let⟨p,q,i,j⟩:=h.sl m;cases J:m=n
  ·subst J;let⟨L,eq⟩:=j g e;rwa[⟨((c.front:Int),c.z1),((c.bu:Int),c.z2),λr s w=>?_,λu v=>?_⟩]
   ·rcases dE.mp w with w|⟨rfl,rfl,_⟩
    ·rcases dE.mp w with w|⟨rfl,rfl,_⟩
     ·let⟨o,M,er,_,_,_,_,l⟩:=h.en r s m w;rcases l with ⟨B,D⟩|l
      ·rcases i r s w with z|z
       ·rw[L]at z;injection z with z1 z2
        have:o=g.front:=∅
        subst this;let⟨k1,k2⟩:=a.k1 B (by cbv)
        left
        rw[Prod.mk.injEq];erw[[k1]▸er];rw[z2];unfold Gg.z1;rw[a.wo,k2]
       ·rw[eq]at z;injection z with z1 z2
        have:o=g.bu:=∅
        subst this;let⟨k1,k2⟩:=a.k2 B (by cbv)
        right
        rw[Prod.mk.injEq];erw[[k1]▸er];rw[z2];unfold Gg.z2;rw[a.wo,k2]
      ·rwa[l.elim]
     ·rwa[.inl rfl]
    ·rwa[.inr rfl]
   ·rcases fB v with ⟨_,z⟩|⟨z,_⟩
    ·cbv
    ·rwa[absurd rfl z]
  ·rwa[⟨p,q,λr s w=>?_,λu v=>?_⟩]
   ·rcases dE.mp w with w|⟨_,_,z⟩
    ·rcases dE.mp w with w|⟨_,_,z⟩
     ·rwa[i r s w]
     ·ext
    ·ext
   cbv
def CI.wake (h:CI S bs gs ag W Ex x){r s:Int}{ns:Zh}(f:∀k:Nat,k∈ns↔W r s k=true):CI S bs gs (ag++ns) (gn W r s) Ex x:=by
 rwa[⟨h.len,λm g e=>?_,h.de,λk u=>?_,λt o k q=>h.en _ _ _ (dz.mp q).1,λm=>?_,h.bd⟩]
 ·let⟨c,b,a⟩:=h.al m g e;erw[c,b];rcases a with a|a|⟨a,j,l⟩
  ·rwa[.inl (ah3 _ a)]
  ·rwa[.inr (.inl a)]
  ·cases i:(g.front:Int)=r/\g.z1=s
   ·rwa[.inl (ahI _ ((f m).mpr (by rw[<-i.1,<-i.2];rwa[j])))]
   ·cases d:(g.bu:Int)=r/\g.z2=s
    ·rwa[.inl (ahI _ ((f m).mpr (by rw[<-d.1,<-d.2];rwa[l])))]
    ·rwa[.inr (.inr ⟨a,dz.mpr ⟨j,i⟩,dz.mpr ⟨l,d⟩⟩)]
 ·rcases ahL.mp u with q|q
  ·rwa[h.ab k q]
  ·let⟨_,v,_,en,_,y,_⟩:=h.en _ _ _ ((f k).mp q);ext
 ·let⟨p,q,c,b⟩:=h.sl m;rwa[p,q,λt o w=>c^(dz.mp w).1,b]
def CI.ex {e:Nat->Int->Prop}(h:CI S bs gs ag W Ex x)(k:∀(r:Nat) s n,W r s n=true->r<S.q->Ex r s->(S.aw r=r/\S.by r s=none)\/e r s):CI S bs gs ag W e x:=by
 rwa[⟨h.len,h.al,h.de,h.ab,λr s n q=>?_,h.sl,h.bd⟩];let⟨g,f,rfl,rfl,a,b,c,d⟩:=h.en r s n q;rwa[g,f,22,a,b,c,d.elim .inl (k g s f q a)]
end
structure fD (S:RS):Prop where
 a:∀c,c<S.q->S.aw c≠c->c∈S.a9
 b:∀c∈S.a9,S.aw c≠c
 c:∀c∈S.a9,c<S.q
section
variable {S S':RS}{pend:Ze}{w:Way}{R:Za2}{ks:Zg}
def Io {x:Nat}:(S.meet n z x m pend).1.a9=S.a9++[max x m]:=by
 have:=(gF (max x m) (S.joined n z (min x m) (max x m)) pend ((S.joined n z (min x m) (max x m)).way (max x m))).2;have:=aiN RS.a9 this;rwa[this]
def uk (h:(S.takeIn pend w).1.a9=S.a9):(S.takeIn pend w).1.aX=S.aX:=by
 let no:∀{c x y:Nat} {z:Int},(S.meet c z x y pend).1.a9=S.a9->False:=λ{c x y z} e=>by
  rw[Io]at e;have:=aiN List.length e
  cbv
 unfold RS.takeIn at h ⊢;split
 ·rename_i q;rw[ah4 q]at h;rwa[(no h).elim]
 ·rename_i q;rw[ahY q]at h;split
  ·rename_i a;rw[ah4 a]at h;rwa[(no h).elim]
  ·rfl
def fD.take (f:fD S)(h:Good S (pend++[w]) R)(j:∀c z d,R c z d->z∈ks):fD (S.takeIn pend w).1/\∃l,(S.takeIn pend w).1.a9=S.a9++l:=by
 let⟨_,_,g,_,q⟩:=h.take j;rcases q with ⟨_,_,e⟩|⟨_,c,z,x,y,n,_,p,r,m,_,e,el⟩
 ·let ee:=uk e;let el:∀a,(S.takeIn pend w).1.aw a=S.aw a:=λa=>by unfold RS.aw;rw[ee]
  rwa[⟨⟨λc hc=>?_,λc hc=>?_,λc hc=>by rw[g];rw[e]at hc;rwa[f.c c hc]⟩,[],by rw[e,aib]⟩]
  ·rw[g]at hc;rw[el,e];rwa[f.a c hc]
  ·rw[e]at hc;rw[el];rwa[f.b c hc]
 ·let⟨_,o,_,ex⟩:=h.st _ _ _ n;rwa[⟨⟨λa b=>?_,λa b=>?_,λa b=>?_⟩,[max x y],e⟩]
  ·rw[g]at b;rw[el,e];intro i;cases q:S.aw a=a
   ·cbv
   ·rwa[ah3 _ (f.a a b q)]
  ·rw[el];rw[e]at b;rcases ahL.mp b with q|q
   ·let i:=f.b a q
    cbv
   cbv
  ·rw[g];rw[e]at b;rcases ahL.mp b with q|q
   ·rwa[f.c a q]
   ·rw[ahH.mp q];rcases akM x y with k|k <;> ext
inductive kc:RS->Ze->RS->Prop where
 |nil (S:RS):kc S [] S
 |take {S S':RS} {pend:Ze} {w:Way}:kc (S.takeIn pend w).1 (S.takeIn pend w).2 S'->kc S (pend++[w]) S'
def kc.all (l:kc S pend S'):Good S pend R->(∀c z d,R c z d->z∈ks)->fD S->Good S' [] R/\fD S'/\S'.q=S.q/\S'.L=S.L/\∃l,S'.a9=S.a9++l:=by
 induction l with
 |nil S=>exact λg _ w=>⟨g,w,22,[],(aib _).symm⟩
 |take _ i=>
  intro g e w;let⟨h,_,m,k,_⟩:=g.take e;let⟨f,l2,n⟩:=w.take g e;let⟨a,b,c,d,o,j⟩:=i h e f
  cbv
end
section
variable {S S':RS}{R:Za2}{bs:List (Nat×Zg×Nat)}{gs:Zf}{ag:Zh}{W:bD}{n c d:Nat}{z:Int}
def CI.lay (h:CI S bs gs ag W fQ (some n))(e:gs[n]?\none)(g:Good S [] R)(w:Good S' [] (fO R c z d))(hm:S'.q=S.q)(I:fD S)(C:fD S'){l:Zh}(Q:S'.a9=S.a9++l)(hc:c<S.q)(N:S.aw c=c)(hd:d<S.q)(ed:S.aw d=d)
 (k:∀b,bs[n]?\b->S'.aw b.2.2≠b.2.2\/wk S'.by b.2.2 b.2.1=some b.2.2):CI S' bs gs ag W (λr s=>(r=c/\s=z)\/(r=d/\s= -z)\/∃m∈l,r=m\/r=S'.aw m) none:=by
 let lt:=Later.of g w iz (akG hm.symm)
 let p:∀e,e<S.q->S.aw e=e->S'.aw e≠e->e∈l:=λe j i D=>by
  have:=C.a e ([hm]▸j) D;rw[Q]at this;rcases ahL.mp this with q|q
  ·rwa[absurd i (I.b e q)]
  ext
 let h0:CI S' bs gs ag W (λr s=>(r=c/\s=z)\/(r=d/\s= -z)\/∃m∈l,r=m\/r=S'.aw m) (some n):=by
  rwa[⟨h.len,λm u q=>?_,λm b A H O=>?_,h.ab,λr s m q=>?_,h.sl,h.bd⟩]
  ·let⟨j,i,D⟩:=h.al m u q;rwa[j,i.later lt (akG hm.symm),D]
  ·cases t:S'.aw b.2.2=b.2.2
   ·right
    rcases h.de m b A H O with q|q
    ·cases y:b.2.2<S.q
     ·let j:=(g.el _ y).1;let i:=(w.el _ ([hm]▸g.lt y)).1;rw[lt.el _ y,t]at i;rwa[absurd (Nat.le_antisymm j i) q]
     ·exfalso
      let G:⇑S.aX=S.q:=g.wf.e;let M:⇑S'.aX=S'.q:=w.wf.e;let J:S.aw b.2.2=0:=by unfold RS.aw;rw[ahJ,aim ∅];rfl
      let B:S'.aw b.2.2=0:=by unfold RS.aw;rw[ahJ,aim ∅];rfl
      rwa[q (by rw[J,<-B,t])]
    ·have:=lt.wk q;rw[t]at this;rwa[this]
   ·rwa[.inl t]
  ·let⟨f,L,t,P,F,U,G,q⟩:=h.en r s m q;erw[f,L,t,P,[hm]▸F,U,G];rcases q with ⟨A,H⟩|q
   ·cases j:S'.aw f=f
    ·cases i:S'.by f s with
     |none=>exact .inl ⟨j,2⟩
     |some o=>
      right
      let⟨v,T,x,f1,X⟩:=w.so _ _ _ i
      let stand:∀e,e<S.q->S.aw e=e->S'.aw e=f->e=f\/∃m∈l,f=m\/f=S'.aw m:=λe Y Z V=>by
       cbv
      rcases x with x|⟨rfl,rfl,rfl⟩|⟨rfl,rfl,rfl⟩
      ·let⟨E,l2,_⟩:=g.rl _ _ _ x;rcases stand (S.aw v) (g.lt E) (g.el _ E).2 ([lt.el _ E]▸f1) with a|a
       ·have:=g.rX.mpr ⟨v,T,x,a,rfl⟩
        cbv
       ·rwa[.inr (.inr a)]
      ·rcases stand v hc N f1 with a|a
       ·rwa[.inl ⟨a.symm,rfl⟩]
       ·rwa[.inr (.inr a)]
      ·rcases stand v hd ed f1 with a|a
       ·rwa[.inr (.inl ⟨a.symm,rfl⟩)]
       ·rwa[.inr (.inr a)]
    ·rwa[.inr (.inr (.inr ⟨f,p f F A j,.inl rfl⟩))]
   ·rwa[q.elim]
 rwa[h0.done e k]
end
noncomputable def cx (a:Nat->Int->Zi):Nat->Zg->Zh
 |_,[]=>[]
 |r,z::c=>match a r z with
  |none=>[]
  |some b=>b::cx a b c
def zr {a:Nat->Int->Zi}{r:Nat}(h:a r z=none):cx a r (z::l)=[]:=by
 show (match a r z with|none=>[]|some b=>b::cx a b l)=[];rw[h]
def nH {a:Nat->Int->Zi}{r:Nat}(h:a r z\n):cx a r (z::l)=n::cx a n l:=by
 show (match a r z with|none=>[]|some n=>n::cx a n l)=_;rw[h]
noncomputable def lW (w:Nat)(p:Zh)(k:Nat):Dt:=.t [.s [114,117,108,101],.i w,.t (p.map λc:Nat=>Dt.i (c:Int)),.i k]
structure Bm (ws:Za3) (nr:Nat) (S:RS) (which:Nat) (word:Zg) (start m c d:Nat) (z:Int):Prop where
 w:ws[which]?\word
 n:which<nr\/start=0
 s:start<S.q/\S.aw start=start
 hz:word[m]?\z
 f:wk S.by start (word.take m)=some c
 r:wk S.by d (word.drop (m+ 1))=some start
 hc:c<S.q/\S.aw c=c
 hd:d<S.q/\S.aw d=d
 o:S.by c z≠some d
def p7 (S:RS)(a:Nat)(word:Zg)(start m d:Nat):RS:={ S with rows:=S.rows++[lW a ((start::cx S.by start (word.take m))++(d::cx S.by d (word.drop (m+ 1)))) m] }
inductive Tr (ws:Za3) (nr:Nat):RS->RS->Prop where
 |refl (S:RS):Tr ws nr S S
 |step {S S1 S2:RS} {which:Nat} {word:Zg} {start m c d:Nat} {z:Int}:Tr ws nr S S1->Bm ws nr S1 which word start m c d z->kc (p7 S1 which word start m d) [(c,z,d)] S2->Tr ws nr S S2
def Nt (S:RS)(c:Nat)(word:Zg):Prop:=wk S.by c word=some c\/∃(i j f r:Nat) (y z:Int),i<j/\word[i]?\y/\word[j]?\z/\wk S.by c (word.take i)=some f/\S.by f y=none/\wk S.by r (word.drop (j+ 1))=some c/\S.by r (-z)=none
structure uW (rs ps:Za3) (S:RS):Prop where
 r:∀w∈rs,∀c,c<S.q->S.aw c=c->Nt S c w
 p:∀w∈ps,Nt S 0 w
def UW (U:Za2):Nat->Zg->Nat->Prop
 |p,[],q=>p=q
 |p,z::w,q=>∃r,U p z r/\UW U r w q
structure Xq (ws:Za3) (nr M:Nat) (φ:Nat->Nat) (U:Za2):Prop where
 sy:∀p z q,U p z q->U q (-z) p
 fn:∀p z q q',U p z q->U p z q'->q=q'
 cl:∀(which:Nat) (word:Zg) (start m c d:Nat) (z:Int),ws[which]?\word->which<nr\/start=0->start<M->word[m]?\z->UW U (φ start) (word.take m) (φ c)->UW U (φ d) (word.drop (m+ 1)) (φ start)->U (φ c) z (φ d)
section
variable {S S':RS}{R:Za2}{φ:Nat->Nat}{U:Za2}{ks:Zg}
def Bn (i:∀p z q e,U p z q->U p z e->q=e)(d:∀a z b,R a z b->U (φ a) z (φ b)){a b:Nat}(h:Cg R a b):φ a=φ b:=by
 induction h with
 |refl=>rfl
 |symm _ c=>exact c.symm
 |trans _ _ f k=>exact f.trans k
 |step j g _ c=>exact i _ _ _ _ (d _ _ _ j) ([c]▸d _ _ _ g)
def Ip (g:Good S [] R)(e:∀p z q i,U p z q->U p z i->q=i)(f:∀a z b,R a z b->U (φ a) z (φ b)){c d:Nat}{z:Int}(h:S.by c z=some d):U (φ c) z (φ d):=by
 let⟨m,n,r,l,t⟩:=g.so _ _ _ h;let⟨j,k,_⟩:=g.rl _ _ _ r;let o:=Bn e f (g.cg _ j);let s:=Bn e f (g.cg _ k)
 cbv
theorem Bo (h:∀c z d,S.by c z=some d->U (φ c) z (φ d)):∀{w:Zg} {c d:Nat},wk S.by c w=some d->UW U (φ c) w (φ d)
 |[],c,d,e=>by rw[Za0 e];rfl
 |z::w,c,d,e=>by
  let⟨f,b,a⟩:=iC e;rwa[_,h _ _ _ b,Bo h a]
def Tr.sound {ws:Za3}(t:Tr ws n S S')(o:Xq ws n m φ U)(B:∀w∈ws,∀z∈w,z∈ks/\-z∈ks):Good S [] R->fD S->S.q<=m->(∀a z b,R a z b->z∈ks)->(∀a z b,R a z b->U (φ a) z (φ b))->
 ∃j,Good S' [] j/\fD S'/\S'.q=S.q/\S'.L=S.L/\(∀a z b,R a z b->j a z b)/\(∀a z b,j a z b->z∈ks)/\∀a z b,j a z b->U (φ a) z (φ b):=by
 induction t with
 |refl=>exact λg w _ k h=>⟨R,g,w,22,λ_ _ _ r=>r,k,h⟩
 |step _ ra D G=>
  rename_i L J which word start f c d z _;intro g s x k h;let⟨C,g1,l,E,H,F,k1,q⟩:=G g s x k h;let p:=λc z d=>Ip (c:=c) (d:=d) (z:=z) g1 o.fn q
  let u:=o.cl which word start f c d z ra.w ra.n (by have:=ra.s.1;omega) ra.hz (Bo p ra.f) (Bo p ra.r);let hz:=B word (ahB ra.w) z (ahB ra.hz)
  let i:∀a y b,fO C c z d a y b->y∈ks:=by
   rintro a y b (r|⟨_,e,_⟩|⟨_,e,_⟩)
   ·rwa[k1 _ _ _ r]
   ·rw[e];rwa[hz.1]
   ·rw[e];rwa[hz.2]
  let⟨A,I,v,l2,_⟩:=D.all (g1.lay z ra.hc.1 ra.hd.1 _) i ⟨l.a,l.b,l.c⟩;erw[_,A,I,v.trans E,l2.trans H,λa y b r=>.inl (F _ _ _ r),i];rintro a y b (r|⟨rfl,rfl,rfl⟩|⟨rfl,rfl,rfl⟩)
  ·rwa[q _ _ _ r]
  ·rwa[u]
  ·rwa[o.sy _ _ _ u]
end
end L2
namespace L2
open PySem PySem.Spec PyProof.Rows
section
variable {X:Cx}
def Qg (K:Za1)(h:TA)(f:TE):TI:=λ c H R=>h c H λd e=>f c e λz b=>∃a n,d=[↑a]/\z=.int n/\0<=n/\n<1000/\(∃g,aH K b a g)/\R (tE K a n) b
def S7 (Q:V->Hp->Prop):Zb->Hp->Prop
 |[z],H=>Q z H
 |_,_=>False
theorem Qh {Q:V->Hp->Prop}:∀{a:Zb} {H:Hp},S7 Q a H->∃z,a=[z]/\Q z H
 |[z],_,h=>⟨z,2,h⟩
 |[],_,h=>h.elim
 |_::_::_,_,h=>h.elim
def Iq {b:Expr}{E D:TE}{elts:Zr}{c g kp:Pos}(L:Gl X "enumerate")(hm:X.mg "enumerate"=none)(he:PE X e E)(j:PE X b D)
 (G:starEach [e] X.env=(false,eval e X.env)::starEach [] X.env)
 (v:((backTo g (starEach [e] X.env)).any (·.1) || (backToKw g (keywordEach [⟨some "start",b,kp⟩] X.env)).any (·.1.isNone))=false):
 PI X (.Tuple elts n p) (.Call (.Name "enumerate" c) [e] [⟨some "start",b,kp⟩] g) (Qg X.K (jI E j6) D):=by
 intro a s C H R I h;rwa[aiz (gT I L hm boot_enumerate ?_)];rwa[PySem.W.callWith_of (P:=λ_=>True) v (λ_ _=>⟨.machine,.inr (.inl rfl),λ_ _ _ _ _ q=>ahF q⟩) (evalArgs_kw2 rfl (aY ((ae he aj G) g a s C H _ I h) λus Y ζ=>?_) G)];let⟨Q,W,M,r,q⟩:=ζ;rwa[aY ((xT j AF:PK X [⟨some "start",b,kp⟩] _) g a Y C W (S7 λz m=>∃e d,Q=[↑e]/\z=.int d/\0<=d/\d<1000/\(∃F,aH X.K m e F)/\R (tE X.K e d) m) M q) λws s2 ζ=>?_];let⟨zs,m,i,Z,qz⟩:=ζ;rwa[⟨True.intro,5⟩]
 let⟨z,rfl,l,d,U,rfl,x,B,y,V⟩:=Qh qz;subst U;let⟨F,y⟩:=y;let⟨u,rfl,ru⟩:=vals1 r;ext ru;let⟨u2,rfl,J,rfl⟩:=vals1 Z;let⟨S,rv,pl,hz⟩:=i.list y;show wpAny _ _ (call (.type "enumerate") [↑l] [("start",.int d J)]) _ _ s2;rwa[En.DC pl.isList x B λo A hit N=>?_]
 let O:Inv X a C m (s2<*o):=i.kept (t':=s2.toks) N;let k:(∃t,IsEnum o (↥s2+ 1) ↥s2 (d+ ((0:Nat):Int)) t)/\o.IsListIter ↥s2 l 0:=⟨⟨_,[show d+ ((0:Nat):Int)=d by ext]▸A⟩,hit⟩;let T:=DE (P:=X.prog) (w:=X.w) (K:=X.K) (elts:=elts) (x1:=n) (tp:=p) (↥s2+ 1) ↥s2 l d (Nat.succ_ne_self _);rwa[T.self _ 0 (s2<*o) _ _ k ⟨1111,m,2,O,T,k,λb j=>?_,V⟩];rcases ahR.mp j with f|j
 ·subst f;rwa[i.pU (ajE _) (i.aM.fresh (ajE _))]
 ·rw[ahH.mp j];rwa[i.pU (ahG _) (i.aM.fresh (ahG _))]
end
section
variable {prog:Program} {w:World} {K:Type} [DecidableEq K] {knd:HeapKind prog w K} {A:Around} {E:Zt->Zu->Prop} {s:Zu} {d a:Zs} {k:K} {xs:List (K×Zs×Zt)}
def DH {dflt:Zt}(m:knd.room A)(b:knd.is s.heap k a)(C:s.heap.DictOfH knd d xs)
 (u:∀v,(atKey xs k).map (·.2)\v->Q v { s with toks:=s.toks+ knd.draws k })
 (r:atKey xs k=none->∀i,i.DictOfH knd d (storedH xs k a dflt)->Heap.SameBut d s.heap i->Q dflt { s with heap:=i,toks:=s.toks+ knd.draws k })
 (x:⇑xs<=sizeLine):(prog<|>w) A (dictSetDefault d ↑a dflt) Q E s:=by
 let⟨G,B,t,f,g2,c,h,n,l⟩:=C;unfold dictSetDefault
 first|(with_reducible rwa[aiw ?_])|skip
 rwa[ahy (knd.pyHash m b (ahy (wpAny_dictFind_heap (s:={ s with toks:=s.toks+ knd.draws k }) m b f c h n l (λno=>?_) (λj p o=>?_))))]
 ·let I:k∉xs.map (·.1):=not_mem_keys_of_get no;let g:=atKey_none_of_get no;rwa[ahy (ak3 (ahy (wpAny_updateDictKeys (hz:=by let e:=size_of_entries h;omega) (s:={ s with toks:=s.toks+ knd.draws k }) f c (ahF (r g _ ?_ (ai8 ..))))))];erw[11,t+ 1,aii _ f (Obj.isFreed_of_dict (Obj.data_mapDictKeys c _)),g2.mapDictKeys _,Obj.data_mapDictKeys c _,55]
  ·rw[storedH_new g];simp[h,entryOfKey]
  ·rw[storedH_new g];intro y z;rcases ahL.mp z with q|q
   ·rwa[knd.keeps (n y q) f c (ai8 ..)]
   ·rw[ahH.mp q];rwa[knd.keeps b f c (ai8 ..)]
  ·rw[storedH_new g,aid,aiD]
   cbv
 ·let D:=atKey_of_get l o;rwa[ahy (ajD (s:={ s with toks:=s.toks+ knd.draws k }) f c ?_)]
  let F:B[j]?\(entryOfKey knd (k,p)):=by
   rw[entry_at h j,o];rfl
  rw[F];rwa[ahy (ak3 (ahF (u _ (by rw[D];rfl))))]
def zQ (knd:HeapKind prog w K)(d a:Zs)(e:(d==sysModules)=false)(dflt:Zt):MeetsIn prog w (Builtin.«dict.setdefault» ⟨[↑d,↑a,dflt],[]⟩) (λA R s=>knd.room A.in1/\∃k xs,knd.is s.heap k a/\s.heap.DictOfH knd d xs/\⇑xs<=sizeLine/\
 (∀v,(atKey xs k).map (·.2)\v->R (.ok (.ret v)) { s with toks:=s.toks+ knd.draws k })/\(atKey xs k=none->∀b,b.DictOfH knd d (storedH xs k a dflt)->Heap.SameBut d s.heap b->R (.ok (.ret dflt)) { s with heap:=b,toks:=s.toks+ knd.draws k })):=
 .of_wp λA R s ζ=>by
  let⟨j,k,xs,c,hm,n,i,h⟩:=ζ
  unfold Builtin.«dict.setdefault» Builtin.Dict.keyAndDefault;rwa[ahy (ahy (akp hm.typeIs ?_))];show wpAny _ _ (pure (d,Value.ref a,some dflt)) _ _ s;rwa[ahF ?_];show wpAny _ _ (if (d==sysModules)=true then _ else (dictSetDefault d ↑a dflt >>=_)) _ _ s;rw[e];rwa[ahy (DH j c hm (λv g=>ahF ⟨v,2,i v g⟩) (λm b l f=>ahF ⟨dflt,2,h m b l f⟩) n)]
end
inductive S8 (a:Zs) (y z:V) (H:Hp) (Q:VK):Prop
 |mk (kvs:List (Zd×V)) (k:Zd) (b:Zs):H a\.dT kvs->y=↑b->H b\.tup (k.map kV)->⇑kvs<sizeLine->(∀v,bA kvs k\v->Q v H)->(bA kvs k=none->Q z (upd H a (.dT (putK kvs k z))))->S8 a y z H Q
def S9 (td e tx:TE):TE:=λ b H Q=>td b H λx c=>EC x c λa=>e b c λy d=>tx b d λz f=>S8 a y z f Q
section
variable {X:Cx}{o e f:Expr}{apos b9:Pos}{td ty tx:TE}
def Lh (hu:X.A.units+ 1<cLine)(Z:PE X o td)(he:PE X e ty)(Y:PE X f tx)(m:M2 X o "setdefault" apos e f b9):PE X (.Call (.Attribute o "setdefault" apos) [e,f] [] b9) (S9 td ty tx):=by
 intro j s r H Q I h;rwa[ajY m.base m.few m.line aiY ajy PySem.F.type_dict_setdefault (aY (Z j s r H _ I h) λu s1 ζ=>?_)];let⟨x,H1,D,rx,a,ex,d,S⟩:=ζ;subst ex;obtain rfl:u=Value.ref a:=rx;let⟨t1,M,_⟩:=mx D d;erw[t1,M];rw[m.trees]
 rwa[aiH rfl (ai0 (aiq (aY (he j s1 r H1 _ D S) λiv P ζ=>?_)))];let⟨y,H2,V,ry,q2⟩:=ζ;rwa[ aiq (aY (Y j P r H2 _ V q2) λfv s3 ζ=>?_)];let⟨z,E,n,J,i,k,b,A,ey,G,N,U,q4⟩:=ζ;rwa[aiX ?_]
 subst ey;cases (show iv=Value.ref b from ry);let⟨W,B,xs,rel,L⟩:=Nj n.aM A;let g:=rel.val k;let p:⇑xs<=sizeLine:=by rw[<-Paired.length rel];rwa[W]
 rwa[aj6 ajy L.typeIs PySem.F.entry_dict_setdefault (PySem.F.args_dict_setdefault_3^_) (zQ _ a b B fv) ⟨ajL hu,k,xs,mw n.aM G,L,p,λv hv=>?_,λhn g1 w sb=>?_⟩]
 ·rw[hv]at g
  cases l:bA i k with
  |none=>rw[l]at g;rwa[g.elim]
  |some t=>
   rw[l]at g;rwa[t,E,n.tok _,g,U t l]
 ·rw[hn]at g
  cases l:bA i k with
  |some t=>rw[l]at g;rwa[g.elim]
  |none=>
   let hl:⇑(putK i k z)<=sizeLine:=by have:=hH i k z;ext
   let⟨q,es,ep,F,O,h3,R,_,T⟩:=w;rwa[⟨z,upd E a (.dT (putK i k z)),j8 n ([A]▸True.intro) sb ⟨q,F⟩ ⟨hl,B,_,(rel.put k G J).keeps λc ys C=>?_,q,es,ep,F,O,h3,R,T⟩,J,q4 l⟩];rw[ak (bT C A (λz=>nomatch z))];rwa[C]
end
section
variable {H:Hp}{k:Zs}{D:Int->Zo}{E:Int->Int->Zo}{S:bD}
def dU.Li (h:dU H k D E S){c s:Int}{d:Zs}(hd:D c\d){l:List (Key×V)}(v:H d\.dK l):
 dU (upd H d (.dK (fh l (Sum.inl s)))) k D (λf g=>if f=c/\g=s then none else E f g) (gn S c s):=by
 let⟨m,w,F,y,C⟩:=h.row c d hd;rw[v]at w;obtain rfl:l=m:=by cbv
 let un:∀{f g:Int} {z:Zs},(if f=c/\g=s then none else E f g)\z->¬(f=c/\g=s)/\E f g\z:=λ{f g z} q=>by
  cbv
 rwa[⟨h.top.at λo q=>?_,λf p j=>?_,λf g n i=>?_,λf g n i=>h.ed _ _ _ (un i).2,λf g o B=>?_,h.nd,λf g n i=>h.ne _ _ _ (un i).2,h.dd,λf A g p j i=>h.de _ _ _ _ j (un i).2,λf g A G n x u=>h.ee _ _ _ _ _ (un x).2 (un u).2⟩]
 ·rw[ak (h.nd c d hd).symm];rwa[q]
 ·cases t:f=c
  ·subst t;obtain rfl:p=d:=by cbv
   rwa[(Qa F y C s).congr λg=>?_]
   cbv
  ·rwa[((h.row f p j).at λo q=>by rw[ak λz=>t (h.dd _ _ _ j ([z]▸hd))];rwa[q]).congr λg=>?_]
   cbv
 ·let⟨ne,r⟩:=un i;rwa[((h.zp f g n r).at λo q=>[ak (λz=>h.de c f g d hd (by rw[<-z];rwa[r]))]▸q).congr λo=>?_]
  have:gn S c s f g o=S f g o:=by
   rw[aiV,dz];rwa[λz=>z.1,λz=>⟨z,ne⟩]
  rw[this]
 ·let⟨a,b⟩:=dz.mp B;let⟨e,r⟩:=h.se _ _ _ a
  cbv
end
structure Ta (k:Zs) (D:Int->Zo) (E:Int->Int->Zo) (W:bD) (O:Zs->Prop):Prop where
 o:∀b,uV k D E b->O b
 d:∀c x,D c\x->0<=c/\c<100000
 e:∀c s x,E c s\x-> -1000<=s/\s<=1000
 w:∀c s n,W c s n=true->0<=n/\n<100000
def oT (H:Hp)(k:Zs)(W:bD)(O:Zs->Prop):Prop:=∃D E,dU H k D E W/\Ta k D E W O
def fE (H:Hp)(k:Zs)(W:bD)(O:Zs->Prop)(c:Int)(d:Zs):Prop:=∃D E,dU H k D E W/\Ta k D E W O/\D c\d
def p8 (H:Hp)(k:Zs)(W:bD)(O:Zs->Prop)(c s:Int)(e:Zs):Prop:=∃D E,dU H k D E W/\Ta k D E W O/\E c s\e
def Ir (O:Zs->Prop)(p:Zs):Zs->Prop:=λb=>O b\/b=p
section
variable {H H':Hp}{k:Zs}{W:bD}{O:Zs->Prop}{c s:Int}{d e p:Zs}
def oT.keep (h:oT H k W O)(f:∀b o,O b->H b\o->H' b\o):oT H' k W O:=by
 let⟨D,E,g,a⟩:=h;rwa[D,E,g.keep λb o i q=>f b o (a.o b i) q,a]
def oT.qH (h:oT H k W O):EB H k:=by
 let⟨D,E,a,_⟩:=h;let⟨b,q,_⟩:=a.top;rwa[.inl ⟨b,.inl q⟩]
def oT.room (h:oT H k W O)(t:H p=none)(hc:0<=c/\c<100000):∃a,upd H p (.dK []) k\.dK a/\⇑a<sizeLine/\(∀v,bA a (Sum.inl c)\v->∃d,v=↑d/\fE (upd H p (.dK [])) k W O c d)/\
 (bA a (Sum.inl c)=none->fE (upd (upd H p (.dK [])) k (.dK (putK a (Sum.inl c) ↑p))) k W (Ir O p) c p):=by
 let⟨D,E,r,f⟩:=h;let y:=aq.upd (o:=.dK []) t;let k1:=r.same y;let⟨a,m,A,w,l⟩:=k1.SV;let nw:¬uV k D E p:=λz=>by let⟨B,q⟩:=r.there z;cbv
 rwa[⟨a,m,5,λv g=>?_,λg=>?_⟩]
 ·rwa[ahK (vW (n:=100000) (lo:=0) A w l λi v g=>?_) ⋯]
  cases e:D i with
  |none=>rw[e]at g;ext g
  |some x=>have:=f.d i x e;ext
 ·rw[l]at g;let⟨d,hd,rfl⟩:=aiI.mp g;rwa[d,2,D,E,k1,f,hd]
 ·rw[l]at g;let hd:D c=none:=ak0.mp g;rwa[⟨_,E,k1.Qc hd m ah nw,⟨λb u=>?_,λj x q=>?_,f.e,f.w⟩,ah4 rfl⟩]
  ·rcases u with z|⟨j,z⟩|z
   ·rwa[.inl (f.o b (.inl z))]
   ·dsimp only at z;cases e:j=c
    ·rw[ah4 e]at z;rwa[.inr (Za0 z).symm]
    ·rw[ahY e]at z;rwa[.inl (f.o b (.inr (.inl ⟨j,z⟩)))]
   ·rwa[.inl (f.o b (.inr (.inr z)))]
  ·cases e:j=c
   ·rw[e];rwa[hc]
   ·rw[ahY e]at q;rwa[f.d j x q]
def fE.qH (h:fE H k W O c d):EB H d:=by
 let⟨D,E,a,g,b⟩:=h;let⟨f,q,_⟩:=a.row c d b;rwa[.inl ⟨f,.inl q⟩]
def fE.own (h:fE H k W O c d):O d:=by
 let⟨D,E,f,a,b⟩:=h;rwa[a.o d (.inr (.inl ⟨c,b⟩))]
def fE.same (h:fE H k W O c d)(s:aq H H'):fE H' k W O c d:=by
 let⟨D,E,b,a,f⟩:=h;rwa[D,E,b.same s,a,f]
def fE.cell (h:fE H k W O c d)(w:H p=none)(C: -1000<=s/\s<=1000):∃a,upd H p (.dK []) d\.dK a/\⇑a<sizeLine/\(∀v,bA a (Sum.inl s)\v->∃e,v=↑e/\p8 (upd H p (.dK [])) k W O c s e)/\
 (bA a (Sum.inl s)=none->p8 (upd (upd H p (.dK [])) d (.dK (putK a (Sum.inl s) ↑p))) k W (Ir O p) c s p):=by
 let⟨D,E,u,f,hd⟩:=h;let B:=aq.upd (o:=.dK []) w;let k1:=u.same B;let⟨a,t,F,A,m⟩:=k1.Lg hd;let nw:¬uV k D E p:=λz=>by let⟨G,q⟩:=u.there z;cbv
 rwa[⟨a,t,5,λv g=>?_,λg=>?_⟩]
 ·rwa[ahK (vW (n:=2001) (lo:=-1000) F A m λi v g=>?_) ⋯]
  cases e:E c i with
  |none=>rw[e]at g;ext g
  |some x=>have:=f.e c i x e;ext
 ·rw[m]at g;let⟨e,r,rfl⟩:=aiI.mp g;rwa[e,2,D,E,k1,f,r]
 ·rw[m]at g;let r:E c s=none:=ak0.mp g;rwa[⟨D,_,k1.Qb hd r t ah nw,⟨λb y=>?_,f.d,λl j x q=>?_,f.w⟩,ah4 ⟨22⟩⟩]
  ·rcases y with z|z|⟨l,j,z⟩
   ·rwa[.inl (f.o b (.inl z))]
   ·rwa[.inl (f.o b (.inr (.inl z)))]
   ·dsimp only at z;cases e:l=c/\j=s
    ·rw[ah4 e]at z;rwa[.inr (Za0 z).symm]
    ·rw[ahY e]at z;rwa[.inl (f.o b (.inr (.inr ⟨l,j,z⟩)))]
  ·cases e:l=c/\j=s
   ·rw[e.2];rwa[C]
   ·rw[ahY e]at q;rwa[f.e l j x q]
def p8.own (h:p8 H k W O c s e):O e:=by
 let⟨D,E,f,a,b⟩:=h;rwa[a.o e (.inr (.inr ⟨c,s,b⟩))]
def p8.put (h:p8 H k W O c s e){n:Int}(o:0<=n/\n<100000):∃a,H e\.dK a/\⇑a<sizeLine/\oT (upd H e (.dK (putK a (Sum.inl n) (.bl true)))) k (addW W c s n) O:=by
 let⟨D,E,g,b,j⟩:=h;let⟨a,f,r,l,m⟩:=g.SW j;rwa[⟨a,f,5,D,E,g.SX j f n,b.o,b.d,b.e,λx t u q=>?_⟩]
 ·rwa[ahK (vW (n:=100000) (lo:=0) r l m λi v y=>?_) ⋯];cases w:W c s i=true
  ·have:=b.w _ _ _ w;ext
  cbv
 ·rcases dE.mp q with q|⟨_,_,q⟩
  ·rwa[b.w _ _ _ q]
  ·rw[q];rwa[o]
def oT.get (h:oT H k W O):∃o,gf H k (.int c) o/\((o=none/\∀s n,W c s n=false)\/∃d,o\↑d/\fE H k W O c d):=by
 let⟨D,E,a,i⟩:=h;let⟨b,j,r,q,f⟩:=a.SV;let g:=gf.k (k:=Sum.inl c) j;rw[f]at g;erw[_,g]
 cases e:D c with
 |none=>
  rwa[.inl ⟨2,λs n=>?_⟩]
  cases w:W c s n with
  |false=>rfl
  |true=>
   let⟨x,l⟩:=a.se _ _ _ w;let⟨y,m⟩:=a.ed _ _ _ l
   cbv
 |some d=>exact .inr ⟨d,2,D,E,a,i,e⟩
theorem Bp:∀{a:List (Key×V)},(a.map (·.1)).Nodup->(∀b∈a,∃n:Nat,b.1=Sum.inl (n:Int))->∃ns:Zh,a.map (λb=>kV b.1)=ao (nI ns)/\ns.Nodup/\∀n:Nat,n∈ns↔Sum.inl (n:Int)∈a.map (·.1)
 |[],_,_=>⟨[],2,ajn,λn=>⟨(λz=>by ext z),(λz=>by ext z)⟩⟩
 |b::r,f,h=>by
  rw[aiS,aih]at f;let⟨ns,i,l,j⟩:=Bp f.2 λx o=>h x (aie _ o)
  let⟨m,g⟩:=h b (ahU ..);rwa[⟨m::ns,5,aih.mpr ⟨λz=>f.1 ([g]▸(j m).mp z),l⟩,λn=>?_⟩]
  ·rw[aiS,i,g];rfl
  cbv
def ER {a:List (Key×V)}{v:V}(h:bA a (Sum.inl z)\v):Sum.inl z∈a.map (·.1):=aiB.mpr ⟨_,Lf h,2⟩
def fE.pop (h:fE H k W O c d)(s:Int):∃a,H d\.dK a/\(bA a (Sum.inl s)=none->∀n,W c s n=false)/\
 ∀v,bA a (Sum.inl s)\v->∃(e:Zs) (f:List (Key×V)) (ns:Zh),v=↑e/\e≠d/\H e\.dK f/\f.map (λt=>kV t.1)=ao (nI ns)/\ns.Nodup/\(∀n:Nat,n∈ns↔W c s n=true)/\oT (upd H d (.dK (fh a (Sum.inl s)))) k (gn W c s) O:=by
 let⟨D,E,o,l,hd⟩:=h;let⟨a,A,S,Q,B⟩:=o.Lg hd;rwa[⟨a,A,λu n=>?_,λv u=>?_⟩]
 ·rw[B]at u
  cases w:W c s n with
  |false=>rfl
  |true=>
   let⟨x,R⟩:=o.se _ _ _ w
   cbv
 ·rw[B]at u;let⟨e,F,rfl⟩:=aiI.mp u;let⟨f,M,y,G,I⟩:=o.SW F
  let r:∀i:Int,Sum.inl i∈f.map (·.1)↔W c s i=true:=λi=>by
   constructor
   ·intro z;let⟨t,g,e⟩:=aiB.mp z;have:=Bj y g
    cbv
   ·intro w;rwa[ER (v:=.bl true) (by rw[I,ah4 w])]
  let⟨ns,N,L,P⟩:=Bp y λt g=>by
   let⟨i,C⟩:=G t g;have:=l.w _ _ _ ((r i).mp (by rw[<-C];rwa[aj9 g]));rwa[i.toNat,by rw[C];congr 1;ext]
  rwa[⟨e,f,ns,2,λz=>o.de _ _ _ _ hd (by rw[<-z];rwa[F]),M,N,L,λn=>(P n).trans (r n),11,o.Li hd A,⟨λb J=>l.o b ?_,l.d,λm j x q=>?_,λm j n q=>l.w _ _ _ (dz.mp q).1⟩⟩]
  ·rcases J with z|z|⟨m,j,z⟩
   ·rwa[.inl z]
   ·rwa[.inr (.inl z)]
   ·dsimp only at z;cases e:m=c/\j=s
    ·cbv
    ·rw[ahY e]at z;rwa[.inr (.inr ⟨m,j,z⟩)]
  ·cases e:m=c/\j=s
   ·rw[ah4 e]at q;ext q
   ·rw[ahY e]at q;rwa[l.e _ _ _ q]
def Iu {P:Nat->Bool}{G:Nat}:∀{ns:Zh},ns.Nodup->(∀n∈ns,n<G/\P n=true)->⇑ns<=(~~~G).countP P:=by
 intro ns
 induction ns generalizing P with
 |nil=>exact λ_ _=>ah2 _
 |cons m r i=>
  intro g h;rw[aih]at g;let⟨f,b⟩:=h m (ahU ..);have:=lO (p:=P) (p':=λa=>P a && decide (a≠m)) (v:=m) (λa=>rfl) b G;rw[ah4 f]at this
  cbv
def yh {W:bD}{c s:Int}(h:∀n,W c s n=false):gn W c s=W:=by
 funext b a n
 rw[aiV,dz]
 cbv
end
end L2
namespace L2
section
variable {S:RS}{R:Za2}
theorem Bq (g:Good S [] R):∀{w:Zg} {c d e:Nat},wk S.by c w=some e->wk S.by d w=some e->c=d
 |[],c,d,e,b,a=>by rw[Za0 b,Za0 a]
 |z::w,c,d,e,b,a=>by
  let⟨n,h,f⟩:=iC b;let⟨l,i,j⟩:=iC a;have:=Bq g f j;subst this;let k:=g.sy _ _ _ h;let m:=g.sy _ _ _ i
  cbv
def Lj (g:Good S [] R){p c d m:Nat}{word:Zg}{z:Int}(h:Nt S p word)(t:word[m]?\z)(n:wk S.by p (word.take m)=some c)(k:wk S.by d (word.drop (m+ 1))=some p):S.by c z=some d:=by
 let L:=(ahD.mp t).1;rcases h with h|⟨i,j,f,r,y,s,w,E,F,v,M,G,u⟩
 ·have:word=word.take m++(z::word.drop (m+ 1)):=by rw[<-drop_cons t,ajs]
  rw[this,oS n]at h;let⟨e,D,A⟩:=iC h;rw[D,Bq g A k]
 ·exfalso
  let a:m<=i:=by
   rcases ajB i m with q|q
   ·exfalso
    let e:word.take m=word.take i++(y::(word.take m).drop (i+ 1)):=by
     let l:(word.take m)[i]?\y:=by rw[List.getElem?_take,ah4 q];rwa[E]
     rw[<-drop_cons l];have:word.take i=(word.take m).take i:=by rw[List.take_take,aj4 ∅]
     rw[this,ajs]
    rw[e,oS v]at n;let⟨x,I,_⟩:=iC n
    cbv
   ·rwa[q]
  let b:j<=m:=by
   rcases ajB m j with q|q
   ·exfalso
    let o:(word.drop (m+ 1))[j - (m+ 1)]?\s:=by rw[akW,show m+ 1+ (j - (m+ 1))=j by ext];rwa[F]
    let e:word.drop (m+ 1)=(word.drop (m+ 1)).take (j - (m+ 1))++(s::word.drop (j+ 1)):=by
     have:word.drop (j+ 1)=(word.drop (m+ 1)).drop (j - (m+ 1)+ 1):=by rw[List.drop_drop];congr 1;ext
     rw[this,<-drop_cons o,ajs]
    rw[e]at k;let⟨x,_,H⟩:=Bl k;let⟨J,B,C⟩:=iC H;have:=Bq g C G;subst this;rw[g.sy _ _ _ B]at u;ext u
   ·rwa[q]
  ext
theorem F8 {b:Nat->Int->Zi}:∀{w:Zg} {p q:Nat},UW (λp z q=>b p z\q) p w q->wk b p w\q
 |[],p,q,h=>by rw[show p=q from h];rfl
 |z::w,p,q,h=>by
  let⟨r,c,a⟩:=h;rw[iN c];rwa[F8 a]
def Tc (g:Good S [] R){l k a i:Za3}(c:uW l k S)(r:0<S.q)(x:∀w∈a,w∈l)(v:∀w∈i,w∈k):Xq (a++i) ⇑a S.q S.aw (λp z q=>S.by p z=some q):=by
 rwa[⟨λp z q h=>g.sy _ _ _ h,λp z q D C A=>by cbv,λe b start m B d z j y n u t s=>?_⟩];rwa[Lj g (p:=S.aw start) ?_ u (F8 t) (F8 s)];cases f:e<⇑a
 ·rw[ahN f]at j;rwa[c.r b (x _ (ahB j)) _ (g.lt n) (g.el _ n).2]
 ·rw[ahO ∅]at j;let o:start=0:=y.resolve_left f;have:S.aw start=0:=by rw[o];have:=(g.el 0 r).1;ext
  rw[this];rwa[c.p b (v _ (ahB j))]
end
end L2
namespace L2
open PySem PySem.Spec PyProof.Rows
def Qi {CX:lC}{base:Heap}{k:Nat}{name qual:Str}{params:Arguments}{body:Expr}{scope:Scope}{pm:Zt}{i:Zp}
 {A:Around} {f:Zq} {s:Zu} {H:Hp} {g:Args} {us:Zk} {vs:Zb} {Q:VK} {E:XK} {t:TE} (S:aT Z i scope) (L:⇑vs=⇑i) (m:cw (k+ 1) A) (j:mn P w K M base A f s H)
 (G:s•a\PySem.W.kla_obj name qual params body scope [] pm c v) (l:s.heap.CodeRec ↑c qual) (B:bindArgs (PySem.W.kla_fn name qual params body scope [] pm ↑c v) g=pure (i.zip us)) (r:Vals vs us)
 (F:PE (cF CX P w K M base Z qual scope a ↑c A f s H E) body t) (C:t (start Z vs) H Q):codeAny (model P w) A (.call ↑a g) (CR CX f P w H s Q E) s:=by
 let lim:s.heap.NoLimit:=j.mod.nolimit.keeps λb o e=>(j.bs b o e).1
 let h:∀y∈i.zip us,scope.names.lookup y.1=some .local\/(scope.names.lookup y.1=some .cell/\((cellsFrom (↥s+ 1) scope.names []).lookup y.1).isSome=true):=λζ N=>by
  let⟨n,d⟩:=ζ
  rcases S.par n (List.of_mem_zip N).1 with q|q
  ·rwa[.inl q]
  ·rwa[.inr ⟨q,akX _ _ _ (.inl q)⟩]
 rwa[PySem.W.kla_callFunE m.depth G rfl S.co S.gen rfl l ?_];rw[B];rwa[ahF (wpAny_newFunctionEnv_cells S.kind h λenv R p x=>?_)];subst R;rwa[⟨lim.keeps x.toInCall.keep,PySem.W.kla_codeExpr ?_⟩];let I:Inv (cF CX P w K M base Z qual scope a ↑c A f s H E) [] (start Z vs) H p:=y1 S m.hd j L r x;rwa[aiv (F [] p (start Z vs) H Q I C) (λu z ζ=>?_) λe z O=>O];let⟨d,T,J,D,q⟩:=ζ
 rwa[d,T,J.os,J.bare,J.base,J.aM,D,q]
def cH (d:Zs)(pos:Pos)(qual:Str)(H:Hp):Prop:=
 H d=some (.fy #[])\/∃(c:Zs) (b:Obj) (a:Zm) (t:Tok),H d\(.fy #[rawInt pos.line,rawInt pos.col,↑c])/\H c\.c9 b (.own c)/\b.data=.fields a/\a[1]?\(.str qual t)
def cH.keep {pos:Pos}{qual:Str}(h:cH a pos qual H)(k:∀b u,H b\u->(∃d,u=.fy d)\/(∃o v,u=.c9 o v)->I b\u):cH a pos qual I:=by
 rcases h with h|⟨c,j,e,t,i,f,l,g⟩
 ·rwa[.inl (k _ _ h (.inl ⟨_,rfl⟩))]
 ·rwa[.inr ⟨c,j,e,t,k _ _ i (.inl ⟨_,rfl⟩),k _ _ f (.inr ⟨_,_,rfl⟩),l,g⟩]
def jO (c:Str->Zl)(base:Heap):Prop:=∃(b:Zs) (a:Obj),c "__builtins__"=some ↑b/\base.get? b\a/\(a.cls=.type "module"/\a.dict\builtinsNs/\a.data=.plain)/\b≠builtinsNs
section
variable {X:Cx}{pins:List (Zs×Obj)}{σ:St}{H:Hp}{s:Zu}
def Td {params:Arguments}{body:Expr}{scope:Scope}{pos:Pos}(I:Inv X pins σ H s)(A:X.env.code=↑c)(hC:PySem.W.codeHdIn X.K c a=true)
 (nJ:closureFor scope X.env=pure []) (W:defaultsOf params X.env=([],[])) (hT:cH a pos (X.env.qual++"<lambda>") H)
 (hB:jO X.mg X.base)
 (h:∀(f g:Zs) (m:Obj) (D:Zm) (t:Tok) (pm j:Zt) (B:Hp) (s2:Zu),Inv X (pins++[(f,PySem.W.kla_obj "<lambda>" (X.env.qual++"<lambda>") params body scope [] pm g j)]) σ B s2->B g\.c9 m (.own g)->m.data=.fields D->D[1]?\.str (X.env.qual++"<lambda>") t->
  cH a pos (X.env.qual++"<lambda>") B->(∀b u,b≠a->H b\u->B b\u)->Q ↑f s2):
 X⁻¹ X.A (eval (.Lambda params body scope pos) X.env) Q E s:=by
 let⟨bm,ob,b1,b2,b3,b4⟩:=hB;rwa[PySem.W.kla_eval W ?_]
 let C:s.heap.Ns mainGlobals X.mg:=by
  let⟨o,es,ep,e,r⟩:=I.ok.mod.glob;rwa[o,es,ep,I.bk^e,r]
 let Xr:=PySem.W.codeHd_of_K I.dg hC;let R:s•bm\ob:=I.bk^b2
 let hPH:∃ps,H a\(.fy ps):=by
  rcases hT with z|⟨L,_,_,_,z,_⟩
  ·rwa[⟨_,z⟩]
  ·rwa[⟨_,z⟩]
 let⟨V,S⟩:=hPH
 let neP:∀{b:Zs} {o:Obj},s•b\o->o.cls≠.none->b≠a:=λ{b o} e hc z=>by
  have:=I.aM^S;rw[z,show s•a=some { cls:=.none,data:=.fields V } from this]at e
  cbv
 let hbP:bm≠a:=neP R (by cbv)
 let hgP:mainGlobals≠a:=λz=>by
  let⟨o,es,ep,e,hd,_⟩:=C;have:=I.aM^S;rw[z,show s•a=some { cls:=.none,data:=.fields V } from this]at e
  cbv
 let hbG:bm≠mainGlobals:=λz=>by
  let⟨o,es,ep,e,hd,_⟩:=C
  cbv
 let hB:s.heap.BuiltinsAt X.mg a:=⟨bm,ob,b1,b4,hbG,hbP,R,b3.1,b3.2.1,b3.2.2⟩
 let fin:∀{f:Zs} {B:Hp} {s2:Zu} {o:Obj},Inv X pins σ B s2->↥s<=f->s2•f\o->B f=none->(∀v,o.data≠.cell v)->Inv X (pins++[(f,o)]) σ B s2:=λ{f B s2 o} J hf e n hd=>J.jt λp Z=>by
  rcases ahL.mp Z with Z|Z
  ·rwa[J.pin p (ahI _ Z)]
  ·rw[ahH.mp Z];rwa[e,n,aiO (ah5 I.lt hf),I.FC hf,hd]
 rcases hT with M|⟨L,m,D,t,M,lD,x,y⟩
 ·let F:s•a\(PySem.W.tabObj #[]):=I.aM^M;rwa[PySem.W.kla_makeFunction (mg:=X.mg) nJ I.ok.glob C A Xr F trivial rfl hgP hB λg j U tk hx G P N O=>?_]
  let⟨c2,m,D,t,e2,Y,x,y⟩:=N;ext e2;let lB:∀b u,H b\u->b≠g:=λb u e z=>absurd (I.aM b u e).lt ([z]▸Nat.not_lt.mpr G)
  let hcP:g≠a:=(lB a _ M).symm;let k1:∀b o,b≠a->s•b\o->(U.push (PySem.W.kla_obj "<lambda>" (X.env.qual++"<lambda>") params body scope [] ((X.mg "__name__").getD .none) g j)).get? b\o:=λb o w e=>ahz _ (hx b o w e)
  let eP2:(upd (upd H a (.fy #[rawInt pos.line,rawInt pos.col,↑g])) g (.c9 m (.own g))) a\(.fy #[rawInt pos.line,rawInt pos.col,↑g]):=by rw[ak hcP.symm,ah]
  let i:∀b u,b≠a->H b\u->(upd (upd H a (.fy #[rawInt pos.line,rawInt pos.col,↑g])) g (.c9 m (.own g))) b\u:=λb u w e=>by rw[ak (lB b u e),ak w];rwa[e]
  let J:Inv X pins σ (upd (upd H a (.fy #[rawInt pos.line,rawInt pos.col,↑g])) g (.c9 m (.own g))) { s with heap:=U.push (PySem.W.kla_obj "<lambda>" (X.env.qual++"<lambda>") params body scope [] ((X.mg "__name__").getD .none) g j),toks:=tk }:=by
   rwa[I.un ⟨λb o e n _ _=>k1 b o (λz=>by cbv) e,λb o e n _ _=>⟨o.slots,k1 b o (λz=>by cbv) e⟩,λb o e n _=>?_,λb o e _=>?_,λb xs e=>i b _ (λz=>by cbv) e,λb o u e=>i b _ (λz=>by cbv) e,λb qs e=>?_⟩ λb u e=>?_]
   ·rw[ak (ah8 (ah5 (ahT e) G)),ak (λz=>by cbv)];rwa[n]
   ·cases w:b=a
    ·subst w;rwa[_,ahz _ O]
    ·rwa[o,k1 b o w e]
   ·cases w:b=a
    ·cbv
    ·rwa[#[],by rw[i b _ w e];simp]
   ·cases w:b=g
    ·subst w;rw[ah]at e;ext e;rwa[ahz _ Y,m,ahz _ Y]
    ·rw[ak w]at e;cases T:b=a
     ·subst T;rw[ah]at e;ext e;rwa[ahz _ O]
     ·rw[ak T]at e;rwa[(I.aM b u e).ft (λd v hd q=>k1 d v ?_ q) (λd q=>?_) λd xs q=>?_]
      ·cbv
      ·rwa[i d _ (λz=>by cbv) q]
      ·rwa[i d _ (λz=>by cbv) q]
  let l:↥s<=U.objs.size:=ahP G (akF P);rwa[h _ g m D t _ j _ _ (fin J l (ahQ _ rfl) ?_ λv z=>nomatch z) ah x y (.inr ⟨g,m,D,t,eP2,ah,x,y⟩) i];rw[ak (aiO P),ak (λz=>absurd (I.aM^M).lt (by rw[<-z];rwa[Nat.not_lt.mpr l]))];rwa[I.aM.fresh l]
 ·let F:s•a\(PySem.W.tabObj #[rawInt pos.line,rawInt pos.col,↑L]):=I.aM^M;rwa[PySem.W.kla_makeFunctionHit (mg:=X.mg) (cv:=↑L) nJ I.ok.glob C A Xr F (by simp[TriplesOk,rawInt]) (by simp[codeAmong,rawInt]) hB λj U tk k l=>?_]
  let J:Inv X pins σ H { s with heap:=U.push ("function">>>.func (PySem.W.kla_fn "<lambda>" (X.env.qual++"<lambda>") params body scope [] ((X.mg "__name__").getD .none) ↑L j)),toks:=tk }:=I.kept λb u e=>ahz _ (k b u e)
  rwa[h _ L m D t _ j H _ (fin J l (ahQ _ rfl) (I.aM.fresh l) λv z=>nomatch z) lD x y (.inr ⟨L,m,D,t,M,lD,x,y⟩) λb u _ e=>e]
structure Fp (X:Cx) (pq:List (Zs×Obj)) (H:Hp) (b:Zs):Prop where
 none:H b=none
 loc:b≠X.env.locals
 fs:b∉X.fs
 new:X.eB.heap.objs.size<=b
 cell:∀x c,X.env.cells.lookup x\c->c≠b
 pin:∀p∈X.pn++pq,p.1≠b
def vY (I:Inv X o σ H s)(h:↥s<=b):Fp X o H b:=
 ⟨I.aM.fresh h,aiO (ah5 I.lt h),I.FC h,ahP I.sz h,λx c e z=>by
  let⟨v,d⟩:=I.cell x c e;rwa[absurd d.lt ([z]▸Nat.not_lt.mpr h)],λp a z=>absurd (ahT (I.pin p a).1) ([z]▸Nat.not_lt.mpr h)⟩
def Inv.F9 {b:List (Zs×Obj)}(I:Inv X (o++b) σ H s):Inv X o σ H s:=I.jt λp a=>I.pin p (ahI _ (ah3 _ a))
abbrev Te (a:Zm) (c:Nat):Obj:={ cls:=.type "list",dict:=none,data:=.seq a c,slots:=#[] }
theorem Iv {it l:Zs}{ys:Zb}{kf:Nat->Int}{R:Result->Zu->Prop}(hh:X.A.in1.handled=none)(hq:aH X.K H l ys)(Z:l≠it)(n1:a≠it)(C:Fp X o H it)(D:Fp X o H a)
 (turn:∀(i:Nat) (y:V) (n:Zt) (pr:List (Zs×Obj)) (s':Zu),ys[i]?\y->RelV y n->Inv X (o++pr) σ H s'->X⁻¹ X.A.in1 (call ↑b [n]) (λu s2=>∃t,u=.int (kf i) t/\Inv X (o++pr) σ H s2) (λ_ _=>False) s')
 (hR:∀n s',(ys=[]/\n=v\/∃(j:Nat) (y:V),ys[j]?\y/\RelV y n/\∀q,q<⇑ys->kf j<=kf q/\(q<j->kf j<kf q))->Inv X o σ H s'->R (.ok (.ret n)) s'):
 ∀(k i:Nat) (s:Zu) (r:Zm) (c:Nat),⇑ys - i=k->i<=⇑ys->Inv X o σ H s->s.heap.IsListIter it l i->s•a\Te r c->
 ((i=0/\r=#[])\/∃(j:Nat) (y:V) (vb:Zt) (U:Tok),j<i/\ys[j]?\y/\RelV y vb/\r=#[vb,.int (kf j) U]/\∀q,q<i->kf j<=kf q/\(q<j->kf j<kf q))->
 codeAny (model X.prog X.w) X.A (.builtin "min.loop" ⟨[↑it,↑b,↑a],[("default",v)]⟩) R s:=by
 let nm:(toString "min"++toString ".loop":String)="min.loop":=⋯
 let L:∀m:Zs,m≠it->m∉[it]:=λm B z=>B (ahH.mp z)
 intro k
 induction k with
 |zero=>
  intro i s r c hk hi I hit B hold;let⟨E,hv,pl,hz⟩:=I.list hq;let Tf:=⇑hv;let W:=Walks.list (prog:=X.prog) (w:=X.w) (A:=X.A.in1) hh it l Z E.toArray;let ei:i=⇑E:=∅
  rwa[akn F.entry_min_loop ?_];rw[akx akc _];show wpAny _ X.A.in1 (seqItems? ↑a >>=_) _ _ s;rwa[ahy (akd B rfl ?_)];show wpAny _ X.A.in1 (tryCatch (pyNext ↑it) _ >>=_) _ _ s;rwa[ahy (ak8 (W.done s _ _ ⟨by cbv,pl.isList⟩ λh' M kp=>?_))];let O:=kp a _ (L _ n1) B;let I2:Inv X o σ H { s with heap:=h',toks:=M }:=I.turned (λm f B e=>kp m f (L _ B) e) C.none C.loc (.inr C.new) C.cell C.pin;rcases hold with ⟨e0,rfl⟩|⟨j,y,vb,U,hj,hy,rb,rfl,d⟩
  ·let en:ys=[]:=ai4 (by omega);rwa[ahy (ak3 ?_)];rwa[ahF (hR v _ (.inl ⟨en,2⟩) I2)]
  ·show wpAny _ X.A.in1 (updateSeq a (λ_=>#[]) >>=_) _ _ _;rwa[ahy (aj1 O rfl (ahy (ak4 (ahF ?_))))];rwa[hR _ _ (.inr ⟨j,y,hy,rb,λq S=>d q ∅⟩) (I2.turned (t':=M) (λm f B e=>(aij^aiU B).trans e) D.none D.loc (.inr D.new) D.cell D.pin)]
 |succ k ih=>
  intro i s r c hk hi I hit B hold;let⟨E,hv,pl,hz⟩:=I.list hq;let Tf:=⇑hv;let j1:i<⇑E:=∅
  let W:=Walks.list (prog:=X.prog) (w:=X.w) (A:=X.A.in1) hh it l Z E.toArray;rwa[akn F.entry_min_loop ?_];rw[akx akc _];show wpAny _ X.A.in1 (seqItems? ↑a >>=_) _ _ s;rwa[ahy (akd B rfl ?_)];show wpAny _ X.A.in1 (tryCatch (pyNext ↑it) _ >>=_) _ _ s;rwa[ahy (ak8 (W.item i s _ _ ∅ ⟨hit,pl.isList⟩ λn h' M hP Iw kp=>?_))];let⟨⟨oI,hoI,Tg,T⟩,Iy⟩:=Iw;let O:=kp a _ (L _ n1) B;let I2:Inv X o σ H { s with heap:=h',toks:=M }:=I.turned (λm f B e=>kp m f (L _ B) e) C.none C.loc (.inr C.new) C.cell C.pin;let G:ys[i]?\(ys[i]'∅):=ahC ∅
  change ys[i]'∅=y at G;let⟨u,hu,ru⟩:=hv.get (i:=i) (x:=y) G;let EV:E[i]?\n:=by simpa using hP
  rw[hu]at EV;let euv:u=n:=Za0 EV;subst euv;let dI:∀z,oI.data≠.cell z:=λz e=>by rw[T]at e;ext e
  let J2:Inv X (o++[(it,oI),(a,Te r c)]) σ H { s with heap:=h',toks:=M }:=I2.jt λp Q=>by
   rcases ahL.mp Q with Q|Q
   ·rwa[I2.pin p (ahI _ Q)]
   ·rcases ahR.mp Q with rfl|Q
    ·rwa[⟨hoI,C.none,C.loc,C.fs,dI⟩]
    ·rw[ahH.mp Q];rwa[O,D.none,D.loc,D.fs,λz e=>nomatch e]
  show wpAny _ X.A.in1 (tryCatch (holding [u] (call ↑b [u])) _ >>=_) _ _ _;rwa[ahy (ak8 (aiw (aiv (turn i y u _ _ G ru J2) (λx J he=>?_) λ_ _ hF=>hF.elim)))];let⟨Y,rfl,J3⟩:=he;let pI:=(J3.pin (it,oI) (ahI _ (ahI _ (.head _)))).1;let pB:=(J3.pin (a,Te r c) (ahI _ (ahI _ (.tail _ (.head _))))).1;let I3:=J3.F9;let aaN:J.heap.IsListIter it l (i+ 1):=⟨oI,pI,Tg,T⟩;let Xs:∀(g:Zm->Zm),(J.heap.update a (Obj.mapSeq g)).IsListIter it l (i+ 1):=λg=>⟨oI,(aij^n1).trans pI,Tg,T⟩
  let Xt:∀(g:Zm->Zm) (M:Nat),Inv X o σ H { J with heap:=J.heap.update a (Obj.mapSeq g),toks:=M }:=λg M=>I3.turned (λm f B e=>(aij^aiU B).trans e) D.none D.loc (.inr D.new) D.cell D.pin
  rcases hold with ⟨e0,rfl⟩|⟨j,y0,vb,U,hj,hy,rb,rfl,d⟩
  ·subst e0;show wpAny _ X.A.in1 (updateSeq a (λ_=>#[u,.int (kf 0) Y]) >>=_) _ _ _;rwa[ahy (aj1 pB rfl ?_)];rw[nm]
   exact ahF ⟨aj8 akc _,ih 1 _ _ _ ∅ ∅ (Xt _ _) (Xs _) (aii _ pB rfl) (.inr ⟨(0),y,u,Y,3,G,ru,2,λq S=>by
    let e:q=0:=∅
    subst e;rwa[Int.le_refl _,λz=>absurd z (aiR _)]⟩)⟩
  ·show wpAny _ X.A.in1 (tryCatch (holding [u,.int (kf i) Y] (richCompare .Lt (.int (kf i) Y) (.int (kf j) U) >>=_)) _ >>=_) _ _ _;rwa[ahy (ak8 (aiw (ahy (CmpOf.ints_lt (prog:=X.prog) (w:=X.w) (A:=X.A.in1) (P:=λi n=>∃t,n=.int (kf i) t) kf (λi n h=>h) i j _ _ _ _ _ ⟨Y,2⟩ ⟨U,2⟩ ?_))))];rwa[ahy (aiw (ai9 ?_))];rwa[ahy (ak4 (ahF ?_))];cases Br:kf i<kf j
   ·simp only[Br,decide_true,alc];rwa[ahy (aj1 pB rfl (ahy (ak4 ?_)))];rw[nm];rwa[ahF ⟨aj8 akc _,ih (i+ 1) _ _ _ ∅ ∅ (Xt _ _) (Xs _) (aii _ pB rfl) (.inr ⟨i,y,u,Y,3,G,ru,2,λq S=>?_⟩)⟩];cases e:q=i
    ·subst e;rwa[Int.le_refl _,λz=>absurd z (aiR _)]
    ·let h1:=(d q ∅).1;rwa[3,λ_=>∅]
   ·simp only[Br,decide_false,akh,aks];rwa[ahy (ak4 ?_)];rw[nm];rwa[ahF ⟨aj8 akc _,ih (i+ 1) _ _ _ ∅ ∅ I3 aaN pB (.inr ⟨j,y0,vb,U,3,hy,rb,2,λq S=>?_⟩)⟩];cases e:q=i
    ·subst e;rwa[3,λ_=>∅]
    ·rwa[d q ∅]
def aH.fW {H:Hp}{ys:Zb}{d:Zm}(h:aH K H a ys)(f:H b\.fy d)(k:∀c u,c≠b->H c\u->I c\u):aH K I a ys:=by
 rcases h with h|h
 ·rcases h with e|⟨o,e⟩
  ·rwa[.inl (.inl (k _ _ (λz=>by cbv) e))]
  ·rwa[.inl (.inr ⟨o,k _ _ (λz=>by cbv) e⟩)]
 ·rwa[.inr h]
def Lk (a f d:Zt):checkBuiltinCall "min" ⟨[a],[("key",f),("default",d)]⟩=pure ():=by kernel_rfl
def Wx (K:Za1)(e:Zs)(f:Pos)(qual:Str)(g:TE)(k:TA):TE:=λ σ H Q=>k σ H λh d=>∃(l:Zs) (ys:Zb) (c:Nat->Int),h=[↑l]/\aH K d l ys/\cH e f qual d/\
 ∀a,cH e f qual a->(∀b u,b≠e->d b\u->a b\u)->(∀(i:Nat) (y:V),ys[i]?\y->g [some y] a λv m=>v=.int (c i)/\m=a)/\(ys=[]->Q .non a)/\
  ∀(i:Nat) (y:V),ys[i]?\y->(∀j,j<⇑ys->c i<=c j/\(j<i->c i<c j))->Q y a
theorem Qj {body:Expr}{te tb:TE}{n N D kq lp:Pos}{k:Nat}{params:Arguments}{scope:Scope}(hc:X.calm=true)(hg:Gl X "min")(hm:X.mg "min"=none)(he:PE X e te)
 (G:X.env.code=↑c) (hC:PySem.W.codeHdIn X.K c a=true) (nJ:closureFor scope X.env=pure []) (U:defaultsOf params X.env=([],[]))
 (hB:jO X.mg X.base) (hr:cw (k+ 2) X.A) (S:aT [x] [x] scope)
 (V:∀(pm B:Zt) (w:Zs) (u:Zt),bindArgs (PySem.W.kla_fn "<lambda>" (X.env.qual++"<lambda>") params body scope [] pm ↑w B) ⟨[u],[]⟩=pure [(x,u)])
 (C:∀(A:Around) (M:Zq) (s:Zu) (H:Hp) (f w:Zs),cw k (A.deeper (envOfC (X.env.qual++"<lambda>") scope ↥s f ↑w))->PE (cF Xk X.prog X.w X.K X.mg X.base [x] (X.env.qual++"<lambda>") scope f ↑w A M s H E0) body tb)
 (hs:starEach [e] X.env=(false,eval e X.env)::starEach [] X.env)
 (oU:((backTo n (starEach [e] X.env)).any (·.1) || (backToKw n (keywordEach [⟨some "key",.Lambda params body scope lp,N⟩,⟨some "default",.Constant .none j kq,D⟩] X.env)).any (·.1.isNone))=false):
 PE X (.Call (.Name "min" p) [e] [⟨some "key",.Lambda params body scope lp,N⟩,⟨some "default",.Constant .none j kq,D⟩] n) (Wx X.K a lp (X.env.qual++"<lambda>") tb (jI te j6)):=by
 intro pins s σ H Q I h;rwa[aiz (gT I hg hm PyProof.Rows.boot_min ?_)];rwa[PySem.W.callWith_of (P:=λ_=>True) oU (λ_ _=>⟨.machine,.inr (.inl rfl),λ_ _ _ _ _ q=>ahF q⟩) (evalArgs_kw2 rfl (aY ((ae he aj hs) n pins s σ H _ I h) λus s1 ζ=>?_) hs)];let⟨vs,H1,I1,r,q⟩:=ζ;let⟨l,ys,kf,rfl,hq,hT,q⟩:=q;let⟨u,rfl,ru⟩:=vals1 r;ext ru;rwa[kwAll_cons (Td I1 G hC nJ U hT hB λf w oc Z ct pm B H2 s2 I2 Iz hvs hv1 Y m=>?_)];rwa[aY ((xT dA AF:PK X [⟨some "default",.Constant .none j kq,D⟩] _) n _ s2 σ H2 (λzs L=>zs=[.non]/\L=H2) I2 ⟨22⟩) λws s3 ζ=>?_];let⟨zs,L,T,rz,O,e2⟩:=ζ;rwa[⟨True.intro,5⟩]
 subst O e2;let⟨u2,rfl,ru2⟩:=vals1 rz;ext ru2;let⟨q1,q2,q3⟩:=q L Y m
 let R:aH X.K L l ys:=by
  rcases hT with z|⟨_,_,_,_,z,_⟩
  ·rwa[hq.fW z m]
  ·rwa[hq.fW z m]
 show wpAny _ _ (call (.builtin "min") [↑l] [("key",↑f),("default",.none)]) _ _ s3;let nm:(toString "min"++toString ".loop":String)="min.loop":=⋯
 rwa[ajt (aiP F.plain_min F.entry_min (wpAny_of_eq (Lk^_) ?_))];show wpAny _ X.A.in1 (Builtin.Builtins.bindParams "min" ["key","default"] 0 ⟨[],[("key",↑f),("default",.none)]⟩ >>=_) _ _ s3;rwa[ahy (wpAny_of_eq (show Builtin.Builtins.bindParams "min" ["key","default"] 0 ⟨[],[("key",↑f),("default",.none)]⟩=pure #v[↑f,some .none] from rfl) ?_)];let⟨its,rv,pl,hz⟩:=T.list R;rwa[ahy (ahF (ahy (ajV pl.isList ?_)))];let⟨ol,Ti,Tg,Tj⟩:=id pl.isList;rwa[ahy (aiy ?_)];let j1:=ahT Ti;let hsz:(s3.heap.push ("list_iterator">>>.fields #[↑l,.int 0 0])).objs.size=↥s3+ 1:=ajm ..;let kp4:∀(b:Zs) (o:Obj),s3•b\o->((s3.heap.push ("list_iterator">>>.fields #[↑l,.int 0 0])).push ("list">>>.seq ([]:Zk).toArray)).get? b\o:=λb o d=>ahz _ (ahz _ d)
 let I4:=T.kept (t':=s3.toks) kp4;rw[nm];rwa[ahF ⟨aj8 akc _,Iv (X:=X) (σ:=σ) (H:=L) (ys:=ys) (kf:=kf) (it:=↥s3) (l:=l) (T.ok.hd hc) R (ah8 j1) (by cbv) (vY T (ahG _)) (vY T (by cbv)) (λi y v pr s' hy rv' J=>?_) (λv s' hw J=>?_) _ 0 _ #[] 0 rfl (ah2 _) I4 ⟨_,ahz _ (ahQ _ rfl),22⟩ (ahQ _ rfl) (.inl ⟨22⟩)⟩]
 ·let hf:=(J.pin (f,_) (ahI _ (ah3 _ (ahI _ (.head _))))).1;let hcr:s'.heap.CodeRec ↑w (X.env.qual++"<lambda>"):=⟨w,oc,Z,ct,2,(J.aM^Iz).1,hvs,hv1⟩;rwa[ajt (ajz (Qi (CX:=Xk) (E:=E0) (k:=k) (vs:=[y]) (us:=[v]) S rfl hr.in1 J.uO.in1 hf hcr (V pm B w v) (.cons rv' .nil) (C _ _ _ _ f w (hr.in1.deeper _)) (q1 i y hy)) λr s2 g=>?_)]
  cases r with
  |error d=>exact g.elim
  |ok fl=>
   cases fl with
   |next=>exact False.elim g
   |brk=>exact False.elim g
   |cont=>exact False.elim g
   |ret u=>
    let⟨v2,H4,J4,W,O,e2⟩:=J.after g;subst O e2;let⟨t,rfl⟩:=W;rwa[t,2,J4]
 ·rcases hw with ⟨O,rfl⟩|⟨i,y,hy,ry,hb⟩
  ·rwa[⟨.non,L,J.F9,rfl,q2 O⟩]
  ·rwa[⟨y,L,J.F9,ry,q3 i y hy hb⟩]
end
def IA {D:Str->Zl}{CX:lC}{k:Nat}{fd:FuncData}{O:Sp}{ns:Zg}
 (R:K.In s.heap) (n:s.heap.Ns mainGlobals M) (g:s.heap.Ns builtinsNs D) (G:∀x:Str,x≠"__name__"->D x=bootBuiltins x) (p:s.heap.NoLimit) (hg:s.gens=#[])
 (J:s•b\("list">>>.seq N.toArray)) (Y:IntsAre N ns) (W:⇑ns<=sizeLine) (hr:cw k callerA)
 (Fn:∀base:Heap,K.In base->base.Ns mainGlobals M->jO M base->du P w K M base CX k a fd [x] O) (hB:jO M s.heap) (l:∀(s:Zu) (u:Zt),BindsTo s fd ⟨[u],[]⟩ [(x,u)])
 (L:s•c\(PySem.W.tabObj #[])) (hKP:K.lookup c=none) (E:isCodeTable s.heap c)
 (I:∀H:Hp,H c\(.fy #[])->aH K H b (ns.map V.int)->O [↑b] H (λv _=>v=.bl true) λ_ _ _=>False)
 (F:∀H e i,CX [] H s (λ_ _ _=>False) e i->False):
 codeAny (model P w) callerA (.call ↑a ⟨[↑b],[]⟩) (λr i=>r=.ok (.ret (.bool true))/\OldK s.heap i.heap/\i.os=s.os/\AllBare i.gens) s:=by
 let rv:=y6 Y;let C:b≠c:=λz=>by cbv
 let main:∀H:Hp,H c\(.fy #[])->(∀f u,H f\u->K.lookup f=none/\(f=c\/f=b/\∃X,u=.c9 ("list">>>.seq N.toArray) (.lst X)))->aH K H b (ns.map V.int)->dM P w H s.heap->
  codeAny (model P w) callerA (.call ↑a ⟨[↑b],[]⟩) (λr i=>r=.ok (.ret (.bool true))/\OldK s.heap i.heap/\i.os=s.os/\AllBare i.gens) s:=by
  intro H T Q h3 S
  let nodict:∀{f:Zs} {o:Obj} {t:Array DictEntry} {A:Nat},s•f\o->o.data=.dict t A->H f=none:=λ{f o t A} e d=>by
   cases q:H f with
   |none=>rfl
   |some u=>
    cbv
  let y:∀{f:Zs} {m:Str->Zl},s.heap.Ns f m->(pR s.heap H).Ns f m:=λ{f m} ζ=>by let⟨o,t,A,e,d,r⟩:=ζ;rwa[⟨o,t,A,uG e (nodict e d),d,r⟩]
  let Z:K.In (pR s.heap H):=λf o e=>uG (R f o e) (by
   cases q:H f with
   |none=>rfl
   |some u=>rw[(Q f u q).1]at e;ext e)
  let md:Mod K M (pR s.heap H):=⟨Z,y n,⟨D,y g,G⟩,let ⟨mc,z1,z2⟩:=p;⟨mc,y z1,z2⟩⟩;let e0:mn P w K M (pR s.heap H) callerA [] s H:=⟨2,md,λf o e=>OZ e,akG (Hi _ _),trivial,λf z=>absurd (show f∈([]:Zn) from z) (by simp),S,.of_eq hg⟩
  let bb:jO M (pR s.heap H):=by
   let⟨U,ob,b1,b2,b3,b4⟩:=hB;rwa[⟨U,ob,b1,uG b2 ?_,b3,b4⟩]
   cases q:H U with
   |none=>rfl
   |some u=>
    cbv
  rwa[ajz ((Fn _ Z (y n) bb).run callerA [] s H ⟨[↑b],[]⟩ [↑b] [↑b] _ _ hr e0 (l s ↑b) (.cons rfl .nil) (I H T h3)) λr i h=>?_]
  cases r with
  |error e=>exact(F H e i h).elim
  |ok fl=>
   cases fl with
   |next=>exact False.elim h
   |brk=>exact False.elim h
   |cont=>exact False.elim h
   |ret u=>
    let⟨v,H',os,bare,un,j,r',q⟩:=h;let q':v=.bl true:=q;subst q';obtain rfl:u=Value.bool true:=r'
    let each:∀f o,s•f\o->asItWas s.heap i.heap f o/\∃o',i•f\o':=λf o e=>by
     cases q:H f with
     |none=>
      let z:=un.keep f o e q (by intro z;rwa[absurd (show f∈([]:Zn) from z) (by simp)]) (by simp);rwa[.inl z,o,z]
     |some u=>
      rcases (Q f u q).2 with rfl|⟨rfl,X,rfl⟩
      ·rw[L]at e;ext e;let⟨more,z⟩:=un.ig^T;let z2:i•f\{ cls:=.none,data:=.fields (#[]++more) }:=j^z;rwa[.inr (.inl ⟨E,2,#[],more,2,z2⟩),_,z2]
      ·let⟨z1,_⟩:=S^q;let⟨z2,_⟩:=j^un.gH _ _ _ q;rw[e]at z1;ext z1;rwa[.inl z2,_,z2]
    rwa[2,⟨λf o e=>(each f o e).1,λf o e=>(each f o e).2⟩,os,bare]
 cases B:K.lookup b with
 |some o=>
  let e:=R b o B;rw[J]at e;ext e;rwa[main (upd (λ_=>none) c (.fy #[])) ah (λf u z=>?_) (.inr ⟨_,N.toArray,_,B,222,[ahS,⇑Y]▸W,3⟩) λf u z=>?_]
  ·cases g:f=c
   ·cbv
   ·rw[ak g]at z;ext z
  ·cases g:f=c
   ·subst g;rw[ah]at z;ext z;rwa[L]
   ·rw[ak g]at z;ext z
 |none=>
  rwa[main (upd (upd (λ_=>none) c (.fy #[])) b (.c9 ("list">>>.seq N.toArray) (.lst (ns.map V.int)))) (by rw[ak C.symm,ah]) (λf u z=>?_) (.inl (.inr ⟨_,ah⟩)) λf u z=>?_]
  ·cases g:f=b
   ·subst g;rw[ah]at z;ext z;rwa[B,.inr ⟨212⟩]
   ·rw[ak g]at z;cases g:f=c
    ·cbv
    ·rw[ak g]at z;ext z
  ·cases g:f=b
   ·subst g;rw[ah]at z;ext z;rwa[J,[ahE]▸W,N,_,rv,J]
   ·rw[ak g]at z;cases g:f=c
    ·subst g;rw[ah]at z;ext z;rwa[L]
    ·rw[ak g]at z;ext z
theorem rE.okT {mg:Str->Zl}{base:Heap}{j:lC}{qual:Str}{st:Stmt}{fd:FuncData}{f:Zp}{k:Nat}{sp:Sp}(F:rE K x qual st a fd)(hc:fd.code=↑c)(S:aT Z f (aB st))(len:∀b H Q E,sp b H Q E->⇑b=⇑f)
 (d:∀(A:Around) (outer:Zq) (s:Zu) (H:Hp) (b:Zb) (Q:VK) (E:XK),cw k (A.deeper (envOfC qual (aB st) ↥s a ↑c))->sp b H Q E->
  ∃t,iS (cF j P w K mg base Z qual (aB st) a ↑c A outer s H E).qD (bW st) t/\t { nx:=λ_ p=>Q .non p,rt:=Q } (start Z b) H):du P w K mg base j (k+ 1) a fd f sp:=by
 let⟨q,u,kV,doc,pm,r,g,ct,m,rfl,lk,i⟩:=F.ex;let e:g=↑c:=hc;subst e;rwa[Al lk i S len λA outer s H b Q E o h=>?_]
 let⟨t,n,l⟩:=d A outer s H b Q E o h;rwa[t,n.qD,l]
structure LamAt (K:Za1) (fd:FuncData) (c Pt:Zs):Prop where
 code:fd.code=↑c
 hd:PySem.W.codeHdIn K c Pt=true
 no:K.lookup Pt=none
def Ln {l:PySem.W.OpenLaw}{k:Nat}{loose:Zp}{XP:(Str->Zl)->Heap->Prop}{C:World->Heap->Prop}{d:DefRec}{K:Params->Za1}{CX:World->lC}{sp:World->Sp}
 (hn:l.most\n) (y:n<=sizeLine) (q:d.params.defaults=[]) (hr:cw k callerA) (T:∀(w:World) (h:Heap),C w h->(K w.params).In h/\h.get? a\(PySem.W.tabObj #[]))
 (F:∀(w:World) (g:Str->Zl) (j:Zs) (h:Heap),(K w.params).In h->h.Ns mainGlobals g->g d.name\↑j->
  ∃fd:FuncData,(∃fd2 c,LamAt (K w.params) fd2 c a)/\(∀(s:Zu) (u:Zt),BindsTo s fd ⟨[u],[]⟩ [(x,u)])/\∀base:Heap,(K w.params).In base->base.Ns mainGlobals g->jO g base->du l.prog w (K w.params) g base (CX w) k j fd [x] (sp w))
 (A:∀(w:World) (H:Hp) (b:Zs) (ns:Zg),⇑ns<=n->H a\(.fy #[])->aH (K w.params) H b (ns.map V.int)->sp w [↑b] H (λv _=>v=.bl true) λ_ _ _=>False)
 (t:∀(w:World) (H:Hp) (s:Zu) (e:Zt) (m:Zu),CX w [] H s (λ_ _ _=>False) e m->False):
 PySem.W.WalkO P loose XP C l.row.toRowW d [] (λf D=>PySem.call f D):=by
 rwa[Att.Dy hn q λw B s g mb j o pm cd doc b D ns G Y ho hd hcd z i hints hlen L=>?_]
 let⟨p,hP⟩:=T w _ Y;let⟨fd,⟨fd2,c,E⟩,J,S⟩:=F w g j _ p G.T.g z;let⟨I,r,_,_,_,_,_,_,_,Z,M,g3,W,_⟩:=PySem.W.codeHd_of_K p E.hd;let hB:jO g s.heap:=let ⟨X,N,a1,a2,O,U,R,a6⟩:=G.T.bmain;⟨X,N,a1,O,⟨U,R,a6⟩,a2⟩
 rwa[IA p G.T.g G.T.b G.T.builtins G.T.nolimit L i hints (ahP hlen y) hr S hB J hP E.no ⟨c,I,r,Z,M,g3,W⟩ (λH Q hS=>A w H b ns hlen Q hS) λH e m=>t w H s e m]
namespace Lr
def Tn:typeLookup (.type "list_reverseiterator") "__len__"=pure none:=by kernel_rfl
def Qk:typeLookup (.type "list_reverseiterator") "__length_hint__"=pure (some (.builtin "list_reverseiterator.__length_hint__")):=by kernel_rfl
section
variable {prog:Program}{w:World}{A:Around}{E:Zt->Zu->Prop}{s:Zu}{it l:Zs}{items:Zm}
def hint {Q:Bool->Zu->Prop}(hm:s.heap.IsRevIter it l z)(h:Q false s):(prog<|>w) A (Builtin.List.listLengthHint ↑it) Q E s:=by
 rwa[ahy (wpAny_specialOf hm.typeIs Tn ?_)];rwa[ahy (wpAny_specialOf hm.typeIs Qk ?_)];generalize c:("list_reverseiterator.__length_hint__":String)=d
 wp_delta
 subst c;rwa[ahy (wpAny_isInstance (T:="list_reverseiterator") (b:=true) hm.typeIs (by kernel_rfl) ?_)];rwa[akT (λa=>absurd a ⋯) (λ_=>?_)];rwa[akT (λ_=>?_) (λa=>absurd ⋯ a)];rwa[ahF h]
theorem extend {R:Result->Zu->Prop}(z:A.handled=none)(hit:s.heap.IsRevIter it l ((items.size:Int) - 1))(y:s.heap.IsList l items)(k:l≠it)(hlen:items.size<=sizeLine)(S:Zs)(n:S≠it)(x:S≠l)(res:Zt)(g:Nat)(D:s•S\("list">>>.seq #[] g))
 (G:∀g1 t a d,(∀b o,b≠S->b≠it->s•b\o->g1.get? b\o)->g1.get? S\{ cls:=.type "list",dict:=none,data:=.seq a d,slots:=#[] }->
  ItemsOf (λi v=>items[items.size - 1 - i]?\v) a items.size->R (.ok (.ret res)) { s with heap:=g1,toks:=t }):
 (prog<|>w) A.in1 (Builtin.List.listExtendWith ↑S ↑it res)
  (λfin c=>match fin with|.done f=>R (.ok f) c|.again d=>d.quiet=true/\codeAny (model prog w) A d R c) (λe c=>R (.error e) c) s:=by
 rwa[ahy (aj5 (T:="list_reverseiterator") hit.typeIs ?_)];let u:Builtin.List.listSameRef ↑S ↑it=false:=by simp[Builtin.List.listSameRef,n]
 let r:(Value.type "list_reverseiterator"==Value.type "list")=false:=⋯
 let B:(Value.type "list_reverseiterator"==Value.type "tuple")=false:=⋯
 simp only[u,r,B,Bool.or_false,akh,aks];rwa[ahy (wpAny_pyIter_revIter hit ?_)];rwa[ahy (aiw (hint hit ?_))];let W:=(Walks.listRev (prog:=prog) (w:=w) (A:=A.in1) z it l k items).toS
 let m:S∉[it,l]:=λI=>by
  cbv
 rwa[ahF ⟨aj8 F.plain_extend_loop _,5⟩];rwa[codeAny_extend_loopS W hlen S m res items.size 0 _ #[] _ rfl (ah2 _) ⟨ah2 _,by simpa using hit,y⟩ D (ItemsOf.nil _) λc a d h p j=>?_]
 rw[Moved.eq_with h];rwa[G c.heap c.toks a d (λb o H C e=>h.heap b o (λq=>?_) e) p j]
 cbv
def init {R:Result->Zu->Prop}(z:A.handled=none)(hit:s.heap.IsRevIter it l ((items.size:Int) - 1))(y:s.heap.IsList l items)(n:l≠it)(hlen:items.size<=sizeLine)(S:Zs)(g:S≠it)(h:S≠l)(t:s•S\("list">>>.seq #[]))
 (B:∀g1 p a d,(∀b o,b≠S->b≠it->s•b\o->g1.get? b\o)->g1.get? S\{ cls:=.type "list",dict:=none,data:=.seq a d,slots:=#[] }->
  ItemsOf (λi v=>items[items.size - 1 - i]?\v) a items.size->R (.ok (.ret .none)) { s with heap:=g1,toks:=p }):
 (prog<|>w) A.in1 (Builtin.«list.__init__» ⟨[↑S,↑it],[]⟩)
  (λfin k=>match fin with|.done f=>R (.ok f) k|.again d=>d.quiet=true/\codeAny (model prog w) A d R k) (λe k=>R (.error e) k) s:=by
 show wpAny _ _ (do let old <-Builtin.List.listItems ↑S;Builtin.List.listUpdate ↑S (λ_=>#[]);letGo old.toList.reverse;Builtin.List.listExtendWith ↑S ↑it .none) _ _ s;rwa[ahy ?_];unfold Builtin.List.listItems;rwa[ahy (akd t rfl (ahF ?_))];show wpAny _ _ (updateSeq S (λ_=>#[]) >>=λ_=>letGo (#[]:Zm).toList.reverse >>=λ_=>Builtin.List.listExtendWith ↑S ↑it .none) _ _ s;rwa[ahy (aj1 t rfl ?_)];let u:=aii (Obj.mapSeq (λ_=>(#[]:Zm))) t rfl;let c:∀b o,b≠S->s•b\o->(s.heap.update S (Obj.mapSeq (λ_=>(#[]:Zm)))).get? b\o:=λb o m e=>(aij^aiU m).trans e
 rwa[extend (s:={ s with heap:=s.heap.update S (Obj.mapSeq (λ_=>(#[]:Zm))) }) z (hit.at λo e=>c _ o g.symm e) (y.at λo e=>c _ o h.symm e) n hlen S g h .none _ u λg1 p a d x q j=>?_]
 rwa[B g1 p a d (λb o m r e=>x b o m r (c b o m e)) q j]
theorem call (z:A.handled=none)(hit:s.heap.IsRevIter it l ((items.size:Int) - 1))(q:s.heap.IsList l items)(g:l≠it)(hlen:items.size<=sizeLine)
 (x:∀g1 j a h,(∀b o,b≠it->s•b\o->g1.get? b\o)->g1.get? ↥s\{ cls:=.type "list",dict:=none,data:=.seq a h,slots:=#[] }->ItemsOf (λi v=>items[items.size - 1 - i]?\v) a items.size->Q ↑↥s { s with heap:=g1,toks:=j }):
 (prog<|>w) A (PySem.call (.type "list") [↑it]) Q E s:=by
 rwa[callType_codes (Q₁:=λobj c=>obj=↑↥s/\c={ s with heap:=s.heap.push ("list">>>.seq #[]) }) F.called_list (F.typeCall_list_1 _) F.entry_list_init (code_list_new _ ⟨22⟩) λobj c d=>?_]
 let⟨rfl,rfl⟩:=d;let t:(s.heap.push ("list">>>.seq #[])).get? ↥s\("list">>>.seq #[]):=ahQ _ rfl;let p:it<↥s:=let ⟨o,m,_⟩:=hit;ahT m
 let k:l<↥s:=let ⟨o,m,_⟩:=q;ahT m
 rwa[⟨⟨_,t,2⟩,F.args_list_init_2 _ _,init (A:=A.in1) (s:={ s with heap:=s.heap.push ("list">>>.seq #[]) }) z (hit.at λo e=>ahz _ e) (q.at λo e=>ahz _ e) g hlen _ (aiO p) (aiO k) t λg1 j a h y n f=>?_⟩];rwa[2,x g1 j a h (λb o u e=>y b o (ah8 (ahT e)) u (ahz _ e)) n f]
end
end Lr
section
variable {X:Cx}{a e:Expr}{ta:TA}{p p2 pos A6:Pos}
def Lp (K:Za1)(ta:TA):TE:=λ d H Q=>ta d H λc b=>∃(l:Zs) (ys:Zb),c=[↑l]/\aH K b l ys/\∀D,b D=none->Q ↑D (upd b D (.lst ys.reverse))
def Lq {ys:Zb}{acc:Zm}(b:Vals ys N)(h:ItemsOf (λi v=>N.toArray[N.toArray.size - 1 - i]?\v) acc N.toArray.size):acc.toList=N.reverse:=by
 let f:acc.size=⇑N:=by simpa using h.1
 rwa[ajX λi=>?_]
 cases d:i<⇑N
 ·let e:acc[i]?\(acc[i]'∅):=Array.getElem?_eq_getElem ∅
  let c:=h.2 i _ e
  cbv
 cbv
theorem r0:∀{ys:Zb} {b:Zk},Vals ys b->Vals ys.reverse b.reverse
 |_,_,.nil=>.nil
 |_,_,.cons r t=>[List.reverse_cons,List.reverse_cons]▸(r0 t).append (.cons r .nil)
def Ga (R:X.calm=true)(P:Gl X "list")(M:X.mg "list"=none)(V:Gl X "reversed")(O:X.mg "reversed"=none)(ha:PA X [a] ta)(hs:starEach [a] X.env=[(false,eval a X.env)])
 (L:starEach [.Call (.Name "reversed" p) [a] [] pos] X.env=[(false,eval (.Call (.Name "reversed" p) [a] [] pos) X.env)]):PE X (.Call (.Name "list" p2) [.Call (.Name "reversed" p) [a] [] pos] [] A6) (Lp X.K ta):=by
 intro i s N H Q I h;rwa[aiz (gT I P M boot_list ?_)];rwa[aiA ?_ L rfl];rwa[aiq ?_];rwa[Call_ (gT I V O boot_reversed (aiA (aY (ha pos i s N H _ I h) λus s1 ζ=>?_) hs rfl))];let⟨vs,B,k,U,Z⟩:=ζ;let⟨l,ys,e,Y,q⟩:=Z;subst e;let⟨u,rfl,ru⟩:=vals1 U;ext ru;let⟨g,F,pl,hz⟩:=k.list Y;let hl:=⇑F;let t:∀b o,s1•b\o->(s1.heap.push (revObj l ((g.toArray.size:Int) - 1))).get? b\o:=λb o e=>ahz _ e
 let C:l<↥s1:=let ⟨o,ho,_⟩:=pl.isList;ahT ho
 let w:=vY k (ahG ↥s1);rwa[call_reversed_list pl.isList (aiX ?_)];let I2:Inv X i N B { s1 with heap:=s1.heap.push (revObj l ((g.toArray.size:Int) - 1)) }:=k.kept (t':=s1.toks) t;rwa[Lr.call (s:={ s1 with heap:=s1.heap.push (revObj l ((g.toArray.size:Int) - 1)) }) (I.ok.hd R) ⟨_,ahQ _ rfl,22⟩ (pl.isList.at λo e=>t^e) (ah8 C) (by rw[ahS];omega) λJ A acc c W T x=>?_]
 let r:=Lq F x;let E:Inv X i N B { s1 with heap:=J,toks:=A }:=I2.turned (t':=A) (λb o j e=>W b o j e) w.none w.loc (.inr w.new) w.cell w.pin;let G:(s1.heap.push (revObj l ((g.toArray.size:Int) - 1))).objs.size=↥s1+ 1:=ajm ..;generalize hD:(s1.heap.push (revObj l ((g.toArray.size:Int) - 1))).objs.size=D at T G ⊢;let f:B D=none:=k.aM.fresh ∅;let y:=vY k (b:=D) ∅;let nD:∀{b:Zs},b∉[D]->b≠D:=λj z=>j (by simp[z])
 refine⟨↑D,upd B D (.lst ys.reverse),Inv.step (s:={ s1 with heap:=J,toks:=A }) E (h':=J) (t':=A) (g':=s1.gens) (d':=s1.drawn) (ch:=[D]) (λb j=>[ahH.mp j]▸⟨.inr y.new,y.loc,y.cell,y.pin⟩) (λb o _ _ _ e _=>e) (λb o _ _ _ e _=>⟨o.slots,e⟩) (λb o R _ n=>[ak (nD R)]▸n) (λb o _ e=>⟨o,e⟩)
  (λb xs e=>[ak (ax e f)]▸e) (λb o u e=>[ak (ax e f)]▸e) (λb ps e=>⟨#[],by rw[ak (ax e f),e];simp⟩) (λm O=>O) (λb u e=>?_) E.bare,2,q D f⟩
 ·cases j:b=D
  ·subst j;rw[ah]at e;ext e;erw[[List.length_reverse]▸hz,g.reverse,c,r0 F];rw[<-r,Array.toArray_toList];rwa[T]
  ·rw[ak j]at e;rwa[(E.aM b u e).ft (λd v _ q=>q) (λd q=>[ak (ax q f)]▸q) λd xs q=>[ak (ax q f)]▸q]
def Bs (d c:TE):TE:=λ b H Q=>d b H Q\/c b H Q
def vZ {d c:TE}(i:PE X e d)(g:PE X e c):PE X e (Bs d c):=λb s f H Q I h=>h.elim (i b s f H Q I) (g b s f H Q I)
def To (C:Zs):TE:=λ_ H Q=>∀x d,H x=none->H d=none->d≠x->Q ↑x (upd (upd H d (.own x)) x (.ins C d []))
def uX (d:PySem.W.makesIn X.K b=true)(n:PySem.W.findIn X.K ↑b "__init__"=some (some (.builtin "object.__init__")))(kp:PySem.W.keepIn X.K ↑b=true)(j:Gl X x)(q:X.mg x\↑b)
 (f:(x==("__debug__":Str))=false:=by decide):PE X (.Call (.Name x p) [] [] pos) (To b):=by
 intro g s r H Q I h;rwa[aiz (gb I j q ?_ f)];rwa[PySem.W.callWith_K0 I.dg kp (ajt ?_)];let l:=Inv.made (C:=b) I;let k:=h (↥s+ 1) ↥s (I.aM.fresh (ajE _)) (I.aM.fresh (ahG _)) (ah8 (ai2 _));let Y:=PySem.W.makes_of (M:=model X.prog X.w) I.dg d;rwa[Ho I.dg d n (λself=>PySem.W.Looks.of_pure (PySem.W.oi_bind self)) ?_]
 let m:((s.heap.push PySem.W.emptyDict).push (PySem.W.instObj b ↥s)).get? (↥s+ 1)\(PySem.W.instObj b ↥s):=by
  have:=ahQ (s.heap.push PySem.W.emptyDict) (o:=PySem.W.instObj b ↥s) rfl
  rwa [ajm]at this
 let t1:PySem.W.Looks (model X.prog X.w) ((s.heap.push PySem.W.emptyDict).push (PySem.W.instObj b ↥s)) (typeOf ↑(↥s+ 1)) ↑b:=(PySem.W.Looks.ld m).andThen .now;let i:PySem.W.Looks (model X.prog X.w) ((s.heap.push PySem.W.emptyDict).push (PySem.W.instObj b ↥s)) (isInstance ↑(↥s+ 1) (.type "object")) true:=t1.andThen (Y.top.keeps λc o e=>ahz _ (ahz _ e));rwa[aiP PySem.W.oi_plain PySem.W.entry_oi (@PySem.W.check_slot (model X.prog X.w) _ _ _ "object.__init__" "object" "__init__" ↑(↥s+ 1) [] [] _ PySem.W.oi_kind PySem.W.oi_split i (PySem.W.oi_args ↑(↥s+ 1)) ?_)];rwa[ahF (And.intro rfl ⟨↑(↥s+ 1),_,l,rfl,k⟩)]
inductive Wy (K:Za1) (xs:Zb) (H:Hp) (Q:VK):Prop
 |mk (x:V) (D:Zs) (t:Zt) (b:Bool):xs=[x,↑D]->jH K H x t->PySem.W.kitOne K t ↑D\b->Q (.bl b) H->Wy K xs H Q
end
def IB:∀c:Nat,c<95->Unicode.isPrintable (c+ 32)=true:=by decide
def Ls (h:∀c∈B,32<=c/\c<=126):⇑(reprText (tx B))<=2+ 2* ⇑B:=by
 rw[<-reprLen_eq,<-Array.foldl_toList];rwa[A9 (λc=>⇑(Builtin.Str.reprChar (reprQuote (tx B)) c)) B 2 λc d=>?_]
 let⟨b,e⟩:=h c d;let a:=IB (c - 32) ∅;rw[Nat.sub_add_cancel b]at a;rwa[K7 a ∅ ∅ ∅]
section
variable {X:Cx}{pos:Pos}
theorem Lv {g:TE}(n:PE X e g):PE X (.FormattedValue e 114 none pos) (λ d H Q=>g d H λv b=>∃l:Zh,v=.str (tx l)/\(∀c∈l,32<=c/\c<=126)/\⇑l<=100000/\∀r:Zh,⇑r<=200002->Q (.str (tx r)) b):=by
 intro a s d H Q I h;rwa[wpAny_FormattedValue_repr (aY (n a s d H _ I h) λv y ζ=>?_)];let⟨x,b,j,r,l,m,o,w,q⟩:=ζ;subst m;let⟨i,rfl⟩:=r;let u:=Ls o;let k:⇑(reprText (tx l))<=200002:=∅
 let f:⇑(reprText (tx l))<=sizeLine:=ahP k ⋯;rwa[wpAny_pyReprObj_gives (typeIs_str^_) F.slot_str_repr F.entry_str_repr (F.args_str_repr_1 _) (gives_str_repr (tx l) i) ?_ rfl f];rwa[formatField_str (λp t=>⟨.str (reprText (tx l)),b,(j.tok _).tok _,⟨12⟩,5⟩) f];rw[Nh (reprText (tx l))]
 exact q _ (by
  have:(reprText (tx l)).cps.toList.length=⇑(reprText (tx l)):=ai6;omega)
end
end L2
namespace L2
def nm (E:Zh)(c:Nat):Nat:=E.getD c 0
def qL (R:Za2)(E:Zh)(a:Nat)(z:Int)(b:Nat):Prop:=∃c d,R c z d/\nm E c=a/\nm E d=b
noncomputable def v7 (x y a:Nat):Nat:=if a=y then x else a
def wc (h:n<m)(E:Zh)(c:Nat):nm (E.map (v7 n m)) c=v7 n m (nm E c):=by
 unfold nm;rw[ahJ,ahJ,ahZ]
 cases E[c]? with
 |some x=>rfl
 |none=>show 0=v7 n m 0;unfold v7;rw[ahY ∅]
def Tp (u v:Nat)(W:Za2)(a:Nat)(z:Int)(b:Nat):Prop:=∃c d,W c z d/\v7 u v c=a/\v7 u v d=b
inductive One (ws:Za3) (nr:Nat):Zh->(Za2)->Dt->Zh->(Za2)->Prop
 |meet {E:Zh} {W:Za2} {c u v:Nat} {z:Int}:u<v->E[u]?\u->E[v]?\v->W c z u->W c z v->One ws nr E W (hJ c z u v) (E.map (v7 u v)) (Tp u v W)
 |rule {E:Zh} {W:Za2} {which k c d:Nat} {word:Zg} {p:Zh} {z:Int}:ws[which]?\word->⇑p=⇑word+ 1->p[0]?=p[⇑word]?->(which<nr\/p[0]?\0)->(∀x∈p,E[x]?\x)->word[k]?\z->p[k]?\c->p[k+ 1]?\d->
  (∀(i a b:Nat) (y:Int),i≠k->word[i]?\y->p[i]?\a->p[i+ 1]?\b->W a y b)->One ws nr E W (lW which p k) E (fO W c z d)
inductive Go (ws:Za3) (nr:Nat):Zh->(Za2)->List Dt->Zh->(Za2)->Prop
 |nil {E:Zh} {W W':Za2}:(∀a z b,W a z b↔W' a z b)->Go ws nr E W [] E W'
 |cons {E E1 E2:Zh} {W W1 W2:Za2} {row:Dt} {ms:List Dt}:One ws nr E W row E1 W1->Go ws nr E1 W1 ms E2 W2->Go ws nr E W (row::ms) E2 W2
section
variable {ws:Za3}{nr:Nat}{E E1 E2:Zh}{W W' W1 W2:Za2}{ms ns:List Dt}
def Go.congr (h:Go ws nr E W ms E1 W1):∀{W':Za2},(∀a z b,W' a z b↔W a z b)->Go ws nr E W' ms E1 W1:=by
 induction h with
 |nil e=>exact λh=>.nil λa z b=>(h a z b).trans (e a z b)
 |cons o _ m=>
  intro W' h
  cases o with
  |meet j c l f k=>exact .cons (.meet j c l ((h^_).mpr f) ((h^_).mpr k)) (m λa z b=>by
   constructor
   ·rintro ⟨g,d,q,r⟩;rwa[g,d,(h^_).mp q,r]
   ·rintro ⟨g,d,q,r⟩;rwa[g,d,(h^_).mpr q,r])
  |rule j c l f k v p u w=>exact .cons (.rule j c l f k v p u λi a b y n x s t=>(h^_).mpr (w i a b y n x s t)) (m λa z b=>by
   unfold fO;rw[h])
def Go.app (h:Go ws nr E W ms E1 W1):∀{E2:Zh} {W2:Za2} {ns:List Dt},Go ws nr E1 W1 ns E2 W2->Go ws nr E W (ms++ns) E2 W2:=by
 induction h with
 |nil e=>exact λg=>g.congr e
 |cons o _ a=>exact λg=>.cons o (a g)
end
def Ql (h:n<m)(a:Nat)(z:Int)(b:Nat):Tp n m (qL R B) a z b↔qL R (B.map (v7 n m)) a z b:=by
 constructor
 ·rintro ⟨g,i,⟨e,c,r,rfl,rfl⟩,d,f⟩;rwa[e,c,r,by rw[wc h,d],by rw[wc h,f]]
 ·rintro ⟨e,c,r,d,f⟩;rwa[11,⟨e,c,r,22⟩,by rw[<-wc h,d],by rw[<-wc h,f]]
section
variable {ws:Za3}{nr:Nat}{S S':RS}{pend:Ze}{R:Za2}{ks:Zg}
def p9 {S:RS}(wf:S.Wf){c:Nat}(a:c<S.q):S.aX[c]?\(S.aw c):=by
 unfold RS.aw;rw[ahJ,ahC ([wf.e]▸a)];rfl
def Tq (l:kc S pend S'):Good S pend R->(∀c z d,R c z d->z∈ks)->∃e,S'.rows=S.rows++e/\Go ws nr S.aX (qL R S.aX) e S'.aX (qL R S'.aX):=by
 induction l with
 |nil S=>exact λ_ _=>⟨[],(aib _).symm,.nil λ_ _ _=>Iff.rfl⟩
 | @take S S' pend w _ F=>
   intro g r;let⟨g1,_,t,_,q⟩:=g.take r;let⟨e,A,p⟩:=F g1 r;rcases q with ⟨_,h,C⟩|⟨_,c,z,x,y,v,m,E,G,k,h,_,B⟩
   ·rw[uk C]at p;rwa[e,by rw[A,h],p]
   ·let⟨_,o,_,ex⟩:=g.st _ _ _ v;let f:min x y<max x y:=by rcases Nat.lt_or_gt_of_ne k with q|q <;> ext
    let D:(S.takeIn pend w).1.aX=S.aX.map (v7 (min x y) (max x y)):=by
     rwa[ajX λi=>?_]
     rw[ahZ];cases u:i<S.q
     ·rw[p9 g1.wf ([t]▸u),p9 g.wf u,B];rfl
     ·rw[aim (by rw[g1.wf.e,t];omega),aim (by rw[g.wf.e];omega)];rfl
    let ix:qL R S.aX c z x:=g.so _ _ _ v;let m:qL R S.aX c z y:=m;let n:=p9 g.wf o;let j:=p9 g.wf E;rw[ex]at n;rw[G]at j;rwa[⟨hJ c z (min x y) (max x y)::e,by rw[A,h,aiL];rfl,.cons (.meet f ?_ ?_ ?_ ?_) ((D ▸ p).congr λa s b=>Ql f a s b)⟩]
    ·rcases akM x y with q|q
     ·rw[aj4 q];rwa[n]
     ·rw[akB q];rwa[j]
    ·rcases akM x y with q|q
     ·rw[ak9 q];rwa[j]
     ·rw[akU q];rwa[n]
    ·rcases akM x y with q|q
     ·cbv
     ·rw[akB q];rwa[m]
    ·rcases akM x y with q|q
     ·cbv
     ·rw[akU q];rwa[ix]
theorem r6 {c:Nat->Int->Zi}:∀{w:Zg} {r e:Nat},wk c r w\e->⇑(r::cx c r w)=⇑w+ 1/\(r::cx c r w)[⇑w]?\e/\∀(i:Nat) (y:Int),w[i]?\y->∃a b,(r::cx c r w)[i]?\a/\(r::cx c r w)[i+ 1]?\b/\c a y\b
 |[],r,e,h=>by
  rwa[⟨2,by rw[<-Za0 h];rfl,λi y q=>by simp at q⟩]
 |z::w,r,e,h=>by
  let⟨d,f,j⟩:=iC h;let⟨g,k,l⟩:=r6 j;rw[nH f];rwa[⟨by rw[ah0,g];rfl,k,λi y q=>?_⟩]
  cases i with
  |zero=>rwa[r,d,22,by rw[<-Za0 q];rwa[f]]
  |succ i=>exact l i y q
theorem uY (g:Good S [] R):∀{w:Zg} {r e:Nat},wk S.by r w=some e->S.aX[r]?\r->∀x∈r::cx S.by r w,S.aX[x]?\x
 |[],r,e,h,b,x,a=>by rw[ahH.mp a];rwa[b]
 |z::w,r,e,h,b,x,a=>by
  let⟨d,c,i⟩:=iC h;rcases ahR.mp a with rfl|a
  ·rwa[b]
  ·rw[nH c]at a;let⟨_,f,_,j⟩:=g.st _ _ _ c;have:=p9 g.wf f;rw[j]at this;rwa[uY g i this x a]
def Lx (f:nm B n=n)(e:nm B m=m)(a:Nat)(y:Int)(b:Nat):fO (qL R B) n z m a y b↔qL (fO R n z m) B a y b:=by
 constructor
 ·rintro (⟨g,h,r,c,d⟩|⟨rfl,rfl,rfl⟩|⟨rfl,rfl,rfl⟩)
  ·rwa[g,h,.inl r,c,d]
  ·rwa[11,.inr (.inl ⟨222⟩),f,e]
  ·rwa[11,.inr (.inr ⟨222⟩),e,f]
 ·rintro ⟨g,h,r|⟨rfl,rfl,rfl⟩|⟨rfl,rfl,rfl⟩,c,d⟩
  ·rwa[.inl ⟨g,h,r,c,d⟩]
  ·rwa[.inr (.inl ⟨c.symm.trans f,2,d.symm.trans e⟩)]
  ·rwa[.inr (.inr ⟨c.symm.trans e,2,d.symm.trans f⟩)]
def Ly {start:Nat}{word:Zg}(g:Good S [] R)(c:Bm ws nr S n word start m i j z):One ws nr S.aX (qL R S.aX) (lW n ((start::cx S.by start (word.take m))++(j::cx S.by j (word.drop (m+ 1)))) m) S.aX (fO (qL R S.aX) i z j):=by
 let H:m<⇑word:=(ahD.mp c.hz).1;let⟨d,A,G⟩:=r6 c.f;let⟨v,F,B⟩:=r6 c.r;let lt:⇑(word.take m)=m:=by rw[aif];ext
 let ld:⇑(word.drop (m+ 1))=⇑word - (m+ 1):=aiC ..;rw[lt]at d A;rw[ld]at v F;let u:=p9 g.wf c.s.1;rw[c.s.2]at u;let t:=p9 g.wf c.hd.1;rw[c.hd.2]at t;let left:∀h,h<=m->((start::cx S.by start (word.take m))++(j::cx S.by j (word.drop (m+ 1))))[h]?=(start::cx S.by start (word.take m))[h]?:=λh w=>ahN (by rw[d];omega)
 let right:∀h,((start::cx S.by start (word.take m))++(j::cx S.by j (word.drop (m+ 1))))[m+ 1+ h]?=(j::cx S.by j (word.drop (m+ 1)))[h]?:=λh=>by
  rw[ahO (by rw[d];omega),d]
  congr 1
  ext
 rwa[.rule c.w (by rw[ahA,d,v];omega) ?_ ?_ (λx k=>?_) c.hz ?_ ?_ λh a b y w E o l=>?_]
 ·cbv
 ·rw[left 0 ∅];exact c.n.imp id λe=>by rw[e];rfl
 ·rcases ahL.mp k with k|k
  ·rwa[uY g c.f u x k]
  ·rwa[uY g c.r t x k]
 ·rw[left m (ahG _)];rwa[A]
 ·rw[right 0];rfl
 ·rcases Nat.lt_or_gt_of_ne w with q|q
  ·let⟨D,C,p,s,r⟩:=G h y (by cbv);rw[left h ∅,p]at o;rw[left (h+ 1) ∅,s]at l;obtain rfl:=Za0 o;obtain rfl:=Za0 l;rwa[g.so _ _ _ r]
  ·obtain⟨f,rfl⟩:∃f,h=m+ 1+ f:=⟨h - (m+ 1),3⟩;let⟨D,C,p,s,r⟩:=B f y ([akW]▸E);rw[right,p]at o;rw[show m+ 1+ f+ 1=m+ 1+ (f+ 1) by ext,right,s]at l;obtain rfl:=Za0 o;obtain rfl:=Za0 l;rwa[g.so _ _ _ r]
def Nu (t:Tr ws nr S S')(C:∀w∈ws,∀z∈w,z∈ks/\-z∈ks):Good S [] R->fD S->(∀a z b,R a z b->z∈ks)->∃p,Good S' [] p/\fD S'/\(∀a z b,p a z b->z∈ks)/\∃j,S'.rows=S.rows++j/\Go ws nr S.aX (qL R S.aX) j S'.aX (qL p S'.aX):=by
 induction t with
 |refl=>exact λg w k=>⟨R,g,w,k,[],(aib _).symm,.nil λ_ _ _=>Iff.rfl⟩
 |step _ f u E=>
  rename_i l G h word start m c d z _;intro g x k;let⟨D,g1,n,v,j,H,o⟩:=E g x k;let s:=C word (ahB f.w) z (ahB f.hz)
  let i:∀a y b,fO D c z d a y b->y∈ks:=by
   rintro a y b (r|⟨_,e,_⟩|⟨_,e,_⟩)
   ·rwa[v _ _ _ r]
   ·rw[e];rwa[s.1]
   ·rw[e];rwa[s.2]
  let gl:=g1.lay z f.hc.1 f.hd.1 (l.rows++[lW h ((start::cx l.by start (word.take m))++(d::cx l.by d (word.drop (m+ 1)))) m]);let⟨A,F,_⟩:=u.all gl i ⟨n.a,n.b,n.c⟩;let⟨q,B,go2⟩:=Tq (ws:=ws) (nr:=nr) u gl i;rwa[⟨_,A,F,i,j++(_::q),5,o.app (.cons (Ly g1 f) (go2.congr λa y b=>Lx f.hc.2 f.hd.2 a y b))⟩];rw[B];show (l.rows++[_])++q=_
  cbv
end
end L2
namespace L2
open PySem PySem.Spec PyProof.Rows
def Xu (a:Program)(w:World)(A:Around)(env:Env):Zr->(Bool->Zu->Prop)->Zu->Prop
 |[],K,s=>K true s
 |c::_,K,s=>(a<|>w) A (isTrue c env (eval c env)) K (λ_ _=>False) s
def Bu {R:Result->Zu->Prop}{elt target iter:Expr}{cs:Zr}{scope:Scope}{it acc:Zt}{env:Env}(i:⇑cs<=1)(I:Nat->Zu->Prop)
 (turn:∀n s,I n s->(P<|>w) A (pyNext it) (λr c=>match r with
  |none=>R (.ok .next) c
  |some v=>(P<|>w) A (letOwnedTupleGo target it v) (λ_ e=>(P<|>w) A (assign target env v) (λ_ g=>Xu P w A env cs (λb a=>
   match b with
   |true=>(P<|>w) A (eval elt env) (λx f=>(P<|>w) A (call (.builtin "list.append") [acc,x]) (λ_ d=>∃m,m<n/\I m d) (λ_ _=>False) f) (λ_ _=>False) a
   |false=>∃m,m<n/\I m a) g) (λ_ _=>False) e) (λ_ _=>False) c) (λ_ _=>False) s)
 (n:Nat) (h:I n s):codeAny (model P w) A (.compLoop (.ListComp elt [⟨target,iter,cs,(0)⟩] scope p) 0 it acc env) R s:=
 match cs,i,turn with
 |[],_,turn=>Dz I turn n h
 |[_],_,turn=>zN I turn n h
def Nv (X:Cx):Zr->TT->Prop
 |[],a=>a=λ_ H Q=>Q true H
 |c::_,a=>PT X c a
def Qm {e:TT}{Q:Bool->Hp->Prop}{K:Bool->Zu->Prop}(h:Nv X C e)(i:X.xe=λ_ _=>False)(I:Inv X o D H s)(q:e D H Q)(k:∀b a d,Inv X o D d a->Q b d->K b a):Xu X.prog X.w X.A X.env C K s:=
 match C,h with
 |[],h=>by
  rw[h]at q;rwa[k true s H I q]
 |c::_,h=>by
  have:=h o s D H Q I q;rw[i]at this;rwa[aY this λb a ζ=>?_];let⟨d,f,g⟩:=ζ;rwa[k b a d f g]
section
variable {X:Cx}{elt iter vS:Expr}{x:Str}{px pos:Pos}{scope:Scope}{cl:List (Str×Zs)}{fns:Zp}{ixs:Zh}{wi:TI}{tt:TT}{te:TE}
theorem zt {cs:Zr}{use:Option (Zt->Sem Unit)}{RQ:Zt->Zu->Prop}{Q:VK}(hl:⇑cs<=1)(hc:X.calm=true)(hi:PI X (.Name x px) iter wi)(S:eh X x fns ixs scope cl)
 (ht:∀(C:Zs) (s:Zu) (H:Hp) (ex:Zn),Nv (dC X (x::fns) scope cl C s H ex) cs tt) (he:∀(C:Zs) (s:Zu) (H:Hp) (ex:Zn),PE (dC X (x::fns) scope cl C s H ex) elt te)
 (hs:∀x,foldedSetIterable iter X.env x=pure x) (I:Inv X o D H s) (h:oK wi (iX ixs) tt te D H Q)
 (fin:∀(C k:Zs) (H3:Hp) (ys:Zb) (s4:Zu) (m:Str->Zl),s4.heap.Ns C m->(∀G,Heap.SameBut C s4.heap G->Inv X o D (upd H3 k (.lst ys)) (s4<*G))->upd H3 k (.lst ys) C=none->X.env.locals≠C->(∀z c,X.env.cells.lookup z\c->c≠C)->X.eB.heap.objs.size<=C->(∀g∈X.pn++o,g.1≠C)->Q ↑k (upd H3 k (.lst ys))->compPost (model X.prog X.w) X.A X.xe use RQ ↑k C (.ok .next) s4):
 X⁻¹ X.A (comprehension (.ListComp elt [⟨.Name x px,iter,cs,(0)⟩] scope pos) scope X.env p (newList []) false (eval iter X.env) use) RQ X.xe s:=by
 rwa[wpAny_comprehension_free rfl hs S.AQ S.kind S.names (aY (hi o s D H _ I h) λv s1 h1=>aY h1 λitv s2 h2=>?_)];let⟨it,Y,tn,J,H2,e,A,T,Iw,f2,W,⟨m0,w0⟩,turn⟩:=h2;subst e
 let E:∀b∈Y,b<↥s2:=λb t=>by
  let⟨f,ho,_⟩:=T.obj _ _ Iw b t;rwa[ahT ho]
 rwa[aiy (wpAny_newFunctionEnv S.cell (by intro y hy;simp at hy) (λLz O N=>?_) S.kind)];generalize Bv:s2.heap.push { cls:=.type "list",dict:=none,data:=.seq ([]:Zk).toArray }=F at O N ⊢;generalize hD:↥s2=k at E ⊢;let hC:F.objs.size=k+ 1:=by rw[<-Bv,ajm,hD]
 generalize hCe:F.objs.size=C at hC O N ⊢;let w:k<C:=∅
 let IC:k≠C:=ah8 w;let L:∀b u,s2•b\u->F.get? b\u:=λb u q=>by rw[<-Bv];rwa[ahz _ q]
 let Nw:∀{b u},s2•b\u->b<k:=λq=>by rw[<-hD];rwa[ahT q]
 let U:∀b u,F.get? b\u->Lz.get? b\u:=λb u q=>
  N.extBut b u (ah8 (ah5 (ahT q) (akG hCe))) (ahz _ q)
 let hDo:F.get? k\{ cls:=.type "list",dict:=none,data:=.seq ([]:Zk).toArray }:=by rw[<-Bv,<-hD];rwa[ahQ _ rfl]
 let I3:Inv X o D H2 (s2<*F):=A.kept (t':=s2.toks) L;let Nx:H2 k=none:=A.aM.fresh ∅;let hnC:H2 C=none:=A.aM.fresh ∅
 let LC:∀b∈k::Y,b∉cK X.stack:=λb t z=>by
  rcases ahR.mp (A.Au b z) with e|z
  ·rcases ahR.mp t with Z|t
   ·rwa[absurd A.lt (by rw[<-e,Z,<-hD];rwa[aiR _])]
   ·rwa[(f2 b t).2.1 e]
  ·rcases ahR.mp t with Z|t
   ·rwa[A.FC (by rw[Z,<-hD];rwa[ahG _]) z]
   ·rwa[(f2 b t).2.2.1 z]
 let lB:∀y c,cl.lookup y\c->∀b∈k::Y,c≠b:=λy c q b t z=>by
  let⟨v,hv⟩:=A.cell y c (S.sub y c q);rcases ahR.mp t with Z|t
  ·rwa[absurd hv.lt (by rw[z,Z,<-hD];rwa[aiR _])]
  ·rwa[(f2 b t).2.2.2.2.1 y c (S.sub y c q) z]
 let' R:Cx:=dC X (x::fns) scope cl C (s2<*F) H2 (k::Y)
 let ok:R.Ok:={
  mod:=A.ok.mod
  kind:=S.kind
  glob:=A.ok.glob
  blt:=A.ok.blt
  above:=by show F.objs.size<=C;ext
  inj:=λy z c q1 q2=>A.ok.inj y z c (S.sub^q1) (S.sub^q2)
  has:=S.has
  As:=λy c q=>nomatch q
  hd:=A.ok.hd
  frames:=A.ok.frames
  Eg:=.inl rfl
  MT:=λb t=>⟨by
   rcases ahR.mp t with Z|t
   ·rw[Z];rwa[IC]
   ·rwa[ah8 (akL (E b t) w)],λy c q=>lB y c q b t⟩
  bs:=I3.bs
  rB:=ahP I3.ok.rB I3.sz
  uI:=λb f q t=>by
   rcases ahR.mp t with Z|t
   ·rwa[absurd (Nw (A.bs b f q).1) (by rw[Z];rwa[aiR _])]
   ·rcases (f2 b t).2.2.2.1 with z|z
    ·rwa[A.ok.uI b f q z]
    ·rwa[absurd (ahT (A.ok.bs b f q).1) (Nat.not_lt.mpr z)]
  xN:=LC
  jk:=I3.stack
  uf:=I3.oE }
 let start:∀(v0:Zc),v0=none->Inv R [(k,{ cls:=.type "list",dict:=none,data:=.seq ([]:Zk).toArray })] (v0::iX ixs D) H2 { s2 with heap:=Lz,toks:=s2.toks+ ⇑([]:List (Str×Zt)) }:=λv0 hv0=>{
  ok:=ok
  os:=rfl
  bare:=A.bare
  base:=Un.kept U
  loc:=⟨_,O,λi y v e1 Z e3=>by
   cases i with
   |zero=>rw[hv0]at Z;ext Z
   |succ j=>
    let e1':fns[j]?\y:=e1
    let Ts:(iX ixs D)[j]?\(some v):=Z
    let⟨i,hi1,hi2,hk,c,lD,Iz⟩:=S.at_ j y e1';unfold iX at Ts;rw[ahZ,hi1]at Ts
    let e3':D[i]?\(some v):=by
     let z:(D[i]?).join\v:=Za0 Ts
     cases q:D[i]? with
     |none=>rw[q]at z;ext z
     |some f=>rw[q]at z;rw[show f=some v from z]
    let⟨m,_,hl⟩:=A.loc;let⟨u,r,l⟩:=hl i y v hi2 e3' (hk.elim (λz=>.inr (.inl z)) λz=>.inr (.inr z));rwa[⟨u,r,.inr ⟨Iz,c,lD,5⟩⟩];rcases l with ⟨z,_⟩|⟨_,c',hc',Wz⟩
    ·rcases hk with hk|hk <;> cbv
    ·have:c'=c:=Za0 (hc'.symm.trans (S.sub^lD));subst this;let⟨f,ho,hd⟩:=Wz;rwa[f,U^L^ho,hd]⟩
  cell:=λy c q=>by
   let⟨v,f,ho,hd⟩:=A.cell y c (S.sub y c q);rwa[v,f,U^L^ho,hd]
  free:=hnC
  gI:=λy c q=>A.gI y c (S.sub y c q)
  pin:=λg hp=>by
   let Tt:g=(k,{ cls:=.type "list",dict:=none,data:=.seq ([]:Zk).toArray }):=by simpa [R,dC] using hp
   subst Tt;rwa[U^hDo,Nx,IC,LC k (ahU ..),λv z=>nomatch z]
  aM:=(A.aM.kept L).kept U
  len:=by show ⇑(v0::iX ixs D)=⇑(x::fns);simp[iX,S.len] }
 let Tv:∀{H':Hp} {P:List (Zs×Obj)},(∀b∈Y,H' b=none)->(∀g∈P,g.1=k)->∀b∈Y,pT R P H' b:=λ{H' P} hn hp b t=>
  ⟨hn b t,ah8 (akL (E b t) w),LC b (aie _ t),.inl (aie _ t),λy c q=>lB y c q b (aie _ t),λg q=>by
   let q':g∈P:=by simpa [R,dC] using q
   rw[hp g q'];rwa[aiO (E b t)]⟩
 let loop:codeAny (model X.prog X.w) X.A (.compLoop (.ListComp elt [⟨.Name x px,iter,cs,(0)⟩] scope pos) 0 ↑it ↑k (compEnvC scope cl C X.env))
  (compPost (model X.prog X.w) X.A X.xe use RQ ↑k C) { s2 with heap:=Lz,toks:=s2.toks+ ⇑([]:List (Str×Zt)) }:=by
  refine Bu hl (λn s'=>∃(i:Nat) (ys:Zb) (M:Zk) (nn:Nat) (v0:Zc) (H':Hp),Inv R [(k,{ cls:=.type "list",dict:=none,data:=.seq M.toArray nn })] (v0::iX ixs D) H' s'/\tn i s'.heap/\(∀b∈Y,H' b=none)/\Vals ys M/\W i n ys H') ?_ m0
   ⟨(0),[],[],(0),none,H2,start none rfl,T.keep _ _ _ Iw λb _ f q=>U^L^q,λb t=>(f2 b t).1,.nil,w0⟩
  rintro n s3 ⟨i,ys,M,nn,v0,H3,J3,Xv,Xw,vv,w3⟩
  let LD:∀g∈([(k,({ cls:=.type "list",dict:=none,data:=.seq M.toArray nn }:Obj))]:List (Zs×Obj)),g.1=k:=λg hp=>by
   cbv
  rcases turn i n ys H3 w3 with ⟨stop,hlen,q⟩|⟨go,hlen,step⟩
  ·-- the end
   rwa[aY (T.done R rfl rfl rfl hc i _ s3 _ H3 _ J3 (Tv Xw LD) Xv stop) λr s4 ζ=>?_];let⟨hr,J4⟩:=ζ
   subst hr;let⟨m,hn,_⟩:=J4.loc;let⟨gD,nD,_,_,_⟩:=J4.pin (k,{ cls:=.type "list",dict:=none,data:=.seq M.toArray nn }) (by simp[R,dC]);let B:=J4.base
   let inv:∀G,Heap.SameBut C s4.heap G->Inv X o D (upd H3 k (.lst ys)) (s4<*G):=λG hsb=>by
    let kC:∀b u,b≠C->s4•b\u->G.get? b\u:=λb u t q=>(hsb.2 b t).trans q
    let ne:∀{b f},s2•b\f->b≠C/\b≠k:=λq=>⟨ah8 (akL (Nw q) w),ah8 (Nw q)⟩
    let wg:∀{b f},s2•b\f->b∉Y->b∉k::Y:=λq hx z=>(ahR.mp z).elim (ne q).2 hx
    let uu:Un (cK X.stack) Y H2 (upd H3 k (.lst ys)) s2.heap G:={
     keep:=λb f q n t hx=>kC b f (ne q).1 (B.keep b f (L b f q) n t (wg q hx))
     slot:=λb f q n t hx=>by
      let⟨sl,e⟩:=B.slot b f (L b f q) n t (wg q hx);rwa[sl,kC b _ (ne q).1 e]
     free:=λb f q n hx=>by rw[ak (ne q).2];rwa[B.free b f (L b f q) n (wg q hx)]
     there:=λb f q hx=>by
      let⟨o',e⟩:=B.there b f (L b f q) (wg q hx);rwa[o',kC b _ (ne q).1 e]
     ie:=λb xs q=>by rw[ak (ax q Nx)];rwa[B.ie b xs q]
     gH:=λb f xs q=>by rw[ak (ax q Nx)];rwa[B.gH b f xs q]
     ig:=λb ps q=>by
      let⟨more,e⟩:=B.ig b ps q;rwa[⟨more,[ak (ax q Nx)]▸e⟩ ]}
    let aM:dM X.prog X.w (upd H3 k (.lst ys)) G:=λb u e=>by
     cases t:b=k
     ·subst t;rw[ah]at e;ext e;rwa[hlen,M,nn,vv,kC _ _ IC gD]
     ·rw[ak t]at e;refine(J4.aM b u e).ft (λc v hc q=>kC c v ?_ q) (λc q=>[ak (ax q nD)]▸q) λc xs q=>by rw[ak (ax q nD)];rwa[q]
      let fC:H3 C=none:=J4.free
      cbv
    rwa[A.FD (s':=(s4<*G)) J4.os uu aM J4.bare (λb t=>⟨(f2 b t).2.2.2.1,(f2 b t).2.1,(f2 b t).2.2.2.2.1,(f2 b t).2.2.2.2.2⟩)]
   let ab:∀{b f},s2•b\f->b≠C:=λq z=>absurd (Nw q) ([z]▸Nat.not_lt.mpr (akF w))
   rwa[fin C k H3 ys s4 m hn inv ([ak (aiU IC)]▸J4.free) (λz=>?_) (λz c hz=>?_) (ahP (by have:=A.sz;rw[hD]at this;rwa[this]) (akF w)) (λg hp=>ab (A.pin g hp).1) (q k nD)]
   ·let h1:=A.lt
    cbv
   ·let⟨v,f,ho,_⟩:=A.cell z c hz;rwa[ab ho]
  ·-- a turn
   rwa[aY (T.item R rfl rfl rfl hc i _ s3 _ H3 _ J3 (Tv Xw LD) Xv go) λr s4 ζ=>?_];let⟨u,hr,h4⟩:=ζ
   subst hr;rwa[aY h4 λ_ s5 ζ=>?_];let⟨xv,H5,J5,r5,y5,IE,IG⟩:=ζ
   let J5':=J5.pinned (Tv IG LD) (T.obj^IE);let hg:PG R (.Name x px) (nh 0):=Ei (X:=R) (i:=0) S.nd rfl (.inl (ui S.own)) (.inr (ui S.own));rwa[aY (hg _ s5 _ H5 xv u (λ ik H'=>ik=some xv::iX ixs D/\H'=H5) J5' r5 ⟨22⟩) λ_ s6 ζ=>?_];let⟨σ6,H6,J6,e6,e6'⟩:=ζ
   subst e6 e6';rwa[Qm (ht C (s2<*F) H2 (k::Y)) rfl J6 (step xv H6 y5) λbt Xx Tw IH q6=>?_]
   cases bt with
   |true=>
    rwa[aY (he C (s2<*F) H2 (k::Y) _ Xx _ Tw _ IH q6) λyv s7 ζ=>?_];let⟨y,H7,J7,r7,m',Tx,w7⟩:=ζ
    let⟨gD,nD,_,_,_⟩:=J7.pin (k,{ cls:=.type "list",dict:=none,data:=.seq M.toArray nn }) (by simp[R,dC]);let Tz:tn (i+ 1) s7.heap:=T.keep _ _ _ IE λb t f e=>(J7.pin (b,f) (ahI _ (ahI _ (iI t e)))).1
    let TB:∀b∈Y,H7 b=none:=λb t=>by
     let⟨f,e,d⟩:=T.obj _ _ IE b t;rwa[(J7.pin (b,f) (ahI _ (ahI _ (iI t e)))).2.1]
    let J7':Inv R [] (some xv::iX ixs D) H7 s7:=J7.jt λg hp=>nomatch hp
    rwa[wpAny_list_append_plain (hsz:=by rw[ahS,<-⇑vv];omega) ⟨nn,gD⟩ λh8 pl8 Xy=>?_]
    let⟨n8,g8⟩:=pl8
    let J8:Inv R [] (some xv::iX ixs D) H7 (s7<*h8):=J7'.turned (t':=s7.toks) (it:=k) (λb f t e=>(Xy.2 b t).trans e) nD (IC) (.inl (ahU ..))
     (λy c q=>lB y c q k (ahU ..)) (λg hp=>by simp[R,dC]at hp)
    rwa[⟨m',Tx,i+ 1,ys++[y],M++[yv],n8,some xv,H7,J8.jt λg hp=>?_,5,TB,vv.append (.cons r7 .nil),w7⟩]
    ·cbv
    ·rwa[T.keep _ _ _ Tz λb t f e=>(Xy.2 b (ah8 (E b t))).trans e]
   |false=>
    let⟨m',Tx,w7⟩:=q6;let⟨gD,nD,_,_,_⟩:=IH.pin (k,{ cls:=.type "list",dict:=none,data:=.seq M.toArray nn }) (by simp[R,dC]);let Tz:tn (i+ 1) Xx.heap:=T.keep _ _ _ IE λb t f e=>(IH.pin (b,f) (ahI _ (ahI _ (iI t e)))).1
    let TB:∀b∈Y,Tw b=none:=λb t=>by
     let⟨f,e,d⟩:=T.obj _ _ IE b t;rwa[(IH.pin (b,f) (ahI _ (ahI _ (iI t e)))).2.1]
    rwa[⟨m',Tx,i+ 1,ys,M,nn,some xv,Tw,IH.jt λg hp=>?_,Tz,TB,vv,w7⟩]
    cbv
 rwa[codeAny_compStart_list loop (T.self _ 0 _ _ _ (T.keep _ _ _ Iw λb _ f q=>U^L^q) loop)]
def Bw {cs:Zr}(e:⇑cs<=1)(k:X.calm=true)(g:PI X (.Name x px) iter wi)(S:eh X x fns ixs scope cl)(d:∀(C:Zs) (s:Zu) (H:Hp) (ex:Zn),Nv (dC X (x::fns) scope cl C s H ex) cs tt)
 (j:∀(C:Zs) (s:Zu) (H:Hp) (ex:Zn),PE (dC X (x::fns) scope cl C s H ex) elt te) (f:∀x,foldedSetIterable iter X.env x=pure x):PE X (.ListComp elt [⟨.Name x px,iter,cs,(0)⟩] scope pos) (oK wi (iX ixs) tt te):=by
 intro c s o H Q I h;rwa[zt e k g S d j f I h λC D n ys l m i inv _ _ _ _ _ q=>⟨m,i,λa b=>⟨↑D,_,inv a b,2,q⟩⟩]
def um {cs:Zr}{a:Pos}(L:⇑cs<=1)(P:X.N.Nodup)(i:X.N[n]?\f)(M:Loc X.env.scope f)(T:X.calm=true)(O:PI X (.Name x px) iter wi)(S:eh X x fns ixs scope cl)(B:∀(C:Zs) (s:Zu) (H:Hp) (ex:Zn),Nv (dC X (x::fns) scope cl C s H ex) cs tt)
 (R:∀(C:Zs) (s:Zu) (H:Hp) (ex:Zn),PE (dC X (x::fns) scope cl C s H ex) elt te) (N:∀x,foldedSetIterable iter X.env x=pure x) (r:swapsWith (.ListComp elt [⟨.Name x px,iter,cs,(0)⟩] scope pos) (some (.Name f p)) a.line X.env=pure true)
 (l:X.fn f=true\/X.env.scope.names.lookup f=some .local):PS X (.Assign [.Name f p] (.ListComp elt [⟨.Name x px,iter,cs,(0)⟩] scope pos) a) (xQ (oK wi (iX ixs) tt te) (nh n)):=by
 intro d s σ H U I h;rw[exec_Assign_Name_used _ _ _ _ r];rwa[ahy (akr (ahy ?_))];rwa[ahy (aiv (zt (RQ:=λ_ w=>SP X d U .next w) L T O S B R N I h λC D Z ys V m Q inv t A z sz J q=>?_) (λ_ w F=>ahF (ahF F)) λ_ _ e=>e)];rwa[wpAny_assign_Name (yP (inv _ ⟨2,λ_ _=>rfl⟩) P i M (v:=↑D) rfl (λs5 G c=>?_) l)];let⟨y,j,k⟩:=c
 let g:C≠y:=by
  rcases k with e|e
  ·cbv
  ·rwa[aiU (z f y e)]
 rwa[⟨m,Q.sameBut j g,λh6 u=>?_⟩];rwa[11,G.turned (t':=s5.toks) (it:=C) (λb o E e=>(u.2 b E).trans e) t (aiU A) (.inr sz) z J,q]
def jn (c:X.calm=true)(d:PI X (.Name x px) iter wi)(S:eh X x fns ixs scope cl)
 (a:∀(C:Zs) (s:Zu) (H:Hp) (ex:Zn),PE (dC X (x::fns) scope cl C s H ex) elt te)
 (b:∀x,foldedSetIterable iter X.env x=pure x:=by intro _;rfl):
 PE X (.ListComp elt [⟨.Name x px,iter,[],(0)⟩] scope pos) (Nb wi (iX ixs) te):=Bw (cs:=[]) ⋯ c d S (λ_ _ _ _=>rfl) a b
def wj (e:X.calm=true)(b:PI X (.Name x px) iter wi)(S:eh X x fns ixs scope cl)
 (c:∀(C:Zs) (s:Zu) (H:Hp) (ex:Zn),PT (dC X (x::fns) scope cl C s H ex) vS tt) (a:∀(C:Zs) (s:Zu) (H:Hp) (ex:Zn),PE (dC X (x::fns) scope cl C s H ex) elt te)
 (d:∀x,foldedSetIterable iter X.env x=pure x:=by intro _;rfl):
 PE X (.ListComp elt [⟨.Name x px,iter,[vS],(0)⟩] scope pos) (oK wi (iX ixs) tt te):=Bw (cs:=[vS]) (ahG _) e b S c a d
def kx {iy:Nat}{a:Pos}(i:X.N.Nodup)(c:X.N[iy]?\f)(g:Loc X.env.scope f)(j:X.calm=true)(k:PI X (.Name x px) iter wi)(S:eh X x fns ixs scope cl)
 (e:∀(C:Zs) (s:Zu) (H:Hp) (ex:Zn),PE (dC X (x::fns) scope cl C s H ex) elt te)
 (h:∀x,foldedSetIterable iter X.env x=pure x:=by intro _;rfl) (d:swapsWith (.ListComp elt [⟨.Name x px,iter,[],(0)⟩] scope pos) (some (.Name f p)) a.line X.env=pure true:=by rfl)
 (b:X.fn f=true\/X.env.scope.names.lookup f=some .local:=by trivial):
 PS X (.Assign [.Name f p] (.ListComp elt [⟨.Name x px,iter,[],(0)⟩] scope pos) a) (xQ (Nb wi (iX ixs) te) (nh iy)):=um (cs:=[]) ⋯ i c g j k S (λ_ _ _ _=>rfl) e h d b
def qM {iy:Nat}{a:Pos}(j:X.N.Nodup)(c:X.N[iy]?\f)(g:Loc X.env.scope f)(k:X.calm=true)(l:PI X (.Name x px) iter wi)(S:eh X x fns ixs scope cl)
 (h:∀(C:Zs) (s:Zu) (H:Hp) (ex:Zn),PT (dC X (x::fns) scope cl C s H ex) vS tt) (e:∀(C:Zs) (s:Zu) (H:Hp) (ex:Zn),PE (dC X (x::fns) scope cl C s H ex) elt te)
 (i:∀x,foldedSetIterable iter X.env x=pure x:=by intro _;rfl) (d:swapsWith (.ListComp elt [⟨.Name x px,iter,[vS],(0)⟩] scope pos) (some (.Name f p)) a.line X.env=pure true:=by rfl)
 (b:X.fn f=true\/X.env.scope.names.lookup f=some .local:=by trivial):
 PS X (.Assign [.Name f p] (.ListComp elt [⟨.Name x px,iter,[vS],(0)⟩] scope pos) a) (xQ (oK wi (iX ixs) tt te) (nh iy)):=um (cs:=[vS]) (ahG _) j c g k l S h e i d b
end
def TrD (h base:Heap)(e:Zs)(cls:Zt)(g:Zo)(f:Zt):Prop:=
 ∃a b T d c,h.get? e\a/\(a.cls=cls/\a.dict=g)/\a.data=.fields b/\b[1]?\↑T/\base.get? T=none/\T≠e/\h.get? T\d/\d.data=.fields c/\c[3]?\f
def lg (base:Heap)(l:Zq)(e:Zs)(cls:Zt)(b:Zo)(a:Zt)(h:Heap):Prop:=base.StaysIn h/\base.get? e=none/\h.FunFrames base l/\TrD h base e cls b a
def zu (f:Zm->Zm)(o:Obj):(Obj.mapFields f o).dict=o.dict:=by
 let⟨a,b,d,e⟩:=o;cases d <;> rfl
section
variable {M:Model}{A:Around}{E:Zt->Zu->Prop}{s:Zu}{base:Heap}{env:Env}{outer:Zq}{L e:Zs}{cls:Zt}{dx:Zo}
def II {v:Obj}{y:Zm}{head:Zt}{n:Bool}(B:A.frames\(env::outer))(z:s.heap.FunFrames base (env::outer))(P:env.frame\L)
 (Q:s•e\v) (G:base.StaysIn s.heap) (F:base.get? e=none) (N:v.data=.fields y) (w:1<y.size)
 (h:∀D,lg base (env::outer) e v.cls v.dict (rawInt L) D->s.heap.UpToSlots D->U () (s<*D)):
 wpAny M A (do let a <-frameOf env;let pl <-entryPlaceOf L n;let b <-EntryCells.newEntry head a .none (rawInt L) .none pl;setField ↑e 1 b) U E s:=by
 let u:e∉(env::outer).filterMap (·.frame):=λI=>by
  let⟨_,o,R,k⟩:=z.mem I
  cbv
 rwa[ahy (wpAny_frameOf_fun B z P λc f=>?_)];rwa[ahy (wpAny_entryPlaceOf λpl C=>?_)];unfold EntryCells.newEntry newFields;rwa[ahy (aiy ?_ (C.sizeOk5 _ _ _ _ _))];let i:c.get? e\v:=(f.2.1 e u).trans Q;let g:base.StaysIn c:=λb o j=>(f.2.1 b λI=>by rw[(z.mem I).1]at j;ext j).trans (G b o j)
 let l:=ahz (h:=c) { cls:=.type "traceback",dict:=none,data:=.fields ([head,↑L,.none,rawInt L,.none]++(if pl.isEmpty then List.replicate 6 Value.none else pl)).toArray } i;rwa[ajP l N w ?_];let x:c.objs.size≠e:=aiO (ahT i);let m:=aje N (·.setIfInBounds 1 (Value.ref c.objs.size));let t:=aii (Obj.mapFields (·.setIfInBounds 1 (Value.ref c.objs.size))) l (ajM m)
 let r:=(aij (c.push { cls:=.type "traceback",dict:=none,data:=.fields ([head,↑L,.none,rawInt L,.none]++(if pl.isEmpty then List.replicate 6 Value.none else pl)).toArray })
  (Obj.mapFields (·.setIfInBounds 1 (Value.ref c.objs.size))) (aiU x)).trans (ahQ c rfl)
 let keep:∀b o,b≠e->c.get? b\o->_\o:=λb o J p=>(aij (c.push { cls:=.type "traceback",dict:=none,data:=.fields ([head,↑L,.none,rawInt L,.none]++(if pl.isEmpty then List.replicate 6 Value.none else pl)).toArray }) (Obj.mapFields (·.setIfInBounds 1 (Value.ref c.objs.size))) (aiU J)).trans (ahz _ p)
 let d:∀b o,s•b\o->(∀y,o.data≠.fields y)->b≠e:=λb o p k q=>by
  cbv
 rwa[h _ ⟨λb o j=>keep b o (λq=>by cbv) (g b o j),F,z.of_keeps λb o p k=>?_,5⟩ λb o p k=>?_]
 ·let⟨O,H⟩:=f.2.2 b o p;rwa[_,keep b _ (d b o p k) H,2]
 ·rwa[11,c.objs.size,11,t,⟨Obj.cls_mapFields _ _,zu _ _⟩,m,by simp[w],g.fresh,x,r,2,by cbv]
 ·let⟨O,H⟩:=f.2.2 b o p;rwa[O,keep b _ (d b o p k) H]
def TC {y:Obj}{x:Zm}{k:Obj}{j:Zm}{l:Zq}(w:base.StaysIn s.heap)(t:base.get? e=none)(D:s.heap.FunFrames base l)
 (G:s•e\k) (H:k.cls=cls/\k.dict=dx) (B:k.data=.fields j) (C:j[1]?\↑a) (r:base.get? a=none) (m:a≠e) (z:s•a\y) (i:y.data=.fields x) (F:x[3]?\v)
 (h:∀p,lg base l e cls dx u p->s.heap.UpToSlots p->U () (s<*p)):wpAny M A (setField ↑a 3 u) U E s:=by
 let g:3<x.size:=(ajj.mp F).1;let other:∀b,b≠a->(s.heap.update a (Obj.mapFields (·.setIfInBounds 3 u))).get? b=s•b:=λb f=>aij^aiU f
 let c:∀b o,s•b\o->(∀j,o.data≠.fields j)->b≠a:=λb o f d q=>by
  cbv
 rwa[ajP z i g (h _ ⟨λb o n=>(other b λq=>by cbv).trans (w b o n),t,D.of_keeps λb o f d=>⟨o,(other b (c b o f d)).trans f,2⟩,5⟩ λb o f d=>⟨o.slots,(other b (c b o f d)).trans f⟩)]
 rwa[k,j,a,11,(other e (aiU m)).trans G,H,B,C,r,m,aii _ z (ajM (aje i _)),aje i _,by simp[g]]
def wm {l:Zq}(p:lg base l e cls dx v s.heap)(m:∀c,lg base l e cls dx .none c->s.heap.UpToSlots c->U () (s<*c)):wpAny M A (setFlight ↑e none) U E s:=by
 let⟨h,f,o,u,t,T,r,w,k,a,i,j,d,g,n,b,q⟩:=p;unfold setFlight;rwa[ahy (aiF k i j ?_)];rw[ah4 (show (Value.ref T !=Value.none)=true from by simp)];rwa[TC h f o k a i j d g n b q m]
def Ny (g:A.frames\(env::outer))(q:env.frame\L)(l:lg base (env::outer) e cls dx .none s.heap)
 (x:∀d,lg base (env::outer) e cls dx (rawInt L) d->s.heap.UpToSlots d->U () (s<*d)):wpAny M A (noteFrame ↑e env) U E s:=by
 let⟨b,a,k,N,J,T,I,O,u,⟨rfl,rfl⟩,n,p,h,j,o,c,t⟩:=l;unfold noteFrame;simp only[q];rwa[ahy (aiF u n p ?_)];rw[ah4 (show (Value.ref T !=Value.none)=true from by simp)];rwa[ahy (aiF o c t ?_)];rw[ahY (show ¬((Value.none==rawInt L)=true) from by simp[rawInt])];rwa[ahy (TC b a k u ⟨22⟩ n p h j o c t λw H z=>?_)];let⟨b,a,k,B,y,P,G,F,m,⟨D,v⟩,f,i,_⟩:=H;rwa[II (s:=(s<*w)) g k q m b a f (ajj.mp i).1 λd r C=>?_]
 rw[D,v]at r;rwa[x d r (z.trans C)]
def Qn (b:A.frames\(env::outer))(f:env.frame\L)(c:lg base (env::outer) e cls dx .none s.heap)
 (n:∀a,lg base outer e cls dx .none a->s.heap.UpToSlots a->U () (s<*a)):wpAny M A (leaving env ↑e) U E s:=by
 unfold leaving;rwa[ahy (Ny b f c λl h o=>wm (s:=(s<*l)) h λj ζ k=>?_)];let⟨d,g,⟨11,i⟩,m⟩:=ζ;rwa[n j ⟨d,g,i,m⟩ (o.trans k)]
def LJ {b:Obj}{i:Zm}(c:A.frames\(env::outer))(t:s.heap.FunFrames base (env::outer))(j:env.frame\L)
 (k:s•e\b) (g:base.StaysIn s.heap) (f:base.get? e=none) (h:b.data=.fields i) (a:i[1]?=some .none)
 (n:∀d,lg base outer e b.cls b.dict .none d->s.heap.UpToSlots d->U () (s<*d)):wpAny M A (leaving env ↑e) U E s:=by
 unfold leaving noteFrame;simp only[j];rwa[ahy (ahy (aiF k h a ?_))];rw[ahY ⋯];rwa[II c t j k g f h (ajj.mp a).1 λa o r=>wm (s:=(s<*a)) o λm ζ q=>?_];let⟨l,u,⟨11,p⟩,v⟩:=ζ;rwa[n m ⟨l,u,p,v⟩ (r.trans q)]
end
end L2
namespace L2
open PySem PySem.Spec PyProof.Rows PySem.Calls PySem.W Builtin Builtin.ObjectAttr
def zv (x C:Zs)(e:Zo)(d:Bool)(h:Heap):Prop:=∃b c,h.get? x\b/\b.cls=↑C/\b.dict=e/\b.data=.fields c/\(d=true->c[1]?=some .none/\∃a,c[0]?\↑a)
noncomputable def XO (x C:Zs)(b:Zo)(a:Bool):HO:=.ext (zv x C b a)
def zv.ft {x:Zs}{dx:Zo}{nw:Bool}(p:zv x a dx nw h)(k:∀o,h.get? x\o->g.get? x\o):zv x a dx nw g:=by
 let⟨c,b,e,r⟩:=p;rwa[c,b,k _ e,r]
def zv.ex {x:Zs}{dx:Zo}{nw:Bool}(p:zv x a dx nw h):yc x a h:=let ⟨f,b,e,c,_,d,_⟩:=p;⟨f,b,e,c,d⟩
def Bx (d:Zs)(fs:List (Str×V))(h:Heap):Prop:=∃a,h.Ns1 d a/\(∀f,eK (fs.lookup f) (a f))/\Within a (fs.map (·.1))
noncomputable def XD (d:Zs)(fs:List (Str×V)):HO:=.ext (Bx d fs)
def Bx.ft {fs:List (Str×V)}(p:Bx d fs h)(k:∀o,h.get? d\o->g.get? d\o):Bx d fs g:=by
 let⟨a,n,r⟩:=p;rwa[a,n.at k,r]
def An {x:Zs}{c:Zo}{b:Bool}(p:zv x a c b h):bY P w H h x (XO x a c b):=⟨p,let ⟨d,_,e,_⟩:=p;⟨d,e⟩,λ_ _ q k=>q.ft k⟩
def Nz {fs:List (Str×V)}(p:Bx d fs h):bY P w H h d (XD d fs):=⟨p,let ⟨_,⟨o,_,_,e,_⟩,_⟩:=p;⟨o,e⟩,λ_ _ q k=>q.ft k⟩
noncomputable def mF:Zk->Bool
 |.ref _::r=>mF r
 |l=>l==rL
def Gb (e:mF N=true):(∃c r,N=↑c::r/\mF r=true)\/N=rL:=by
 cases N with
 |nil=>exact .inr (ajW.mp e)
 |cons c r=>cases c <;> first|rwa[.inl ⟨_,_,rfl,e⟩]|rwa[.inr (ajW.mp e)]
theorem qN (self:Zt):∀(l:Zk),mF l=true->refuseLoop self "__setattr__" l=pure ()/\l.contains (.type "object")=true/\l.isEmpty=false
 |[],e=>by ext e
 |v::l,e=>by
  rcases Gb e with ⟨c,r,q,e⟩|q
  ·injection q with b d
   subst b d;let a:=qN self l e;rwa[[refuseLoop_ref]▸a.1,by cbv,2]
  ·rw[q];rwa[PySem.F.store_ValueError.passes self,42]
structure yi (K:Za1) (C:Zs):Prop where
 mr:(clsIn K C).any (λcd=>mF cd.mro)=true
 hd:hasDictIn K C=true
 sa:findIn K ↑C "__setattr__"=some (some (.builtin "object.__setattr__"))
 ga:findIn K ↑C "__getattribute__"=some (some (.builtin "BaseException.__getattribute__"))
 gt:findIn K ↑C "__getattr__"=some none
 be:subIn K ↑C (.type "BaseException")\true
section
variable {prog:Program}{w:World}{A:Around}{R:Result->Zu->Prop}{s:Zu}{K:Za1}{x C:Zs}{name:Str}{v:Zt}
def EW {p:Obj}{t:Option Obj}{g:Tok}(X:K.In s.heap)(I:PySem.W.InstAt s.heap x p C t)(m:(clsIn K C).any (λcd=>mF cd.mro)=true)(j:takerIn K C name\none)
 (h:∀b,(prog<|>w) A.in1 (storeInOwnDict ↑x ↑C (.str name g) name v b)
  (λfin d=>match fin with|.done f=>R (.ok f) d|.again i=>i.quiet=true/\codeAny (model prog w) A i R d) (λe d=>R (.error e) d) s):
 codeAny (model prog w) A (.call (.builtin "object.__setattr__") ⟨[↑x,.str name g,v],[]⟩) R s:=by
 let c:=PySem.F.store_object;let⟨cd,y,o⟩:=any_some m;let⟨n,B,z⟩:=qN ↑x _ o;let sub:Looks (model prog w) s.heap (isInstance ↑x (.type "object")) true:=I.type.andThen (looks_mroIn X (by unfold mroIn;cbv));rwa[aiP c.slot.plain c.entry (@check_slot (model prog w) _ _ s "object.__setattr__" "object" "__setattr__" ↑x [.str name g,v] [] _ c.kind c.split sub (c.args ↑x (.str name g) v) ?_)];let⟨attr,u,r⟩:=Option.bind_eq_some_iff.mp j;let hm:Looks (model prog w) s.heap (mroOf ↑C) cd.mro:=(looks_clsIn X y).andThen .now
 let l:Looks (model prog w) s.heap (storeTaker? attr) none:=by
  cases attr with
  |none=>exact .now
  |some a=>
   let⟨b,k,q⟩:=aiI.mp r;rwa[(looks_takesIn X k).andThen ?_]
   cases b with
   |true=>ext q
   |false=>exact .now
 rw[osa_eq,refuse_eq];rwa[ahy (ahy (I.type.here (ahy (hm.here ?_))))];rw[n];rwa[ahF (ahy (I.type.here (ahy ((looks_findIn X u).here (ahy (l.here ?_))))))];rwa[h _]
def aaO {ns:Zp}{f:Obj}{t:Zm}(X:K.In s.heap)(c:yi K C)(z:s•x\f)(j:f.cls=↑C)(q:f.data=.fields t)(D:takerIn K C name\none)
 (e:f.dict\d) (B:s.heap.Ns1 d M) (I:PySem.Within M ns) (H:⇑ns<=sizeLine)
 (h:∀i,i.Ns1 d (λy=>if y=name then some v else M y)->Heap.SameBut d s.heap i->U () { s with heap:=i,toks:=s.toks+ 2 }):
 (prog<|>w) A (setAttr ↑x name v) U E s:=by
 let⟨P,L,O,p⟩:=f;dsimp only at j q e;subst j q e;let⟨u,S,T,F,r⟩:=id B;let J:PySem.W.InstAt s.heap x ⟨↑C,some d,.fields t,p⟩ C (some u):=⟨z,22,F⟩;rwa[set_plain X J c.sa (EW (s:={ s with toks:=s.toks+ 1 }) X J c.mr D λb=>?_)];let⟨Q,j,o⟩:=any_some c.hd;rwa[ahy (ahF (ahy (ahy (wpAny_loadPart z (ahy (Looks.here (s:={ s with toks:=s.toks+ 1 }) (looks_clsIn X j) ?_))))))];rw[o];rwa[ahF (a:=some d) (ahy (ahF (ahy ?_)))];rwa[wpAny_nsSet1 (s:={ s with toks:=s.toks+ 1 }) B λi g l=>?_]
 let⟨u,N,G,n,k,m⟩:=g.count (PySem.Within.cons name v I);rwa[ahy (wpAny_lookBehind n ([k]▸pastItsLine_dict (ahP m (by rw[ah0];omega))) ?_)];rwa[ahF (h _ g l)]
def WB {f:Obj}{r:Zm}(X:K.In s.heap)(c:yi K C)(n:s•x\f)(p:f.cls=↑C)(F:f.data=.fields r)(G:takerIn K C name\none)(g:f.dict=none)
 (h:∀j,j.Ns1 ↥s (λy=>if y=name then some v else none)->j.get? x\{ f with dict:=some ↥s }->(∀b o,b≠x->s•b\o->j.get? b\o)->U () { s with heap:=j,toks:=s.toks+ 2 }):
 (prog<|>w) A (setAttr ↑x name v) U E s:=by
 let⟨P,L,O,m⟩:=f;dsimp only at p F g;subst p F g;let J:PySem.W.InstAt s.heap x ⟨↑C,none,.fields r,m⟩ C none:=⟨n,22,True.intro⟩;rwa[set_plain X J c.sa (EW (s:={ s with toks:=s.toks+ 1 }) X J c.mr G λb=>?_)];let⟨S,p,D⟩:=any_some c.hd;rwa[ahy (ahF (ahy (ahy (wpAny_loadPart n (ahy (Looks.here (s:={ s with toks:=s.toks+ 1 }) (looks_clsIn X p) ?_))))))];rw[D];let d:(s.heap.push ("dict">>>.dict #[])).get? x\⟨↑C,none,.fields r,m⟩:=ahz _ n;let i:x≠↥s:=ah8 (ahT n);rwa[ahy (wpAny_alloc' ?_)];rwa[ahy (wpAny_update' d ?_)];rwa[ahF (a:=some ↥s) (ahy (ahF (ahy ?_)))]
 let q:((s.heap.push ("dict">>>.dict #[])).update x λo=>{ cls:=o.cls,dict:=some ↥s,data:=o.data,slots:=o.slots }).get? ↥s
  =some ("dict">>>.dict #[]):=(Heap.get?_update_ne _ _ _ _ i.symm).trans (Heap.get?_push_at rfl rfl)
 let u:((s.heap.push ("dict">>>.dict #[])).update x λo=>{ cls:=o.cls,dict:=some ↥s,data:=o.data,slots:=o.slots }).Ns ↥s (λ_=>none):=
  ⟨_,#[],_,q,2,λe M=>absurd M (by simp),λ_=>rfl⟩
 rwa[wpAny_nsSet1 (s:={ s with heap:=(s.heap.push ("dict">>>.dict #[])).update x λo=>{ cls:=o.cls,dict:=some ↥s,data:=o.data,slots:=o.slots },toks:=s.toks+ 1 }) (Heap.Ns1.of_empty u) λj l k=>?_]
 let⟨Q,N,I,B,t,z⟩:=l.count (Within.cons name v Within.nil);rwa[ahy (wpAny_lookBehind B ([t]▸pastItsLine_dict (ahP z (by rw[ah0,ajd,sizeLine_eq];omega))) ?_)];rwa[ahF (h _ l ?_ λb o H e=>?_)]
 ·rwa[(k.2 x i).trans (aii _ d rfl)]
 ·rwa[(k.2 b (ah8 (ahT e))).trans ((Heap.get?_update_ne _ _ _ _ H).trans (ahz _ e))]
end
section
variable {prog:Program}{w:World}{A:Around}{E:Zt->Zu->Prop}{s:Zu}{K:Za1}{x C:Zs}{name:Str}
def aaP {b:Bool}{l:Obj}{f:Obj}(X:K.In s.heap)(c:yi K C)(I:PySem.W.InstAt s.heap x l C (some f))(k:findObj K C (some f) name\.value v)(n:handedIn v=true)(h:Q v { s with toks:=s.toks+ 1 }):
 (prog<|>w) A (getAttr ↑x name b) Q E s:=by
 let⟨m,g,d,t,os⟩:=s;let i:=I.type (M:=model prog w);let q:=looks_findIn (M:=model prog w) X c.ga;let L2:=looks_findIn (M:=model prog w) X c.gt;let j:Looks (model prog w) m (isSubtype ↑C (.type "BaseException")) true:=looks_subIn X c.be;let r:=looks_find (M:=model prog w) X I k;let a:(Value.builtin "BaseException.__getattribute__"==Value.builtin "object.__getattribute__")=false:=⋯
 let e:(onTheHeap (Value.ref C) && Value.builtin "BaseException.__getattribute__"==Value.builtin "object.__getattribute__")=false:=by rw[a];rfl
 let o:(b && onTheHeap (Value.builtin "BaseException.__getattribute__"))=false:=by cases b <;> rfl
 let p:=PySem.F.excAttr_ValueError.ga.bind ↑x;unfold getAttr getAttrBy;rwa[ahy (wpAny_mkText (aiw (ahy (i.at (ahy (q.at ?_))))))];dsimp only;rw[ahY (by rw[e];decide)];unfold getAttrByItsOwn hookBefore;rw[ah4 (show onTheHeap (Value.ref C)=true from rfl)];rwa[ahy (L2.at (ahy (aj7 (aiw ?_))))];unfold callGetattribute boundAndCalled;rw[ahY (by cbv),p];rwa[ahy (ahF ?_)];show wpAny _ _ (call (.builtin "BaseException.__getattribute__") [↑x,.str name t]) _ _ _;rwa[ajt (aiP PySem.F.excAttr_ValueError.ga.plain PySem.F.entry_bexc_ga (zc i j ?_))];unfold Builtin.«object.__getattribute__»
 repeat lk
 show wpAny _ _ (handedOut v) _ _ _;rw[handedOut_of n];rwa[ahF h]
end
end L2
namespace L2
open PySem PySem.Spec PyProof.Rows PySem.Calls PySem.W
noncomputable def uZ (K:Frag)(C f:Zs):Bool:=match K.lookup C with
 |some ⟨.type "type",_,.cls cd,c⟩=>(match cd.mro,c.toList with
  |.ref b::a,#v[_,_,_,_,.builtin n,_]=>b==C && n=="ValueError.__new__" && !cd.hasDel && tailIn K rL a && nsOkIn K cd.ns && nsIn K cd.ns "__init__"==some (some ↑f)
  |_,_=>false)
 |_=>false
def Qo {K:Frag}(X:K.In h)(G:h.Ns a M)(e:nsIn K a x\some v):M x\v:=by
 let⟨o,m,p,i,b,_,g⟩:=G;unfold nsIn at e;split at e
 ·rename_i c d f k l q;have:=X^q;rw[i]at this;ext this;ext b;split at e
  ·rename_i n j;ext e;rw[<-g];unfold nsFind findBy;rw[<-Array.find?_toList,j];rfl
  ·split at e <;> ext e
 ·ext e
def u6 (XK:K.In h)(q:uZ K a b=true):∃n N nm o bs k s sub r col t E A G D F w,
 h.get? a=some (excClassObj nm o a N bs n k s sub r col t E A G D F "ValueError.__new__")/\h.Ns N w/\w "__init__"=some ↑b/\OwnTail h rL n:=by
 unfold uZ at q;split at q
 ·rename_i t cls m j;split at q
  ·rename_i H n x y z u nid v f c;simp only[ajh,ajW,Bool.not_eq_true']at q;let⟨⟨⟨⟨⟨rfl,rfl⟩,e⟩,g⟩,i⟩,d⟩:=q;let⟨nm,bs,mro,C,o,B,s,sub,r,col,del⟩:=cls;dsimp only at f e i d;subst f e
   let p:m=#[x,y,z,u,some (.builtin "ValueError.__new__"),v]:=by
    let⟨l⟩:=m;simp only at c;rw[c]
   subst p;rwa[n,C,nm,o,bs,B,s,sub,r,col,t,x,y,z,u,v,_,XK^j,.of_isNs (PySem.W.isNs_of_in XK i),Qo XK (.of_isNs (PySem.W.isNs_of_in XK i)) d,PySem.W.tail_of_in XK g]
  ·ext q
 ·ext q
section
variable {prog:Program}{w:World}{A:Around}{E:Zt->Zu->Prop}{h:Heap}{g:Array GenState}{d:Drawn}{t:Nat}{os:OsState}
variable {nm q:Str}{C N:Zs}{bs bm NB:Zk}{hdct:Bool}{sn:Zp}{sub:Zk}{ab:Bool}{col:Option Bool}{dd:Zo}{k0 k1 k2 k3 k5:Zl}{B newId IJ:String}
theorem wq (F:ExcBaseFacts B newId IJ NB)(T:OwnTail h NB bm){n:Str->Zl}{rest:Zk}{s:Zs}{y:Obj}{Q:Fin->Zu->Prop}
 (j:h.get? C\excClassObj nm q C N bs bm hdct sn sub ab col dd k0 k1 k2 k3 k5 newId) (L:h.Ns N n) (J:n "__init__"=some ↑s)
 (u:h.get? s\y) (p:y.cls=.type "function")
 (G:∀l e,Heap.MadeExcOf h l e ↑C rest->
  (prog<|>w) A (call ↑s (↑e::rest)) (λr v=>r=.none/\Q (.done (.ret ↑e)) v) E ⟨l,g,d,t,os⟩) (WC:⇑rest<=sizeLine):
 (prog<|>w) A (Builtin.«type.__call__» ⟨↑C::rest,[]⟩) Q E ⟨h,g,d,t,os⟩:=by
 repeat (first|with_reducible rwa[akw j ?_]|with_reducible rwa[wpAny_madeBy_exc j ?_]|wp_step)
 rwa[codeAny_call_builtin_code (akS _ F.quiet) (wpAny_check_new_subT F T j ?_)];rwa[codeAny_exc_new_subT F T j ?_ WC];show wpAny _ _ _ _ _ _
 let a:=ahz { cls:=↑C,data:=.fields #[↑h.objs.size,.none,.none,.none,.bool false,.none] }
  (ahz ("tuple">>>.seq rest.toArray) j)
 let c:=ahz { cls:=↑C,data:=.fields #[↑h.objs.size,.none,.none,.none,.bool false,.none] }
  (ahz ("tuple">>>.seq rest.toArray) u)
 let i:((h.push ("tuple">>>.seq rest.toArray)).push { cls:=↑C,data:=.fields #[↑h.objs.size,.none,.none,.none,.bool false,.none] }).Ns N n:=
  let ⟨o,I,M,e,r⟩:=L;⟨o,I,M,ahz _ (ahz _ e),r⟩
 let f:((h.push ("tuple">>>.seq rest.toArray)).push
  { cls:=↑C,data:=.fields #[↑h.objs.size,.none,.none,.none,.bool false,.none] }).get? (h.objs.size+ 1)=some
  { cls:=↑C,data:=.fields #[↑h.objs.size,.none,.none,.none,.bool false,.none] }:=by heap_get
 let m:(Value.ref C::bm).contains ↑C=true:=by simp
 let k:=T.keeps (h':=(h.push ("tuple">>>.seq rest.toArray)).push { cls:=↑C,data:=.fields #[↑h.objs.size,.none,.none,.none,.bool false,.none] })
  λb o e=>ahz _ (ahz _ e)
 unfold isInstance
 repeat (first|with_reducible rwa[akw f ?_]|(with_reducible rwa[wpAny_isSubtype_exc a ?_];rw[m])|wp_step)
 show wpAny _ _ (typeLookup ↑C _) _ _ _;rwa[wpAny_typeLookup_tail a i k F.mroIs F.init.lookup ?_];rw[J];rwa[aiw (ahy ?_)];unfold bindSpecial;rwa[ahy (aj5 (T:="function") ⟨_,c,p⟩ ?_)];rw[ah4 ⋯];rwa[ahF (ahy (aiv (G _ (h.objs.size+ 1) ⟨λb o z=>ahz _ (ahz _ z),Heap.get?_none_of_le (ajE _),h.objs.size,f,Heap.get?_none_of_le (ahG _),5⟩) (λr v H=>?_) λ_ _ x=>x))]
 ·rwa[ahz _ (Heap.get?_push_at rfl rfl)]
 ·let⟨rfl,D⟩:=H
  wp_walk
  rwa[D]
def wu (F:ExcBaseFacts B newId IJ NB)(T:OwnTail h NB bm){k:Str->Zl}{rest:Zk}{i:Zs}{l:Obj}{Q:Zt->Zu->Prop}
 (b:h.get? C\excClassObj nm q C N bs bm hdct sn sub ab col dd k0 k1 k2 k3 k5 newId) (p:h.Ns N k) (o:k "__init__"=some ↑i)
 (j:h.get? i\l) (f:l.cls=.type "function")
 (n:∀c e,Heap.MadeExcOf h c e ↑C rest->
  (prog<|>w) (A.under (.builtin "type.__call__" ⟨↑C::rest,[]⟩)) (call ↑i (↑e::rest)) (λr m=>r=.none/\Q ↑e m) E ⟨c,g,d,t,os⟩) (a:⇑rest<=sizeLine):
 (prog<|>w) A (call ↑C rest) Q E ⟨h,g,d,t,os⟩:=by
 let u:=tc_lookup;let x:=tc_bind ↑C;let v:(⟨h,g,d,t,os⟩:Zu).TypeIs ↑C "type":=⟨_,b,2⟩;rwa[ajt (codeAny_of_tree ?_)];show wpAny _ _ (callAny ↑C _) _ _ _
 repeat (any_goals (first|assumption|with_reducible rwa[akw b ?_]|wp_step))
 erw[2];rwa[codeAny_call_builtin_at (akS _ ⋯) entry_typeCall (wpAny_check_type_call_sub b (wq (WC:=a) F T b p o j f λc e s=>?_))];rwa[n c e s]
def LK {M:Model}{env:Env}{x:Sem Zt}{Q:Flow->Zu->Prop}(b:bm.contains (.type "BaseException")=true)(r:A.handled=none)
 (h:wpAny M A x (λv a=>∃e f i,v=↑e/\a•C\excClassObj nm q C N bs bm hdct sn sub ab col dd k0 k1 k2 k3 k5 newId/\
  a•e=some f/\f.cls=↑C/\f.data=.fields i/\i[1]?=some .none/\E ↑e a) E s):
 wpAny M A (raiseStmt env (some x) none) Q E s:=by
 let j:(Value.ref C::bm).contains (.type "BaseException")=true:=by rw[List.contains_cons,b,Bool.or_true]
 unfold raiseStmt;rwa[ahy (aiv h (λv a c=>?_) λ_ _ x=>x)];let⟨e,f,i,rfl,l,m,n,k,o,p⟩:=c;let⟨F,g,d,D,os⟩:=a;let⟨z,G,y,u⟩:=f;dsimp only at n k;subst n k
 repeat (first|with_reducible rwa[akw m ?_]|with_reducible rwa[akw l ?_]|(with_reducible rwa[wpAny_isSubtype_exc l ?_];rw[j])|with_reducible rwa[ahy (aiF m rfl o ?_)]|wp_step)
 all_goals rwa[wpAny_raiseNew_none r p]
end
end L2
namespace L2
open PySem PySem.Spec PyProof.Rows
inductive cY (P:Program) (w:World) (outer:Zq) (H:Hp) (s:Zu) (E:XK) (e:Zt) (s':Zu):Prop
 |mk (x C:Zs) (dx:Zo) (B:Heap) (H':Hp):e=↑x->s'.os=s.os->AllBare s'.gens->lg B outer x ↑C dx .none s'.heap->Un (cK outer) [] H H' s.heap s'.heap->dM P w H' B->(∀b o,s•b\o->H b=none->b∉cK outer->B.get? b\o)->(∀b o,s•b\o->b∉cK outer->∃o',B.get? b\o')->E ↑C dx H'->cY P w outer H s E e s'
noncomputable def del (H:Hp)(x:Zs):Hp:=λb=>if b=x then none else H b
def oV {x:Zs}(h:b≠x):del H x b=H b:=by unfold del;rw[ahY h]
def LN {x:Zs}{u:HO}(h:del H x b\u):b≠x/\H b\u:=by
 unfold del at h
 cbv
def Qp {x:Zs}{o:HO}(h:H x=none):del (upd H x o) x=H:=by
 funext b
 cases e:b=x
 ·rw[e,h];unfold del;rw[ah4 rfl]
 ·rw[oV e,ak e]
def gq:Passes (cY P w) X (λ_ _ _=>False):=λ_ _ _ _ _ _ _ ζ=>by let⟨_,_,_,_,_,_,_,_,_,_,_,_,_,q⟩:=ζ;rwa[q.elim]
def Ge {a:Zq}(h:cY P w a H s (λ_ _ _=>False) v t):False:=let ⟨_,_,_,_,_,_,_,_,_,_,_,_,_,q⟩:=h;q
section
variable {P:Program}{w:World}{K:Za1}{mg:Str->Zl}{base:Heap}{N:Zp}{qual:Str}{scope:Scope}{f:Zs}{cd:Zt}{A:Around}{outer:Zq}{s:Zu}{H:Hp}{E:XK}{pins:List (Zs×Obj)}{σ:St}{H1:Hp}{s1:Zu}
def qc {o:Obj}(I:Inv (cF (cY P w) P w K mg base N qual scope f cd A outer s H E) pins σ H1 s1)(e:s•b\o)(a:b∉cK outer):b∉cK (cF (cY P w) P w K mg base N qual scope f cd A outer s H E).stack:=λz=>by
 rcases ahR.mp (show b∈↥s::cK outer from z) with z|z
 ·rwa[absurd (ahT e) (by rw[z];rwa[aiR _])]
 ·rwa[a z]
def TF {x:Zs}{R:Zo}(I:Inv (cF (cY P w) P w K mg base N qual scope f cd A outer s H E) pins σ H1 s1)(F:H1 x\XO x a R true)(Z:s•x=none)(q:E ↑a R (del H1 x)):
 (cF (cY P w) P w K mg base N qual scope f cd A outer s H E).xe ↑x s1:=by
 let t:=I.ok.frames;let C:∀env∈(cF (cY P w) P w K mg base N qual scope f cd A outer s H E).stack,∀b,env.frame\b->b∈x::cK (cF (cY P w) P w K mg base N qual scope f cd A outer s H E).stack:=λenv X b k=>aie _ (akO.mpr ⟨env,X,k⟩)
 let G:=PySem.W.funFrames_hide I.stack C;let⟨⟨ob,vs,d,rfl',rfl,i,l⟩,_,_⟩:=I.aM x _ F;let nx:∀b o,s•b\o->b≠x:=λb o e z=>by cbv
 let out:∀b o,s•b\o->b∉cK outer->b∉x::cK (cF (cY P w) P w K mg base N qual scope f cd A outer s H E).stack:=λb o e k z=>(ahR.mp z).elim (nx b o e) (qc I e k)
 rwa[LJ (s:=s1) (base:=PySem.W.hideAll s1.heap (x::cK (cF (cY P w) P w K mg base N qual scope f cd A outer s H E).stack)) (L:=↥s) t G rfl d (λb o z=>PySem.W.of_hideAll _ z) (PySem.W.hideAll_none _ (.head _)) i (l rfl).1 λy r ups=>?_]
 let S:∀b o,s•b\o->H b=none->b∉cK outer->(PySem.W.hideAll s1.heap (x::cK (cF (cY P w) P w K mg base N qual scope f cd A outer s H E).stack)).get? b\o:=λb o d g h=>
  akC _ (I.base.keep b o d g h (by simp[cF])) (out b o d h)
 let O:∀b o,s•b\o->b∉cK outer->∃j,(PySem.W.hideAll s1.heap (x::cK (cF (cY P w) P w K mg base N qual scope f cd A outer s H E).stack)).get? b\j:=λb o d h=>by
  let⟨j,i⟩:=I.base.there b o d (by simp[cF]);rwa[j,akC _ i (out b o d h)]
 let M:∀b o,s1•b\o->b∈cK outer->∃B,y.get? b\{ o with slots:=B }:=λb o d g=>by
  let⟨_,o2,h,Y⟩:=I.stack.mem (show b∈cK (cF (cY P w) P w K mg base N qual scope f cd A outer s H E).stack from aie _ g);rw[d]at h;ext h;rwa[ups b o d Y]
 let dl:∀{b:Zs} {u:HO},H1 b\u->(∀ T,u≠.ext T)->del H1 x b\u:=λ{b u} e n=>by
  rw[oV]
  ·rwa[e]
  ·intro z;rw[z,F]at e;rwa[n _ (Za0 e).symm]
 rw[rfl']at r;rwa[⟨x,a,11,del H1 x,2,I.os,I.bare,r,⟨λb o d g h _=>r.1 b o (S b o d g h),λb o d g h _=>?_,λb o d g _=>?_,λb o d _=>?_,λb Q e=>dl (I.base.ie b Q e) (by cbv),λb o u e=>dl (I.base.gH b o u e) (by cbv),λb V e=>?_⟩,5,S,O,q⟩]
 ·let⟨B,i⟩:=I.base.slot b o d g h (by simp[cF]);let⟨D,l⟩:=M b _ i h;rwa[D,l]
 ·rw[oV (nx b o d)];rwa[I.base.free b o d g (by simp[cF])]
 ·cases k:b∈cK outer
  ·let⟨j,i⟩:=I.base.there b o d (by simp[cF]);let⟨B,l⟩:=M b j i k;rwa[_,l]
  ·let⟨j,i⟩:=O b o d k;rwa[j,r.1 b j i]
 ·let⟨m,g⟩:=I.base.ig b V e;rwa[m,dl g (by cbv)]
 ·intro b u d;let⟨U,d⟩:=LN d
  let p:∀c v,c≠x->H1 c\v->c∉x::cK (cF (cY P w) P w K mg base N qual scope f cd A outer s H E).stack:=λc v J g z=>by
   rcases ahR.mp z with z|z
   ·rwa[J z]
   ·rw[I.oE c z]at g;ext g
  rwa[(I.aM b u d).ft (λc v J z=>akC _ z ?_) (λc z=>dl z (by cbv)) λc Q z=>dl z (by cbv)]
  rcases J with z2|z2
  ·rw[z2];rwa[p b u U d]
  ·rwa[p c _ (λz=>by rw[z,F]at z2;ext z2) z2]
def WD:Passes (cY P w) (cF (cY P w) P w K mg base N qual scope f cd A outer s H E) E:=by
 intro pins σ H1 s1 e S I z;let⟨x,C,M,B,J,rfl,os,bare,G,un,l,O,F,q⟩:=z;rwa[Qn (L:=↥s) I.ok.frames rfl G λt k ups=>?_]
 let p:∀b o,s•b\o->H b=none->b∉cK outer->B.get? b\o:=λb o a d c=>
  O b o (I.base.keep b o a d c (by simp[cF])) (I.base.free b o a d (by simp[cF])) (qc I a c)
 let m:∀b o,s•b\o->b∉cK outer->∃h,B.get? b\h:=λb o a c=>by
  let⟨h,g⟩:=I.base.there b o a (by simp[cF]);rwa[F b h g (qc I a c)]
 let D:∀b o,s1•b\o->b∈cK outer->∃u,t.get? b\{ o with slots:=u }:=λb o a d=>by
  let i:b∈cK (cF (cY P w) P w K mg base N qual scope f cd A outer s H E).stack:=aie _ d;let⟨_,T,c,Q⟩:=I.stack.mem i;rw[a]at c;ext c;let⟨u,g⟩:=un.slot b o a (I.oE b i) i (by simp);let⟨j,r⟩:=ups b _ g Q;rwa[j,r]
 rwa[⟨x,C,M,B,J,2,os.trans I.os,bare,k,⟨λb o a d c _=>k.1 b o (p b o a d c),λb o a d c _=>?_,λb o a d _=>?_,λb o a _=>?_,λb n a=>un.ie b n (I.base.ie b n a),λb o n a=>un.gH b o n (I.base.gH b o n a),λb y a=>?_⟩,l,p,m,q⟩]
 ·let⟨u,g⟩:=I.base.slot b o a d c (by simp[cF]);let⟨j,r⟩:=D b _ g c;rwa[j,r]
 ·let⟨h,g⟩:=I.base.there b o a (by simp[cF]);rwa[un.free b h g (I.base.free b o a d (by simp[cF])) (by simp)]
 ·cases v:b∈cK outer
  ·let⟨h,g⟩:=I.base.there b o a (by simp[cF])
   cbv
  ·let⟨h,g⟩:=m b o a v;rwa[h,k.1 b h g]
 ·let⟨U,d⟩:=I.base.ig b y a;let⟨R,c⟩:=un.ig b _ d
  cbv
end
section
variable {P:Program}{w:World}{K:Za1}{mg:Str->Zl}{base:Heap}
theorem rE.TK {qual:Str}{st:Stmt}{fd:FuncData}{e:Zp}{k:Nat}{sp:Sp}(F:rE K x qual st a fd)(S:aT Z e (aB st))(len:∀c H Q E,sp c H Q E->⇑c=⇑e)
 (d:∀(b:Zt) (A:Around) (outer:Zq) (s:Zu) (H:Hp) (c:Zb) (Q:VK) (E:XK),cw k (A.deeper (envOfC qual (aB st) ↥s a b))->sp c H Q E->
  ∃t,iS (cF (cY P w) P w K mg base Z qual (aB st) a b A outer s H E) (bW st) t/\t { nx:=λ_ i=>Q .non i,rt:=Q } (start Z c) H):du P w K mg base (cY P w) (k+ 1) a fd e sp:=by
 let⟨l,n,kV,doc,pm,m,b,ct,j,rfl,lk,g⟩:=F.ex;rwa[Al lk g S len λA outer s H c Q E h f=>d b A outer s H c Q E h f]
end
section
variable {X:Cx}{pins:List (Zs×Obj)}{σ:St}{H:Hp}{s:Zu}{h':Heap}{e C:Zs}{vs:Zk}
def Inv.Gf (I:Inv X pins σ H s)(hm:Heap.MadeExcOf s.heap h' e ↑C vs)(hex:X.ex=[]):H e=none/\X.eB.heap.get? e=none/\Inv X pins σ (upd H e (XO e C none true)) (s<*h'):=by
 let a:H e=none:=by
  cases q:H e with
  |none=>rfl
  |some u=>
   let⟨o,d⟩:=(I.aM e u q).get;rw[hm.new]at d;ext d
 let ne:∀b o,s•b\o->b≠e:=λb o q z=>by rw[z,hm.new]at q;ext q
 let h:X.eB.heap.get? e=none:=by
  cases q:X.eB.heap.get? e with
  |none=>rfl
  |some o=>
   let⟨l,d⟩:=I.base.there e o q (by rw[hex];simp)
   cbv
 rwa[⟨a,h,I.un (t':=s.toks) ⟨λb u q _ _ _=>hm.keeps b u q,λb u q _ _ _=>⟨u.slots,hm.keeps b u q⟩,λb u q n _=>[ak (ne b u q)]▸n,λb u q _=>⟨u,hm.keeps b u q⟩,λb g q=>[ak (ax q a)]▸q,λb u g q=>[ak (ax q a)]▸q,λb k q=>⟨#[],by rw[ak (ax q a),q];simp⟩⟩ λb u q=>?_⟩];cases f:b=e
 ·subst f;rw[ah]at q;ext q;let⟨t,i,_,_⟩:=hm.there;rwa[An ⟨11,i,222,λ_=>⟨212⟩⟩]
 ·rw[ak f]at q;rwa[(I.aM b u q).ft (λc v _ q=>hm.keeps c v q) (λc q=>[ak (ax q a)]▸q) λc g q=>[ak (ax q a)]▸q]
end
section
variable {X:Cx}{k:Nat}{f C:Zs}{fd:FuncData}{ps:Zp}{sp:Sp}{x:Str}{p pos b9:Pos}{e:Expr}{es:Zr}{t:TA}{E:XK}
def TL (X:Cx)(C:Zs)(E:XK):Prop:=∀(a:List (Zs×Obj)) (c:St) (H:Hp) (s:Zu) (x:Zs) (b:Zo),Inv X a c H s->H x\XO x C b true->X.eB.heap.get? x=none->E ↑C b (del H x)->X.xe ↑x s
def Xz {base:Heap}{qual:Str}{scope:Scope}{f C:Zs}{a:Zq}{E:XK}:TL (cF (cY P w) P w K M base Z qual scope f v A a s H E) C E:=λ_ _ _ _ _ _ I c b q=>TF I c b q
def IK {a:Expr}{g:TE}(l:X.calm=true)(j:Gl X x)(c:X.mg x\↑C)(h:K0 X.K C)(r:PE X a g)(u:TL X C E)(hex:X.ex=[])(m:starEach [a] X.env=[(false,eval a X.env)])(d:(x==("__debug__":Str))=false):
 PS X (.Raise (some (.Call (.Name x p) [a] [] b9)) none pos) (HM C E g):=
 K1 l j c h r (λb n H s v e w I c q=>by
  let⟨o,i,J⟩:=I.Gf c hex;rwa[u b n _ _ e none J ah i ([Qp o]▸q)]) m d
def Qq (C:Zs)(sp:Sp)(E:XK)(t:TA):TS:=λ_ g H=>t g H λd b=>∀x,b x=none->sp (↑x::d) (upd b x (XO x C none true)) (λv a=>v=.non/\∃c,a x\XO x C c true/\E ↑C c (del a x)) (λ_ _ _=>False)
theorem IL (F:du X.prog X.w X.K X.mg X.base (cY X.prog X.w) k f fd ps sp)(hr:cw (k+ 1) X.A)(hb:Binds X.K fd ps [])(hc:X.calm=true)(hg:Gl X x)(hm:X.mg x\↑C)(hC:uZ X.K C f=true)(hf:PySem.W.isFn X.K ↑f=true)(hk:PySem.W.keepIn X.K ↑C=true)
 (ha:PA X (e::es) t) (lv:TL X C E) (hex:X.ex=[]) (zx:⇑ps<=1000) (w:(x==("__debug__":Str))=false) (he:starEach (e::es) X.env=(false,eval e X.env)::starEach es X.env) (G:(backTo b9 (starEach es X.env)).any (·.1)=false):
 PS X (.Raise (some (.Call (.Name x p) (e::es) [] b9)) none pos) (Qq C sp E t):=by
 intro c s σ H D I h;let⟨R,N,nm,qn,bs,i,sn,sub,Q,col,dd,k0,k1,T,Z,k5,mN,W,o2,o3,o4⟩:=u6 I.ok.mod.qC hC;let kp:∀{P O n},Inv X c P O n->∀b o,X.base.get? b\o->n•b\o:=λJ b o q=>(J.bs b o q).1
 rw[arm_exec_Raise];rwa[ahy (akr (LK (C:=C) (nm:=nm) (q:=qn) (N:=N) (bs:=bs) (bm:=R) (hdct:=i) (sn:=sn) (sub:=sub) (ab:=Q) (col:=col) (dd:=dd) (k0:=k0) (k1:=k1) (k2:=T) (k3:=Z) (k5:=k5) (newId:="ValueError.__new__") (o4.hasType ⋯) (I.ok.hd hc) (ahy (aiv (E:=X.xe) ?_ (λv Y m=>ahy (akr (ahF m))) λ_ _ x=>x))))];rwa[aiz (gb I hg hm ?_ w)];rwa[ajJ (h₀:=X.base) I.ok.mod.qC hk (aY (ha b9 c s σ H _ I h) λus s1 ζ=>?_) he G];let⟨vs,H1,j,r,q⟩:=ζ;rwa[⟨j.dg,5⟩];let⟨oI,M,B⟩:=aiI.mp (ajW.mp hf)
 let len:⇑us<=1000:=by
  let h1:=F.len _ _ _ _ (q (↥s1) (j.aM.fresh (ahG _)));rw[ah0]at h1;rw[<-⇑r];ext
 let⟨hh,g,d,tk,os⟩:=s1;rwa[wu (A:=X.A) ajk (o4.keeps (kp j)) (kp j _ _ W) (o2.keeps (kp j)) o3 (j.dg^M) B (λh' y z=>?_) (ahP len ⋯)];let⟨hn,h0,J⟩:=j.Gf z hex;let hq:=q y hn;let r2:Vals (V.ref y::vs) (Value.ref y::us):=.cons rfl r
 let hl:⇑(Value.ref y::us++[])=⇑ps:=by
  rw[aib,<-⇑r2];rwa[F.len _ _ _ _ hq]
 let l:=hb _ (Value.ref y::us) J.dg hl;rw[aib]at l;rwa[ajt (ajz (F.run _ X.stack _ _ ⟨Value.ref y::us,[]⟩ (Value.ref y::us) _ _ _ (hr.make C us []) (J.uO.make C us []) l r2 hq) λr n a=>?_)]
 cases r with
 |error e=>exact(Ge a).elim
 |ok fl=>
  cases fl with
  |ret u=>
   let⟨v,O,L,rv,ev,dx,S,q3⟩:=J.after a;subst ev;let⟨⟨ob,ws,a1,a2,a3,a4,a5⟩,_,_⟩:=L.aM y _ S;rwa[rv,y,ob,ws,2,kp L _ _ W,a1,a2,a4,(a5 rfl).1,lv c σ O n y dx L S h0 q3]
  |next=>exact False.elim a
  |brk=>exact False.elim a
  |cont=>exact False.elim a
end
end L2
namespace L2
open PySem PySem.Spec PyProof.Rows PySem.W
section
variable {M:Model}{A:Around}{E:Zt->Zu->Prop}{s:Zu}{x a:Zs}{ob:Obj}{vs:Zm}{tv:Zt}
def LQ {Q:Fin->Zu->Prop}(e:s•x\ob)(c:ob.data=.fields vs)(d:vs[0]?\↑a)
 (h:Q (.done (.ret .none)) { s with heap:=(s.heap.push ("tuple">>>.seq #[tv])).update x (Obj.mapFields (·.setIfInBounds 0 ↑↥s)) }):wpAny M A (Builtin.«BaseException.__init__» ⟨[↑x,tv],[]⟩) Q E s:=by
 let b:=ahz ("tuple">>>.seq #[tv]) e;unfold Builtin.«BaseException.__init__»;rwa[ahy (wpAny_newTuple ?_)];unfold Builtin.BaseException.bexcPut;rwa[ahy (ahy (aiF b c d (ahy (ajP b c (ajj.mp d).1 ?_))))]
 wp_walk
 rwa[h]
end
section
variable {X:Cx}{Y:Zs}{y f:Str}{np apos pos pos':Pos}{e:Expr}{es:Zr}{t:TA}
structure LR (K:Za1) (Y:Zs):Prop where
 sp:specialIn K ↑Y "__getattribute__"=some (some (.builtin "type.__getattribute__"))
 rd:readsIn K Y (.type "type")=true
 fc:(match findCls K ↑Y (.type "type") "__init__" with|some (.val (.builtin i))=>i=="ValueError.__init__" | _=>false)=true
def LR.find {Y:Zs}(b:LR K Y):findCls K ↑Y (.type "type") "__init__"=some (.val (.builtin "ValueError.__init__")):=by
 have:=b.fc
 cbv
def aaQ (C:Zs)(t:TA):TE:=λ d H Q=>t d H λb a=>∃(x:Zs) (c:Zo) (l:Zh),b=[↑x,.str (tx l)]/\a x\XO x C c true/\Q .non a
def LV {pl:Sem Bool}(R:uZ X.K a b=true)(A:LR X.K Y)(W:Gl X y)(hm:X.mg y\↑Y)(ha:PA X (e::es) t)(D:(y==("__debug__":Str))=false)
 (v:starEach (e::es) X.env=(false,eval e X.env)::starEach es X.env) (n:(backTo pos (starEach es X.env)).any (·.1)=false)
 (T:eval (.Call (.Attribute (.Name y np) "__init__" apos) (e::es) [] pos) X.env=(do
  let M <-eval (.Name y np) X.env
  standAt apos.atName
  let (f,first) <-holding [M] (getMethod M "__init__" pl)
  callWith pos f first (backTo pos (starEach (e::es) X.env)) (backToKw pos (keywordEach [] X.env)))):
 PE X (.Call (.Attribute (.Name y np) "__init__" apos) (e::es) [] pos) (aaQ a t):=by
 intro k s σ H Q I h;rwa[methodCall_KW (pl:=pl) (gb I W hm ?_ D) T];rwa[method_cls I.dg A.sp (cls_value I.dg A.rd A.find rfl ?_)];rwa[PyProof.Rows.callWith_builtin1 (aY (ha pos k _ σ H _ (I.tok _) h) λus s1 ζ=>?_) v n];let⟨vs,B,p,r,x,P,l,Z,C,q⟩:=ζ;subst Z;let⟨u,E,rfl,rx,ry⟩:=vals2 r;ext rx;let⟨bm,N,nm,qn,bs,F,sn,sub,ab,col,dd,k0,k1,k2,k3,k5,mN,o1,o2,o3,o4⟩:=u6 I.ok.mod.qC R;let kp:∀d o,X.base.get? d\o->s1•d\o:=λd o q=>(p.bs d o q).1
 let⟨⟨ob,ws,m,O,a3,L,a5⟩,_,_⟩:=p.aM x _ C;let⟨b1,c,G⟩:=a5 rfl;let⟨g,gg,dr,tk,os⟩:=s1;rwa[ajt (aiP ajk.init.plain ajk.initEntry (wpAny_check_init_subT ajk (o4.keeps kp) (kp^o1) m O ?_))];rwa[LQ m L G ?_];let S:x≠g.objs.size:=ah8 (ahT m);let w:=ahz ("tuple">>>.seq #[E]) m;let j:=aje L (·.setIfInBounds 0 (Value.ref g.objs.size));let i:=aii (Obj.mapFields (·.setIfInBounds 0 (Value.ref g.objs.size))) w (ajM j)
 let J:=p.write (h':=(g.push ("tuple">>>.seq #[E])).update x (Obj.mapFields (·.setIfInBounds 0 ↑g.objs.size))) (t':=tk) (o:=XO x a P true) (x:=x) (e:=x) ([C]▸True.intro) (.inl rfl) (λd u U z=>(aij^aiU U).trans (ahz _ z)) ⟨_,i⟩
  (An ⟨11,i,(Obj.cls_mapFields _ _).trans O,(zu _ _).trans a3,j,λ_=>⟨by cbv,g.objs.size,by simp[(ajj.mp G).1]⟩⟩)
 let V:upd B x (XO x a P true)=B:=by
  funext d
  cases z:d=x
  ·rw[z,ah,C]
  ·rw[ak z]
 rw[V]at J;rwa[.non,B,J,2,q]
def WG (K:Za1)(k i:TE)(f:Str):TS:=λD c H=>i c H λy j=>k c j λx b=>∃(a C:Zs) (h:Zo) (g:Bool),x=↑a/\b a\XO a C h g/\yi K C/\kH K C f/\
 match h with
 |none=>∀d,b d=none->D.nx c (upd (upd b d (XD d [(f,y)])) a (XO a C (some d) g))
 |some d=>∃fs,d≠a/\b d\XD d fs/\⇑fs<1000/\D.nx c (upd b d (XD d (bI f y fs)))
def IQ {fs:List (Str×V)}{mA:Str->Zl}{y:V}(r:∀f,eK (fs.lookup f) (mA f))(a:PySem.Within mA (fs.map (·.1)))(c:RelV y u):(∀g,eK ((bI f y fs).lookup g) (if g=f then some u else mA g))/\PySem.Within (λg=>if g=f then some u else mA g) ((bI f y fs).map (·.1)):=by
 rwa[⟨λg=>?_,λg b=>?_⟩]
 ·rw[ou];cases q:g=f
  ·rw[ah4 q,ah4 q];rwa[c]
  cbv
 ·cases q:g=f
  ·rw[q];rwa[(kF f y fs).1]
  ·rwa[(kF f y fs).2 g (a g λz=>b ?_)]
   cbv
def EX {o value:Expr}{Q P:TE}(ha:PE X o Q)(hv:PE X value P)(hs:swapsWith value (some (.Attribute o f pos')) pos.line X.env=pure false):PS X (.Assign [.Attribute o f pos'] value pos) (WG X.K Q P f):=by
 intro j s w H D I h;rwa[plainObj_wpAny_Assign_Attribute (aY (hv j s w H _ I h) λu s1 ζ=>?_) hs];let⟨y,H1,Z,S,q⟩:=ζ;rwa[aY (ha j s1 w H1 _ Z q) λov s2 ζ=>?_];let⟨x,H2,k,rx,a,C,dx,nw,ex,U,c,n,A⟩:=ζ;subst ex;obtain rfl:ov=Value.ref a:=rx;let⟨⟨ob,vs,M,N,R,G,a5⟩,_,_⟩:=k.aM a _ U
 cases dx with
 |some d=>
  let⟨fs,nd,T,hl,A⟩:=A;let⟨⟨mA,hn,r,O⟩,_,_⟩:=k.aM d _ T;rwa[aaO k.dg c M N G n.FJ R hn O (by rw[ahE,sizeLine_eq];omega) λm i sb=>?_]
  let⟨L,E⟩:=IQ (f:=f) r O S;let⟨v,_,_,p,_⟩:=id i;rwa[w,_,k.write (x:=d) (e:=d) ([T]▸True.intro) (.inl rfl) (λb u F z=>(sb.2 b F).trans z) ⟨v,p⟩ (Nz ⟨_,i,L,E⟩),A]
 |none=>
  rwa[WB k.dg c M N G n.FJ R λm i l kp=>?_]
  let V:H2 ↥s2=none:=k.aM.fresh (ahG _);let B:↥s2≠a:=aiO (ahT M);let⟨v,es,ep,p,W⟩:=id i;let⟨L,E⟩:=IQ (fs:=[]) (mA:=λ_=>none) (f:=f) (λ_=>True.intro) (λg hg=>absurd rfl hg) S;let J:=k.laid (a:=↥s2) (o:=XD ↥s2 [(f,y)]) (h':=s2.heap.push v) (t':=s2.toks) (λb u z=>ahz _ z) (ahG _) (Nz ⟨_,⟨v,es,ep,Heap.get?_push_at rfl (Heap.get?_some_iff.mp p).2,W⟩,L,E⟩);rwa[⟨w,_,J.write (h':=m) (x:=a) (e:=a) (o:=XO a C (some ↥s2) nw) ([ak B.symm,U]▸True.intro) (.inl rfl) (λb u F z=>?_) ⟨_,l⟩ (An ⟨11,l,N,2,G,a5⟩),A _ V⟩];rcases Heap.get?_push_cases z with ⟨rfl,rfl⟩|z
  ·rwa[p]
  ·rwa[kp b u F z]
inductive TN (K:Za1) (f:Str) (x:V) (H:Hp) (Q:VK):Prop
 |mk (a C d:Zs) (nw:Bool) (fs:List (Str×V)) (v:V):x=↑a->H a\XO a C (some d) nw->H d\XD d fs->yi K C->kH K C f->fs.lookup f\v->Q v H->TN K f x H Q
def WH (K:Za1)(b:TE)(f:Str):TE:=λ c H Q=>b c H λx a=>TN K f x a Q
def lX {e:Expr}{j:TE}(S:PE X e j)(z:attributeBase e f X.env (eval e X.env)=eval e X.env):PE X (.Attribute e f pos) (WH X.K j f):=by
 intro b s N H Q I h;rwa[Eo z (aY (S b s N H _ I h) λu s1 ζ=>?_)];let⟨x,F,g,M,a,C,d,nw,fs,v,ex,U,O,c,n,l,q⟩:=ζ;subst ex;obtain rfl:u=Value.ref a:=M;let⟨⟨E,B,T,p,k,m,a5⟩,_,_⟩:=g.aM a _ U;let⟨⟨R,P,r,W⟩,_,_⟩:=g.aM d _ O;let⟨u,L,w⟩:=eK.some_of (v:=v) (o:=R f) (by rw[<-l];rwa[r f]);let⟨D,A,G⟩:=yT P;let⟨Z,od,V,i⟩:=E;dsimp only at p k m;subst p k m;let J:PySem.W.InstAt s1.heap a ⟨↑C,some d,.fields B,i⟩ C (some D):=⟨T,22,A⟩;rwa[aaP g.dg c J (findObj_own c.hd n rfl (by rw[G,L])) (yU w) ⟨v,F,g.tok _,w,q⟩]
end
end L2
namespace L2
open PySem PySem.Spec PyProof.Rows
def eQ (X:Cx)(a:List (Zs×Obj))(g:St)(d:Hp)(x C:Zs)(f:Zo)(s:Zu):Prop:=
 ∃(B:Heap) (c:Hp) (s1:Zu),Inv X a g c s1/\s.os=s1.os/\AllBare s.gens/\lg B X.stack x ↑C f .none s.heap/\Un (cK X.stack) [] c d s1.heap s.heap/\dM X.prog X.w d B/\
  (∀b o,s1•b\o->c b=none->b∉cK X.stack->B.get? b\o)/\(∀b o,s1•b\o->b∉cK X.stack->∃e,B.get? b\e)
section
variable {X:Cx}{pins:List (Zs×Obj)}{σ:St}{H':Hp}{x C:Zs}{dx:Zo}{s:Zu}
def eQ.of {E:XK}(I:Inv X pins σ H t)(c:cY X.prog X.w X.stack H t E v s):∃x C dx H',v=↑x/\eQ X pins σ H' x C dx s/\E ↑C dx H':=by
 let⟨x,C,dx,B,H',rfl,os,bare,fl,un,a,d,b,q⟩:=c;rwa[x,C,dx,H',2,⟨B,H,t,I,os,bare,fl,un,a,d,b⟩,q]
def eQ.step {fl:Zt}{s1:Zu}(I:Inv X pins σ H s1)(os:s.os=s1.os)(bare:AllBare s.gens)(un:Un (cK X.stack) [] H H' s1.heap s.heap)(aM:dM X.prog X.w H' g)
 (q:∀b o,s1•b\o->H b=none->b∉cK X.stack->g.get? b\o) (p:∀b o,s1•b\o->b∉cK X.stack->∃i,g.get? b\i) (a:lg g X.stack x ↑C dx .none h) (u:s.heap.UpToSlots h):eQ X pins σ H' x C dx (s<*h):=by
 let n:∀b o,s1•b\o->b∈cK X.stack->∃sl,h.get? b\{ o with slots:=sl }:=λb o e c=>by
  let⟨t,f,r⟩:=I.Nn c;rw[e]at f;ext f;let⟨sl,m⟩:=un.slot b o e (I.oE b c) c (by simp);let⟨k,j⟩:=u b _ m r;rwa[k,j]
 rwa[⟨g,H,s1,I,os,bare,a,⟨λb o d f l _=>a.1 b o (q b o d f l),λb o d _ l _=>n b o d l,un.free,λb o d _=>?_,un.ie,un.gH,un.ig⟩,aM,q,p⟩];cases c:b∈cK X.stack
 ·let⟨sl,j⟩:=n b o d c;rwa[_,j]
 ·let⟨i,m⟩:=p b o d c;rwa[i,a.1 b i m]
def eQ.look (t:eQ X pins σ H' x C dx s)(a:X.stack=X.env::X.outer)(k:X.env.frame\X.env.locals)(hA:A.frames\X.stack)
 (h:∀d,eQ X pins σ H' x C dx (s<*d)->U () (s<*d)):
 X⁻¹ A (noteFrame ↑x X.env) (λ_ f=>X⁻¹ A (setFlight ↑x none) U E f) E s:=by
 let⟨B,o,p,I,os,bare,fl,un,aM,n,j⟩:=t;let b:=fl;rw[a]at b;rwa[Ny (base:=B) (hA.trans (by rw[a])) k b λe l i=>?_]
 rwa[wm (s:=(s<*e)) l λm c g=>h m (eQ.step (fl:=.none) I os bare un aM n j ([a]▸c) (i.trans g))]
def eQ.again (t:eQ X pins σ H' x C dx s)(h:∀b,eQ X pins σ H' x C dx (s<*b)->U () (s<*b)):
 X⁻¹ A (setFlight ↑x none) U E s:=by
 let⟨B,f,g,I,os,bare,fl,un,aM,d,c⟩:=t;rwa[wm fl λe a u=>h e (eQ.step (fl:=.none) I os bare un aM d c a u)]
def eQ.inv (t:eQ X pins σ H' x C dx s):Inv X pins σ H' s:=by
 let⟨B,c,d,I,os,bare,fl,un,aM,e,a⟩:=t;rwa[I.FD (ch:=[]) os un (aM.kept fl.1) bare (λb z=>absurd z (by simp))]
def eQ.none (t:eQ X pins σ H' x C dx s):H' x=none:=by
 let⟨B,c,d,I,os,bare,fl,un,aM,f,b⟩:=t
 cases e:H' x with
 |none=>rfl
 |some u=>
  let⟨o,a⟩:=(aM x u e).get;rw[fl.2.1]at a;ext a
def eQ.at (t:eQ X pins σ H' x C dx s):zv x C dx false s.heap:=by
 let⟨B,e,f,I,os,bare,fl,un,aM,g,d⟩:=t;let⟨_,_,_,c,a,_,_,_,b,hc,hd,_⟩:=fl;rwa[c,a,b,hc.1,hc.2,hd,λz=>by ext z]
def eQ.aaR (t:eQ X pins σ H' x C dx s):Inv X pins σ (upd H' x (XO x C dx false)) s:=by
 let F:=t.none;let h:=t.at;let⟨B,D,E,I,os,bare,fl,un,aM,l,y⟩:=t;let⟨r,p,G,_,_,hd,_⟩:=id h;let ne:∀b u,H' b\u->b≠x:=λb u e z=>by cbv
 rwa[I.FD (ch:=[]) os ⟨un.keep,un.slot,λb o d f k=>?_,un.there,λb g e=>?_,λb o u e=>?_,λb j e=>?_⟩ (λb u e=>?_) bare (λb z=>absurd z (by simp))]
 ·rwa[(ak ?_).trans (un.free b o d f k)];rintro rfl;cases a:b∈cK X.stack
  ·let⟨w,i,A⟩:=I.Nn a;rw[d]at i;ext i;let⟨sl,n⟩:=un.slot b o d f a (by simp)
   cbv
  ·have:=l b o d f a;rw[fl.2.1]at this
   cbv
 ·have:=un.ie b g e;rw[ak (ne^this)];ext
 ·have:=un.gH b o u e;rw[ak (ne^this)];ext
 ·let⟨m,this⟩:=un.ig b j e;rwa[m,by rw[ak (ne^this)];ext]
 ·cases a:b=x
  ·subst a;rw[ah]at e;ext e;rwa[An h]
  ·rw[ak a]at e;rwa[(aM b u e).ft (λc v _ q=>fl.1 c v q) (λc q=>[ak (ne^q)]▸q) λc g q=>[ak (ne^q)]▸q]
end
abbrev IU:=Zs->Zo->St->Hp->Prop
abbrev By:=St->Hp->VK->IU->Prop
abbrev wx:=Ends->IU->St->Hp->Prop
def TQ (X:Cx)(a:List (Zs×Obj))(R:IU)(e:Zt)(s:Zu):Prop:=∃x C b c H,e=↑x/\eQ X a c H x C b s/\R C b c H
def NC (X:Cx)(e:Expr)(t:By):Prop:=
 ∀(a:List (Zs×Obj)) (s:Zu) (b:St) (H:Hp) (Q:VK) (R:IU),Inv X a b H s->t b H Q R->X⁻¹ X.A (eval e X.env) (EP X a b Q) (TQ X a R) s
def Bz (X:Cx)(st:Stmt)(t:wx):Prop:=
 ∀(a:List (Zs×Obj)) (s:Zu) (b:St) (H:Hp) (D:Ends) (R:IU),Inv X a b H s->t D R b H->X⁻¹ X.A (exec st X.env) (SP X a D) (TQ X a R) s
section
variable {X:Cx}{k:Nat}{f:Zs}{fd:FuncData}{ps:Zp}{sp:Sp}{x:Str}{p pos:Pos}{e:Expr}{es:Zr}{t:TA}{ds:Zk}{dvs:Zb}
def TR (sp:Sp)(dvs:Zb)(t:TA):By:=λ a H Q R=>t a H λd g=>sp (d++dvs) g Q λc h b=>∃C,c=↑C/\R C h a b
theorem BD (F:du X.prog X.w X.K X.mg X.base (cY X.prog X.w) k f fd ps sp)(N:cw k X.A)(E:Gl X x)(P:X.mg x\↑f)(G:PySem.W.keepIn X.K ↑f=true)(D:Binds X.K fd ps ds)(A:Vals dvs ds)
 (W:PA X.qD (e::es) t) (m:(x==("__debug__":Str))=false:=by decide) (U:starEach (e::es) X.env=(false,eval e X.env)::starEach es X.env:=by rfl) (g:(backTo pos (starEach es X.env)).any (·.1)=false:=by rfl):
 NC X (.Call (.Name x p) (e::es) [] pos) (TR sp dvs t):=by
 intro b s j H Q R I h;rwa[aiz (gb I E P ?_ m)];rwa[ajJ (h₀:=X.base) I.ok.mod.qC G (aiv (W pos b s j H _ (I.wish _) h) (λd i ζ=>?_) λ_ _ z=>False.elim z) U g];let⟨o,v,n,r,q⟩:=ζ;rwa[⟨n.dg,5⟩];let J:=n.gU;let w:Vals (o++dvs) (d++ds):=r.append A;let M:⇑(d++ds)=⇑ps:=by rw[<-⇑w];rwa[F.len _ _ _ _ q]
 rwa[ajt (ajz (F.run X.A X.stack i v ⟨d,[]⟩ (d++ds) (o++dvs) Q _ N J.uO (D i d J.dg M) w q) λr B a=>?_)]
 cases r with
 |error e=>
  let a:cY X.prog X.w X.stack v i (λc l S=>∃C,c=Value.ref C/\R C l j S) e B:=a;let⟨x,C,l,Y,rfl,L,Z,T,z⟩:=eQ.of J a;ext T;rwa[x,C,l,j,Y,2,L,z]
 |ok O=>
  cases O with
  |ret u=>exact J.after a
  |next=>exact False.elim a
  |brk=>exact False.elim a
  |cont=>exact False.elim a
def WK (i:Nat)(b:By):wx:=λD R a H=>b a H (λv c=>D.nx (a.set i (some v)) c) R
def EY {x:Str}{b:By}{pos':Pos}(w:X.N.Nodup)(o:X.N[i]?\x)(r:Loc X.env.scope x)(u:NC X e b)(n:swapsWith e (some (.Name x pos')) pos.line X.env=pure false:=by rfl)(l:X.fn x=true\/X.env.scope.names.lookup x=some .local:=by trivial):
 Bz X (.Assign [.Name x pos'] e pos) (WK i b):=by
 intro a s q H D R I h;rwa[wpAny_Assign_Name (aY (u a s q H _ R I h) λv A ζ=>?_) n];let⟨y,m,d,c,g⟩:=ζ;rwa[pS d w o r c (λz j=>⟨_,m,j,g⟩) l]
def aaS (c:TT)(t u:wx):wx:=λD R a H=>c a H λb d=>if b=true then t D R a d else u D R a d
def TV {c:Expr}{a b:Stmt}{o:TT}{u w:wx}(E:PT X.qD c o)(C:Bz X a u)(y:Bz X b w):Bz X (.If c [a] [b] pos) (aaS o u w):=by
 intro g s l H D R I h
 let one:∀{st:Stmt} {m:wx} {j:Zu} {i:Hp},Bz X st m->Inv X g l i j->m D R l i->X⁻¹ X.A (execs [st] X.env) (SP X g D) (TQ X g R) j:=λ{st m j i} A J q=>
  wpAny_execs_cons (aY (A g j l i D R J q) λB F z=>by
   cases B with
   |next=>exact ajT z
   |ret v=>exact z
   |brk=>exact z
   |cont=>exact z)
 rwa[wpAny_If (aiv (E g s l H _ (I.wish _) h) (λd j ζ=>?_) λ_ _ z=>False.elim z)];let⟨i,n,r⟩:=ζ
 cases d with
 |true=>exact one C n.gU r
 |false=>exact one y n.gU r
end
abbrev zy:=Ends->Zs->Zo->St->Hp->Prop
def ND (X:Cx)(d:List ExceptHandler)(t:zy):Prop:=
 ∀(a:List (Zs×Obj)) (s:Zu) (c:St) (H:Hp) (x C:Zs) (b:Zo) (D:Ends),eQ X a c H x C b s->t D C b c H->X⁻¹ X.A (handleBy ↑x X.env d) (SP X a D) X.xe s
section
variable {X:Cx}{y n:Str}{Y:Zs}{np pos:Pos}{FW:Stmt}{suite:List Stmt}{rest:List ExceptHandler}{tb:TS}{tr:zy}{i:Nat}
def WL (K:Za1)(Y:Zs)(i:Nat)(tb:TS)(tr:zy):zy:=λD C d e H=>∃b,PySem.W.exmOne K ↑C ↑Y\b/\
 if b=true then ∀x,H x=none->tb { nx:=λ a c=>D.nx (a.set i none) c,rt:=D.rt,bk:=λ a c=>D.bk (a.set i none) c,ct:=λ a c=>D.ct (a.set i none) c } (e.set i (some ↑x)) (upd H x (XO x C d false)) else tr D C d e H
def IV (l:X.N.Nodup)(k:X.N[i]?\n)(g:X.env.scope.names.lookup n=some .local)(B:Gl X y)(N:X.mg y\↑Y)(A:∀x,iS (X.zb x) (FW :: suite) tb)(G:ND X rest tr)(w:(y==("__debug__":Str))=false:=by decide):
 ND X (.ExceptHandler (some (.Name y np)) (some n) (FW :: suite) pos::rest) (WL X.K Y i tb tr):=by
 intro a s M H x C O D j h;let⟨b,p,h⟩:=h;let I:=j.inv;rwa[wpAny_handleBy_cons (codeAny_handlers_test ?_) f!""];rwa[gb (X:=X.zb x) (I.zb x) B N ?_ w];rwa[PySem.W.exm_one I.dg j.at.ex.FX p _ _ _ _ (λ_ _ e=>e) ?_]
 cases b with
 |false=>exact G a s M H x C O D j h
 |true=>
  let h:=h x j.none;rwa[codeAny_handlers_suite_as (j.again λP o=>?_)];let J:=o.aaR;rwa[pS (X:=X.zb x) (J.zb x) l k (.inl g) (v:=↑x) rfl (λE F=>?_) (.inr g)];rwa[aiv (A x a E _ _ _ F h) (λL Q q=>?_) λ_ _ z=>False.elim z]
  cases L with
  |next=>let⟨f,t,d,q⟩:=q;rwa[tD (d.Am I.ok) l k g λm c=>⟨11,c,q⟩]
  |brk=>let⟨f,t,d,q⟩:=q;rwa[tD (d.Am I.ok) l k g λm c=>⟨11,c,q⟩]
  |cont=>let⟨f,t,d,q⟩:=q;rwa[tD (d.Am I.ok) l k g λm c=>⟨11,c,q⟩]
  |ret u=>let⟨v,f,t,d,r,q⟩:=q;rwa[tD (d.Am I.ok) l k g λm c=>⟨v,11,c,r,q⟩]
def WM:zy:=λ_ _ _ _ _=>False
def IW:ND X rest WM:=λ_ _ _ _ _ _ _ _ _ h=>h.elim
def WN (t:wx)(c:zy):TS:=λD e H=>t D (λC d a b=>c D C d a b) e H
def EZ {st:Stmt}{t:wx}{b:ExceptHandler}{j:List ExceptHandler}{c:zy}(d:X.stack=X.env::X.outer)(l:X.env.frame\X.env.locals)(k:Bz X st t)(o:ND X (b :: j) c):
 PS X (.Try [st] (b :: j) [] [] pos) (WN t c):=by
 intro a s u H D I h;rwa[wpAny_Try_except (wpAny_execs_cons (aiv (k a s u H D _ I h) (λp r q=>?_) λe r q=>?_))]
 ·cases p with
  |next=>exact ajT (ajT q)
  |ret v=>exact q
  |brk=>exact q
  |cont=>exact q
 ·let⟨x,C,w,g,m,rfl,c,q⟩:=q;rwa[c.look d l I.ok.frames λz f=>o a _ g m x C w D f q]
end
def Gh (K:Za1)(C:Zs):Bool:=match PySem.W.findIn K ↑C "__init__" with
 |some (some ↑f)=>uZ K C f
 |_=>false
def yj (h:Gh K a=true)(e:PySem.W.findIn K ↑a "__init__"=some (some ↑b)):uZ K a b=true:=by
 unfold Gh at h;rw[e]at h;rwa[h]
structure aaT (K:Za1) (x qual:Str) (st:Stmt) (f:Zs) (fd:FuncData) (dV:Zt):Prop where
 ex:∃(oc:Zt) (od:Zo) (kV doc pm:Zt) (an:Zo) (cC ct:Zt) (AO:Array Zl),
  fd=PySem.W.fnOf x qual (cP st) (bW st) (aB st) dV kV doc pm an cC ct/\K.lookup f\⟨oc,od,.func fd,AO⟩/\PySem.W.codeIn K cC qual=true
 kp:PySem.W.keepIn K ↑f=true
structure yk (K:Za1) (mg:Str->Zl) (x:Str) (st:Stmt) (ps:Zp) (f:Zs) (fd:FuncData) (d:Str):Prop where
 F:∃dV,aaT K x x st f fd dV
 kp:PySem.W.keepIn K ↑f=true
 m:mg x\↑f
 b:Binds K fd ps []
 bd:∃t,Binds K fd ps [.str d t]
section
variable {P:Program}{w:World}{K:Za1}{mg:Str->Zl}{base:Heap}
theorem yk.TK {st:Stmt}{fd:FuncData}{e:Zp}{k:Nat}{sp:Sp}(D:yk K mg x st e a fd f)(S:aT Z e (aB st))(len:∀c H Q E,sp c H Q E->⇑c=⇑e)
 (d:∀(b:Zt) (A:Around) (outer:Zq) (s:Zu) (H:Hp) (c:Zb) (Q:VK) (E:XK),cw k (A.deeper (envOfC x (aB st) ↥s a b))->sp c H Q E->
  ∃t,iS (cF (cY P w) P w K mg base Z x (aB st) a b A outer s H E) (bW st) t/\t { nx:=λ_ j=>Q .non j,rt:=Q } (start Z c) H):du P w K mg base (cY P w) (k+ 1) a fd e sp:=by
 let⟨p,F⟩:=D.F;let⟨m,o,kV,doc,pm,n,b,ct,l,rfl,lk,h⟩:=F.ex;rwa[Al lk h S len λA outer s H c Q E i g=>d b A outer s H c Q E i g]
def yk.of {st:Stmt}{y d:Zo}{j r:Array Zl}{kV doc pm ct A:Zt}{dd:Zo}{t:Tok}(X:K.In h)(G:h.Ns mainGlobals mg)(e:PySem.W.nsIn K mainGlobals x\some ↑a)(l:K.lookup a\⟨v,y,.func (PySem.W.fnOf x x (cP st) (bW st) (aB st) ↑b kV doc pm d u ct),j⟩)(c:PySem.W.codeIn K u x=true)(k:PySem.W.keepIn K ↑a=true)
 (lt:K.lookup b\⟨A,dd,.seq #[.str f t] n,r⟩)
 (g:∀(kV doc pm:Zt) (d:Zo) (u ct:Zt) (us:Zk),⇑us=⇑Z->∃i:Option Zm->Sem (List (Str×Zt)),bindArgs (PySem.W.fnOf x x (cP st) (bW st) (aB st) ↑b kV doc pm d u ct) ⟨us,[]⟩=seqItems? ↑b >>=i/\i (some #[.str f t])=pure (Z.zip us))
 (z:∀(kV doc pm:Zt) (d:Zo) (u ct:Zt) (us:Zk),⇑us+ 1=⇑Z->∃i:Option Zm->Sem (List (Str×Zt)),bindArgs (PySem.W.fnOf x x (cP st) (bW st) (aB st) ↑b kV doc pm d u ct) ⟨us,[]⟩=seqItems? ↑b >>=i/\i (some #[.str f t])=pure (Z.zip (us++[.str f t]))):
 yk K mg x st Z a (PySem.W.fnOf x x (cP st) (bW st) (aB st) ↑b kV doc pm d u ct) f:=by
 rwa[⟨⟨_,⟨v,y,kV,doc,pm,d,u,ct,j,2,l,c⟩,k⟩,k,PySem.W.mg_of X G e,λs us p m=>?_,t,λs us p m=>?_⟩]
 ·rw[aib]at m ⊢;let⟨i,q,o⟩:=g kV doc pm d u ct us m;rwa[BindsTo.of_defaults (T:=b) rfl (p^lt) rfl q o]
 ·let⟨i,q,o⟩:=z kV doc pm d u ct us (by simpa using m);rwa[BindsTo.of_defaults (T:=b) rfl (p^lt) rfl q o]
end
end L2
namespace L2
def Gi {c:Nat}{g:Zg}(b:S.Wf):(S.make c z g).stand=S.stand+ 1:=by
 unfold RS.stand;show (~~~(S.q+ 1)).countP _=_;rw[ajf,ajg,ajq]
 let d:(S.make c z g).aw S.q=S.q:=by
  show (S.grown c z g).aw S.q=S.q;rw[fA b,ah4 rfl]
 rw[show decide ((S.make c z g).aw S.q=S.q)=true from ah9 d,ah4 rfl]
 congr 1
 rwa[List.countP_congr λa e=>?_]
 have:(S.make c z g).aw a=S.aw a:=by
  show (S.grown c z g).aw a=S.aw a;rw[fA b,ahY (by have:=ais.mp e;omega)]
 rw[this]
def LW (hw:S.Wf)(d:n<S.q):(S.make n z l).by m y=if m=S.q/\y= -z then some n else if m=n/\y=z then some S.q else S.by m y:=by
 unfold RS.make RS.keep;let b:(S.grown n z l).ways.length=S.q+ 1:=by show ⇑(S.ways++[[]])=_;rw[ahA,hw.w];rfl
 let c:∀a s,(S.grown n z l).by a s=S.by a s:=λa s=>by unfold RS.by;rw[nB hw]
 show (((S.grown n z l).cj n z S.q).cj S.q (-z) n).by m y=_;rw[jy (by show ⇑((S.grown n z l).ways.set n _) > _;rw[ah6,b];omega),jy (by rw[b];omega),c]
def zz (h:fD S)(g:S.Wf)(c:Nat)(z:Int)(f:Zg):fD (S.make c z f):=by
 let e:∀b,(S.make c z f).aw b=if b=S.q then S.q else S.aw b:=λb=>fA g c z f b
 rwa[⟨λb a d=>?_,λb a=>?_,λb a=>?_⟩]
 ·let a:b<S.q+ 1:=a;rw[e]at d;cases q:b=S.q
  ·cbv
  ·rw[ahY q]at d;rwa[h.a b ∅ d]
 ·let a:b∈S.a9:=a;have:=h.c b a;rw[e,ahY ∅];rwa[h.b b a]
 ·let a:b∈S.a9:=a;have:=h.c b a;show b<S.q+ 1;ext
def E3 (d:Dt):Prop:=(∃n,d=.i n)\/∃l,d=.s l
def E3.low {k:Nat}{d:Dt}(h:E3 d)(a:bQ H k q d):bQ H n q d:=by
 rcases h with ⟨b,rfl⟩|⟨l,rfl⟩
 ·ext a;rwa[.i]
 ·ext a;rwa[.s]
def Qr {k:Nat}{b:List Dt}(h:∀x∈b,E3 x)(a:bQ H (k+ 1) q (.t b)):bQ H (n+ 1) q (.t b):=by
 cases a with
 |t g f i=>exact .t g f λj q d e c=>(h d (ahB c)).low (i j q d e c)
def Dp (d:Dt):Prop:=∃a,d=.t a/\∀x∈a,E3 x\/∃as,x=.t as/\∀y∈as,E3 y
def Dp.low {d:Dt}(h:Dp d)(b:bQ H 4 q d):bQ H 2 q d:=by
 let⟨k,rfl,h⟩:=h
 cases b with
 |t g f i=>
  rwa[.t g f λj q d e c=>?_]
  let b:=i j q d e c;rcases h d (ahB c) with a|⟨as,rfl,a⟩
  ·rwa[a.low b]
  ·rwa[Qr a b]
def E4 {a:List Dt}(h:∀x∈a,E3 x):Dp (.t a):=⟨a,rfl,λx b=>.inl (h x b)⟩
def TX (c:Nat)(z:Int)(n:Nat):Dp (kK c z n):=E4 λx a=>by
 simp only[ahR,ail,ajN]at a;rcases a with rfl|rfl|rfl|rfl
 ·rwa[.inr ⟨_,rfl⟩]
 all_goals rwa[.inl ⟨_,rfl⟩]
def TY {e:Za3}{b:Zh}{W:Za2}{row:Dt}(h:One e n B W row b R):Dp row:=by
 cases h with
 |meet=>
  rwa[E4 λx a=>?_]
  simp only[ahR,ail,ajN]at a;rcases a with rfl|rfl|rfl|rfl|rfl
  ·rwa[.inr ⟨_,rfl⟩]
  all_goals rwa[.inl ⟨_,rfl⟩]
 |rule=>
  rwa[⟨12,λx a=>?_⟩];simp only[ahR,ail,ajN]at a;rcases a with rfl|rfl|rfl|rfl
  ·rwa[.inl (.inr ⟨_,rfl⟩)]
  ·rwa[.inl (.inl ⟨_,rfl⟩)]
  ·rwa[.inr ⟨_,rfl,λy d=>?_⟩];let⟨c,_,rfl⟩:=aiB.mp d;rwa[.inl ⟨12⟩]
  ·rwa[.inl (.inl ⟨12⟩)]
def WO {e:Za3}{c:Zh}{W:Za2}{b:List Dt}(h:Go e n B W b c R):∀x∈b,Dp x:=by
 induction h with
 |nil=>cbv
 |cons o _ d=>
  intro x a;rcases ahR.mp a with rfl|a
  ·rwa[TY o]
  ·rwa[d x a]
section
variable {S S':RS}{R:Za2}{ks:Zg}{pend:Ze}
def kc.gap (l:kc S pend S'):Good S pend R->(∀c z d,R c z d->z∈ks)->eP S R ks->eP S' R ks:=by
 induction l with
 |nil S=>exact λ_ _ h=>h
 |take _ b=>
  intro g a h;rwa[b (g.take a).1 a (h.take g)]
def kc.wr (l:kc S pend S'):Good S pend R->(∀c z d,R c z d->z∈ks)->⇑S.a9<=⇑S.rows->⇑S'.a9<=⇑S'.rows:=by
 induction l with
 |nil S=>exact λ_ _ h=>h
 |take _ i=>
  intro g e h;let⟨f,_,_,_,q⟩:=g.take e;rwa[i f e ?_];rcases q with ⟨_,a,b⟩|⟨_,_,_,_,_,_,_,_,_,_,a,b,_⟩
  ·rw[a,b];rwa[h]
  ·rw[a,b,ahA,ahA,aiM,aiM];ext
structure YS (S:RS) (L:Nat) (ks:Zg) (R:Za2):Prop where
 g:Good S [] R
 w:fD S
 k:∀a z b,R a z b->z∈ks
 gi:eP S R ks
 l:S.L=L
 m:0<S.q
 d:∀x∈S.rows,Dp x
 wr:⇑S.a9<=⇑S.rows
def YS.new {L:Nat}{ks:Zg}:YS (RS.new L ks) L ks (λ_ _ _=>False):=by
 rwa[⟨uT L _,⟨λc hc e=>?_,(λc hc=>by ext hc),(λc hc=>by ext hc)⟩,(λ_ _ _ z=>z.elim),P0 L _,2,Nat.one_pos,(λx a=>by ext a),ahG _⟩];have:c=0:=by have:c<1:=hc;ext
 subst this;rwa[absurd rfl e]
def YS.make (h:YS S n ks R)(hc:m<S.q)(f:S.aw m=m)(g:S.by m z=none)(hz:z∈ks)(c: -z∈ks):YS (S.make m z ks) n ks (fO R m z S.q):=by
 erw[h.g.make hc f g _,zz h.w h.g.wf _ _ _,λa y b r=>?_,h.gi.make h.g hc f g,h.l,Nat.succ_pos _,λx d=>?_]
 ·rcases r with r|⟨_,e,_⟩|⟨_,e,_⟩
  ·rwa[h.k _ _ _ r]
  ·rw[e];rwa[hz]
  ·rw[e];rwa[c]
 ·let d:x∈S.rows++[kK m z S.q]:=d;rcases ahL.mp d with p|p
  ·rwa[h.d x p]
  ·rw[ahH.mp p];rwa[TX^_]
 ·show ⇑S.a9<=⇑(S.rows++[_]);rw[ahA];have:=h.wr;ext
def YS.tr {ws:Za3}(t:Tr ws m S S')(o:∀w∈ws,∀z∈w,z∈ks/\-z∈ks)(h:YS S n ks R):∃u,YS S' n ks u/\S'.q=S.q/\(∀a z b,R a z b->u a z b)/\∃v,S'.rows=S.rows++v/\∃E W B F,Go ws m E W v B F:=by
 induction t with
 |refl=>rwa[R,h,2,λ_ _ _ r=>r,[],(aib _).symm,1111,.nil (E:=S.aX) (W:=λ_ _ _=>False) λ_ _ _=>Iff.rfl]
 |step L ra j P=>
  rename_i k Z which word start f c d z;let⟨C,g,M,N,O,e1,E,W,B,F,g1⟩:=P;let hz:=o word (ahB ra.w) z (ahB ra.hz)
  let i:∀a y b,fO C c z d a y b->y∈ks:=by
   rintro a y b (r|⟨_,e,_⟩|⟨_,e,_⟩)
   ·rwa[g.k _ _ _ r]
   ·rw[e];rwa[hz.1]
   ·rw[e];rwa[hz.2]
  let gl:=g.g.lay z ra.hc.1 ra.hd.1 (p7 k which word start f d).rows;let⟨I,Q,A,l2,_⟩:=j.all gl i ⟨g.w.a,g.w.b,g.w.c⟩;let gp:=j.gap gl i ((g.gi.more λa y b r=>.inl r).rows _);let⟨u,X,T,Y,H,J,p⟩:=Nu (Tr.step (Tr.refl k) ra j) (R:=C) o g.g g.w g.k;let⟨R0,U,w0,V,l,G,s⟩:=Nu (Tr.step L ra j) (R:=R) o h.g h.w h.k;rwa[⟨_,⟨I,Q,i,gp,l2.trans g.l,[A]▸g.m,λx D=>?_,j.wr gl i (by show ⇑k.a9<=⇑(k.rows++[_]);rw[ahA];have:=g.wr;omega)⟩,A.trans M,λa y b r=>.inl (N _ _ _ r),l,G,1111,s⟩];rw[J]at D;rcases ahL.mp D with q|q
  ·rwa[g.d x q]
  ·rwa[WO p x q]
end
def isNew:Dt->Bool
 |.t (.s l::_)=>decide (l=[110,101,119])
 |_=>false
def Qs {b:Za3}{a:Zh}{W:Za2}{row:Dt}(h:One b n B W row a R):isNew row=false:=by
 cases h <;> rfl
def IX {c:Za3}{a:Zh}{W:Za2}{ms:List Dt}(h:Go c n B W ms a R):ms.countP isNew=0:=by
 induction h with
 |nil=>rfl
 |cons o _ b=>rw[ala,b,Qs o];rfl
def Qt (c:Nat)(z:Int)(n:Nat):isNew (kK c z n)=true:=rfl
def CI.make {bs:List (Nat×Zg×Nat)}{gs:Zf}{W:bD}(h:CI S bs gs [] W fQ none)(d:Good S [] R)(hc:n<S.q)(x:S.aw n=n)(A:S.by n z=none)(f:∀b∈bs,b.2.2<S.q)(g:Zg):CI (S.make n z g) bs gs [] W (λr s=>r=n/\s=z) none:=by
 let i:=d.make hc x A g;let k:S.q<=(S.make n z g).q:=ajE _;let lt:=Later.of d i iz k;let el:∀b,b<S.q->(S.make n z g).aw b=S.aw b:=λb c=>(fA d.wf n z g b).trans (ahY ∅)
 rwa[⟨h.len,λa u q=>?_,λa b B I m=>?_,(λa j=>by ext j),λr s a q=>?_,h.sl,h.bd⟩]
 ·let⟨C,v,E⟩:=h.al a u q;rwa[C,v.later lt k,E]
 ·let c:=f b (ahB m);rw[el _ c];rcases h.de a b B I m with w|w
  ·rwa[.inl w]
  ·cases e:S.aw b.2.2=b.2.2
   ·right
    have:=lt.wk w;rw[el _ c,e]at this;rwa[this]
   ·rwa[.inl e]
 ·let⟨l,p,G,D,o,j,F,w⟩:=h.en r s a q;erw[l,p,G,D,ah5 o k,j,F];rcases w with ⟨t,H⟩|w
  ·cases e:l=n/\s=z
   ·rwa[.inr e]
   ·left
    rw[el _ o,LW d.wf hc,ahY (λy=>by omega),ahY e];rwa[t,H]
  ·rwa[w.elim]
noncomputable def pw (s:Int)(n:Nat):Zg:=List.replicate n s
def Gj (h:(pw z n)[m]?\y):m<n/\y=z:=by
 unfold pw at h;rw[List.getElem?_replicate]at h;split at h
 ·rwa[3,(Za0 h).symm]
 ·ext h
structure Pth (S:RS) (P:Nat->Int) (lo:Int):Prop where
 el:∀c,c<S.q->S.aw c=c
 rg:∀c,c<S.q->lo<=P c/\P c<lo+ S.q
 on:∀t:Int,lo<=t->t<lo+ S.q->∃c,c<S.q/\P c=t
 inj:∀a b,a<S.q->b<S.q->P a=P b->a=b
 by_:∀a z b,S.by a z=some b->(z=1\/z= -1)/\P b=P a+ z
 ch:∀a b,a<S.q->b<S.q->P b=P a+ 1->S.by a 1=some b
section
variable {S:RS}
structure Rng (S:RS) (G:Int->Nat) (M:Nat):Prop where
 st:∀t,S.by (G t) 1=some (G (t+ 1))
 pm:∀t,G (t+ M)=G t
end
def Per (G:Int->Nat)(k:Int):Prop:=∀t,G (t+ k)=G t
def UR (d:Nat)(p:Nat)(z:Int)(q:Nat):Prop:=p<d/\q<d/\(d:Int)∣(p:Int)+ z - q
end L2
namespace L2
open PySem PySem.Spec PyProof.Rows
inductive T1 (K:Za1) (xs:Zb) (H:Hp) (Q:VK):Prop
 |mk (l:Zs) (ns:Zg):xs=[↑l]->aH K H l (ao ns)->⇑ns<64->(∀D ms,H D=none->ms.Perm ns->ms.Pairwise (·<= ·)->Q ↑D (upd H D (.lst (ao ms))))->T1 K xs H Q
inductive Qu (x:V) (vs:Zb) (H:Hp) (Q:VK):Prop
 |mk (a:Zs) (ns:Zg) (k:Int):x=↑a->vs=[.int k]->H a\.lst (ao ns)->Q (.int (ns.count k:Nat)) H->Qu x vs H Q
abbrev Def.Ok {K:Za1} {mg:Str->Zl} {x:Str} {st:Stmt} {ps:Zp} {f:Zs} {fd:FuncData} (_:Def K mg x st ps f fd) (P:Program) (w:World) (base:Heap) (k:Nat) (sp:Sp):Prop:=du P w K mg base (cY P w) k f fd ps sp
abbrev MDef.Ok {K:Za1} {C:Zs} {x q:Str} {st:Stmt} {ps:Zp} {f:Zs} {fd:FuncData} (_:MDef K C x q st ps f fd) (mg:Str->Zl) (P:Program) (w:World) (base:Heap) (k:Nat) (sp:Sp):Prop:=du P w K mg base (cY P w) k f fd ps sp
section
variable {P:Program}{w:World}{K:Za1}{mg:Str->Zl}{base:Heap}{x q:Str}{st:Stmt}{ps N:Zp}{f C:Zs}{fd:FuncData}{k:Nat}{sp:Sp}
def Def.on (D:Def K mg x st ps f fd)(S:aT N ps (aB st))
 (a:∀(b:Zt) (A:Around) (outer:Zq) (s:Zu) (H:Hp) (c:Zb) (Q:VK) (E:XK),cw k (A.deeper (envOfC x (aB st) ↥s f b))->sp c H Q E->
  ∃t,iS (cF (cY P w) P w K mg base N x (aB st) f b A outer s H E).qD (bW st) t/\t { nx:=λ_ d=>Q .non d,rt:=Q } (start N c) H) (len:∀c H Q E,sp c H Q E->⇑c=⇑ps:=by intro _ _ _ _ h;rcases h with ⟨⟩;subst_vars;rfl):D.Ok P w base (k+ 1) sp:=D.F.okN S len a
def MDef.on (D:MDef K C x q st ps f fd)(S:aT N ps (aB st))
 (a:∀(b:Zt) (A:Around) (outer:Zq) (s:Zu) (H:Hp) (c:Zb) (Q:VK) (E:XK),cw k (A.deeper (envOfC q (aB st) ↥s f b))->sp c H Q E->
  ∃t,iS (cF (cY P w) P w K mg base N q (aB st) f b A outer s H E).qD (bW st) t/\t { nx:=λ_ d=>Q .non d,rt:=Q } (start N c) H) (len:∀c H Q E,sp c H Q E->⇑c=⇑ps:=by intro _ _ _ _ h;rcases h with ⟨⟩;subst_vars;rfl):D.Ok mg P w base (k+ 1) sp:=D.F.okN S len a
end
section
variable {X:Cx}{x q m:Str}{st:Stmt}{ps:Zp}{f C:Zs}{fd:FuncData}{k j i:Nat}{sp:Sp}{e o:Expr}{es:Zr}{t:TA}{ta te:TE}{p pos pos' apos:Pos}
def pc (D:Def X.K X.mg x st ps f fd)(F:du X.prog X.w X.K X.mg X.base (cY X.prog X.w) k f fd ps sp)(g:cw j X.A)(d:PA X (e::es) t)(hj:k<=j:=by decide)(h:Gl X x:=by rfl)(b:(x==("__debug__":Str))=false:=by decide)(c:starEach (e::es) X.env=(false,eval e X.env)::starEach es X.env:=by rfl)(a:(backTo pos (starEach es X.env)).any (·.1)=false:=by rfl):
 PE X (.Call (.Name x p) (e::es) [] pos) (M4 sp [] (λ_ _ _=>False) t):=xR F (g.mono hj) h D.m D.F.kp D.b .nil gq d b c a
def pm {pl:Sem Bool}(g:PE X o ta)(c:jZ X.K C)(D:MDef X.K C m q st ps f fd)(F:du X.prog X.w X.K X.mg X.base (cY X.prog X.w) k f fd ps sp)(n:cw j X.A)(l:PA X (e::es) t)(h:k<=j:=by decide)(a:starEach (e::es) X.env=(false,eval e X.env)::starEach es X.env:=by rfl)(b:(backTo pos (starEach es X.env)).any (·.1)=false:=by rfl)
 (r:eval (.Call (.Attribute o m apos) (e::es) [] pos) X.env=(do
  let d <-eval o X.env
  standAt apos.atName
  let (f,first) <-holding [d] (getMethod d m pl)
  callWith pos f first (backTo pos (starEach (e::es) X.env)) (backToKw pos (keywordEach [] X.env))):=by rfl):
 PE X (.Call (.Attribute o m apos) (e::es) [] pos) (ku C m sp [] (λ_ _ _=>False) ta t):=j7 g c D.m F (n.mono h) D.b .nil gq l a b r
def wy {pl:Sem Bool}(b:PE X o ta)(c:jZ X.K C)(D:MDef X.K C m q st ps f fd)(F:du X.prog X.w X.K X.mg X.base (cY X.prog X.w) k f fd ps sp)(g:cw j X.A)(d:k<=j:=by decide)
 (h:eval (.Call (.Attribute o m apos) [] [] pos) X.env=(do
  let a <-eval o X.env
  standAt apos.atName
  let (f,first) <-holding [a] (getMethod a m pl)
  callWith pos f first (backTo pos (starEach [] X.env)) (backToKw pos (keywordEach [] X.env))):=by rfl):
 PE X (.Call (.Attribute o m apos) [] [] pos) (ku C m sp [] (λ_ _ _=>False) ta j6):=Kv b c D.m F (g.mono d) D.b .nil gq h
def bC (i:Nat)(d:X.N.Nodup)(b:PE X e te)(g:X.N[i]?\x:=by rfl)(h:Loc X.env.scope x:=by trivial)(c:swapsWith e (some (.Name x pos')) pos.line X.env=pure false:=by rfl)(a:X.fn x=true\/X.env.scope.names.lookup x=some .local:=by trivial):
 PS X (.Assign [.Name x pos'] e pos) (xQ te (nh i)):=Rj d g h b c a
def dW (i:Nat)(a:X.N.Nodup)(b:X.N[i]?\x:=by rfl)(c:Loc X.env.scope x:=by trivial)(d:X.fn x=true\/X.env.scope.names.lookup x=some .local:=by trivial):PG X (.Name x pos) (nh i):=Ei a b c d
end
inductive WQ (x:V) (y:V) (H:Hp) (Q:VK):Prop
 |mk (a b:Zs) (xs:Zb):x=↑a->y=↑b->H a\.lst xs->H b\.lst []->Q (.bl (!decide (⇑xs=0))) H->WQ x y H Q
section
variable {X:Cx}{k:Nat}{f C:Zs}{fd:FuncData}{ps:Zp}{sp:Sp}{x d:Str}{p pos b9 kp:Pos}{e kv:Expr}{es:Zr}{t tk:TA}
def IY (K:Za1)(fd:FuncData)(ps:Zp)(d:Str):Prop:=∀(s:Zu) (a:Zk) (v:Zt),K.In s.heap->⇑(a++[v])=⇑ps->BindsTo s fd { pos:=a,kw:=[(d,v)] } (ps.zip (a++[v]))
def Qw (sp:Sp)(t tk:TA):By:=λ a H Q R=>t a H λg h=>tk a h λj b=>∃w,j=[w]/\sp (g++[w]) b Q λc i l=>∃C,c=↑C/\R C i a l
theorem IZ (F:du X.prog X.w X.K X.mg X.base (cY X.prog X.w) k f fd ps sp)(hr:cw k X.A)(O:Gl X x)(hm:X.mg x\↑f)(T:PySem.W.keepIn X.K ↑f=true)(N:IY X.K fd ps d)
 (ha:PA X.qD (e::es) t) (l:PK X.qD [⟨some d,kv,kp⟩] tk) (w:(x==("__debug__":Str))=false) (he:starEach (e::es) X.env=(false,eval e X.env)::starEach es X.env)
 (m:((backTo pos (starEach (e::es) X.env)).any (·.1) || (backToKw pos (keywordEach [⟨some d,kv,kp⟩] X.env)).any (·.1.isNone))=false):
 NC X (.Call (.Name x p) (e::es) [⟨some d,kv,kp⟩] pos) (Qw sp t tk):=by
 intro a s i H Q R I h;rwa[aiz (gb I O hm ?_ w)];rwa[PySem.W.callWith_of (P:=λh=>X.K.In h) m (λh M=>by let⟨k,U,L⟩:=PySem.W.looks_keep T M;rwa[k,U.imp id .inl,L]) (evalArgs_kw2 rfl (aiv (ha pos a s i H _ (I.wish _) h) (λg s1 ζ=>?_) λ_ _ z=>False.elim z) he)];let⟨A,Y,S,r,q⟩:=ζ;rwa[aiv (l pos a s1 i Y _ S q) (λks n ζ=>?_) λ_ _ z=>False.elim z];let⟨ws,j,D,rk,q2⟩:=ζ;rwa[⟨D.dg,5⟩]
 let⟨y,rfl,B⟩:=q2;let⟨v,rfl,W⟩:=rk.one;let J:=D.gU;let E:Vals (A++[y]) (g++[v]):=r.append (.cons W .nil);let Z:⇑(g++[v])=⇑ps:=by rw[<-⇑E];rwa[F.len _ _ _ _ B]
 rwa[ajt (ajz (F.run X.A X.stack n j ⟨g,[(d,v)]⟩ (g++[v]) (A++[y]) Q _ hr J.uO (N n g v J.dg Z) E B) λr G b=>?_)]
 cases r with
 |error e=>
  let b:cY X.prog X.w X.stack j n (λc o j=>∃C,c=Value.ref C/\R C o i j) e G:=b;let⟨x,C,o,H',rfl,V,C',e1,z⟩:=eQ.of J b;ext e1;rwa[x,C,o,i,H',2,V,z]
 |ok fl=>
  cases fl with
  |ret u=>exact J.after b
  |next=>exact False.elim b
  |brk=>exact False.elim b
  |cont=>exact False.elim b
def T2 (b:By):wx:=λD R a H=>b a H (λ_ c=>D.nx a c) R
def LX {b:By}(i:NC X e b)(m:swapsWith e none pos.line X.env=pure false):Bz X (.Expr e pos) (T2 b):=by
 intro a s c H D R I h;rwa[wpAny_Expr_any (aY (i a s c H _ R I h) λv o ζ=>?_) I.quiet m];let⟨x,g,l,n,j⟩:=ζ;rwa[⟨c,g,l,j⟩]
def T3 (C:Zs)(sp:Sp)(t:TA):TE:=λ g H Q=>t g H λc a=>∀x,a x=none->sp (↑x::c) (upd a x (XO x C none true)) (λv b=>v=.non/\Q ↑x b) (λ_ _ _=>False)
theorem LY (F:du X.prog X.w X.K X.mg X.base (cY X.prog X.w) k f fd ps sp)(hr:cw (k+ 1) X.A)(R:Binds X.K fd ps [])(S:Gl X x)(hm:X.mg x\↑C)(P:uZ X.K C f=true)(hf:PySem.W.isFn X.K ↑f=true)(U:PySem.W.keepIn X.K ↑C=true)
 (ha:PA X (e::es) t) (hex:X.ex=[]) (zx:⇑ps<=1000) (E:(x==("__debug__":Str))=false) (he:starEach (e::es) X.env=(false,eval e X.env)::starEach es X.env) (n:(backTo b9 (starEach es X.env)).any (·.1)=false):
 PE X (.Call (.Name x p) (e::es) [] b9) (T3 C sp t):=by
 intro c s σ H Q I h;let⟨bm,N,nm,qn,bs,G,sn,sub,ab,col,dd,k0,k1,k2,k3,k5,mN,o1,o2,o3,o4⟩:=u6 I.ok.mod.qC P;let kp:∀{B D l},Inv X c B D l->∀b o,X.base.get? b\o->l•b\o:=λJ b o q=>(J.bs b o q).1
 rwa[aiz (gb I S hm ?_ E)];rwa[ajJ (h₀:=X.base) I.ok.mod.qC U (aY (ha b9 c s σ H _ I h) λus s1 ζ=>?_) he n];let⟨Y,H1,i,r,q⟩:=ζ;rwa[⟨i.dg,5⟩];let⟨oI,w,m⟩:=aiI.mp (ajW.mp hf)
 let len:⇑us<=1000:=by
  let Z:=F.len _ _ _ _ (q (↥s1) (i.aM.fresh (ahG _)));rw[ah0]at Z;rw[<-⇑r];ext
 let⟨hh,g,d,tk,os⟩:=s1;rwa[wu (A:=X.A) ajk (o4.keeps (kp i)) (kp i _ _ o1) (o2.keeps (kp i)) o3 (i.dg^w) m (λh' y z=>?_) (ahP len ⋯)];let⟨hn,h0,J⟩:=i.Gf z hex;let L:=q y hn;let M:Vals (V.ref y::Y) (Value.ref y::us):=.cons rfl r
 let hl:⇑(Value.ref y::us++[])=⇑ps:=by
  rw[aib,<-⇑M];rwa[F.len _ _ _ _ L]
 let j:=R _ (Value.ref y::us) J.dg hl;rw[aib]at j;rwa[ajt (ajz (F.run _ X.stack _ _ ⟨Value.ref y::us,[]⟩ (Value.ref y::us) _ _ _ (hr.make C us []) (J.uO.make C us []) j M L) λr l a=>?_)]
 cases r with
 |error e=>exact(Ge a).elim
 |ok fl=>
  cases fl with
  |ret u=>
   let⟨v,D,W,rv,T,q3⟩:=J.after a;subst T;rwa[rv,↑y,D,W,2,q3]
  |next=>exact False.elim a
  |brk=>exact False.elim a
  |cont=>exact False.elim a
inductive NF (K:Za1) (xs:Zb) (H:Hp) (Q:VK):Prop
 |mk (x C:Zs) (dx:Zo) (nw:Bool) (y:V) (c:Zt) (b:Bool):xs=[↑x,y]->H x\XO x C dx nw->A4 K C->Xm y\c->PySem.W.kitOne K ↑C c\b->Q (.bl b) H->NF K xs H Q
def gG:je X (.builtin "isinstance") (NF X.K):=by
 intro a s A H w B Q I r h;let⟨x,C,D,v,y,c,b,rfl,m,g,n,i,q⟩:=h;let⟨u,o,rfl,j,l⟩:=vals2 r;ext j;let⟨p,_,_⟩:=I.aM x _ m;have:=Py n l;subst this;rwa[aiW (K2 g) I.dg p.ex i (λz=>by ext z) λtk=>⟨.bl b,H,I.tok tk,2,q⟩]
end
section
variable {K:Za1}{mg:Str->Zl}
structure DDefK (K:Za1) (mg:Str->Zl) (x:Str) (st:Stmt) (ps:Zp) (f:Zs) (fd:FuncData) (d nm:Str):Prop extends yk K mg x st ps f fd d where
 bk:IY K fd ps nm
def DDefK.of {st:Stmt}{C j:Zo}{o m:Array Zl}{kV doc pm ct r:Zt}{dd:Zo}{nm:Str}{t:Tok}(X:K.In h)(G:h.Ns mainGlobals mg)(e:PySem.W.nsIn K mainGlobals x\some ↑a)(l:K.lookup a\⟨v,C,.func (PySem.W.fnOf x x (cP st) (bW st) (aB st) ↑b kV doc pm j u ct),o⟩)(c:PySem.W.codeIn K u x=true)(k:PySem.W.keepIn K ↑a=true)
 (lt:K.lookup b\⟨r,dd,.seq #[.str f t] n,m⟩)
 (i:∀(kV doc pm:Zt) (j:Zo) (u ct:Zt) (us:Zk),⇑us=⇑Z->∃d:Option Zm->Sem (List (Str×Zt)),bindArgs (PySem.W.fnOf x x (cP st) (bW st) (aB st) ↑b kV doc pm j u ct) ⟨us,[]⟩=seqItems? ↑b >>=d/\d (some #[.str f t])=pure (Z.zip us))
 (p:∀(kV doc pm:Zt) (j:Zo) (u ct:Zt) (us:Zk),⇑us+ 1=⇑Z->∃d:Option Zm->Sem (List (Str×Zt)),bindArgs (PySem.W.fnOf x x (cP st) (bW st) (aB st) ↑b kV doc pm j u ct) ⟨us,[]⟩=seqItems? ↑b >>=d/\d (some #[.str f t])=pure (Z.zip (us++[.str f t])))
 (B:∀(kV doc pm:Zt) (j:Zo) (u ct:Zt) (us:Zk) (g:Zt),⇑us+ 1=⇑Z->∃d:Option Zm->Sem (List (Str×Zt)),bindArgs (PySem.W.fnOf x x (cP st) (bW st) (aB st) ↑b kV doc pm j u ct) ⟨us,[(nm,g)]⟩=seqItems? ↑b >>=d/\d (some #[.str f t])=pure (Z.zip (us++[g]))):
 DDefK K mg x st Z a (PySem.W.fnOf x x (cP st) (bW st) (aB st) ↑b kV doc pm j u ct) f nm:=
 ⟨yk.of X G e l c k lt i p,λs us g y A=>by
  let⟨d,z,q⟩:=B kV doc pm j u ct us g (by simpa using A);rwa[BindsTo.of_defaults (T:=b) rfl (y^lt) rfl z q]⟩
end
section
variable {X:Cx}
inductive NK (x:V) (y:V) (H:Hp) (Q:VK):Prop
 |mk (a b p q:Zs) (t:Zh) (ns:Zg):x=↑a->y=↑b->H a\.lst [↑p]->H b\.lst [↑q]->H p\.tup (.str (tx t)::ao ns)->H q\.tup (.str (tx t)::ao ns)->Q (.bl true) H->NK x y H Q
def Qx (hu:X.A.units+ 8<cLine):fz X (compareOp .Eq) NK:=by
 intro B s σ H x y v u Q I W Y h;let⟨a,b,p,q,t,o,rfl,rfl,R,U,J,O,k⟩:=h;ext W;ext Y;let⟨P,M,T,_⟩:=I.list (aH.of R);let⟨D,Z,L,_⟩:=I.list (aH.of U);let⟨m,rfl,z1⟩:=M.one;let⟨E,rfl,z2⟩:=Z.one;ext z1;ext z2;let⟨f,n,F,_⟩:=I.tuple (bG.of J);let⟨c,r,G,_⟩:=I.tuple (bG.of O);rwa[SeqAt.eq_listAt (e:=λ_=>true) T.isList L.isList rfl ∅ (λj g q2=>?_) ⟨.bl true,H,I,5,k⟩]
 ·have:j=0:=by simp at g;ext
  subst this;show SeqAt.EqAt _ s ↑p ↑q true;cases e:p=q
  ·subst e;rwa[SeqAt.EqAt.same _]
  ·rwa[SeqAt.EqAt.of_refs e ?_];let l1:=⇑n;let l2:=⇑r;let N:X.A.in1.units+ 7<cLine:=by show X.A.units+ 1+ 7<cLine;ext
   have:=SeqAt.RcAt.tuples (A:=X.A.in1) (e:=λ_=>true) (show s.heap.IsTuple p f.toArray from F) (show s.heap.IsTuple q c.toArray from G) ∅ (λj g q2=>?_)
   ·rw[all_true _ _ λ_=>rfl,show (f.toArray.size==c.toArray.size)=true by simp;ext]at this;rwa[this]
   ·let k1:j<⇑f:=by simpa using g
    let d:=ahC (l:=V.str (tx t)::ao o) (i:=j) ∅;let⟨m,e1,z1⟩:=n.get d;let⟨E,S,z2⟩:=r.get d;let w:f.toArray[j]=m:=by cbv
    let C:c.toArray[j]=E:=by cbv
    rw[w,C];clear e1 S w C;change (V.str (tx t)::ao o)[j]'∅=v at d z1 z2
    cases j with
    |zero=>
     ext d;let⟨_,rfl⟩:=z1;let⟨_,rfl⟩:=z2;rwa[DG^_]
    |succ j=>
     let⟨z,rfl,_⟩:=cD d;let⟨_,rfl⟩:=z1;let⟨_,rfl⟩:=z2;rwa[DF^_]
 ·show _=Value.bool true;rw[all_true _ _ λ_=>rfl]
end
end L2
namespace M11
noncomputable def flip (k:Nat):Nat:=if k % 2=0 then k+ 1 else k - 1
noncomputable def nx (T:Za3)(k i:Nat):Nat:=((T.getD i []).getD k 0).toNat
structure Tab (L:Nat) (T:Za3):Prop where
 pos:1<=⇑T
 top:⇑T<=300
 let1:1<=L
 agi:L<=40
 row:∀(i:Nat) (r:Zg),T[i]?\r->⇑r=2* L
 val:∀i k,i<⇑T->k<2* L->∃r:Zg,T[i]?\r/\r[k]?\((nx T k i:Nat):Int)
 lt:∀i k,i<⇑T->k<2* L->nx T k i<⇑T
 back:∀i k,i<⇑T->k<2* L->nx T (flip k) (nx T k i)=i
noncomputable def pl (s:Int):Nat:=if 0<s then 2* s.natAbs - 2 else 2* s.natAbs - 1
def walk (T:Za3)(w:Zg)(i:Nat):Nat:=w.foldl (λi s=>nx T (pl s) i) i
def hY (L:Nat)(w:Zg):Prop:=∀s∈w,s≠0/\s.natAbs<=L
noncomputable def back (w:Zg):Zg:=w.reverse.map λz=>-z
def WR (h:z≠0/\z.natAbs<=n):pl z<2* n:=by
 unfold pl;split <;> ext
def Qy (h:z≠0):pl (-z)=flip (pl z):=by
 unfold pl flip;rw[Int.natAbs_neg];cases a:0<z
 ·rw[ah4 a,ahY (show ¬ 0 < -z by omega),ah4 ∅];ext
 ·rw[ahY a,ah4 (show 0 < -z by omega),ahY ∅];ext
structure Pm (p:Nat) (r:Zg):Prop where
 len:⇑r=p
 nd:r.Nodup
 rg:∀z∈r,0<=z/\z<(p:Int)
def Pm.at {r:Zg}(h:Pm n r){i:Nat}(b:i<n):∃j:Nat,r[i]?\(j:Int)/\j<n:=by
 let a:i<⇑r:=by rw[h.len];rwa[b]
 have:=h.rg r[i] (List.getElem_mem a);rwa[r[i].toNat,by rw[ahC a,show ((r[i].toNat:Nat):Int)=r[i] by ext],3]
def af6 (L:Nat)(f:Nat->Int->Int)(come:Zg)(x:Int)(r:Zg)(m:Nat):Prop:=⇑r=m/\∀k,k<m->∃j:Nat,r[k]?\(j:Int)/\come[j]?\(f k x)
theorem kL:∀(n:Nat) (l:Zh),l.Nodup->(∀x∈l,x<n)->⇑l<=n
 |0,[],_,_=>ahG _
 |0,a::l,_,h=>absurd (h a (ahU ..)) ∅
 |n+ 1,l,b,h=>by
  cases c:n∈l
  ·have:=kL n (l.erase n) (b.erase n) (λx d=>by
    cbv)
   rw[aj3 c]at this;ext
  ·have:=kL n l b (λx d=>by
    cbv)
   ext
def wz (j:l.Nodup)(h:∀x∈l,0<=x/\x<(n:Int)):⇑l<=n:=by
 let f:(l.map Int.toNat).Nodup:=by
  rwa[ajl.mpr (akN ?_ j)];intro a b d g c z;have:=h a d;have:=h b g;rwa[c ∅]
 have:=kL n (l.map Int.toNat) f (λx i=>by
  let⟨y,e,rfl⟩:=aiB.mp i;have:=h y e;omega)
 rw[ahE]at this;rwa[this]
def Pm.T4 {r:Zg}(h:Pm n r){x:Nat}(f:x<n):∃i:Nat,r[i]?\(x:Int)/\i<n:=by
 let b:(x:Int)∈r:=by
  rwa[akz λb=>?_]
  have:=wz (n:=n) (l:=(x:Int)::r) (aih.mpr ⟨b,h.nd⟩) (λy c=>by
   rcases ahR.mp c with e|c
   ·rw[e];ext
   ·rwa[h.rg y c])
  rw[ah0,h.len]at this;ext
 let⟨i,d,e⟩:=ajw.mp b;rwa[i,by rw[ahC d,e],by rw[<-h.len];rwa[d]]
def af7 (p:Nat)(r t:Zg):Prop:=⇑t=p/\∀k j:Nat,r[k]?\(j:Int)->t[j]?\(k:Int)
def af8 (p:Nat)(r t:Zg)(n:Nat):Prop:=⇑t=p/\∀k j:Nat,k<n->r[k]?\(j:Int)->t[j]?\(k:Int)
end M11
namespace M12
open M11
def Fc (W:Nat)(E:Zg)(N:Nat):Prop:=(∀z∈E,0<=z/\z<(N:Int))/\∀j:Nat,0<j->j<N->∃p:Nat,p<j* W/\E[p]?\(j:Int)/\∀(q:Nat) (z:Int),q<p->E[q]?\z->z<(j:Int)
noncomputable def st (k:Nat):Int:=if k % 2=0 then ((k / 2+ 1:Nat):Int) else -((k / 2+ 1:Nat):Int)
def NM (k:Nat):pl (st k)=k:=by
 unfold pl st;cases h:k % 2=0
 ·rw[ah4 h,ah4 ∅];ext
 ·rw[ahY h,ahY ∅];ext
def WT {k:Nat}(h:k<2* n):st k≠0/\(st k).natAbs<=n:=by
 unfold st;split <;> ext
def T5:Zh->Zh->Prop
 |a::u,b::v=>a<b\/(a=b/\T5 u v)
 |_,_=>False
def acB (u v:Zh):Prop:=⇑u<⇑v\/(⇑u=⇑v/\T5 u v)
def Lw (L:Nat)(T:Za3)(ws:List Zh):Prop:=⇑ws=⇑T/\ws[0]?\[]/\
 ∀(j p:Nat),0<j->j<⇑T->T.flatten[p]?\(j:Int)->(∀(q:Nat) (z:Int),q<p->T.flatten[q]?\z->z<(j:Int))->∃u,ws[p / (2* L)]?\u/\ws[j]?\(u++[p % (2* L)])
end M12
namespace M17
noncomputable def it (f:Nat->Nat):Nat->Nat->Nat
 |0,x=>x
 |n+ 1,x=>f (it f n x)
theorem wA (f:Nat->Nat)(m:Nat):∀(n x:Nat),it f (m+ n) x=it f n (it f m x)
 |0,x=>rfl
 |n+ 1,x=>aiN f (wA f m n x)
theorem tL {f:Nat->Nat}(h:∀x,x<m->f x<m):∀(n x:Nat),x<m->it f n x<m
 |0,x,a=>a
 |n+ 1,x,a=>h _ (tL h n x a)
theorem I0 {f:Nat->Nat}(h:∀x,x<m->f x<m)(b:∀x y,x<m->y<m->f x=f y->x=y):∀(n x y:Nat),x<m->y<m->it f n x=it f n y->x=y
 |0,x,y,_,_,e=>e
 |n+ 1,x,y,c,a,e=>I0 h b n x y c a (b _ _ (tL h n x c) (tL h n y a) e)
theorem mG {f:Nat->Nat}{x:Nat}(h:it f n x=x):∀k,it f (n* k) x=x
 |0=>rfl
 |k+ 1=>by
  rw[Nat.mul_succ,wA,mG h k,h]
def ring {f:Nat->Nat}{x:Nat}(h:∀x,x<n->f x<n)(r:∀x y,x<n->y<n->f x=f y->x=y)(k:x<n):∃c,1<=c/\c<=n/\it f c x=x:=by
 rwa[akz λs=>?_]
 let ne:∀i j,i<j->j<=n->it f i x≠it f j x:=λi j m t e=>by
  rwa[s ⟨j - i,335⟩];let p:it f j x=it f i (it f (j - i) x):=by rw[<-wA,show j - i+ i=j by ext]
  rw[p]at e;rwa[(I0 h r i x _ k (tL h _ x k) e).symm]
 let o:((~~~(n+ 1)).map λi=>((it f i x:Nat):Int)).Nodup:=by
  rw[List.nodup_iff_pairwise_ne,ajl];rwa[akN (R:=λa b=>a<b) (λu l g e=>?_) ak1];have:=ais.mp l;rwa[ne _ _ g ∅ ∅]
 have:=M11.wz (n:=n) o λz q=>by
  let⟨i,_,rfl⟩:=aiB.mp q;have:=tL h i x k;ext
 rw[ahE,air]at this;ext
def WU {f:Nat->Nat}(g:n<=6)(h:∀x,x<n->f x<n)(b:∀x y,x<n->y<n->f x=f y->x=y)(x:Nat)(d:x<n):it f 60 x=x:=by
 let⟨c,j,i,e⟩:=ring h b d;let a:c=1\/c=2\/c=3\/c=4\/c=5\/c=6:=∅
 rcases a with rfl|rfl|rfl|rfl|rfl|rfl
 ·rwa[mG e 60]
 ·rwa[mG e 30]
 ·rwa[mG e 20]
 ·rwa[mG e 15]
 ·rwa[mG e 12]
 ·rwa[mG e 10]
end M17
namespace M24
noncomputable def add (come:Zh)(y:Nat):Zh:=if y∈come then come else come++[y]
def kg (f:Nat->Nat->Nat)(x:Nat)(come:Zh)(k:Nat):Zh:=(~~~k).foldl (λc i=>add c (f i x)) come
def nK (f:Nat->Nat->Nat)(x:Nat)(come:Zh)(k:Nat):kg f x come (k+ 1)=add (kg f x come k) (f k x):=by
 unfold kg;rw[ajf,aku];rfl
def bM (f:Nat->Nat->Nat)(k a:Nat):Nat->Zh
 |0=>[a]
 |n+ 1=>match (bM f k a n)[n]? with
  |some x=>kg f x (bM f k a n) k
  |none=>bM f k a n
def BE (f:Nat->Nat->Nat)(k a:Nat):bM f k a 0=[a]:=rfl
def iD {f:Nat->Nat->Nat}{k x:Nat}(h:(bM f k n m)[m]?\x):bM f k n (m+ 1)=kg f x (bM f k n m) k:=by
 rw[bM,h]
def mH {f:Nat->Nat->Nat}{k:Nat}(h:(bM f k n m)[m]?=none):bM f k n (m+ 1)=bM f k n m:=by
 rw[bM,h]
def Qz (come:Zh)(y:Nat):∃t,add come y=come++t:=by
 unfold add;split
 ·rwa[[],(aib _).symm]
 cbv
theorem u9 (f:Nat->Nat->Nat)(x:Nat)(come:Zh):∀k,∃t,kg f x come k=come++t
 |0=>⟨[],(aib _).symm⟩
 |k+ 1=>by
  let⟨t,b⟩:=u9 f x come k;let⟨u,a⟩:=Qz (kg f x come k) (f k x);rwa[t++u,by rw[nK,a,b,aiL]]
def BF (f:Nat->Nat->Nat)(k a n:Nat):∃t,bM f k a (n+ 1)=bM f k a n++t:=by
 cases h:(bM f k a n)[n]? with
 |none=>rwa[[],by rw[mH h,aib]]
 |some x=>let⟨t,b⟩:=u9 f x (bM f k a n) k;rwa[t,by rw[iD h,b]]
def QB {come:Zh}:m∈add come n↔m∈come\/m=n:=by
 unfold add
 cbv
def T6 {come:Zh}(h:come.Nodup)(y:Nat):(add come y).Nodup:=by
 unfold add
 cbv
theorem tM {f:Nat->Nat->Nat}{x:Nat}{come:Zh}(h:come.Nodup):∀k,(kg f x come k).Nodup
 |0=>h
 |k+ 1=>[nK]▸T6 (tM h k) _
theorem oW (f:Nat->Nat->Nat)(k a:Nat):∀n,(bM f k a n).Nodup
 |0=>by rw[BE];simp
 |n+ 1=>by
  cases h:(bM f k a n)[n]? with
  |none=>rw[mH h];rwa[oW f k a n]
  |some x=>rw[iD h];rwa[tM (oW f k a n) k]
theorem kh {f:Nat->Nat->Nat}{x:Nat}{come:Zh}{z:Nat}:∀{k:Nat},z∈kg f x come k↔z∈come\/∃i,i<k/\z=f i x
 |0=>⟨.inl,λq=>q.elim id λζ=>by let⟨i,a,_⟩:=ζ;rwa[absurd a (Nat.not_lt_zero _)]⟩
 |k+ 1=>by
  rw[nK,QB,kh (k:=k)]
  cbv
theorem tN {f:Nat->Nat->Nat}{k:Nat}{P:Nat->Prop}(b:P m)(c:∀x i,P x->i<k->P (f i x)):∀n,∀z∈bM f k m n,P z
 |0,z,a=>by rw[BE,ahH]at a;rw[a];rwa[b]
 |n+ 1,z,a=>by
  cases h:(bM f k m n)[n]? with
  |none=>rw[mH h]at a;rwa[tN b c n z a]
  |some x=>
   rw[iD h,kh]at a;rcases a with a|⟨i,d,rfl⟩
   ·rwa[tN b c n z a]
   ·rwa[c _ _ (tN b c n x (ahB h)) d]
theorem qd {f:Nat->Nat->Nat}{k:Nat}:∀{n j x i:Nat},j<n->(bM f k m n)[j]?\x->i<k->f i x∈bM f k m n
 |n+ 1,j,x,i,g,b,c=>by
  cases h:(bM f k m n)[n]? with
  |none=>
   rw[mH h]at b ⊢;let o:=List.getElem?_eq_none_iff.mp h;let l:=(ahD.mp b).1;rwa[qd (show j<n by omega) b c]
  |some y=>
   let⟨t,d⟩:=u9 f y (bM f k m n) k;let p:=(ahD.mp h).1
   let a:(bM f k m n)[j]?\x:=by
    rw[iD h,d,ahN ∅]at b;rwa[b]
   cases e:j=n
   ·rw[e,h]at a;rw[iD h,kh];rwa[.inr ⟨i,c,by cbv⟩]
   ·rw[iD h,kh];rwa[.inl (qd (show j<n by omega) a c)]
theorem va {f:Nat->Nat->Nat}{k:Nat}(h:⇑(bM f k n i)=i):∀m,bM f k n (i+ m)=bM f k n i
 |0=>rfl
 |m+ 1=>by
  let a:=va h m;rw[<-Nat.add_assoc,mH ([a]▸List.getElem?_eq_none_iff.mpr ∅),a]
def QC {f:Nat->Nat->Nat}{k:Nat}(h:⇑(bM f k n m)=m)(a:⇑(bM f k n i)=i):m=i:=by
 rcases akM m i with q|q
 ·have:=va h (i - m);rw[show m+ (i - m)=i by ext]at this;rw[this,h]at a;rwa[a]
 ·have:=va a (m - i);rw[show i+ (m - i)=m by ext]at this;rw[this,a]at h;rwa[h.symm]
noncomputable def ix (come:Zh)(y:Nat):Nat:=come.findIdx λz=>z==y
theorem Gk:∀{come:Zh} {i y:Nat},come.Nodup->come[i]?\y->ix come y=i
 |[],i,y,_,h=>by simp at h
 |a::l,0,y,_,h=>by
  let e:a=y:=Za0 h;unfold ix
  cbv
 |a::l,i+ 1,y,d,h=>by
  rw[List.getElem?_cons_succ]at h;let f:=ahB h
  let b:(a==y)=false:=by
   rw[ahX];intro e;rwa[(aih.mp d).1 (by cbv)]
  let c:ix l y=i:=Gk (aih.mp d).2 h;unfold ix at c ⊢;rw[ak7,b];show l.findIdx _+ 1=i+ 1;rw[c]
def I7 {come:Zh}(b:(come++B).Nodup)(h:n∈come):ix (come++B) n=ix come n:=by
 let⟨i,a⟩:=aiu h;let c:(come++B)[i]?\n:=by rw[ahN (ahD.mp a).1];rwa[a]
 rw[Gk b c,Gk (aiD.mp b).1 a]
def vd (f:Nat->Nat->Nat)(k:Nat)(come:Zh):Za3:=come.map λx=>(~~~k).map λi=>((ix come (f i x):Nat):Int)
def T7 {come:Zh}(h:n∉come):ix (come++[n]) n=⇑come:=by
 induction come with
 |nil=>unfold ix;rw[akj,ak7];simp
 |cons a l b=>
  rw[ahR,not_or]at h;let c:(a==n)=false:=by rw[ahX];rwa[λe=>h.1 e.symm]
  have:=b h.2;unfold ix at this ⊢
  cbv
def oy (f:Nat->Nat->Nat)(k a n:Nat):Za3:=((bM f k a n).take n).map λx=>(~~~k).map λi=>((ix (bM f k a n) (f i x):Nat):Int)
def I8 {f:Nat->Nat->Nat}{k x:Nat}(h:(bM f k n m)[m]?\x):oy f k n (m+ 1)=oy f k n m++[(~~~k).map λi=>((ix (bM f k n (m+ 1)) (f i x):Nat):Int)]:=by
 let⟨t,e⟩:=BF f k n m;let b:=oW f k n (m+ 1);let q:=(ahD.mp h).1
 let l:(bM f k n (m+ 1)).take (m+ 1)=(bM f k n m).take m++[x]:=by
  rw[e,List.take_append_of_le_length ∅,ajA,h];rfl
 unfold oy;rw[l,aid]
 congr 1
 rwa[aiG λc o=>?_]
 rwa[aiG λi p=>?_]
 let⟨j,d⟩:=aiu o
 let a:j<m:=by
  have:=(ahD.mp d).1;rw[aif]at this;ext
 rw[akI a]at d;let g:=qd a d (ais.mp p);rw[e]at b ⊢;rw[I7 b g]
def LZ {f:Nat->Nat->Nat}{k:Nat}(h:⇑(bM f k n m)=m):oy f k n m=vd f k (bM f k n m):=by
 unfold oy vd
 cbv
end M24
namespace K38
open PySem L2
noncomputable def top (i:Nat):Stmt:=PySem.Challenge.pw_cosetyard_k38_whole_limits.main.body.getD i (.Pass ⟨(0),(0),(0),(0)⟩)
abbrev BG:Stmt:=top 1
abbrev oX:Stmt:=top 2
abbrev wB:Stmt:=top 13
abbrev wC:Stmt:=top 15
abbrev wD:Stmt:=top 16
abbrev wF:Stmt:=top 21
abbrev wG:Stmt:=top 22
abbrev wH:Stmt:=top 25
abbrev NP:Stmt:=top 26
abbrev I9:Stmt:=top 28
abbrev oY:Stmt:=top 30
abbrev r9:Stmt:=top 31
abbrev uo:Stmt:=top 32
abbrev o6:Stmt:=top 33
abbrev sg:Stmt:=top 34
abbrev qO:Stmt:=top 35
abbrev sh:Stmt:=top 36
abbrev uq:Stmt:=top 37
abbrev qP:Stmt:=top 38
abbrev mI:Stmt:=top 39
abbrev si:Stmt:=top 40
abbrev qQ:Stmt:=top 41
abbrev sj:Stmt:=top 42
abbrev ur:Stmt:=top 43
abbrev o8:Stmt:=top 44
abbrev j2:Stmt:=top 45
abbrev NQ:Stmt:=top 46
abbrev mJ:Stmt:=inClass (top 3) 0
abbrev nL:Stmt:=inClass (top 3) 1
abbrev uv:Stmt:=inClass (top 3) 2
abbrev kM:Stmt:=inClass (top 4) 0
abbrev jB:Stmt:=inClass (top 4) 1
abbrev nM:Stmt:=inClass (top 4) 2
abbrev mK:Stmt:=inClass (top 4) 3
abbrev pe:Stmt:=inClass (top 4) 4
abbrev nS:Stmt:=inClass (top 4) 5
abbrev pf:Stmt:=inClass (top 4) 6
abbrev qR:Stmt:=inClass (top 4) 7
abbrev ph:Stmt:=inClass (top 4) 8
abbrev pj:Stmt:=inClass (top 4) 9
abbrev kO:Stmt:=inClass (top 4) 10
abbrev kP:Stmt:=inClass (top 10) 0
abbrev uw:Stmt:=inClass (top 18) 0
abbrev jP:Stmt:=inClass (top 19) 0
abbrev sk:Stmt:=inClass (top 20) 0
abbrev mM:Stmt:=inClass (top 24) 0
abbrev sr:Stmt:=inClass (top 24) 1
abbrev ux:Stmt:=inClass (top 24) 2
abbrev wI:Stmt:=inClass (top 24) 3
abbrev qS:Stmt:=inClass (top 24) 4
abbrev mO:Stmt:=inClass (top 24) 5
abbrev qT:Stmt:=inClass (top 24) 6
abbrev lE:Stmt:=inClass (top 24) 7
abbrev su:Stmt:=inClass (top 24) 8
abbrev nT:Stmt:=inClass (top 24) 9
abbrev jQ:Stmt:=inClass (top 24) 10
abbrev nU:Stmt:=inClass (top 24) 11
set_option genInjectivity false in
structure qU where
 L0:Zs
 L1:FuncData
 yl:Zs
 ym:FuncData
 Gm:Zs
 Gn:FuncData
 Gp:Zs
 Gq:FuncData
 Gr:Zs
 Gs:FuncData
 wJ:Zs
 wL:FuncData
 Gu:Zs
 Gv:FuncData
 Gw:Zs
 Gx:FuncData
 tO:Zs
 tQ:FuncData
 Ja:Zs
 Jb:FuncData
 yn:Zs
 yo:FuncData
 BH:Zs
 BI:FuncData
 DJ:Zs
 DK:FuncData
 yp:Zs
 yq:FuncData
 BJ:Zs
 BK:FuncData
 zR:Zs
 zS:FuncData
 BL:Zs
 BM:FuncData
 DL:Zs
 DM:FuncData
 zT:Zs
 zU:FuncData
 ve:Zs
 vg:FuncData
 BO:Zs
 BP:FuncData
 zV:Zs
 zW:FuncData
 BQ:Zs
 BR:FuncData
 DN:Zs
 DP:FuncData
 yr:Zs
 yt:FuncData
 rj:Zs
 rn:FuncData
 WV:Zs
 WW:FuncData
 mP:Zs
 vh:FuncData
 wM:Zs
 wN:FuncData
 DQ:Zs
 DR:FuncData
 kQ:Zs
 sv:FuncData
 pk:Zs
 pz:FuncData
 wO:Zs
 wQ:FuncData
 vi:Zs
 vj:FuncData
 yu:Zs
 yw:FuncData
 wU:Zs
 wV:FuncData
 yx:Zs
 yy:FuncData
 zX:Zs
 zY:FuncData
 yz:Zs
 yA:FuncData
 yB:Zs
 yC:FuncData
 sx:Zs
 sC:FuncData
 sD:Zs
 sE:FuncData
 DS:Zs
 DT:FuncData
 nV:Zs
 jR:FuncData
 BU:Zs
 BV:FuncData
 mQ:Zs
 vk:FuncData
 BW:Zs
 BX:FuncData
 DU:Zs
 DV:FuncData
 Gy:Zs
 Gz:FuncData
 zZ:Zs
 Aa:FuncData
 vl:Zs
 vm:FuncData
 Ab:Zs
 Ac:FuncData
 tU:Zs
 tV:FuncData
 BZ:Zs
 B1:FuncData
 wW:Zs
 wX:FuncData
 qe:Zs
 qf:FuncData
 wY:Zs
 wZ:FuncData
 eR:Zs
 cq:Zs
 aP:Zs
 vn:Zs
 sF:Zs
 qg:Zs
 cZ:Zs
 bJ:Zs
 cG:Zs
 az:Zs
 aJ:Zs
 aD:Zs
 aaU:Zs
 di:Zs
set_option genInjectivity false in
structure Txt (K:Za1) (mg:Str->Zl) (A:qU):Prop where
 walked:Def K mg "walked" BG ["rooms","room","word"] A.L0 A.L1
 mR:Def K mg "first_places" oX ["rules"] A.yl A.ym
 qh:Def K mg "steps_of" wB ["letters"] A.Gm A.Gn
 numbered:Def K mg "numbered" wC ["rooms"] A.Gp A.Gq
 mS:Def K mg "place_of" wD ["step"] A.Gr A.Gs
 qi:Def K mg "order_by" wF ["name"] A.wJ A.wL
 mz:Def K mg "first_of" wG ["rooms","some"] A.Gu A.Gv
 qj:Def K mg "all_gaps" wH ["letters"] A.Gw A.Gx
 own:Def K mg "own" NP ["value"] A.tO A.tQ
 fill:DDefK K mg "fill" I9 ["letters","rules","part","limit","order"] A.Ja A.Jb (tx [114,111,111,109,115]) "order"
 bz:Def K mg "_law_cell_at" oY ["_law_script","_law_k"] A.yn A.yo
 lP:Def K mg "_law_whole" r9 ["_law_found"] A.BH A.BI
 nX:Def K mg "_law_step" uo ["_law_number","_law_letters"] A.DJ A.DK
 mU:Def K mg "_law_turning" o6 ["_law_number","_law_many","_law_plain"] A.yp A.yq
 lQ:Def K mg "_law_moved" sg ["_law_turns","_law_point","_law_word"] A.BJ A.BK
 ky:Def K mg "_law_rounds" qO ["_law_turns","_law_points","_law_word"] A.zR A.zS
 qk:Def K mg "_law_rules" sh ["_law_turns","_law_letters","_law_mask","_law_room"] A.BL A.BM
 sG:Def K mg "_law_part" uq ["_law_script","_law_turns","_law_letters","_law_first"] A.DL A.DM
 kz:Def K mg "_law_digits" qP ["_law_cell","_law_letters","_law_most"] A.zT A.zU
 ki:Def K mg "_law_any_group" mI ["_law_script"] A.ve A.vg
 qm:Def K mg "_law_group" si ["_law_script"] A.BO A.BP
 kA:Def K mg "_law_filled" qQ ["_law_letters","_law_rules_here","_law_part_here","_law_limit_here","_law_chosen"] A.zV A.zW
 qo:Def K mg "_law_limit" sj ["_law_script"] A.BQ A.BR
 kS:Def K mg "_law_news" ur ["_law_rows"] A.DN A.DP
 iE:Def K mg "_law_refused" o8 ["_law_letters","_law_rules_here","_law_part_here","_law_limit_here","_law_chosen"] A.yr A.yt
 iZ:Def K mg "_law_made_by_hand" j2 ["_law_number"] A.rj A.rn
 law:Def K mg "law" NQ ["_law_script"] A.WV A.WW
 gu:MDef K A.aJ "__init__" "Going.__init__" mJ ["self","which","word","start"] A.mP A.vh
 lh:MDef K A.aJ "advance" "Going.advance" nL ["self","rooms"] A.wM A.wN
 sH:MDef K A.aJ "row" "Going.row" uv ["self","rooms"] A.DQ A.DR
 eZ:MDef K A.aD "__init__" "Closing.__init__" kM ["self","rooms","rules","part"] A.kQ A.sv
 fi:MDef K A.aD "begin_rules" "Closing.begin_rules" jB ["self","room"] A.pk A.pz
 jg:MDef K A.aD "begin" "Closing.begin" nM ["self","which","word","room"] A.wO A.wQ
 iO:MDef K A.aD "settle" "Closing.settle" mK ["self"] A.vi A.vj
 mV:MDef K A.aD "make" "Closing.make" pe ["self","room","step"] A.yu A.yw
 lj:MDef K A.aD "go_on" "Closing.go_on" nS ["self","number"] A.wU A.wV
 jS:MDef K A.aD "wait" "Closing.wait" pf ["self","number","room","step"] A.yx A.yy
 oz:MDef K A.aD "lay" "Closing.lay" qR ["self","going"] A.zX A.zY
 e8:MDef K A.aD "wake" "Closing.wake" ph ["self","room","step"] A.yz A.yA
 mW:MDef K A.aD "hear" "Closing.hear" pj ["self"] A.yB A.yC
 jo:MDef K A.aD "wake_all" "Closing.wake_all" kO ["self","room"] A.sx A.sC
 cJ:MDef K A.aP "__init__" "TooMany.__init__" kP ["self","made","rows"] A.sD A.sE
 jC:MDef K A.cZ "gap" "Order.gap" uw ["self","rooms"] A.DS A.DT
 gX:MDef K A.bJ "gap" "ByLetters.gap" jP ["self","rooms"] A.nV A.jR
 iP:MDef K A.cG "gap" "Newest.gap" sk ["self","rooms"] A.BU A.BV
 gw:MDef K A.az "__init__" "Rooms.__init__" mM ["self","letters"] A.mQ A.vk
 qp:MDef K A.az "make" "Rooms.make" sr ["self","room","step"] A.BW A.BX
 sI:MDef K A.az "lay" "Rooms.lay" ux ["self","room","step","other","row"] A.DU A.DV
 iF:MDef K A.az "by" "Rooms.by" wI ["self","room","step"] A.Gy A.Gz
 hM:MDef K A.az "elder" "Rooms.elder" qS ["self","room"] A.zZ A.Aa
 eS:MDef K A.az "standing" "Rooms.standing" mO ["self"] A.vl A.vm
 kB:MDef K A.az "paper" "Rooms.paper" qT ["self"] A.Ab A.Ac
 fF:MDef K A.az "first_gap" "Rooms.first_gap" lE ["self","room"] A.tU A.tV
 lS:MDef K A.az "keep" "Rooms.keep" su ["self","room","step","other"] A.BZ A.B1
 lu:MDef K A.az "take_in" "Rooms.take_in" nT ["self","way","pending"] A.wW A.wX
 fG:MDef K A.az "put_together" "Rooms.put_together" jQ ["self","room","step","one","other","pending"] A.qe A.qf
 lA:MDef K A.az "put_off" "Rooms.put_off" nU ["self","room","pending"] A.wY A.wZ
 B6:mg "ValueError"=none
 uy:mg "enumerate"=none
 GA:mg "min"=none
 WX:mg "max"=none
 eU:mg "range"=none
 fj:mg "len"=none
 tR:mg "tuple"=none
 iG:mg "list"=none
 bN:mg "isinstance"=none
 T8:mg "bool"=none
 WY:mg "int"=none
 B7:mg "dict"=none
 GB:mg "reversed"=none
 af9:mg "abs"=none
 oB:mg "YardError"=some ↑A.eR
 sJ:mg "NoOrder"=some ↑A.cq
 nY:mg "TooMany"=some ↑A.aP
 L3:mg "NoWord"=some ↑A.vn
 Jc:mg "TooLong"=some ↑A.sF
 GC:mg "TooGreat"=some ↑A.qg
 QD:mg "Order"=some ↑A.cZ
 DW:mg "ByLetters"=some ↑A.bJ
 L4:mg "Newest"=some ↑A.cG
 QF:mg "Rooms"=some ↑A.az
 QG:mg "Going"=some ↑A.aJ
 Jd:mg "Closing"=some ↑A.aD
 L5:PySem.W.plainGet K A.az Str.empty=true
 L6:PySem.W.hasDictIn K A.az=true
 L7:PySem.W.plainOver K A.az=true
 L8:PySem.W.findIn K ↑A.az "__setattr__"=some (some (.builtin "object.__setattr__"))
 vo:PySem.W.makesIn K A.az=true
 L9:PySem.W.keepIn K ↑A.az=true
 sL:PySem.W.findIn K ↑A.az "letters"=some none
 pA:PySem.W.findIn K ↑A.az "made"=some none
 sM:PySem.W.findIn K ↑A.az "rows"=some none
 i9:PySem.W.findIn K ↑A.az "ways"=some none
 sN:PySem.W.findIn K ↑A.az "gaps"=some none
 jq:PySem.W.findIn K ↑A.az "elders"=some none
 mX:PySem.W.findIn K ↑A.az "called"=some none
 sO:PySem.W.findIn K ↑A.az "went"=some none
 Ma:PySem.W.plainGet K A.aJ Str.empty=true
 Mb:PySem.W.hasDictIn K A.aJ=true
 Md:PySem.W.plainOver K A.aJ=true
 Mf:PySem.W.findIn K ↑A.aJ "__setattr__"=some (some (.builtin "object.__setattr__"))
 vp:PySem.W.makesIn K A.aJ=true
 Mg:PySem.W.keepIn K ↑A.aJ=true
 B9:PySem.W.findIn K ↑A.aJ "which"=some none
 jD:PySem.W.findIn K ↑A.aJ "word"=some none
 qq:PySem.W.findIn K ↑A.aJ "start"=some none
 gO:PySem.W.findIn K ↑A.aJ "front"=some none
 e9:PySem.W.findIn K ↑A.aJ "first"=some none
 hO:PySem.W.findIn K ↑A.aJ "rear"=some none
 iQ:PySem.W.findIn K ↑A.aJ "last"=some none
 GD:PySem.W.plainGet K A.aD Str.empty=true
 GF:PySem.W.hasDictIn K A.aD=true
 GH:PySem.W.plainOver K A.aD=true
 GJ:PySem.W.findIn K ↑A.aD "__setattr__"=some (some (.builtin "object.__setattr__"))
 qu:PySem.W.makesIn K A.aD=true
 GK:PySem.W.keepIn K ↑A.aD=true
 fb:PySem.W.findIn K ↑A.aD "rooms"=some none
 Ca:PySem.W.findIn K ↑A.aD "rules"=some none
 jE:PySem.W.findIn K ↑A.aD "goings"=some none
 kT:PySem.W.findIn K ↑A.aD "agenda"=some none
 jT:PySem.W.findIn K ↑A.aD "waiting"=some none
 mY:PySem.W.findIn K ↑A.aD "heard"=some none
 Mh:PySem.W.plainGet K A.cZ Str.empty=true
 Mi:PySem.W.hasDictIn K A.cZ=true
 Mj:PySem.W.plainOver K A.cZ=true
 Ml:PySem.W.findIn K ↑A.cZ "__setattr__"=some (some (.builtin "object.__setattr__"))
 Mm:PySem.W.makesIn K A.cZ=true
 Mp:PySem.W.keepIn K ↑A.cZ=true
 Mq:PySem.W.findIn K ↑A.cZ "__init__"=some (some (.builtin "object.__init__"))
 aaV:PySem.W.findIn K ↑A.cZ "__class__"=some (some (.builtin "object.__class__"))
 aaW:PySem.W.mroIn K A.cZ (.type "object")\true
 Cb:PySem.W.plainGet K A.bJ Str.empty=true
 Cd:PySem.W.hasDictIn K A.bJ=true
 Ce:PySem.W.plainOver K A.bJ=true
 Ci:PySem.W.findIn K ↑A.bJ "__setattr__"=some (some (.builtin "object.__setattr__"))
 Cj:PySem.W.makesIn K A.bJ=true
 Ck:PySem.W.keepIn K ↑A.bJ=true
 Cm:PySem.W.findIn K ↑A.bJ "__init__"=some (some (.builtin "object.__init__"))
 T9:PySem.W.findIn K ↑A.bJ "__class__"=some (some (.builtin "object.__class__"))
 Ua:PySem.W.mroIn K A.bJ (.type "object")\true
 Je:PySem.W.plainGet K A.cG Str.empty=true
 Jf:PySem.W.hasDictIn K A.cG=true
 Jg:PySem.W.plainOver K A.cG=true
 Jh:PySem.W.findIn K ↑A.cG "__setattr__"=some (some (.builtin "object.__setattr__"))
 Ji:PySem.W.makesIn K A.cG=true
 Jj:PySem.W.keepIn K ↑A.cG=true
 Jk:PySem.W.findIn K ↑A.cG "__init__"=some (some (.builtin "object.__init__"))
 XA:PySem.W.findIn K ↑A.cG "__class__"=some (some (.builtin "object.__class__"))
 XB:PySem.W.mroIn K A.cG (.type "object")\true
 Jl:PySem.W.excIn K A.cq rL "ValueError.__new__"=true
 qv:L2.Gh K A.aP=true
 w9:PySem.W.keepIn K ↑A.aP=true
 XC:PySem.W.exmOne K ↑A.aP ↑A.aP\true
 GN:(PySem.W.clsIn K A.aP).any (λcd=>L2.mF cd.mro)=true
 GO:PySem.W.hasDictIn K A.aP=true
 GP:PySem.W.findIn K ↑A.aP "__setattr__"=some (some (.builtin "object.__setattr__"))
 xc:PySem.W.findIn K ↑A.aP "__getattribute__"=some (some (.builtin "BaseException.__getattribute__"))
 xg:PySem.W.findIn K ↑A.aP "__getattr__"=some none
 xh:PySem.W.subIn K ↑A.aP (.type "BaseException")\true
 pC:PySem.W.findIn K ↑A.aP "made"=some none
 yD:PySem.W.findIn K ↑A.aP "rows"=some none
 aaX:PySem.W.specialIn K ↑A.eR "__getattribute__"=some (some (.builtin "type.__getattribute__"))
 aaY:PySem.W.readsIn K A.eR (.type "type")=true
 aaZ:(match PySem.W.findCls K ↑A.eR (.type "type") "__init__" with|some (.val (.builtin i))=>i=="ValueError.__init__" | _=>false)=true
 GQ:PySem.W.isClsIn K A.aP=true
 GR:PySem.W.findIn K ↑A.aP "__class__"=some (some (.builtin "object.__class__"))
 GU:PySem.W.mroIn K A.aP (.type "object")\true
 GV:PySem.W.exmOne K ↑A.aP ↑A.eR\true
 GW:PySem.W.findIn K ↑A.cq "__getattribute__"=some (some (.builtin "BaseException.__getattribute__"))
 GX:PySem.W.findIn K ↑A.cq "__getattr__"=some none
 GY:PySem.W.isClsIn K A.cq=true
 GZ:PySem.W.findIn K ↑A.cq "__class__"=some (some (.builtin "object.__class__"))
 G0:PySem.W.mroIn K A.cq (.type "object")\true
 G3:PySem.W.subIn K ↑A.cq (.type "BaseException")\true
 G4:PySem.W.exmOne K ↑A.cq ↑A.eR\true
 i5:PySem.W.specialIn K (.builtin "object.__class__") "__get__"=some (some (.builtin "getset_descriptor.__get__"))
 i6:PySem.W.takesIn K (.builtin "object.__class__")\true
 G5:PySem.W.kitOne K ↑A.aP ↑A.aP\true
 G6:PySem.W.kitOne K ↑A.aP ↑A.cq\false
 Jm:PySem.W.kitOne K ↑A.aP ↑A.vn\false
 G7:PySem.W.kitOne K ↑A.aP ↑A.sF\false
 DX:PySem.W.kitOne K ↑A.aP ↑A.qg\false
 Cp:PySem.W.kitOne K ↑A.aP ↑A.eR\true
 aa0:PySem.W.kitOne K ↑A.aP (.type "ValueError")\true
 aa1:PySem.W.kitOne K ↑A.cq ↑A.cq\true
 lam:LamAt K A.jR A.aaU A.di
def PVN(e:Lean.Term):Lean.MacroM Lean.Term:=if e.raw.isNatLit?.isSome then`(pv $e)else pure e
local macro_rules|`(#[$x,*])=>do
  if x.getElems.size=0 then Lean.Macro.throwUnsupported
  let mut r←`(aj)
  for e in x.getElems.reverse do r←`(ae $(←PVN e) $r)
  return r
local macro_rules(kind:=«term{_}»)|`({$x,*})=>do
  let a:=x.getElems
  let mut r←`(av $(a.back!))
  for e in a.pop.reverse do r←`(ai $e $r)
  return r
local macro_rules|`($x&&&$y)=>do`(bF dZ $(←PVN x) $(←PVN y) λ_ _=>rfl)
local macro_rules|`($x|||$y)=>do`(bF bS $(←PVN x) $(←PVN y) λ_ _=>rfl)
local macro_rules|`($x<<<$y)=>do
  let x←PVN x
  if y.raw.isNatLit?=some 0 then`(bq bL rfl $(Lean.mkIdent `T.fj) aix #[$x])else`(aF $x rfl)
def aI {A:qU}(T:Txt K M A):jZ K A.az:=⟨T.L5,T.L6,T.L7,T.L8⟩
def vo {A:qU}(T:Txt K M A):Mk K A.az A.mQ:=⟨T.vo,T.gw.m.at_,T.gw.m.fn,T.L9⟩
def aU {A:qU}(T:Txt K M A):jZ K A.aJ:=⟨T.Ma,T.Mb,T.Md,T.Mf⟩
def vp {A:qU}(T:Txt K M A):Mk K A.aJ A.mP:=⟨T.vp,T.gu.m.at_,T.gu.m.fn,T.Mg⟩
def aL {A:qU}(T:Txt K M A):jZ K A.aD:=⟨T.GD,T.GF,T.GH,T.GJ⟩
def qu {A:qU}(T:Txt K M A):Mk K A.aD A.kQ:=⟨T.qu,T.eZ.m.at_,T.eZ.m.fn,T.GK⟩
def Cq {A:qU}(T:Txt K M A):jZ K A.cZ:=⟨T.Mh,T.Mi,T.Mj,T.Ml⟩
def sP {A:qU}(T:Txt K M A):jZ K A.bJ:=⟨T.Cb,T.Cd,T.Ce,T.Ci⟩
def zA {A:qU}(T:Txt K M A):jZ K A.cG:=⟨T.Je,T.Jf,T.Jg,T.Jh⟩
def nZ:aT ["rooms","room","word","path","step"] ["rooms","room","word"] (aB BG):=(by ac_rfl)
def ia:aT ["rules","places","which","rule"] ["rules"] (aB oX):=(by ac_rfl)
def oC:aT ["letters","steps","letter"] ["letters"] (aB wB):=(by ac_rfl)
def fS:aT ["rooms","steps","found","numbers","rows","others","other"] ["rooms"] (aB wC):=(by ac_rfl)
def DY:aT ["step"] ["step"] (aB wD):=(by ac_rfl)
def DZ:aT ["name"] ["name"] (aB wF):=(by ac_rfl)
def oD:aT ["rooms","some","room","step"] ["rooms","some"] (aB wG):=(by ac_rfl)
def D0:aT ["letters"] ["letters"] (aB wH):=(by ac_rfl)
def Jn:aT ["value"] ["value"] (aB NP):=(by ac_rfl)
def lY:aT ["letters","rules","part","limit","order","chosen","rooms","closing","gap"] ["letters","rules","part","limit","order"] (aB I9):=(by ac_rfl)
def xi:aT ["_law_script","_law_k"] ["_law_script","_law_k"] (aB oY):=(by ac_rfl)
def Ad:aT ["_law_found"] ["_law_found"] (aB r9):=(by ac_rfl)
def Cr:aT ["_law_number","_law_letters"] ["_law_number","_law_letters"] (aB uo):=(by ac_rfl)
def fH:aT ["_law_number","_law_many","_law_plain","_law_by","_law_some","_law_turned"] ["_law_number","_law_many","_law_plain"] (aB o6):=(by ac_rfl)
def jh:aT ["_law_turns","_law_point","_law_word","_law_step_here"] ["_law_turns","_law_point","_law_word"] (aB sg):=(by ac_rfl)
def gx:aT ["_law_turns","_law_points","_law_word","_law_count","_law_spots"] ["_law_turns","_law_points","_law_word"] (aB qO):=(by ac_rfl)
def df:aT ["_law_turns","_law_letters","_law_mask","_law_room","_law_words","_law_k","_law_j","_law_found","_law_word","_law_often"] ["_law_turns","_law_letters","_law_mask","_law_room"] (aB sh):=(by ac_rfl)
def gy:aT ["_law_script","_law_turns","_law_letters","_law_first","_law_way","_law_words","_law_word","_law_cell"] ["_law_script","_law_turns","_law_letters","_law_first"] (aB uq):=(by ac_rfl)
def dQ:aT ["_law_cell","_law_letters","_law_most","_law_many","_law_word","_law_k"] ["_law_cell","_law_letters","_law_most"] (aB qP):=(by ac_rfl)
def dH:aT ["_law_script","_law_letters","_law_rules_here","_law_k","_law_part_here"] ["_law_script"] (aB mI):=(by ac_rfl)
def cE:aT ["_law_script","_law_plain","_law_many","_law_letters","_law_turns","_law_k","_law_mask","_law_first","_law_rules_here"] ["_law_script"] (aB si):=(by ac_rfl)
def dR:aT ["_law_letters","_law_rules_here","_law_part_here","_law_limit_here","_law_chosen","_law_found","_law_refused_here","e"] ["_law_letters","_law_rules_here","_law_part_here","_law_limit_here","_law_chosen"] (aB qQ):=(by ac_rfl)
def ji:aT ["_law_script","_law_cell","_law_limit_here"] ["_law_script"] (aB sj):=(by ac_rfl)
def Ct:aT ["_law_rows"] ["_law_rows"] (aB ur):=(by ac_rfl)
def ib:aT ["_law_letters","_law_rules_here","_law_part_here","_law_limit_here","_law_chosen","_law_kept","e"] ["_law_letters","_law_rules_here","_law_part_here","_law_limit_here","_law_chosen"] (aB o8):=(by ac_rfl)
def gP:aT ["_law_number","_law_handed","_law_error"] ["_law_number"] (aB j2):=(by ac_rfl)
def dF:aT ["_law_script","_law_letters","_law_turns","_law_rules_here","_law_part_here","_law_first","_law_limit_here","_law_chosen","_law_found","_law_refused_here","_law_made","_law_more","_law_again","_law_lesser","_law_some"] ["_law_script"] (aB NQ):=(by ac_rfl)
def tW:aT ["self","which","word","start"] ["self","which","word","start"] (aB mJ):=(by ac_rfl)
def jr:aT ["self","rooms","room"] ["self","rooms"] (aB nL):=(by ac_rfl)
def mZ:aT ["self","rooms","ahead","behind"] ["self","rooms"] (aB uv):=(by ac_rfl)
def fk:aT ["self","rooms","rules","part","room","which","word"] ["self","rooms","rules","part"] (aB kM):=(by ac_rfl)
def fT:aT ["self","room","rule","which"] ["self","room"] (aB jB):=(by ac_rfl)
def vq:aT ["self","which","word","room"] ["self","which","word","room"] (aB nM):=(by ac_rfl)
def tX:aT ["self"] ["self"] (aB mK):=(by ac_rfl)
def xj:aT ["self","room","step"] ["self","room","step"] (aB pe):=(by ac_rfl)
def m2:aT ["self","number","going"] ["self","number"] (aB nS):=(by ac_rfl)
def jU:aT ["self","number","room","step","steps","numbers"] ["self","number","room","step"] (aB pf):=(by ac_rfl)
def pD:aT ["self","going","step"] ["self","going"] (aB qR):=(by ac_rfl)
def xk:aT ["self","room","step"] ["self","room","step"] (aB ph):=(by ac_rfl)
def xl:aT ["self"] ["self"] (aB pj):=(by ac_rfl)
def fm:aT ["self","room","step","elder"] ["self","room"] (aB kO):=(by ac_rfl)
def ro:aT ["self","made","rows"] ["self","made","rows"] (aB kP):=(by ac_rfl)
def Cu:aT ["self","rooms"] ["self","rooms"] (aB uw):=(by ac_rfl)
def m3:aT ["self","rooms","gaps"] ["self","rooms"] (aB jP):=(by ac_rfl)
def Ae:aT ["self","rooms"] ["self","rooms"] (aB sk):=(by ac_rfl)
def tY:aT ["self","letters"] ["self","letters"] (aB mM):=(by ac_rfl)
def qV:aT ["self","room","step","number"] ["self","room","step"] (aB sr):=(by ac_rfl)
def sQ:aT ["self","room","step","other","row","pending"] ["self","room","step","other","row"] (aB ux):=(by ac_rfl)
def Ea:aT ["self","room","step"] ["self","room","step"] (aB wI):=(by ac_rfl)
def yE:aT ["self","room"] ["self","room"] (aB qS):=(by ac_rfl)
def tZ:aT ["self"] ["self"] (aB mO):=(by ac_rfl)
def yF:aT ["self"] ["self"] (aB qT):=(by ac_rfl)
def kU:aT ["self","room","step"] ["self","room"] (aB lE):=(by ac_rfl)
def Af:aT ["self","room","step","other"] ["self","room","step","other"] (aB su):=(by ac_rfl)
def dS:aT ["self","way","pending","room","step","other","led_to","come_from"] ["self","way","pending"] (aB nT):=(by ac_rfl)
def eA:aT ["self","room","step","one","other","pending","less","more","number"] ["self","room","step","one","other","pending"] (aB jQ):=(by ac_rfl)
def gQ:aT ["self","room","pending","ways","step","other"] ["self","room","pending"] (aB nU):=(by ac_rfl)
section
variable {P:Program}{w:World}{K:Za1}{mg:Str->Zl}{base:Heap}{A:qU}
def gY {c:PySem.Const}{p:PySem.Pos}{a:List PySem.Expr}{env:PySem.Env}:PySem.starEach (.Constant c j p::a) env=(false,PySem.eval (.Constant c j p) env)::PySem.starEach a env:=rfl
def Ao (K:Za1)(d:Zs):Sp:=λb H Q _=>∃(a:Zs) (ns:Zg),b=[↑a]/\aH K H a (ns.map V.int)/\⇑ns<=63/\H d\(.fy #[])/\∀c,Q (.bl true) c
def bx (n:Nat):Zg:=(~~~n).map M12.st
def tS (n:Nat):⇑(bx n)=n:=by unfold bx;cbv
def xm (h:i<n):(bx n)[i]?\(M12.st i):=by
 unfold bx;rw[ahZ,akD h];rfl
def QH (i:Nat):bx (2* i)++[1+ (i:Int)]++[-(1+ (i:Int))]=bx (2* (i+ 1)):=by
 let e:2* (i+ 1)=2* i+ 1+ 1:=∅
 rw[e];unfold bx;rw[ajf,ajf,aid,aid];let a:M12.st (2* i)=1+ (i:Int):=by unfold M12.st;rw[ah4 ∅];ext
 let b:M12.st (2* i+ 1)= -(1+ (i:Int)):=by unfold M12.st;rw[ahY ∅];ext
 show _=(~~~(2* i)).map M12.st++[M12.st (2* i)]++[M12.st (2* i+ 1)];rw[a,b]
def Jo (n:Nat):(bx n).Nodup:=by
 unfold bx;rwa[ajl.mpr (List.Pairwise.imp ?_ alb)];intro a b c z;let d:=M12.NM a;rw[z,M12.NM]at d;rwa[c d.symm]
def eH {rs:Zn}{r:Zs}(h:rs[i]?\r):j0 (rs.map V.ref) (i:Int)\(V.ref r):=dB (by rw[ahZ,h];rfl)
def Mr:Sp:=λb H Q _=>∃L:Nat,b=[.int L]/\1<=L/\L<=200/\∀l a,aq H a->a l\.lst (ao ((~~~(2* L)).map M12.st))->Q ↑l a
def Ub:Sp:=λb H Q _=>∃L:Nat,b=[.int L]/\1<=L/\L<=200/\∀d a,aq H a->H d=none->a d\.dK (gK (bx (2* L)))->Q ↑d a
inductive NR (C:Zs) (vs:Zb) (H:Hp) (Q:VK) (E_:XK):Prop
 |mk (x dx:Zs) (L:Nat):vs=[↑x,.int L]->H x\.ins C dx []->1<=L->L<=200->(∀a H',(∀b o,H b\o->b≠x->H' b\o)->ay C H' x (RS.new L (bx (2* L))) a->(∀b,a.own x b->b=x\/H b=none)->Q .non H')->NR C vs H Q E_
def dk (a:RA)(r:Zs)(H c:Hp):Prop:=∀b o,¬a.own r b->H b\o->c b\o
inductive Jp (C:Zs) (vs:Zb) (H:Hp) (Q:VK) (E_:XK):Prop
 |mk (r:Zs) (S:RS) (a:RA) (c d:Nat) (z:Int):vs=[↑r,.int c,.int z,.int d]->ay C H r S a->S.Wf->c<S.q->d<S.q->(∀l∈S.ways,⇑l<=100000)->(∀H',dk a r H H'->ay C H' r (S.keep c z d) a->Q .non H')->Jp C vs H Q E_
inductive Jq (C:Zs) (vs:Zb) (H:Hp) (Q:VK) (E_:XK):Prop
 |mk (r:Zs) (S:RS) (a:RA) (c:Nat) (z:Int):vs=[↑r,.int c,.int z]->ay C H r S a->S.Wf->1<=S.L->S.L<=200->c<S.q->S.q<=100000->⇑S.rows<=1000000->(∀l∈S.ways,⇑l<=100000)->(∀a' H',dk a r H H'->ay C H' r (S.make c z (bx (2* S.L))) a'->(∀b,a'.own r b->a.own r b\/H b=none)->Q (.int S.q) H')->Jq C vs H Q E_
inductive NT (C:Zs) (vs:Zb) (H:Hp) (Q:VK) (E_:XK):Prop
 |mk (r:Zs) (S:RS) (a:RA) (c:Nat) (z:Int):vs=[↑r,.int c,.int z]->ay C H r S a->c<⇑S.ways->(Q (((S.by c z).map λn:Nat=>V.int (n:Int)).getD .non) H)->NT C vs H Q E_
inductive E5 (C:Zs) (vs:Zb) (H:Hp) (Q:VK) (E_:XK):Prop
 |mk (r:Zs) (S:RS) (a:RA) (c e:Nat):vs=[↑r,.int c]->ay C H r S a->S.aX[c]?\e->Q (.int e) H->E5 C vs H Q E_
inductive xn (C:Zs) (vs:Zb) (H:Hp) (Q:VK) (E_:XK):Prop
 |mk (r:Zs) (S:RS) (a:RA):vs=[↑r]->ay C H r S a->S.Wf->S.q<=100000->(∀l,H l=none->Q ↑l (upd H l (.lst (ao (nI ((~~~S.q).filter λc=>decide (S.aX[c]?\c)))))))->xn C vs H Q E_
def xo (k:Nat):Sp:=λc H Q _=>∃(v:V) (d:Dt),c=[v]/\bQ H k v d/\mB d/\∀b a,aq H a->bQ a k b d->Q b a
inductive E6 (k:Nat) (C:Zs) (vs:Zb) (H:Hp) (Q:VK) (E_:XK):Prop
 |mk (r:Zs) (S:RS) (a:RA):vs=[↑r]->ay C H r S a->⇑S.rows<=1000000->(∀p d,d∈S.rows->bQ H 4 ↑p d->bQ H k ↑p d)->(∀l ps H',aq H H'->H l=none->H' l\.lst (ps.map V.ref)->Each (λp d=>bQ H' 4 ↑p d) ps S.rows->Q ↑l H')->E6 k C vs H Q E_
def Jr (T:Txt K mg A):du P w K mg base (cY P w) 2 A.tO A.tQ ["value"] (xo 0):=by
 rwa[T.own.F.okN Jn (λc H Q E h=>?_) (λp u f s H c Q E x h=>?_)]
 ·let⟨v,d,rfl,_⟩:=h;rfl
 ·let⟨v,d,rfl,g,j,k⟩:=h
  erw[_,{bB (dq (bq gM rfl T.bN ah1 #[0,gZ (v:=.ty "tuple") rfl T.tR aka rfl]))
   kD
   bj,bB (dq (bq gM rfl T.bN ah1 #[0,gZ (v:=.ty "list") rfl T.iG aiQ rfl]))
    kD
    bj,bB (dq (bq gM rfl T.bN ah1 #[0,gZ (v:=.ty "dict") rfl T.B7 ak2 rfl]))
    kD
    bj,bf (pv 0)}]
  rwa[iB ?_];intro q t o
  let atom:(∃n,v=.int n)\/(∃l,v=.str (tx l))\/∃(a:Zs) (c:Zb) (m:List Dt),v=↑a/\d=.t m/\False:=by
   cases g with
   |i=>exact .inl ⟨12⟩
   |s=>exact .inr (.inl ⟨12⟩)
   |n=>ext j
   |b=>ext j
  rcases atom with ⟨n,rfl⟩|⟨l,rfl⟩|⟨a,c,m,rfl,rfl,r⟩
  ·rwa[⟨_,rfl,_,_,_,_,rfl,.int n,qI K,_,rfl,dh ?_⟩];rwa[⟨1211112,.int n,rN K,12,dh ?_⟩];rwa[⟨1211112,.int n,rO K,12,dh ?_⟩];rwa[12,k _ H (λ_ _ e=>e) g]
  ·rwa[⟨1211112,.str (tx l),qJ K,12,dh ?_⟩];rwa[⟨1211112,.str (tx l),rP K,12,dh ?_⟩];rwa[⟨1211112,.str (tx l),rQ K,12,dh ?_⟩];rwa[12,k _ H (λ_ _ e=>e) g]
  ·rwa[r.elim]
def Cv (T:Txt K mg A)(p:du P w K mg base (cY P w) j A.tO A.tQ ["value"] (xo m)):du P w K mg base (cY P w) (j+ 1) A.tO A.tQ ["value"] (xo (m+ 1)):=by
 rwa[T.own.F.okN Jn (λg H Q E h=>?_) (λcC AA I s H g Q E J h=>?_)]
 ·let⟨v,d,rfl,_⟩:=h;rfl
 ·let⟨v,d,rfl,M,z,k⟩:=h
  erw[_,{bB (dq (bq gM rfl T.bN ah1 #[0,gZ (v:=.ty "tuple") rfl T.tR aka rfl]))
   {bf (gE qF rfl T.tR aka #[jn (fns:=[]) (ixs:=[]) (cl:=[]) rfl (Ax (pv 0)) (jJ ⋯ ⋯ rfl ⋯ rfl) (λC s H ex=>(pc (hj:=ahG _) T.own p J #[0]))])}
   bj,bB (dq (bq gM rfl T.bN ah1 #[0,gZ (v:=.ty "list") rfl T.iG aiQ rfl]))
    kD
    bj,bB (dq (bq gM rfl T.bN ah1 #[0,gZ (v:=.ty "dict") rfl T.B7 ak2 rfl]))
    kD
    bj,bf (pv 0)}]
  rwa[iB ?_];intro ja fI X
  let atom:(∃n,v=.int n)\/(∃l,v=.str (tx l))\/∃(a:Zs) (g:Zb) (ds:List Dt),v=↑a/\d=.t ds/\(H a\.tup g/\⇑g=⇑ds/\∀(c:Nat) (v:V) (x:Dt),g[c]?\v->ds[c]?\x->bQ H m v x):=by
   cases M with
   |i=>exact .inl ⟨12⟩
   |s=>exact .inr (.inl ⟨12⟩)
   |n=>ext z
   |b=>ext z
   |t o N L=>exact .inr (.inr ⟨11122,o,N,L⟩)
   |l=>ext z
  rcases atom with ⟨n,rfl⟩|⟨l,rfl⟩|⟨a,g,ds,rfl,rfl,F⟩
  ·rwa[⟨_,rfl,_,_,_,_,rfl,.int n,qI K,_,rfl,dh ?_⟩];rwa[⟨1211112,.int n,rN K,12,dh ?_⟩];rwa[⟨1211112,.int n,rO K,12,dh ?_⟩];rwa[12,k _ H (λ_ _ e=>e) M]
  ·rwa[⟨1211112,.str (tx l),qJ K,12,dh ?_⟩];rwa[⟨1211112,.str (tx l),rP K,12,dh ?_⟩];rwa[⟨1211112,.str (tx l),rQ K,12,dh ?_⟩];rwa[12,k _ H (λ_ _ e=>e) M]
  ·let⟨o,N,L⟩:=F;obtain⟨hz,r⟩:⇑ds<=100000/\∀x∈ds,mB x:=by cases z with|t a b=>exact⟨a,b⟩
   rwa[⟨1211112,.tup o,uP K "tuple",12,hV ?_⟩];erw[12,a,2,⟨_,bG.of o⟩];rwa[ny ⇑g (λi=>g.getD i .non) (λf v i=>∃x,ds[i]?\x/\mB x/\bQ f m v x) (λH1 f v i s ζ=>by let⟨x,e,hn,q⟩:=ζ;rwa[⟨x,e,hn,q.same s⟩]) ?_ (λi f s2 u=>RT (bG.of (s2^o)) i u) (λi x f Z s2 u y=>?_) (λf s2=>KH (bG.of (s2^o))) (λi f Rr u s2 kk=>?_) (λD f ys s2 Y hl J=>?_)]
   ·rwa[ahP ∅ (show 100000<=sizeLine by decide)]
   ·let⟨e,F⟩:=Ph (bG.of (s2^o)) i x Z u y
    cbv
   ·let F:g[i]?\(g.getD i .non):=by rw[ahJ,ahC u];rfl
    let B:ds[i]?\(ds[i]'∅):=ahC ∅
    rwa[⟨12112,(L i _ _ F B).same s2,r _ (ahB B),λU H' S q'=>kk U H' S ⟨_,B,r _ (ahB B),q'⟩⟩]
   ·rwa[⟨D,ys,2,.inl ⟨aH.of ah,λl G=>?_⟩⟩];let O:aq f (upd f D (.lst ys)):=aq.upd Y;let R:aq (upd f D (.lst ys)) (upd (upd f D (.lst ys)) l (.tup ys)):=aq.upd G;rwa[k _ _ (s2.trans (O.trans R)) (.t ah ∅ λc v x e1 e2=>?_)];obtain⟨y,e3,-,q⟩:=J c v e1;obtain rfl:y=x:=Za0 (e3.symm.trans e2);rwa[q.same (O.trans R)]
def Js (T:Txt K mg A):du P w K mg base (cY P w) 3 A.tO A.tQ ["value"] (xo 1):=Cv T (Jr T)
def zB (T:Txt K mg A):du P w K mg base (cY P w) 4 A.tO A.tQ ["value"] (xo 2):=Cv T (Js T)
def uz (T:Txt K mg A):T.qh.Ok P w base 1 Mr:=by
 rwa[T.qh.on oC (λu B f s H z Q E C h=>?_) (len:=by rintro _ _ _ _ ⟨L,rfl,_⟩;rfl)]
 ·let⟨L,rfl,t,y,k⟩:=h
  erw[_,{bC 1 oC.nd (bV aj),cW ah7 rfl (ni rfl T.eU #[au,aK cI (pv 0) au]) (dW 2 oC.nd)
    {aV (cM ahM ahV ahW bH (pv 1) #[2]),aV (cM ahM ahV ahW bH (pv 1) #[fe dN (pv 2)])},bf (pv 1)}]
  rwa[fP ?_];intro x q;rwa[⟨ah2 _,λl g=>?_⟩];let p:aq H (upd H l (.lst [])):=aq.upd g;let m:upd H l (.lst []) l\(.lst (ao (bx (2* 0)))):=ah;change upd H l (.lst [])=H0 at p m ⊢;erw[121122,(1),(L:Int)+ 1,2,⟨3333⟩];rwa[iq (lo:=1) (n:=((L:Int)+ 1 - 1).toNat) (λi j c=>∃v:Zc,j=#v[.int L,↑l,v]/\aq H c/\c l\.lst (ao (bx (2* i)))) ⟨none,2,p,m⟩ ?_ ?_]
  ·rintro i j c D ⟨v,rfl,d,a⟩;let r:i<L:=∅
   erw[12,.inl ⟨21,aH.of a⟩,12,l,1122,a,5]
   ·rw[aO,tS];rwa[ahK (show 2* i<=400 by omega) ⋯]
   erw[12,.inl ⟨21,aH.of ah⟩,1212,l,1122,ah,5]
   ·rw[ahA,aO,tS];rwa[ahK (show 2* i+ 1<=400 by omega) ⋯]
   erw[12,λb o e=>?_]
   ·rw[ak (ax e g),ak (ax e g)];rwa[d^e]
   ·rw[ah,<-QH,ints_app,ints_app];rfl
  ·rintro j c ⟨v,rfl,d,a⟩;rw[show ((L:Int)+ 1 - 1).toNat=L by ext]at a;rwa[12,k l c d a]
def uA (T:Txt K mg A):T.qj.Ok P w base 2 Ub:=by
 rwa[T.qj.on D0 (λY AA n s H vs Q E B h=>?_) (len:=by rintro _ _ _ _ ⟨L,rfl,_⟩;rfl)]
 ·let⟨L,rfl,o,G,k⟩:=h;erw[_,{bf (gE (vT rfl) rfl T.B7 ak2 #[jn (fns:=[]) (ixs:=[]) (cl:=[]) rfl (cO (pc T.qh (uz T) B #[0])) (jJ ⋯ ⋯ rfl ⋯ rfl) (λC s H ex=>(cy #[0,kr]))])}];rwa[⟨12,L,2,o,G,λl Z s1 j=>⟨l,2,⟨_,aH.of j⟩,5⟩⟩];let hn:⇑(ao ((~~~(2* L)).map M12.st))=2* L:=by rw[aO,ahE,air]
  rwa[ny (2* L) (λi=>.int (M12.st i)) (λc v i=>∃p,v=↑p/\c p\.tup [.int (M12.st i),.bl true]) (λZ c v i s ζ=>by let⟨p,e,q⟩:=ζ;rwa[⟨p,e,s^q⟩]) ?_ (λi c s2 f=>i3 (aH.of (s2^j)) i ∅) (λi x c U s2 f y=>?_) (λc s2=>?_) (λi c Rr f s2 X=>?_) (λD c ys s2 S u B=>?_)]
  ·rwa[ahP (show 2* L<=400 by omega) ⋯]
  ·let⟨e,hx⟩:=g6 (aH.of (s2^j)) i x U ∅ y;erw[e];rw[show (ao ((~~~(2* L)).map M12.st))[i]?=some (.int (M12.st i)) from cQ (xm f)]at hx
   cbv
  ·have:=fL (aH.of (K:=K) (s2^j));rw[hn]at this;rwa[this]
  ·rwa[⟨12,(Za4 2),λt R=>X _ _ (aq.upd R) ⟨t,2,ah⟩⟩]
  ·let⟨g,rfl,F⟩:=tK (P:=λi p=>c p\.tup [.int (M12.st i),.bl true]) ys 0 (λi v hv=>[Nat.zero_add]▸B i v hv);let J:aq c (upd c D (.lst (g.map V.ref))):=aq.upd S;rw[ahE]at u;rwa[⟨D,g,gK (bx (2* L)),2,ah,by rw[Sx,tS,u],λi p kv M r=>?_,λd I=>?_⟩]
   ·let f:i<2* L:=by rw[<-u];rwa[(ahD.mp M).1]
    have:=F i p M;rw[Nat.zero_add]at this;unfold gK at r;rw[ahZ,xm f]at r;rw[<-Za0 r];rwa[J^this]
   ·let e:i7 [] (gK (bx (2* L)))=gK (bx (2* L)):=by
     rw[zf _ _ ?_,akj];rw[akj];unfold gK;rw[aip];rwa[ajl.mpr (List.Pairwise.imp (λ{a b} m z=>m (Sum.inl.inj z)) (Jo _))]
    rw[e];let O:aq (upd c D (.lst (g.map V.ref))) (upd (upd c D (.lst (g.map V.ref))) d (.dK (gK (bx (2* L))))):=aq.upd I;let N:=s1.trans (s2.trans J);rwa[k d _ (N.trans O) (N.free I) ah]
def hU (T:Txt K mg A):T.iF.Ok mg P w base 1 (NT A.az):=by
 rwa[T.iF.on Ea (λf n d s H m Q E j h=>?_)]
 ·let⟨r,S,a,c,z,rfl,h,l,k⟩:=h;let b:=iJ j;erw[_,{bf (KY b ((0<<<1)|||1) (pv 2) ⟨2222⟩)}];let i:S.ways[c]?\(S.way c):=by unfold RS.way;rw[ahJ,ahC l];rfl
  let⟨p,g,e⟩:=h.rW.at i;erw[12,r,_,a.dx,112,h.ins,aI T,T.i9,iL^_,12,a.aW,11122,aH.of h.hW,eH g,p,2,.inl ⟨_,.inl e⟩,121,gf.k (k:=Sum.inl z) e];rw[kJ];rwa[k]
def iR (T:Txt K mg A):T.hM.Ok mg P w base 1 (E5 A.az):=by
 rwa[T.hM.on yE (λd j b s H g Q E i h=>?_)]
 ·let⟨r,S,a,c,e,rfl,h,f,k⟩:=h;erw[_,{bf ((0<<<1)|||1)}];rwa[12,r,_,a.dx,112,h.ins,aI T,T.jq,ju^_,12,a.aE,11122,aH.of h.hE,dB (cQ (jM f)),k]
def pE {c:Nat}(h:c<⇑S.ways):S.ways[c]?\(S.way c):=by unfold RS.way;cbv
def xq {c:Nat}(h:c<⇑S.gaps):S.gaps[c]?\(S.gap c):=by unfold RS.gap;cbv
def Cw (h:∀l∈S.ways,⇑l<=m):⇑(S.way n)<=m:=by
 unfold RS.way;rw[ahJ]
 cases e:S.ways[n]? with
 |none=>exact ah2 _
 |some l=>exact h l (ahB e)
def NV {r:Zs}(h:O.ws[i]?\a):O.own r a:=.inr (.inr (dD (ahB h)))
def WZ {r:Zs}(h:O.gs[i]?\a):O.own r a:=.inr (.inr (gk (ahB h)))
def dk.upd {r:Zs}{o:HO}(h:O.own r a):dk O r H (upd H a o):=λb u c e=>[ak (λz=>c ([z]▸h))]▸e
def dk.trans {r:Zs}(h:dk O r H I)(c:dk O r I J):dk O r H J:=λb u a e=>c b u a (h b u a e)
def qW (T:Txt K mg A):T.lS.Ok mg P w base 1 (Jp A.az):=by
 rwa[T.lS.on Af (λcC AA F s H vs Q E hr h=>?_)]
 ·let⟨r,S,a,c,d,z,rfl,h,hw,hc,M,Y,k⟩:=h;let j:=iJ hr
  erw[_,{tq j ((0<<<1)|||1) (pv 2) (pv 3) rfl,tq j ((0<<<1)|||3) (fe dN (pv 2)) (pv 1) rfl,aV (uR ((0<<<1)|||1) (pv 2) dA ⟨2222⟩),aV (uR ((0<<<1)|||3) (fe dN (pv 2)) dA ⟨2222⟩)}]
  rwa[iB ?_];intro ja fI fV;let⟨p,b,J⟩:=h.rW.at (pE (S:=S) (c:=c) ([hw.w]▸hc));let b1:⇑(S.way c)<=100000:=Cw Y;erw[1212,r,_,a.dx,112,h.ins,aI T,T.i9,iL^_,12,a.aW,11122,aH.of h.hW,eH b,12,p,12,rJ.k (k:=Sum.inl z) J ([Bb]▸ahK b1 ⋯)];rw[Bc];let n:ay A.az _ r (S.cj c z d) a:=h.Be b (iY (S.way c) z d);let X:dk a r H (upd H p (.dK (wK (iY (S.way c) z d)))):=dk.upd (NV b);change upd H p (.dK (wK (iY (S.way c) z d)))=G at n X ⊢;let w1:(S.cj c z d).ways.length=S.q:=by show ⇑(S.ways.set c _)=_;rw[ah6,hw.w]
  let⟨q,D,B⟩:=n.rW.at (pE (S:=S.cj c z d) (c:=d) ([w1]▸M))
  let b2:⇑((S.cj c z d).way d)<=100001:=Cw λl g=>by
   rcases ajQ g with g|rfl
   ·rwa[Nat.le_succ_of_le (Y l g)]
   ·rwa[ahP (Lc^_) (by omega)]
  rwa[⟨_,rfl,_,rfl,r,_,a.dx,_,_,rfl,n.ins,aI T,T.i9,iL^_,_,rfl,a.aW,_,_,_,rfl,rfl,aH.of n.hW,eH D,_,rfl,_,rfl,q,_,rfl,rJ.k (k:=Sum.inl (-z)) B (by rw[Bb];rwa[ahK b2 (by decide)]),?_⟩];rw[Bc];let f:ay A.az _ r ((S.cj c z d).cj d (-z) c) a:=n.Be D (iY ((S.cj c z d).way d) (-z) c);let O:dk a r G (upd G q (.dK (wK (iY ((S.cj c z d).way d) (-z) c)))):=dk.upd (NV D);change upd G q (.dK (wK (iY ((S.cj c z d).way d) (-z) c)))=H2 at f O ⊢;generalize U:(S.cj c z d).cj d (-z) c=C at f ⊢;let N:⇑C.gaps=S.q:=by rw[<-U];rwa[hw.g]
  let⟨p3,o,m⟩:=f.rG.at (xq (S:=C) (c:=c) ([N]▸hc))
  let pop:∀{H:Hp} {S:RS} {c:Nat} {z:Int} {p:Zs},ay A.az H r S a->a.gs[c]?\p->H p\.dK (gK (S.gap c))->∀{Q:V->Hp->Prop},(∀v L,dk a r H L->ay A.az L r (S.lL c z) a->Q v L)->
   KW p (.int z) .non H Q:=by
   intro H S c z p h b J Q B
   suffices q:(∀v,bA (gK (S.gap c)) (Sum.inl z)\v->Q v (upd H p (.dK (fh (gK (S.gap c)) (Sum.inl z)))))/\(bA (gK (S.gap c)) (Sum.inl z)=none->Q .non H) from ⟨_,Sum.inl z,J,2,q.1,q.2⟩
   rw[HY,PN];cases I:z∈S.gap c
   ·rw[ah4 I];rwa[λv _=>B _ _ (dk.upd (WZ b)) (h.SF b _),λz=>by ext z]
   ·rw[ahY I];rwa[⟨λv z=>(by ext z),λ_=>B _ _ (λ_ _ _ e=>e) ?_⟩];let e:(S.gap c).filter (λx=>decide (x≠z))=S.gap c:=List.filter_eq_self.mpr λx hx=>ah9 λz=>I (z ▸ hx)
    let g:c<⇑S.gaps:=by rw[<-h.rG.1];rwa[(ahD.mp b).1]
    have:S.lL c z=S:=by
     unfold RS.lL RS.setG;rw[e]
     let es:S.gaps.set c (S.gap c)=S.gaps:=ajX λi=>by
      cases Z:c=i
      ·subst Z;rw[ait g,xq g]
      ·rw[aiZ Z]
     rw[es]
    rw[this];rwa[h]
  rwa[⟨12,r,_,a.dx,112,f.ins,aI T,T.sN,tH^_,12,a.aG,11122,aH.of f.hG,eH o,p3,2,.inl ⟨_,.inl m⟩,12,pop f o m λv H3 u3 t=>?_⟩];generalize e3:C.lL c z=S3 at t;let g3:⇑S3.gaps=S.q:=by rw[<-e3];show ⇑(C.gaps.set c _)=_;rw[ah6,N]
  let⟨p4,y,u⟩:=t.rG.at (xq (S:=S3) (c:=d) ([g3]▸M));rwa[⟨12,r,_,a.dx,112,t.ins,aI T,T.sN,tH^_,12,a.aG,11122,aH.of t.hG,eH y,p4,2,.inl ⟨_,.inl u⟩,1212,pop t y u λv H4 u4 R=>?_⟩];rwa[k H4 (X.trans (O.trans (u3.trans u4))) ?_];rw[<-e3,<-U]at R;rwa[R]
def ua (T:Txt K mg A):T.gw.Ok mg P w base 3 (NR A.az):=by
 rwa[T.gw.on tY (λcC AA outer s H vs Q E hr h=>?_)]
 ·let⟨x,j,L,rfl,hx,kX,uB,k⟩:=h
  erw[_,{b8 (pv 0) (pv 1) rfl,b8 (pv 0) au rfl,b8 (pv 0) (bV aj) rfl,b8 (pv 0) (bV #[fN]) rfl,b8 (pv 0) (bV #[pc T.qj (uA T) hr #[1]]) rfl,b8 (pv 0) (bV #[au]) rfl,b8 (pv 0) (bV #[bV #[au]]) rfl,b8 (pv 0) (bV aj) rfl}]
  rwa[Bg ?_];intro Jt zC oh lF ja fI fV
  let st:∀{H0:Hp} {fs:List (Str×V)} {f:Str} {v:V},H0 x\.ins A.az j fs->(∀b o,H b\o->b≠x->H0 b\o)->upd H0 x (.ins A.az j (bI f v fs)) x\.ins A.az j (bI f v fs)/\(∀b o,H b\o->b≠x->upd H0 x (.ins A.az j (bI f v fs)) b\o)/\∀b o,b≠x->H0 b\o->upd H0 x (.ins A.az j (bI f v fs)) b\o:=
   λ_ h=>⟨ah,λb o e n=>[ak n]▸h b o e n,λb o n e=>[ak n]▸e⟩
  erw[1212,x,_,j,12,hx,aI T,T.sL,(by show 0<1000;decide)];obtain⟨x1,o1,-⟩:=st (f:="letters") (v:=.int L) hx (λb o e _=>e);change upd H x (.ins A.az j (bI "letters" (.int L) []))=H1 at x1 o1 ⊢;let f1:⇑(bI "letters" (.int L) ([]:List (Str×V)))<=1:=jw (n:=0) (ahG _);erw[12,x,_,j,12,x1,aI T,T.pA,ahK f1 ⋯];obtain⟨x2,o2,-⟩:=st (f:="made") (v:=.int 1) x1 o1;let f2:=jw (f:="made") (v:=.int 1) f1;generalize e2:bI "made" (.int 1) (bI "letters" (.int L) [])=XE at x2 o2 f2 ⊢;change upd H1 x (.ins A.az j XE)=H2 at x2 o2 ⊢;rwa[⟨ah2 _,λD nR=>⟨12,x,_,j,12,aq.upd nR _ _ x2,aI T,T.sM,ahK f2 ⋯,5⟩⟩];let XF:upd H2 D (.lst []) D\(.lst []):=ah;let I:D≠x:=(ax x2 nR).symm;let s3:=aq.upd (o:=.lst []) nR
  let n0:∀{b:Zs} {H0:Hp},(∀c o,H c\o->c≠x->H0 c\o)->H0 b=none->b≠x->H b=none:=λ{b H0} h n nx=>by
   cases e:H b with
   |none=>rfl
   |some o=>rw[h b o e nx]at n;ext n
  let kR:=n0 o2 nR I;change upd H2 D (.lst [])=H3 at XF s3 ⊢;let⟨x4,o4,k4⟩:=st (f:="rows") (v:=↑D) (s3^x2) (λb o e n=>s3^o2 b o e n);let f4:=jw (f:="rows") (v:=↑D) f2;generalize e4:bI "rows" ↑D XE=XG at x4 o4 f4 k4 ⊢;let Uc:=k4 _ _ I XF;change upd H3 x (.ins A.az j XG)=H4 at x4 o4 Uc ⊢;intro wd Ud;let q:wd≠x:=(ax x4 Ud).symm;let XH:=n0 o4 Ud q;let s5:=aq.upd (o:=.dK []) Ud;let Ue:upd H4 wd (.dK []) wd\(.dK []):=ah;change upd H4 wd (.dK [])=H5 at s5 Ue ⊢;rwa[⟨(Za4 1),λz nW=>⟨12,x,_,j,12,aq.upd nW _ _ (s5^x4),aI T,T.i9,ahK f4 ⋯,5⟩⟩];let X:z≠x:=(ax (s5^x4) nW).symm;let kW:=n0 (λb o e n=>s5^o4 b o e n) nW X;let nWR:z≠D:=(ax (s5^Uc) nW).symm;let s6:=aq.upd (o:=.lst [↑wd]) nW;let XI:upd H5 z (.lst [↑wd]) z\(.lst [↑wd]):=ah;change upd H5 z (.lst [↑wd])=H6 at s6 XI ⊢;let⟨x7,o7,k7⟩:=st (f:="ways") (v:=↑z) (s6^s5^x4) (λb o e n=>s6^s5^o4 b o e n);let f7:=jw (f:="ways") (v:=↑z) f4;generalize e7:bI "ways" ↑z XG=XJ at x7 o7 f7 k7 ⊢;let Ug:=k7 _ _ I (s6^s5^Uc);let Uh:=k7 _ _ X XI;let Ms:=k7 _ _ q (s6^Ue);change upd H6 x (.ins A.az j XJ)=H7 at x7 o7 Ug Uh Ms ⊢;rwa[⟨12,L,2,kX,uB,λgd H8 s8 Ui aa2=>?_⟩];let y:gd≠x:=(ax x7 Ui).symm;let kgd:=n0 o7 Ui y;let ngw:gd≠wd:=(ax Ms Ui).symm;rwa[⟨(Za4 1),λF nG=>⟨12,x,_,j,12,aq.upd nG _ _ (s8^x7),aI T,T.sN,ahK f7 ⋯,5⟩⟩];let Ju:F≠x:=(ax (s8^x7) nG).symm;let kG:=n0 (λb o e n=>s8^o7 b o e n) nG Ju;let nGR:F≠D:=(ax (s8^Ug) nG).symm;let nGW:F≠z:=(ax (s8^Uh) nG).symm;let s9:=aq.upd (o:=.lst [↑gd]) nG;let XM:upd H8 F (.lst [↑gd]) F\(.lst [↑gd]):=ah;change upd H8 F (.lst [↑gd])=H9 at s9 XM ⊢;let⟨x10,NW,Z⟩:=st (f:="gaps") (v:=↑F) (s9^s8^x7) (λb o e n=>s9^s8^o7 b o e n);let Jv:=jw (f:="gaps") (v:=↑F) f7;generalize e10:bI "gaps" ↑F XJ=Uj at x10 NW Jv Z ⊢;let Mt:=Z _ _ I (s9^s8^Ug);let Mu:=Z _ _ X (s9^s8^Uh);let NX:=Z _ _ q (s9^s8^Ms);let Mv:=Z _ _ Ju XM;let NZ:=Z _ _ y (s9^aa2);change upd H9 x (.ins A.az j Uj)=Cy at x10 NW Mt Mu NX Mv NZ ⊢;rwa[⟨4,λB nE=>⟨12,x,_,j,12,aq.upd nE _ _ x10,aI T,T.jq,ahK Jv ⋯,5⟩⟩];let N0:B≠x:=(ax x10 nE).symm;let kE:=n0 NW nE N0;let nER:B≠D:=(ax Mt nE).symm;let nEW:B≠z:=(ax Mu nE).symm;let nEG:B≠F:=(ax Mv nE).symm;let u:=aq.upd (o:=.lst [.int 0]) nE;let Uk:upd Cy B (.lst [.int 0]) B\(.lst [.int 0]):=ah;change upd Cy B (.lst [.int 0])=Ul at u Uk ⊢;let⟨Y,Jw,N⟩:=st (f:="elders") (v:=↑B) (u^x10) (λb o e n=>u^NW b o e n);let Um:=jw (f:="elders") (v:=↑B) Jv;generalize e12:bI "elders" ↑B Uj=Uo at Y Jw Um N ⊢;let S:=N _ _ I (u^Mt);let O:=N _ _ X (u^Mu);let N1:=N _ _ q (u^NX);let U:=N _ _ Ju (u^Mv);let N2:=N _ _ y (u^NZ);let R:=N _ _ N0 Uk;change upd Ul x (.ins A.az j Uo)=XQ at Y Jw S O N1 U N2 R ⊢;rwa[⟨4,λcl t=>⟨(Za4 1),λC nC=>⟨12,x,_,j,12,aq.upd nC _ _ (aq.upd t _ _ Y),aI T,T.mX,ahK Um ⋯,5⟩⟩⟩];let Mw:cl≠x:=(ax Y t).symm;let kcl:=n0 Jw t Mw;let ncR:cl≠D:=(ax S t).symm;let ncW:cl≠z:=(ax O t).symm;let ncG:cl≠F:=(ax U t).symm;let ncE:cl≠B:=(ax R t).symm;let a:=aq.upd (o:=.lst [.int 0]) t;let G:upd XQ cl (.lst [.int 0]) cl\(.lst [.int 0]):=ah;change upd XQ cl (.lst [.int 0])=XS at a G nC ⊢;let Uq:C≠x:=(ax (a^Y) nC).symm;let kC:=n0 (λb o e n=>a^Jw b o e n) nC Uq;let nCR:C≠D:=(ax (a^S) nC).symm;let nCW:C≠z:=(ax (a^O) nC).symm;let nCG:C≠F:=(ax (a^U) nC).symm;let nCE:C≠B:=(ax (a^R) nC).symm;let nCc:C≠cl:=(ax G nC).symm;let l:=aq.upd (o:=.lst [↑cl]) nC;let Ur:upd XS C (.lst [↑cl]) C\(.lst [↑cl]):=ah;change upd XS C (.lst [↑cl])=H14 at l Ur ⊢;let⟨Jx,N3,r⟩:=st (f:="called") (v:=↑C) (l^a^Y) (λb o e n=>l^a^Jw b o e n);let N4:=jw (f:="called") (v:=↑C) Um;generalize e15:bI "called" ↑C Uo=Us at Jx N3 N4 r ⊢;let Mx:=r _ _ I (l^a^S);let My:=r _ _ X (l^a^O);let N5:=r _ _ q (l^a^N1);let Mz:=r _ _ Ju (l^a^U);let N6:=r _ _ y (l^a^N2);let MA:=r _ _ N0 (l^a^R);let M:=r _ _ Mw (l^G);let MB:=r _ _ Uq Ur;change upd H14 x (.ins A.az j Us)=XT at Jx N3 Mx My N5 Mz N6 MA M MB ⊢;rwa[⟨ah2 _,λJ nN=>⟨12,x,_,j,12,aq.upd nN _ _ Jx,aI T,T.sO,ahK N4 ⋯,5⟩⟩];let XU:J≠x:=(ax Jx nN).symm;let kN:=n0 N3 nN XU;let nNR:J≠D:=(ax Mx nN).symm;let nNW:J≠z:=(ax My nN).symm;let nNG:J≠F:=(ax Mz nN).symm;let nNE:J≠B:=(ax MA nN).symm;let nNC:J≠C:=(ax MB nN).symm;let nNc:J≠cl:=(ax M nN).symm;let g:=aq.upd (o:=.lst []) nN;let Ut:upd XT J (.lst []) J\(.lst []):=ah;change upd XT J (.lst [])=H16 at g Ut ⊢;let⟨XW,XX,m⟩:=st (f:="went") (v:=↑J) (g^Jx) (λb o e n=>g^N3 b o e n)
  let ef:bI "went" ↑J Us=fw (L:Int) 1 ⟨j,D,z,F,B,C,J,[],[wd],[gd],[cl]⟩:=by
   rw[<-e15,<-e12,<-e10,<-e7,<-e4,<-e2]
   kernel_rfl
  rw[ef]at XW XX m ⊢;rwa[k ⟨j,D,z,F,B,C,J,[],[wd],[gd],[cl]⟩ _ XX ⟨XW,m _ _ I (g^Mx),m _ _ X (g^My),m _ _ Ju (g^Mz),m _ _ N0 (g^MA),m _ _ Uq (g^MB),m _ _ XU Ut,⟨2,(λi p d h=>by simp at h)⟩,555,(λd hd=>by ext hd),55⟩ ?_]
  ·rwa[Each.snoc (ps:=[]) (xs:=[]) ⟨2,λi p d h=>by simp at h⟩ (m _ _ q (g^N5))]
  ·rwa[Each.snoc (ps:=[]) (xs:=[]) ⟨2,λi p d h=>by simp at h⟩ (m _ _ y (g^N6))]
  ·rwa[Each.snoc (ps:=[]) (xs:=[]) ⟨2,λi p d h=>by simp at h⟩ (m _ _ Mw (g^M))]
  ·show [D,z,F,B,C,J,cl].Nodup;simp only[aih,ahR,ail,ajN,not_or,ajn,and_true,aj2]
   cbv
  ·show [wd,gd].Nodup;simp only[aih,ahR,ail,ajN,ajn,and_true,aj2];rwa[ngw.symm]
  ·intro b hb;rcases hb with rfl|hb|hb
   ·rwa[.inl rfl]
   ·simp only[RA.lists,ahR,ail,ajN]at hb
    cbv
   ·simp only[RA.eM,ahL,ahR,ail,ajN]at hb
    cbv
def _root_.Lake.L2.ay.Cz {r:Zs}(h:ay a H r S O){p:Zs}(b:H p=none):¬O.own r p:=λz=>by
 let⟨o,e⟩:=h.there z
 cbv
theorem Ag (T:Txt K mg A):T.qp.Ok mg P w base 3 (Jq A.az):=by
 rwa[T.qp.on qV (λcC AA outer s H vs Q E hr h=>?_)]
 ·let⟨r,S,a,c,z,rfl,h,hw,kX,uB,hc,hm,zD,hz,k⟩:=h
  erw[_,{bC 3 qV.nd (0<<<1),b8 (pv 0) (aK cI (pv 3) au) rfl,aV (cM ahM ahV ahW bH (0<<<1) #[cy #[cR (l:=[110,101,119]) rfl,1,2,3]]),aV (cM ahM ahV ahW bH (0<<<1) #[fN]),aV (cM ahM ahV ahW bH (0<<<1) #[pc T.qj (uA T) hr #[0<<<1]]),aV (cM ahM ahV ahW bH (0<<<1) #[3]),aV (cM ahM ahV ahW bH (0<<<1) #[bV #[3]]),aV (pm (pv 0) (aI T) T.lS (qW T) hr #[1,2,3]),bf (pv 3)}]
  rwa[Ld ?_];intro XY Jt zC oh lF ja fI fV;erw[12,r,_,a.dx,112,h.ins,aI T,T.pA,tF^_];erw[12112212,r,_,a.dx,12,h.ins,aI T,T.pA,(by show 8<1000;decide)];rw[HZ,show (S.q:Int)+ 1=((S.q+ 1:Nat):Int) by ext];let h1:=h.PQ (S.q+ 1);let u1:dk a r H (upd H r (.ins A.az a.dx (fw S.L ((S.q+ 1:Nat):Int) a))):=dk.upd (.inl rfl);change upd H r (.ins A.az a.dx (fw S.L ((S.q+ 1:Nat):Int) a))=H1 at h1 u1 ⊢;let lR:⇑(a.rs.map V.ref)<sizeLine:=by rw[ahE,h.rR.1];rwa[ahK zD ⋯]
  rwa[⟨12,r,_,a.dx,112,h1.ins,aI T,T.sM,tG^_,.inl ⟨21,aH.of h1.hR⟩,121212,(Za4 4),λt ht=>⟨a.aR,1122,aq.upd ht _ _ h1.hR,lR,5⟩⟩];let s2:=aq.upd (o:=.tup [.str (tx [110,101,119]),.int c,.int z,.int S.q]) ht;let XZ:upd H1 t (.tup [.str (tx [110,101,119]),.int c,.int z,.int S.q]) t\(.tup [.str (tx [110,101,119]),.int c,.int z,.int S.q]):=ah;change upd H1 t (.tup [.str (tx [110,101,119]),.int c,.int z,.int S.q])=H2 at s2 XZ ⊢
  let hd2:bQ H2 4 ↑t (kK c z S.q):=by
   rwa[.t XZ rfl λj v d x I=>?_]
   rcases j with _|_|_|_|j
   ·simp at x I;subst x I;rwa[.s]
   ·simp at x I;subst x I;rwa[.i]
   ·simp at x I;subst x I;rwa[.i]
   ·simp at x I;subst x I;rwa[.i]
   ·simp at x
  let nl:mB (kK c z S.q):=.t (by show 4<=100000;decide) λd hd=>by
   simp only[ahR,ail,ajN]at hd;rcases hd with rfl|rfl|rfl|rfl
   ·rwa[.s]
   ·rwa[.i]
   ·rwa[.i]
   ·rwa[.i]
  let C:=(h1.same s2).Bd hd2 nl;let u3:dk a r H2 (upd H2 a.aR (.lst (a.rs.map V.ref++[↑t]))):=dk.upd (.inr (.inl fX));change upd H2 a.aR (.lst (a.rs.map V.ref++[↑t]))=H3 at C u3 ⊢;generalize R:({ a with rs:=a.rs++[t] }:RA)=n at C;let Y:∀b,n.own r b->a.own r b:=λb f=>by rw[<-R]at f;rwa[f]
  let aga:∀b,a.own r b->n.own r b:=λb f=>by rw[<-R];rwa[f]
  let ewG:n.dx=a.dx:=by rw[<-R]
  let U3:dk a r H H3:=u1.trans (λb o f e=>u3 b o f (s2^e));erw[12,r,_,n.dx,112,C.ins,aI T,T.i9,iL^_,.inl ⟨21,aH.of C.hW⟩];intro i y;let hdW:⇑(n.ws.map V.ref)<sizeLine:=by rw[ahE,C.rW.1];show ⇑S.ways<sizeLine;rw[hw.w];rwa[ahK hm ⋯]
  let s4:=aq.upd (o:=.dK []) y;let L:upd H3 i (.dK []) i\(.dK (wK [])):=ah;let aa3:=C.Cz y;erw[n.aW,1122,s4^C.hW,hdW];change upd H3 i (.dK [])=H4 at s4 L ⊢;let F:=(C.same s4).Sz L (λz=>aa3 (.inr (.inr z)));let u5:dk n r H4 (upd H4 n.aW (.lst (n.ws.map V.ref++[↑i]))):=dk.upd (.inr (.inl fY));change upd H4 n.aW (.lst (n.ws.map V.ref++[↑i]))=H5 at F u5 ⊢;generalize ea5:({ n with ws:=n.ws++[i] }:RA)=m at F
  let agj:∀b,m.own r b->n.own r b\/b=i:=λb f=>by
   rw[<-ea5]at f;rcases f with f|f|f
   ·rwa[.inl (.inl f)]
   ·rwa[.inl (.inr (.inl f))]
   ·simp only[RA.eM,ahL,ahH]at f;rcases f with (f|f)|f
    ·rwa[.inl (.inr (.inr (ah3 _ f)))]
    ·rwa[.inr f]
    ·rwa[.inl (.inr (.inr (ahI _ f)))]
  let XH:H i=none\/a.own r i:=by
   cases B:a.own r i
   ·rwa[.inr B]
   ·rwa[.inl ?_]
    cases e:H i with
    |none=>rfl
    |some o=>rw[U3 i o B e]at y;ext y
  let U5:dk a r H H5:=U3.trans λb o f e=>u5 b o (λz=>f (Y b z)) (s4^e)
  rwa[⟨12,r,_,m.dx,112,F.ins,aI T,T.sN,tH^_,.inl ⟨21,aH.of F.hG⟩,12,r,_,m.dx,112,F.ins,aI T,T.sL,vU^_,S.L,2,kX,uB,λu H6 s6 N X=>?_⟩];let hdG:⇑(m.gs.map V.ref)<sizeLine:=by rw[ahE,F.rG.1];show ⇑S.gaps<sizeLine;rw[hw.g];rwa[ahK hm ⋯]
  let h6:=F.same s6;let aa4:=F.Cz N;erw[m.aG,1122,h6.hG,hdG];let U:=h6.SD X (λz=>aa4 (.inr (.inr z)));let u7:dk m r H6 (upd H6 m.aG (.lst (m.gs.map V.ref++[↑u]))):=dk.upd (.inr (.inl jf));change upd H6 m.aG (.lst (m.gs.map V.ref++[↑u]))=H7 at U u7 ⊢;generalize ea7:({ m with gs:=m.gs++[u] }:RA)=g at U
  let agk:∀b,g.own r b->m.own r b\/b=u:=λb f=>by
   rw[<-ea7]at f;rcases f with f|f|f
   ·rwa[.inl (.inl f)]
   ·rwa[.inl (.inr (.inl f))]
   ·simp only[RA.eM,ahL,ahH]at f;rcases f with f|f|f
    ·rwa[.inl (.inr (.inr (ah3 _ f)))]
    ·rwa[.inl (.inr (.inr (ahI _ f)))]
    ·rwa[.inr f]
  let w5:H i=none\/a.own r i:=XH
  let aa5:∀b o,¬a.own r b->H b\o->¬m.own r b:=λb o f e z=>by
   cbv
  let U7:dk a r H H7:=λb o f e=>u7 b o (aa5 b o f e) (s6^U5 b o f e)
  let kgd:H u=none\/a.own r u:=by
   cases B:a.own r u
   ·rwa[.inr B]
   ·rwa[.inl ?_]
    cases e:H u with
    |none=>rfl
    |some o=>rw[U5 u o B e]at N;ext N
  erw[12,r,_,g.dx,112,U.ins,aI T,T.jq,ju^_,.inl ⟨21,aH.of U.hE⟩,12,g.aE,1122,U.hE,5]
  ·rw[aO,bZ];show ⇑S.aX<sizeLine;rw[hw.e];rwa[ahK hm ⋯]
  let eE:ao (nI S.aX)++[V.int (S.q:Int)]=ao (nI (S.aX++[S.q])):=by rw[iu,ints_app];rfl
  show _;let J:=U.zg (S.aX++[S.q]);rw[<-eE]at J;let u8:dk g r H7 (upd H7 g.aE (.lst (ao (nI S.aX)++[V.int (S.q:Int)]))):=dk.upd (.inr (.inl gN));change upd H7 g.aE (.lst (ao (nI S.aX)++[V.int (S.q:Int)]))=H8 at J u8 ⊢
  let G:∀b o,¬a.own r b->H b\o->¬g.own r b:=λb o f e z=>by
   cbv
  let U8:dk a r H H8:=λb o f e=>u8 b o (G b o f e) (U7 b o f e)
  rwa[⟨12,r,_,g.dx,112,J.ins,aI T,T.mX,nk^_,.inl ⟨21,aH.of J.hC⟩,12,(Za4 1),λcl q=>⟨g.aC,1122,aq.upd q _ _ J.hC,55⟩⟩]
  ·rw[ahE,J.rC.1];show ⇑S.called<sizeLine;rw[hw.c];rwa[ahK hm ⋯]
  let s9:=aq.upd (o:=.lst [.int (S.q:Int)]) q;let D:upd H8 cl (.lst [.int (S.q:Int)]) cl\(.lst (ao (nI [S.q]))):=ah;let aa6:=J.Cz q;change upd H8 cl (.lst [.int (S.q:Int)])=H9 at s9 D ⊢;let O:=(J.same s9).Ia D (λz=>aa6 (.inr (.inl z)));let Z:dk g r H9 (upd H9 g.aC (.lst (g.cs.map V.ref++[↑cl]))):=dk.upd (.inr (.inl iM));change upd H9 g.aC (.lst (g.cs.map V.ref++[↑cl]))=Cy at O Z ⊢;generalize aa7:({ g with cs:=g.cs++[cl] }:RA)=p at O
  let agb:∀b,p.own r b->g.own r b\/b=cl:=λb f=>by
   rw[<-aa7]at f;rcases f with f|f|f
   ·rwa[.inl (.inl f)]
   ·let Br:b∈g.lists++[cl]:=f;rcases ahL.mp Br with f|f
    ·rwa[.inl (.inr (.inl f))]
    cbv
   ·rwa[.inl (.inr (.inr f))]
  let kcl:H cl=none\/a.own r cl:=by
   cases B:a.own r cl
   ·rwa[.inr B]
   ·rwa[.inl ?_]
    cases e:H cl with
    |none=>rfl
    |some o=>rw[U8 cl o B e]at q;ext q
  let M:∀b o,¬a.own r b->H b\o->¬p.own r b:=λb o f e z=>by
   cbv
  let U10:dk a r H Cy:=λb o f e=>Z b o (G b o f e) (s9^U8 b o f e)
  let hS:ay A.az Cy r (S.grown c z (bx (2* S.L))) p:=O;rwa[⟨12,r,p.dx,12,hS.ins,cS _ _ _ ⋯,121212,r,S.grown c z (bx (2* S.L)),p,c,S.q,z,2,hS,⟨5555⟩,555,λUl u11 h11=>?_⟩]
  ·show ⇑(S.ways++[[]])=S.q+ 1;rw[ahA,hw.w];rfl
  ·show ⇑(S.gaps++[_])=S.q+ 1;rw[ahA,hw.g];rfl
  ·show ⇑(S.aX++[_])=S.q+ 1;rw[ahA,hw.e];rfl
  ·show ⇑(S.called++[_])=S.q+ 1;rw[ahA,hw.c];rfl
  ·show c<S.q+ 1;ext
  ·show S.q<S.q+ 1;ext
  ·intro l hl;rcases ahL.mp hl with hl|hl
   ·rwa[hz l hl]
   cbv
  ·rwa[⟨_,rfl,k p Ul (λb o f e=>u11 b o (M b o f e) (U10 b o f e)) h11 λb f=>?_⟩]
   cbv
def fZ (T:Txt K mg A):T.eS.Ok mg P w base 1 (xn A.az):=by
 rwa[T.eS.on tZ (λo v g s H u Q E y h=>?_)]
 ·let⟨r,S,a,rfl,h,hw,q,k⟩:=h;erw[_,{bf (wj (fns:=["self"]) (ixs:=[0]) (cl:=_) rfl (ip rfl T.eU #[0<<<1]) (lK rfl rfl ⋯ rfl ⋯ rfl ⋯ ⋯ rfl rfl rfl rfl) (λC s H ex=>(aZ dJ (bF (A7 (K:=K) rfl) (PV (K:=K) rfl (pv 1) rfl) (pv 0) (λ_ _=>rfl)) (pv 0) (bh _))) (λC s H ex=>(pv 0)))}];erw[12,r,_,a.dx,112,h.ins,aI T,T.pA,tF^_,(S.q:Int),233];rw[aic];erw[λi m ys j=>m=S.q - i/\i<=S.q/\ys=ao (nI ((~~~i).filter λc=>decide (S.aX[c]?\c)))/\j=H,⟨S.q,by simp,ah2 _,22⟩];rintro i m ys j ⟨rfl,B,rfl,rfl⟩
  let hlen:⇑(ao (nI ((~~~i).filter λc=>decide (S.aX[c]?\c))))<=i:=by
   rw[aO,bZ];rwa[ahP (ajK _ _) (by cbv)]
  cases b:i<S.q
  ·rwa[.inr ⟨b,5,λx t f=>?_⟩]
   ·rwa[ahK (ahP hlen (show i<=100000 by omega)) ⋯]
   let⟨rfl,rfl⟩:=f;let l:S.aX[i]?\(S.aX[i]'([hw.e]▸b)):=ahC _
   change S.aX[i]'(by cbv)=e at l;erw[12,r,_,a.dx,112,h.ins,aI T,T.jq,ju^_,12,a.aE,11122,aH.of h.hE,([Int.zero_add]▸dB (cQ (jM l)))];erw[12212];cases d:e=i
   ·subst d;rw[show decide (V.int (e:Int)=V.int (0+ (e:Int)))=true from ah9 (by rw[Int.zero_add])];rwa[⟨12,S.q - (e+ 1),32,b,52⟩];rw[ajf,List.filter_append,akV (by cbv),List.filter_nil,iu,ints_app,Int.zero_add];rfl
   ·rw[show decide (V.int (e:Int)=V.int (0+ (i:Int)))=false from aik (λz=>d (by injection z with z;omega))];rwa[⟨S.q - (i+ 1),32,b,52⟩];rw[ajf,List.filter_append,List.filter_cons_of_neg (by cbv),List.filter_nil,aib]
  ·let e:i=S.q:=∅
   subst e;rwa[.inl ⟨ahG _,ahP hlen (ahP q ⋯),λD n=>k D n⟩]
def pF (T:Txt K mg A):T.kB.Ok mg P w base 5 (E6 2 A.az):=by
 rwa[T.kB.on yF (λcC AA m s H vs Q E X h=>?_)]
 ·let⟨r,S,a,rfl,h,B,u,k⟩:=h;erw[_,{bf (jn (fns:=[]) (ixs:=[]) (cl:=[]) rfl (cO (0<<<1)) (jJ ⋯ ⋯ rfl ⋯ rfl) (λC s H ex=>(pc T.own (zB T) X #[0])))}];erw[12,r,_,a.dx,112,h.ins,aI T,T.sM,tG^_,a.aR,2,⟨_,aH.of h.hR⟩];let j:⇑(a.rs.map V.ref)=⇑S.rows:=by rw[ahE,h.rR.1]
  let L:∀i,i<⇑S.rows->∃p d,a.rs[i]?\p/\S.rows[i]?\d/\d∈S.rows/\bQ H 4 ↑p d:=λi f=>by
   let c:=ahC f;let⟨p,o,q⟩:=h.rR.at c;rwa[p,_,o,c,ahB c,q]
  rwa[ny ⇑S.rows (λi=>(a.rs.map V.ref).getD i .non) (λb v i=>∃p d,v=↑p/\S.rows[i]?\d/\mB d/\bQ b 4 ↑p d) (λH1 b v i s q0=>by let⟨p,x,e,n,hn,q⟩:=q0;rwa[p,x,e,n,hn,q.same s]) ?_ (λi b s2 f=>i3 (aH.of (s2^h.hR)) i ∅) (λi x b H3 s2 f y=>?_) (λb s2=>?_) (λi b Rr f s2 kk=>?_) (λD b ys s2 N U X=>?_)]
  ·rwa[ahP B ⋯]
  ·let⟨e,F⟩:=g6 (aH.of (s2^h.hR)) i x H3 ∅ y;erw[e];rw[ahJ,F];rfl
  ·have:=fL (aH.of (K:=K) (s2^h.hR));rw[j]at this;rwa[this]
  ·let⟨p,d,o,c,g,q⟩:=L i f;let F:(a.rs.map V.ref).getD i .non=↑p:=by rw[ahJ,ahZ,o];rfl
   let q1:=(u p d g q).same s2;rw[F];rwa[⟨12,↑p,d,2,q1,h.flat d g,λv' H' s' Z=>?_⟩]
   have:∃J,v'=↑J:=by
    let I:∃R,d=.t R:=by
     cases q with
     |t=>cbv
     |l=>exact absurd (h.flat _ g) (λz=>by ext z)
    let⟨R,rfl⟩:=I
    cases Z with
    |t=>cbv
   let⟨J,rfl⟩:=this;rwa[kk _ H' s' ⟨J,d,2,c,h.flat d g,Z.le ⋯⟩]
  ·let⟨O,rfl,G⟩:=tK (P:=λi p=>∃d,S.rows[i]?\d/\bQ b 4 ↑p d) ys 0 (λi v hv=>by
    cbv)
   let M:aq b (upd b D (.lst (O.map V.ref))):=aq.upd N;rw[ahE]at U;rwa[k D O _ (s2.trans M) (s2.free N) ah ⟨U,λi p d e1 n=>?_⟩];let⟨d',Y,q⟩:=G i p e1;rw[Nat.zero_add]at Y;obtain rfl:d'=d:=Za0 (Y.symm.trans n);rwa[q.same M]
def dv (H:Hp)(p:Zs)(a:Ze):Prop:=∃b:Zn,H p\.lst (b.map V.ref)/\Each (λq (w:Way)=>H q\.tup [.int (w.1:Int),.int w.2.1,.int (w.2.2:Int)]) b a
def qw (a:RA)(r p:Zs)(H c:Hp):Prop:=∀b o,¬a.own r b->b≠p->H b\o->c b\o
def dv.keep {c:Ze}(h:dv H a c)(k:∀o,H a\o->I a\o)(f:∀b d,H b\.tup d->I b\.tup d):dv I a c:=by
 let⟨g,j,i⟩:=h;rwa[g,k _ j,i.imp λq w _ _ e=>f^e]
structure Small (S:RS):Prop where
 m:S.q<=100000
 w:∀l∈S.ways,⇑l<=100000
 r:⇑S.rows<=1000000
 n:⇑S.a9<=1000000
 c:∀l∈S.called,⇑l<=1000000
inductive CB (C:Zs) (vs:Zb) (H:Hp) (Q:VK) (E_:XK):Prop
 |mk (r p:Zs) (S:RS) (a:RA) (c:Nat) (pend:Ze):vs=[↑r,.int c,↑p]->ay C H r S a->S.Wf->c<S.q->F5 S c->(∀l∈S.ways,⇑l<=100000)->dv H p pend->¬a.own r p->⇑pend<=1000000->(∀a' H',qw a r p H H'->ay C H' r (S.oR c pend).1 a'->dv H' p (S.oR c pend).2->(∀b,a'.own r b->a.own r b\/H b=none)->Q .non H')->CB C vs H Q E_
inductive E7 (C:Zs) (vs:Zb) (H:Hp) (Q:VK) (E_:XK):Prop
 |mk (r p:Zs) (S:RS) (a:RA) (c x y:Nat) (z:Int) (pend:Ze):vs=[↑r,.int c,.int z,.int x,.int y,↑p]->ay C H r S a->S.Wf->x<S.q->y<S.q->x≠y->F5 S (max x y)->(∀n∈S.ck (max x y),n<S.q)->Small S->dv H p pend->¬a.own r p->⇑pend<=1000000->(∀a' H',qw a r p H H'->ay C H' r (S.meet c z x y pend).1 a'->dv H' p (S.meet c z x y pend).2->(∀b,a'.own r b->a.own r b\/H b=none)->Q .non H')->E7 C vs H Q E_
structure xr (S:RS):Prop where
 wf:S.Wf
 el:∀c,c<S.q->S.aw c<S.q
 bl:∀c z d,S.by c z=some d->d<S.q
 cl:∀c,∀n∈S.ck c,n<S.q
 off:∀c,c<S.q->F5 S c
 sm:Small S
inductive CD (C:Zs) (vs:Zb) (H:Hp) (Q:VK) (E_:XK):Prop
 |mk (r t p:Zs) (S:RS) (a:RA) (w:Way) (pend:Ze):vs=[↑r,↑t,↑p]->ay C H r S a->H t\.tup [.int (w.1:Int),.int w.2.1,.int (w.2.2:Int)]->xr S->w.1<S.q->w.2.2<S.q->dv H p pend->¬a.own r p->⇑pend<=1000000->(∀a' H',qw a r p H H'->ay C H' r (S.takeIn pend w).1 a'->dv H' p (S.takeIn pend w).2->(∀b,a'.own r b->a.own r b\/H b=none)->Q .non H')->CD C vs H Q E_
inductive N7 (C:Zs) (vs:Zb) (H:Hp) (Q:VK) (E_:XK):Prop
 |mk (r q:Zs) (S:RS) (a:RA) (c d:Nat) (z:Int) (row:Dt) (I:RS->Ze->Prop) (μ:RS->Ze->Nat):vs=[↑r,.int c,.int z,.int d,↑q]->ay C H r S a->⇑S.rows<=1000000->bQ H 2 ↑q row->mB row->I { S with rows:=S.rows++[row] } [(c,z,d)]->(∀S pend w,I S (pend++[w])->xr S/\w.1<S.q/\w.2.2<S.q/\⇑pend<=1000000/\I (S.takeIn pend w).1 (S.takeIn pend w).2/\μ (S.takeIn pend w).1 (S.takeIn pend w).2 < μ S (pend++[w]))->(∀S' a' H',dk a r H H'->ay C H' r S' a'->I S' []->(∀b,a'.own r b->a.own r b\/H b=none)->Q .non H')->N7 C vs H Q E_
def pG (h:i<n):vP n (i:Int)\i:=by
 unfold vP;rw[ah4 ∅,ah4 ∅,aic]
def MC {l:List (Int×Nat)}(a:(l.map (·.1)).Nodup){q:Int×Nat}(h:q∈l):fu l q.1\q.2:=by
 induction l with
 |nil=>ext h
 |cons p l b=>
  unfold fu;rw[aiS,aih]at a;cases e:p.1=q.1
  ·cbv
  ·rw[akg (by simpa using e)];rcases ahR.mp h with rfl|h
   ·rwa[absurd rfl e]
   ·rwa[b a.2 h]
def vt (T:Txt K mg A):T.lA.Ok mg P w base 1 (CB A.az):=by
 rwa[T.lA.on gQ (λcC AA outer s H vs Q E hr h=>?_)]
 ·let⟨r,p,S,a,c,d,rfl,h,hw,hc,ok,sm,hP,np,oU,k⟩:=h;let qX:=iJ hr
  erw[_,{bC 3 gQ.nd ((0<<<1)|||1),mh fN (vH (0<<<1) (pv 1) set_list),cW ah7 rfl (cO (gE (jN rfl) rfl T.iG aiQ #[3])) (dW 4 gQ.nd)
    {bC 5 gQ.nd (EA qX (pv 3) (pv 4) (λ_ _=>rfl)),bE (bB (aZ pV (pv 5) (pv 1) (bh _))
     {aV (KZ ((0<<<1)|||5) (fe dN (pv 4)) ⟨2222⟩)}
     bj),aV (cM ahM ahV ahW bH (pv 2) #[cy #[1,4,5]])}}]
  rwa[fP ?_];intro fI fV;let X:c<⇑S.ways:=by rw[hw.w];rwa[hc]
  let⟨u,v,X1⟩:=h.rW.at (pE X);let X2:⇑(S.way c)<=100000:=Cw sm;erw[12,r,_,a.dx,112,h.ins,aI T,T.i9,iL^_,12,a.aW,11122,aH.of h.hW,eH v];intro G F;let s1:=aq.upd (o:=.dK []) F;let U:upd H G (.dK []) G\(.dK (wK [])):=ah;let nn:=h.Cz F;let nnp:G≠p:=λz=>by let⟨L,q1,_⟩:=hP;cbv
  change upd H G (.dK [])=H1 at s1 U ⊢;let h1:=h.same s1;let hi:c<⇑a.ws:=by rw[h.rW.1];rwa[X]
  erw[12,r,_,a.dx,112,h1.ins,aI T,T.i9,iL^_,12,a.aW,11,c,22,h1.hW,pG ([ahE]▸hi)];let h2:=h1.SG hi U (λz=>nn (.inr (.inr z)));let u2:∀b o,b≠a.aW->H1 b\o->upd H1 a.aW (.lst ((a.ws.map V.ref).set c ↑G)) b\o:=λb o y e=>by rw[ak y];rwa[e]
  change upd H1 a.aW (.lst ((a.ws.map V.ref).set c ↑G))=H2 at h2 u2 ⊢;let npW:p≠a.aW:=λz=>np (.inr (.inl ([z]▸fY)))
  let wdW:u≠a.aW:=(h.ld fY (dD (ahB v))).symm;let O:H2 u\(.dK (wK (S.way c))):=u2 _ _ wdW (s1^X1);generalize E8:({ a with ws:=a.ws.set c G }:RA)=a2 at h2;let X3:ay A.az H2 r (dc c S d []).1 a2:=h2
  let aa8:¬a2.own r u:=λz=>by
   rw[<-E8]at z;rcases z with z|z|z
   ·rwa[(h.rd (dD (ahB v))) z.symm]
   ·rwa[h.ld z (dD (ahB v)) rfl]
   ·let X4:=aiD.mp h.mC;let z':u∈a.ws.set c G++a.gs:=z;rcases ahL.mp z' with z|z
    ·let⟨j,N⟩:=aiu z;cases e:c=j
     ·subst e;rw[ait hi]at N;have:G=u:=Za0 N;rw[this,X1]at F;ext F
     ·rw[aiZ e]at N;rwa[e ((List.getElem?_inj hi X4.1).mp (v.trans N.symm))]
    ·rwa[X4.2.2 u (ahB v) u z rfl]
  let M:∀b,a2.own r b->a.own r b\/H b=none:=λb f=>by
   rw[<-E8]at f;rcases f with f|f|f
   ·rwa[.inl (.inl f)]
   ·rwa[.inl (.inr (.inl f))]
   ·let Br:b∈a.ws.set c G++a.gs:=f;rcases ahL.mp Br with f|f
    ·rcases ajQ f with f|rfl
     ·rwa[.inl (.inr (.inr (ah3 _ f)))]
     ·rwa[.inr F]
    ·rwa[.inl (.inr (.inr (ahI _ f)))]
  let xt:¬a2.own r p:=λz=>by
   rcases M p z with q|q
   ·rwa[np q]
   ·let⟨L,q1,_⟩:=hP;cbv
  let EV:dv H2 p (dc c S d []).2:=hP.keep (λo e=>u2 _ _ npW (s1^e)) (λb Y e=>u2 _ _ (h.tl e fY) (s1^e));let B2:qw a r p H H2:=λb o y _ e=>u2 _ _ (λz=>y (.inr (.inl ([z]▸fY)))) (s1^e)
  rwa[⟨12,u,12,O,λl nl=>?_⟩];let s3:=aq.upd (o:=.lst ((wK (S.way c)).map λC=>kV C.1)) nl;let Z:upd H2 l (.lst ((wK (S.way c)).map λC=>kV C.1)) l\(.lst ((wK (S.way c)).map λC=>kV C.1)):=ah;let E9:=X3.Cz nl;let X5:l≠p:=λz=>by let⟨L,q1,_⟩:=EV;cbv
  let nlw:l≠u:=λz=>by cbv
  let nlH:H l=none\/a.own r l:=by
   cases ho:a.own r l
   ·rwa[.inr ho]
   ·rwa[.inl ?_]
    cases e:H l with
    |none=>rfl
    |some o=>rw[B2 l o ho X5 e]at nl;ext nl
  change upd H2 l (.lst ((wK (S.way c)).map λC=>kV C.1))=H3 at s3 Z ⊢;erw[l,2,⟨_,aH.of Z⟩];let hlen:⇑((wK (S.way c)).map λC=>kV C.1)=⇑(S.way c):=by rw[ahE,Bb]
  rwa[eY (xs:=(wK (S.way c)).map λC=>kV C.1) (λi σ J=>∃v4 v5,σ=#v[↑r,.int (c:Int),↑p,↑u,v4,v5]/\ay A.az J r (dc c S d ((S.way c).take i)).1 a2/\dv J p (dc c S d ((S.way c).take i)).2/\(∀b o,¬a2.own r b->b≠p->H3 b\o->J b\o)) ⟨none,none,2,X3.same s3,EV.keep (λo e=>s3^e) (λb Y e=>s3^e),λb o _ _ e=>e⟩ (λi σ J _ q0=>by let⟨_,_,_,_,_,kk⟩:=q0;rwa[aH.of (kk _ _ E9 X5 Z)]) ?_ ?_]
  ·rintro i x σ J hx ⟨v4,v5,rfl,R,B,kk⟩;let I:i<⇑(S.way c):=by rw[<-hlen];rwa[(ahD.mp hx).1]
   let hg:(S.way c)[i]?\((S.way c)[i]'I):=ahC I
   change (S.way c)[i]'I=w at hg
   let ex:x=.int w.1:=by
    unfold wK at hx;rw[ahZ,ahZ,hg]at hx;rwa[(Za0 hx).symm]
   subst ex;let hm:=ahB hg;let Jy:(S.way c).take (i+ 1)=(S.way c).take i++[w]:=by rw[ajA,hg];rfl
   let aa9:J u\(.dK (wK (S.way c))):=kk _ _ aa8 (λz=>by let⟨L,q1,_⟩:=EV;cbv) (s3^O);let hv:bA (wK (S.way c)) (Sum.inl w.1)\(.int (w.2:Int)):=by rw[kJ,MC ok.nd hm];rfl
   let j1:=ok.lt w hm;let Ti:=(gF c S d ((S.way c).take i)).1;erw[1212,u,12,(by have:=gf.k (k:=Sum.inl w.1) aa9;rw[hv]at this;rwa[this])];erw[λ ik H'=>ik=#v[↑r,.int (c:Int),↑p,↑u,.int w.1,.int (w.2:Int)]/\ay A.az H' r (dc c S d ((S.way c).take (i+ 1))).1 a2/\dv H' p (dc c S d ((S.way c).take i)).2/\(∀b o,¬a2.own r b->b≠p->H3 b\o->H' b\o),5]
   ·rwa[⟨1212212,bR (λuj=>?_) (λuj=>?_)⟩]
    ·let n:w.2≠c:=λz=>by cbv
     let hd2:w.2<(dc c S d ((S.way c).take i)).1.ways.length:=by rw[Ti,hw.w];rwa[j1]
     let⟨pd,D,X6⟩:=R.rW.at (pE hd2)
     let SJ:((dc c S d ((S.way c).take i)).1.by w.2 (-w.1)).isSome=true:=by
      rw[yg X _ (λq hq=>[hw.w]▸ok.lt q (List.mem_of_mem_take hq)),ahY]
      ·rwa[ok.bk w hm n]
      ·rintro (q|⟨q,hq,q1,q2⟩)
       ·rwa[n q]
       ·let⟨j,N⟩:=aiu hq
        let hji:j<i:=by
         have:=(ahD.mp N).1;rw[aif]at this;ext
        rw[akI hji]at N;let e1:((S.way c).map (·.1))[j]?\q.1:=by rw[ahZ,N];rfl
        let e2:((S.way c).map (·.1))[i]?\w.1:=by rw[ahZ,hg];rfl
        let e3:q.1=w.1:=∅
        rw[e3]at e1;have:=(List.getElem?_inj ([ahE]▸I) ok.nd).mp (e2.trans e1.symm);ext
     let⟨m,CF⟩:=akH.mp SJ;erw[12,r,_,a2.dx,112,R.ins,aI T,T.i9,iL^_,12,a2.aW,11122,aH.of R.hW,eH D,pd,2,.inl ⟨_,.inl X6⟩,12121,Sum.inl (-w.1),.int (m:Int),X6,25]
     ·rw[kJ];show ((dc c S d ((S.way c).take i)).1.by w.2 (-w.1)).map _=_;rw[CF];rfl
     ·rw[PX];rwa[⟨25,B.keep (λo e=>?_) (λb Y e=>?_),λb o y g e=>?_⟩]
      ·rw[Jy,iw];unfold jx;simp only[n,alc,aj2,ne_eq];rwa[R.Be D _]
      ·rw[ak (λz=>xt (.inr (.inr (dD ([z]▸ahB D)))))];rwa[e]
      ·rw[ak (R.td e (dD (ahB D)))];rwa[e]
      ·rw[ak (λz=>y (.inr (.inr (dD ([z]▸ahB D)))))];rwa[kk b o y g e]
    ·let n:w.2=c:=by
      cases e:w.2=c
      ·rwa[e]
      ·cbv
     rwa[⟨25,B,kk⟩];rw[Jy,iw];unfold jx
     cbv
   rintro ik H5 ⟨rfl,h5,hP5,kk5⟩;let⟨L,Jz,Fb⟩:=hP5
   let CH:⇑(L.map V.ref)<sizeLine:=by
    rw[ahE,Fb.1,zh,ahA,ahE,aif];rwa[ahK (show _<=1100000 by omega) ⋯]
   rwa[⟨12,.inl ⟨21,aH.of Jz⟩,121212,(Za4 3),λt nt=>?_⟩];let s6:=aq.upd (o:=.tup [.int (c:Int),.int w.1,.int (w.2:Int)]) nt;let X7:upd H5 t (.tup [.int (c:Int),.int w.1,.int (w.2:Int)]) t\(.tup [.int (c:Int),.int w.1,.int (w.2:Int)]):=ah;change upd H5 t (.tup [.int (c:Int),.int w.1,.int (w.2:Int)])=H6 at s6 X7 ⊢;erw[p,1122,s6^Jz,CH];let kp:∀b o,b≠p->H6 b\o->upd H6 p (.lst (L.map V.ref++[↑t])) b\o:=λb o y e=>by rw[ak y];rwa[e]
   let Uu:∀b Y,H6 b\.tup Y->upd H6 p (.lst (L.map V.ref++[↑t])) b\(.tup Y):=λb Y e=>kp _ _ (bT e (s6^Jz) (by cbv)) e
   rwa[⟨112,(h5.same s6).keep (λb o f e=>kp b o (λz=>xt (z ▸ f)) e) Uu,⟨L++[t],55⟩,λb o y g e=>kp b o g (s6^kk5 b o y g e)⟩]
   ·rw[ah,aid];rfl
   ·rw[Jy,iw];rwa[(Fb.imp λq w' _ _ e=>Uu^s6^e).snoc (Uu^X7)]
  ·rintro σ J ⟨v4,v5,rfl,R,B,kk⟩;rw[hlen,ai3]at R B;rwa[k a2 J (λb o y g e=>?_) R B M];let e2:=B2 b o y g e;rwa[kk b o (λz=>by cbv) g (s3^e2)]
def xu (h:n<⇑S.called):S.called[n]?\(S.ck n):=by unfold RS.ck;cbv
def pH (h:n<⇑S.aX):S.aX[n]?\(S.aw n):=by unfold RS.aw;cbv
def JA (h:∀l∈S.called,⇑l<=m):⇑(S.ck n)<=m:=by
 unfold RS.ck;rw[ahJ]
 cases e:S.called[n]? with
 |none=>exact ah2 _
 |some l=>exact h l (ahB e)
theorem vu (x:Nat):∀(l a:Zh),⇑(l.foldl (λa n=>a.set n x) a)=⇑a
 |[],_=>rfl
 |n::l,a=>by rw[akQ,vu x l,ah6]
def ints_set (ns:Zg)(i:Nat)(z:Int):(ao ns).set i (.int z)=ao (ns.set i z):=by
 unfold ao;rw[List.map_set]
def jF (T:Txt K mg A):T.fG.Ok mg P w base 2 (E7 A.az):=by
 rwa[T.fG.on eA (λcC AA outer s H vs Q E hr h=>?_)]
 ·let⟨r,p,S,a,c,x,y,z,f,rfl,h,hw,hx,hy,hxy,ok,nJ,sm,hP,np,oU,k⟩:=h
  erw[_,{bC 6 eA.nd (bq (yS rfl) rfl T.GA PyProof.Rows.boot_min #[3,4]),bC 7 eA.nd (bq (Hn rfl) rfl T.WX PyProof.Rows.boot_max #[3,4]),aV (cM ahM ahV ahW bH (0<<<1) #[cy #[cR (l:=[109,101,101,116]) rfl,1,2,6,7]]),aV (cM ahM ahV ahW bH (0<<<1) #[7]),cW ah7 rfl (cO ((0<<<1)|||7)) (dW 8 eA.nd)
    {mh (pv 6) (vH (0<<<1) (pv 8) set_list)},aV (cM ahM PySem.F.slot_list_extend PySem.F.type_list_extend y4 ((0<<<1)|||6) #[(0<<<1)|||7]),aV (pm (pv 0) (aI T) T.lA (vt T) hr #[7,5])}]
  rwa[mE ?_];intro zC oh lF ja fI fV;let C:(if (y:Int)<(x:Int) then (y:Int) else (x:Int))=((min x y:Nat):Int):=by split <;> ext
  let F:(if (y:Int) > (x:Int) then (y:Int) else (x:Int))=((max x y:Nat):Int):=by split <;> ext
  let JB:min x y<max x y:=∅
  let I:max x y<S.q:=∅
  generalize ev:min x y=u at C JB;let ek:∀a' O,qw a r p H O->ay A.az O r ((S.joined c z u (max x y)).oR (max x y) f).1 a'->dv O p ((S.joined c z u (max x y)).oR (max x y) f).2->(∀b,a'.own r b->a.own r b\/H b=none)->Q .non O:=λa' O h1 N M g=>k a' O h1 (by unfold RS.meet;rw[ev];rwa[N]) (by unfold RS.meet;rw[ev];rwa[M]) g
  clear k;change max x y=v at F JB I ok nJ ek;erw[1212112];rw[C];erw[1212112];rw[F];let lR:⇑(a.rs.map V.ref)<sizeLine:=by rw[ahE,h.rR.1];rwa[ahK sm.r ⋯]
  rwa[⟨12,r,_,a.dx,112,h.ins,aI T,T.sM,tG^_,.inl ⟨21,aH.of h.hR⟩,12121212,(Za4 5),λt nt=>⟨a.aR,1122,aq.upd nt _ _ h.hR,lR,5⟩⟩];let s1:=aq.upd (o:=.tup [.str (tx [109,101,101,116]),.int (c:Int),.int z,.int (u:Int),.int (v:Int)]) nt;let X8:upd H t (.tup [.str (tx [109,101,101,116]),.int (c:Int),.int z,.int (u:Int),.int (v:Int)]) t\(.tup [.str (tx [109,101,101,116]),.int (c:Int),.int z,.int (u:Int),.int (v:Int)]):=ah;change upd H t (.tup [.str (tx [109,101,101,116]),.int (c:Int),.int z,.int (u:Int),.int (v:Int)])=H1 at s1 X8 ⊢
  let HR:bQ H1 4 ↑t (hJ c z u v):=by
   rwa[.t X8 rfl λj w d C F=>?_]
   rcases j with _|_|_|_|_|j
   ·simp at C F;subst C F;rwa[.s]
   ·simp at C F;subst C F;rwa[.i]
   ·simp at C F;subst C F;rwa[.i]
   ·simp at C F;subst C F;rwa[.i]
   ·simp at C F;subst C F;rwa[.i]
   ·simp at C
  let nl:mB (hJ c z u v):=.t (by show 5<=100000;decide) λd hd=>by
   simp only[ahR,ail,ajN]at hd;rcases hd with rfl|rfl|rfl|rfl|rfl
   ·rwa[.s]
   ·rwa[.i]
   ·rwa[.i]
   ·rwa[.i]
   ·rwa[.i]
  let N:=(h.same s1).Bd HR nl;let B2:qw a r p H (upd H1 a.aR (.lst (a.rs.map V.ref++[↑t]))):=λb o D _ e=>by rw[ak (λz=>D (.inr (.inl ([z]▸fX))))];rwa[s1^e]
  let npl:∀{b},b∈a.lists->p≠b:=λhb z=>np (.inr (.inl ([z]▸hb)))
  let P2:dv (upd H1 a.aR (.lst (a.rs.map V.ref++[↑t]))) p f:=hP.keep (λo e=>[ak (npl fX)]▸s1^e) (λb xs e=>[ak (h.tl e fX)]▸s1^e);change upd H1 a.aR (.lst (a.rs.map V.ref++[↑t]))=H2 at N B2 P2 ⊢;generalize E8:({ a with rs:=a.rs++[t] }:RA)=a2 at N;let Y:∀b,a2.own r b↔a.own r b:=λb=>by rw[<-E8];rwa[Iff.rfl]
  let xt:¬a2.own r p:=λz=>np ((Y p).mp z)
  let G:∀{b},b∈a2.lists->p≠b:=λhb z=>xt (.inr (.inl ([z]▸hb)))
  let lN:⇑(ao (nI S.a9))<sizeLine:=by rw[aO,bZ];rwa[ahK sm.n ⋯]
  erw[12,r,_,a2.dx,112,N.ins,aI T,T.sO,tI^_,.inl ⟨21,aH.of N.hN⟩,12,a2.aN,1122,N.hN,lN];let eN:ao (nI S.a9)++[V.int (v:Int)]=ao (nI (S.a9++[v])):=by rw[iu,ints_app];rfl
  let M:=N.PR (S.a9++[v]);rw[<-eN]at M;let B3:qw a r p H (upd H2 a2.aN (.lst (ao (nI S.a9)++[V.int (v:Int)]))):=λb o D B e=>by rw[ak (λz=>D ((Y b).mp (.inr (.inl ([z]▸hX)))))];rwa[B2 b o D B e]
  let P3:dv (upd H2 a2.aN (.lst (ao (nI S.a9)++[V.int (v:Int)]))) p f:=P2.keep (λo e=>[ak (G hX)]▸e) (λb xs e=>[ak (N.tl e hX)]▸e);show _;change upd H2 a2.aN (.lst (ao (nI S.a9)++[V.int (v:Int)]))=H3 at M B3 P3 ⊢;let⟨pv,J,hPV⟩:=M.rC.at (show S.called[v]?=some (S.ck v) from xu ([hw.c]▸I));let mpv:=ahB J;erw[12,r,_,a2.dx,112,M.ins,aI T,T.mX,nk^_,12,a2.aC,11122,aH.of M.hC,eH J,pv,2,⟨_,aH.of hPV⟩];obtain⟨-,-,-,-,-,nc⟩:=vV M.iT;let npE:pv≠a2.aE:=(nc pv mpv).2.2.2.1;rwa[eY (xs:=ao (nI (S.ck v))) (λi σ L=>∃v8,σ=#v[↑r,.int (c:Int),.int z,.int (x:Int),.int (y:Int),↑p,.int (u:Int),.int (v:Int),v8]/\ay A.az L r { S with rows:=S.rows++[hJ c z u v],a9:=S.a9++[v],aX:=((S.ck v).take i).foldl (λU n=>U.set n u) S.aX } a2/\qw a r p H L/\dv L p f) ⟨none,2,M,B3,P3⟩ (λi σ L _ ⟨11,g,11⟩=>aH.of (g.rC.2 v pv _ J (show S.called[v]?=some (S.ck v) from xu ([hw.c]▸I)))) ?_ ?_]
  ·rintro i w σ L X9 ⟨v8,rfl,g,B4,P4⟩;let⟨m,rfl,Z⟩:=cD X9;unfold nI at Z;rw[ahZ]at Z
   cases hn:(S.ck v)[i]? with
   |none=>rw[hn]at Z;ext Z
   |some n=>
    rw[hn]at Z;obtain rfl:(n:Int)=m:=Za0 Z;let Fd:=nJ n (ahB hn);let EH:⇑(((S.ck v).take i).foldl (λU n=>U.set n u) S.aX)=S.q:=by rw[vu,hw.e]
    erw[1212,r,_,a2.dx,112,g.ins,aI T,T.jq,ju^_,12,a2.aE,11,n,22,g.hE,pG ([aO,bZ,EH]▸Fd)];rw[ints_set,Sw];let h5:=g.zg ((((S.ck v).take i).foldl (λU n=>U.set n u) S.aX).set n u);rwa[⟨125,λb o D B e=>?_,P4.keep (λo e=>?_) (λb xs e=>?_)⟩]
    ·let Jy:(S.ck v).take (i+ 1)=(S.ck v).take i++[n]:=by rw[ajA,hn];rfl
     rw[Jy,aku];rwa[h5]
    ·rw[ak (λz=>D ((Y b).mp (.inr (.inl ([z]▸gN)))))];rwa[B4 b o D B e]
    ·rw[ak (G gN)];rwa[e]
    ·rw[ak (g.tl e gN)];rwa[e]
  ·rintro σ L ⟨v8,rfl,g,B4,P4⟩;rw[aO,bZ,ai3]at g;let hul:u<⇑S.called:=by rw[hw.c];ext
   let Tf:v<⇑S.called:=by rw[hw.c];rwa[I]
   let⟨pu,X,Ya⟩:=g.rC.at (show S.called[u]?=some (S.ck u) from xu hul);let abb:=g.rC.2 v pv _ J (show S.called[v]?=some (S.ck v) from xu Tf);let b1:⇑(S.ck u)<=1000000:=JA sm.c;let b2:⇑(S.ck v)<=1000000:=JA sm.c;erw[12,r,_,a2.dx,112,g.ins,aI T,T.mX,nk^_,12,a2.aC,11122,aH.of g.hC,eH X,.inl ⟨21,aH.of Ya⟩];erw[12,r,_,a2.dx,112,g.ins,aI T,T.mX,nk^_,12,a2.aC,11122,aH.of g.hC,eH J,pu,pv,1122,Ya,abb,5]
   ·rw[aO,aO,bZ,bZ];rwa[ahP (show _<=2000000 by omega) ⋯]
   let eC:ao (nI (S.ck u))++ao (nI (S.ck v))=ao (nI (S.ck u++S.ck v)):=by rw[iu,ints_app]
   rw[eC];let h5:=g.Ib X (S.ck u++S.ck v);let R:=gj (ahB X);let B5:qw a r p H (upd L pu (.lst (ao (nI (S.ck u++S.ck v))))):=λb o D B e=>by rw[ak (λz=>D ((Y b).mp (.inr (.inl ([z]▸R)))))];rwa[B4 b o D B e]
   let P5:dv (upd L pu (.lst (ao (nI (S.ck u++S.ck v))))) p f:=P4.keep (λo e=>[ak (G R)]▸e) (λb xs e=>[ak (g.tl e R)]▸e);change upd L pu (.lst (ao (nI (S.ck u++S.ck v))))=H5 at h5 B5 P5 ⊢;let Yb:ay A.az H5 r (S.joined c z u v) a2:=h5;rwa[⟨12,r,a2.dx,12,Yb.ins,cS _ _ _ ⋯,1212,r,p,S.joined c z u v,a2,v,f,2,Yb,⟨hw.w,hw.g,55⟩,I,⟨ok.nd,ok.lt,ok.bk⟩,sm.w,P5,xt,oU,λa' O b' r' p' o'=>ek a' O (λb o D B e=>b' b o (λz=>D ((Y b).mp z)) B (B5 b o D B e)) r' p' (λb hb=>?_)⟩]
   ·show ⇑((S.ck v).foldl (λU n=>U.set n u) S.aX)=S.q;rw[vu];rwa[hw.e]
   ·show ⇑(S.called.set u (S.ck u++S.ck v))=S.q;rw[ah6];rwa[hw.c]
   ·rcases o' b hb with q|q
    ·rwa[.inl ((Y b).mp q)]
    ·cases ho:a.own r b
     ·rwa[.inl ho]
     ·rwa[.inr ?_]
      cases e:H b with
      |none=>rfl
      |some o=>
       cases hbp:b=p
       ·let⟨qs,q1,_⟩:=P5
        cbv
       ·rw[B5 b o ho hbp e]at q;ext q
def vw (T:Txt K mg A):T.lu.Ok mg P w base 3 (CD A.az):=by
 rwa[T.lu.on dS (λcC AA O s H vs Q E L h=>?_)]
 ·let⟨r,t,p,S,a,w,i,rfl,h,ht,ok,G,y,hP,M,x,k⟩:=h;let B:=iJ L
  erw[_,{bC 3 dS.nd ((0<<<1)|||(1&&&au)),bC 4 dS.nd (1&&&au),bC 5 dS.nd ((0<<<1)|||(1&&&au)),bC 6 dS.nd (my B ((0<<<1)|||3) (pv 4) (pv 5) ⟨2222⟩),bC 7 dS.nd (my B ((0<<<1)|||5) (fe dN (pv 4)) (pv 3) ⟨2222⟩),bE (bB (aZ pV (pv 6) (pv 5) (bh _))
    {aV (pm (pv 0) (aI T) T.fG (jF T) L #[3,4,6,5,2])}
    {bE (bB (aZ pV (pv 7) (pv 3) (bh _))
     {aV (pm (pv 0) (aI T) T.fG (jF T) L #[5,fe dN (pv 4),7,3,2])}
     {aV (pm (pv 0) (aI T) T.lS (qW T) L #[3,4,5])})})}]
  rwa[mD ?_];intro oh lF ja fI fV;let R:bG K H t [.int (w.1:Int),.int w.2.1,.int (w.2.2:Int)]:=bG.of ht;let C:∀{c:Nat},c<S.q->S.aX[c]?\(S.aw c):=λ{c} j=>pH ([ok.wf.e]▸j)
  let j:=ok.el _ G;let u:=ok.el _ y;erw[12,r,_,a.dx,112,h.ins,aI T,T.jq,ju^_,12,t,11122,R,(rfl:j0 _ (0:Int)=_),a.aE,11122,aH.of h.hE,dB (cQ (jM (C G)))];erw[12,t,11122,R,(rfl:j0 _ (1:Int)=_)];erw[12,r,_,a.dx,112,h.ins,aI T,T.jq,ju^_,12,t,11122,R,(rfl:j0 _ (2:Int)=_),a.aE,11122,aH.of h.hE,dB (cQ (jM (C y)))];let g:=k;clear k;unfold RS.takeIn at g;change S.aw w.1=c at j g ⊢;change S.aw w.2.2=d at u g ⊢;change w.2.1=z at g ⊢;let⟨pc,X,I⟩:=h.rW.at (pE (S:=S) (c:=c) ([ok.wf.w]▸j));let⟨pd,hpd,F⟩:=h.rW.at (pE (S:=S) (c:=d) ([ok.wf.w]▸u));let gd:∀(o:Zi) (n:Nat),(o.map λr:Nat=>V.int (r:Int)).getD (.int (n:Int))=V.int ((o.getD n:Nat):Int):=λo n=>by cases o <;> rfl
  erw[12,r,_,a.dx,112,h.ins,aI T,T.i9,iL^_,12,a.aW,11122,aH.of h.hW,eH X,pc,2,.inl ⟨_,.inl I⟩,12121,gf.k (k:=Sum.inl z) I];rw[kJ,gd];show _;erw[12,r,_,a.dx,112,h.ins,aI T,T.i9,iL^_,12,a.aW,11122,aH.of h.hW,eH hpd,pd,2,.inl ⟨_,.inl F⟩,1212121,gf.k (k:=Sum.inl (-z)) F];rw[kJ,gd];let e1:fu (S.way c) z=S.by c z:=rfl;let e2:fu (S.way d) (-z)=S.by d (-z):=rfl;rw[e1,e2]
  let hl:(S.by c z).getD d<S.q:=by
   cases e:S.by c z with
   |none=>exact u
   |some m=>exact ok.bl _ _ _ e
  let hf:(S.by d (-z)).getD c<S.q:=by
   cases e:S.by d (-z) with
   |none=>exact j
   |some m=>exact ok.bl _ _ _ e
  change (S.by c z).getD d=l at hl g ⊢;change (S.by d (-z)).getD c=f at hf g ⊢
  let ne:∀{m n:Nat},m≠n->(!decide (V.int (m:Int)=V.int (n:Int)))=true:=λ{m n} q=>by
   cbv
  rwa[⟨λ_ J=>Q .non J,5,λ_ _ q=>q⟩];cases D:l≠d
  ·rw[ah4 D]at g;erw[1212212];rw[ne D];rwa[hV ?_];rwa[12,r,a.dx,12,h.ins,cS _ _ _ ⋯,1212121212,r,p,S,a,c,l,d,z,i,2,h,ok.wf,hl,u,D,ok.off _ ∅,λn Z=>ok.cl _ n Z,ok.sm,hP,M,x,g]
  ·let Y:l=d:=akv.mp D;rw[ahY D]at g;rwa[⟨1212212,nj (by rw[Y]) ?_⟩];rwa[⟨λ_ J=>Q .non J,5,λ_ _ q=>q⟩];cases v:f≠c
   ·rw[ah4 v]at g;erw[1212212];rw[ne v];rwa[hV ?_];rwa[12,r,a.dx,12,h.ins,cS _ _ _ ⋯,121212121212,r,p,S,a,d,f,c,-z,i,2,h,ok.wf,hf,j,v,ok.off _ ∅,λn Z=>ok.cl _ n Z,ok.sm,hP,M,x,g]
   ·let U:f=c:=akv.mp v;rw[ahY v]at g;rwa[⟨1212212,nj (by rw[U]) ?_⟩];rwa[⟨12,r,a.dx,12,h.ins,cS _ _ _ ⋯,121212,r,S,a,c,d,z,2,h,ok.wf,j,u,ok.sm.w,λJ N r'=>g a J (λb o nb _ e=>N b o nb e) r' (hP.keep (λo e=>N _ _ M e) (λb xs e=>N _ _ (h.tJ e) e)) λb hb=>.inl hb⟩]
def CJ (T:Txt K mg A):T.sI.Ok mg P w base 5 (N7 A.az):=by
 rwa[T.sI.on sQ (λcC AA outer s H vs Q E hr h=>?_)]
 ·let⟨r,q,S,a,c,d,z,row,I,μ,rfl,h,zD,hq,v,hI,step,k⟩:=h
  erw[_,{aV (cM ahM ahV ahW bH (0<<<1) #[pc T.own (zB T) hr #[4]]),bC 5 sQ.nd (bV #[cy #[1,2,3]]),bE (gJ ah7 (Az (pv 5) (λ_=>rfl))
    {aV (pm (pv 0) (aI T) T.lu (vw T) hr #[Ht ahM PySem.F.slot_list_pop PySem.F.type_list_pop Hu (pv 5),5])})}]
  rwa[fP ?_];intro fI fV;let lR:⇑(a.rs.map V.ref)<sizeLine:=by rw[ahE,h.rR.1];rwa[ahK zD ⋯]
  obtain⟨ds,rfl⟩:∃ds,row=.t ds:=by
   cases hq with
   |t=>cbv
   |l=>ext v
  rwa[⟨12,r,_,a.dx,112,h.ins,aI T,T.sM,tG^_,.inl ⟨21,aH.of h.hR⟩,12,↑q,.t ds,2,hq,v,λv' H1 s1 Yc=>?_⟩];obtain⟨Z,rfl⟩:∃Z,v'=↑Z:=by cases Yc with|t=>cbv
  erw[a.aR,1122,s1^h.hR,lR];let h2:=(h.same s1).Bd (Yc.le ⋯) v;let B2:dk a r H (upd H1 a.aR (.lst (a.rs.map V.ref++[↑Z]))):=λb o n e=>by rw[ak (λz=>n (.inr (.inl ([z]▸fX))))];rwa[s1^e]
  change upd H1 a.aR (.lst (a.rs.map V.ref++[↑Z]))=H2 at h2 B2 ⊢;generalize E8:({ a with rs:=a.rs++[Z] }:RA)=a2 at h2;let eo:∀b,a2.own r b↔a.own r b:=λb=>by rw[<-E8];rwa[Iff.rfl]
  rwa[⟨121212,(Za4 3),λt nt=>?_⟩];let s3:=aq.upd (o:=.tup [.int (c:Int),.int z,.int (d:Int)]) nt;let Yd:upd H2 t (.tup [.int (c:Int),.int z,.int (d:Int)]) t\(.tup [.int (c:Int),.int z,.int (d:Int)]):=ah;change upd H2 t (.tup [.int (c:Int),.int z,.int (d:Int)])=H3 at s3 Yd ⊢;rwa[⟨(Za4 1),λp Ye=>?_⟩];let s4:=aq.upd (o:=.lst [↑t]) Ye;let Y:upd H3 p (.lst [↑t]) p\(.lst [↑t]):=ah;let U:¬a2.own r p:=(h2.same s3).Cz Ye;change upd H3 p (.lst [↑t])=H4 at s4 Y ⊢
  let npH:H p=none:=by
   cases e:H p with
   |none=>rfl
   |some o=>have:=s3^(B2 p o (λz=>U ((eo p).mpr z)) e);cbv
  let B4:dk a r H H4:=λb o n e=>s4^s3^B2 b o n e
  let P4:dv H4 p [(c,z,d)]:=⟨[t],Y,Each.snoc (ps:=[]) (xs:=[]) ⟨2,λi p d h=>by simp at h⟩ (s4^Yd)⟩;rwa[⟨λ_ R=>Q .non R,5,λ_ _ q=>q⟩];erw[λm σ j=>∃B G pend,m=μ B pend/\σ=#v[↑r,.int (c:Int),.int z,.int (d:Int),↑q,↑p]/\ay A.az j r B G/\dv j p pend/\I B pend/\¬G.own r p/\(∀b o,¬a.own r b->b≠p->H b\o->j b\o)/\∀b,G.own r b->a.own r b\/H b=none,⟨11,a2,[(c,z,d)],22,(h2.same s3).same s4,P4,hI,U,λb o n _ e=>B4 b o n e,λb F=>.inl ((eo b).mp F)⟩];rintro m σ j ⟨B,G,pend,rfl,rfl,h5,P5,I5,M,B5,O5⟩;let⟨O,y,x⟩:=id P5;erw[12,!(O.map V.ref).isEmpty,.inl ⟨_,aH.of y,2⟩];cases D:pend=[]
  ·subst D;let eq0:O=[]:=ai4 x.1;subst eq0;rwa[dh ?_];rwa[k B G j (λb o n e=>B5 b o n (λz=>by cbv) e) h5 I5 O5]
  ·let J:=ajx D;change pend.getLast D=w at J;change pend.dropLast=pre at J;subst J;let L:⇑O=⇑pre+ 1:=by rw[x.1,ahA];rfl
   let Yf:O≠[]:=λz=>by rw[z]at L;ext L
   let u:=ajx Yf;change O.getLast Yf=C at u;change O.dropLast=f at u;subst u;let oU:⇑f=⇑pre:=by rw[ahA]at L;have:⇑([C]:Zn)=1:=rfl;ext
   let⟨ok,hw1,Yg,F,hI2,N8⟩:=step B pre w I5;let htq:j C\(.tup [.int (w.1:Int),.int w.2.1,.int (w.2.2:Int)]):=x.2 ⇑pre C w (by rw[<-oU,ahO (ahG _),ajC];rfl) (by cbv);let ht:(!((f++[C]).map V.ref).isEmpty)=true:=by simp
   rw[ht];rwa[hV ?_];erw[λ ik R=>∃X a6 g,μ X g < μ B (pre++[w])/\ik=#v[↑r,.int (c:Int),.int z,.int (d:Int),↑q,↑p]/\ay A.az R r X a6/\dv R p g/\I X g/\¬a6.own r p/\(∀b o,¬a.own r b->b≠p->H b\o->R b\o)/\∀b,a6.own r b->a.own r b\/H b=none,λ ik R ζ=>by let⟨X,a6,g,lt,e1,e2,e3,e4,e5,e6,e7⟩:=ζ;rwa[⟨_,lt,X,a6,g,2,e1,e2,e3,e4,e5,e6,e7⟩]];erw[12,r,G.dx,12,h5.ins,cS _ _ _ ⋯,12,.inl ⟨21,aH.of y⟩,p,_,↑C,22,y,5]
   ·rw[aid,ahA];show ((f.map V.ref)++[V.ref C])[⇑(f.map V.ref)+ 1 - 1]?=_
    rw[Nat.add_sub_cancel,ahO (ahG _),ajC];rfl
   let Uv:((f++[C]).map V.ref).dropLast=f.map V.ref:=by rw[aid];rwa[List.dropLast_concat]
   rw[Uv];let kp:∀b o,b≠p->j b\o->upd j p (.lst (f.map V.ref)) b\o:=λb o n e=>by rw[ak n];rwa[e]
   let kt:∀b xs,j b\.tup xs->upd j p (.lst (f.map V.ref)) b\(.tup xs):=λb xs e=>kp b _ (bT e y (by cbv)) e
   let h6:=h5.keep (λb o F e=>kp b o (λz=>M (z ▸ F)) e) kt;let P6:dv (upd j p (.lst (f.map V.ref))) p pre:=⟨f,ah,oU,λi t' w' e1 e2=>kt^(x.2 i t' w' ([ahN (ahD.mp e1).1]▸e1) ([ahN (ahD.mp e2).1]▸e2))⟩;change upd j p (.lst (f.map V.ref))=H6 at kp kt h6 P6 ⊢;rwa[⟨12,r,C,p,B,G,w,pre,2,h6,kt^htq,ok,hw1,Yg,P6,M,F,λa7 H7 b7 h7 P7 o7=>?_⟩];rwa[⟨_,a7,_,N8,2,h7,P7,hI2,λz=>?_,λb o n N e=>b7 b o (λz=>?_) N (kp b o N (B5 b o n N e)),λb F=>?_⟩]
   ·rcases o7 p z with q1|q1
    ·rwa[M q1]
    ·let⟨_,q2,_⟩:=P6;cbv
   ·cbv
   ·rcases o7 b F with q1|q1
    ·rwa[O5 b q1]
    ·cases ho:a.own r b
     ·rwa[.inl ho]
     ·rwa[.inr ?_]
      cases e:H b with
      |none=>rfl
      |some o=>
       cbv
def QI {a:Type}{ws:List a}{z:a}(h:ws[i]?\z):ws.drop i=z::ws.drop (i+ 1):=by
 let b:=(ahD.mp h).1;rw[aky b,(ahD.mp h).2]
inductive CK (C:Zs) (vs:Zb) (H:Hp) (Q:VK) (E_:XK):Prop
 |mk (r:Zs) (S:RS) (a:RA) (c:Nat) (t:Zs) (ws:Zg):vs=[↑r,.int c,↑t]->ay C H r S a->S.Wf->c<S.q->(∀c z d,S.by c z=some d->d<S.q)->H t\.tup (ao ws)->⇑ws<=1000->(∀l H',aq H H'->H' l\.lst (ao (nI (c::cx S.by c ws)))->Q ↑l H')->CK C vs H Q E_
def zE (T:Txt K mg A):T.walked.Ok P w base 2 (CK A.az):=by
 rwa[T.walked.on nZ (λcC AA F s H vs Q E hr h=>?_)]
 ·let⟨r,S,a,c,t,ws,rfl,h,hw,hc,D,N,X,k⟩:=h
  refine⟨_,{bC 3 nZ.nd (bV #[1]),cW ah7 rfl (Ax (pv 2)) (dW 4 nZ.nd)
    {bC 1 nZ.nd (pm (pv 0) (aI T) T.iF (hU T) hr #[1,4]),bB (aZ oH (pv 1) dA (bh _))
     {uL}
     bj,aV (cM ahM ahV ahW bH (pv 3) #[1])},bf (pv 3)},?_⟩
  rwa[fP ?_];intro fI Y;rwa[⟨12,(Za4 1),λl C=>?_⟩];let y:=aq.upd (o:=.lst [.int (c:Int)]) C;let p:upd H l (.lst [.int (c:Int)]) l\(.lst (ao (nI [c]))):=ah;let L:¬a.own r l:=h.Cz C;change upd H l (.lst [.int (c:Int)])=R at y p ⊢;let v:=y^N;let G:t≠l:=ax N C;erw[12,t,2,⟨_,bG.of v⟩]
  let fin:∀{f:Hp} {pre:Zh},(∀b o,b≠l->R b\o->f b\o)->f l\.lst (ao (nI (c::pre)))->cx S.by c ws=pre->Q ↑l f:=λ{f pre} g d e=>by
   subst e;rwa[k l f (λb o e=>g b o (ax e C) (y^e)) d]
  rwa[Ej (xs:=ao ws) (λi B f=>∃cur:Nat,∃pre J,B=#v[↑r,.int (cur:Int),↑t,↑l,J]/\cur<S.q/\⇑pre=i/\cx S.by c ws=pre++cx S.by cur (ws.drop i)/\(∀b o,b≠l->R b\o->f b\o)/\f l\.lst (ao (nI (c::pre)))) ⟨c,[],none,2,hc,22,λ_ _ _ e=>e,p⟩ (λi B f _ U=>by let⟨_,_,_,_,_,_,_,g,_⟩:=U;rwa[bG.of (g _ _ G v)]) ?_ ?_]
  ·rintro i x B f hx ⟨cur,pre,J,rfl,u,m,j,g,d⟩;let⟨z,rfl,O⟩:=cD hx;let hi:i<⇑ws:=(ahD.mp O).1;let M:ay A.az f r S a:=(h.same y).keep (λb o Z e=>g b o (λq=>L (q ▸ Z)) e) (λb xs e=>g b _ (bT e p (by cbv)) e);rw[QI O]at j;erw[12,r,a.dx,12,M.ins,cS _ _ _ ⋯,1212,r,S,a,cur,z,2,M,by rw[hw.w];ext]
   cases I:S.by cur z with
   |none=>
    rwa[⟨12212,hV ?_⟩];rw[zr I,aib]at j;rwa[12,fin g d j]
   |some b=>
    rw[show (Option.map (λn:Nat=>V.int (n:Int)) (some b)).getD V.non=V.int (b:Int) from rfl];rwa[⟨12212,dh ?_⟩];rw[nH I]at j;erw[12,.inl ⟨21,aH.of d⟩,12,l,1122,d,5]
    ·rw[aO,bZ,ah0,m];rwa[ahK (show i+ 1<=1001 by omega) ⋯]
    erw[b,pre++[b],12,D _ _ _ I,by rw[ahA,m];rfl,by rw[j,aiL];rfl,λx o n e=>[ak n]▸g x o n e];rw[ah,<-akb,iu,ints_app];rfl
  ·rintro B f ⟨cur,pre,J,rfl,u,m,j,g,d⟩;rw[aO,List.drop_length]at j;rwa[12,fin g d ([j]▸aib _)]
def gA (g:Gg)(a:Zs):List (Str×V):=[("which",.int g.which),("word",↑a),("start",.int g.start),("front",.int g.front),("first",.int g.first),("rear",.int g.bu),("last",.int g.last)]
def MD (g:Gg)(a:Zs):(gA g a).lookup ("which":Str)\(.int g.which):=by kernel_rfl
def kj (g:Gg)(a:Zs):(gA g a).lookup ("word":Str)\↑a:=by kernel_rfl
def vx (g:Gg)(a:Zs):(gA g a).lookup ("start":Str)\(.int g.start):=by kernel_rfl
def kl (g:Gg)(a:Zs):(gA g a).lookup ("front":Str)\(.int g.front):=by kernel_rfl
def gR (g:Gg)(a:Zs):(gA g a).lookup ("first":Str)\(.int g.first):=by kernel_rfl
def km (g:Gg)(a:Zs):(gA g a).lookup ("rear":Str)\(.int g.bu):=by kernel_rfl
def ko (g:Gg)(a:Zs):(gA g a).lookup ("last":Str)\(.int g.last):=by kernel_rfl
def N9 {g:Gg}(h:x∉(["which","word","start","front","first","rear","last"]:Zp)):(gA g a).lookup x=none:=by
 simp only[ahR,ail,ajN,not_or]at h;let⟨e,c,j,d,i,b,f⟩:=h;unfold gA;simp only[List.lookup,ahX.mpr e,ahX.mpr c,ahX.mpr j,ahX.mpr d,ahX.mpr i,ahX.mpr b,ahX.mpr f]
def CL (g:Gg)(a:Zs)(n:Nat):bI "front" (.int n) (gA g a)=gA { g with front:=n } a:=by kernel_rfl
def MF (g:Gg)(a:Zs)(n:Nat):bI "first" (.int n) (gA g a)=gA { g with first:=n } a:=by kernel_rfl
def Fe (g:Gg)(a:Zs)(n:Nat):bI "rear" (.int n) (gA g a)=gA { g with bu:=n } a:=by kernel_rfl
def QJ (g:Gg)(a:Zs)(n:Nat):bI "last" (.int n) (gA g a)=gA { g with last:=n } a:=by kernel_rfl
structure ej (CG:Zs) (H:Hp) (p dx wa:Zs) (g:Gg):Prop where
 ins:H p\(.ins CG dx (gA g wa))
 wo:H wa\(.tup (ao g.word))
def ej.same {dx:Zs}{g:Gg}(h:ej a H b dx c g)(s:aq H I):ej a I b dx c g:=⟨s^h.ins,s^h.wo⟩
def ej.set {dx:Zs}{g g':Gg}(h:ej a H b dx c g)(e:g'.word=g.word):ej a (upd H b (.ins a dx (gA g' c))) b dx c g':=⟨ah,[ak (bT h.wo h.ins (by cbv)),e]▸h.wo⟩
def iU (a:List (Zg×Nat)):List (Zd×V):=a.map λp=>(p.1.map Sum.inl,V.int p.2)
structure yG (rs:Za3) (fp:List (Zg×Nat)):Prop where
 a:∀p∈fp,rs[p.2]?\p.1
 b:∀w∈rs,∃n,(w,n)∈fp
 n:(fp.map (·.1)).Nodup
def CM {c:List (Zg×Nat)}(w:Zg):bA (iU c) (w.map Sum.inl)=((c.find? λp=>decide (p.1=w)).map λp=>V.int p.2):=by
 induction c with
 |nil=>rfl
 |cons p l d=>
  cases h:p.1=w
  ·rw[List.find?_cons_of_pos (by cbv)];rwa[da (p:=(p.1.map Sum.inl,V.int p.2)) (by rw[h])]
  ·rw[akg (by simpa using h)];rwa[(cV (p:=(p.1.map Sum.inl,V.int p.2)) (λz=>h ?_)).trans d]
   let inj:∀{a b:Zg},a.map (Sum.inl:Int->Key)=b.map Sum.inl->a=b:=λ{a b} e=>by
    induction a generalizing b with
    |nil=>cases b with|nil=>rfl|cons=>ext e
    |cons x a d=>cases b with
     |nil=>ext e
     |cons y b=>cbv
   rwa[inj z]
def MG:Sp:=λc H Q _=>∃(l:Zs) (rs:Za3),c=[↑l]/\bX H l rs/\⇑rs<=1000/\∀d b a,aq H a->H d=none->a d\.dT (iU b)->yG rs b->Q ↑d a
def xA (T:Txt K mg A):T.mR.Ok P w base 1 MG:=by
 rwa[T.mR.on ia (λcC AA X s H vs Q E hr h=>?_) (len:=by rintro _ _ _ _ ⟨l,rs,rfl,_⟩;rfl)]
 ·let⟨l,rs,rfl,hW,hl,k⟩:=h;let O:=iJ hr
  erw[_,{bC 1 ia.nd KR,cW ah7 rfl (K6 rfl T.uy (pv 0) rfl) (oF rfl (dy (dW 2 ia.nd) (dy (dW 3 ia.nd) lV)))
    {aV (Lh O (pv 1) (pv 3) (pv 2) ⟨2222⟩)},bf (pv 1)}]
  rwa[fP ?_];intro fI fV;let⟨C,y,x⟩:=id hW;rwa[λd J=>?_]
  let s1:=aq.upd (o:=.dT []) J;let q1:upd H d (.dT []) d\(.dT (iU [])):=ah;change upd H d (.dT [])=H1 at s1 q1 ⊢;let ndl:l≠d:=ax y J;erw[12,l,2,⟨_,aH.of (s1^y)⟩]
  refine HS (K:=K) (a:=l) (xs:=C.map V.ref) (λi L B=>∃c v2 N,L=#v[↑l,↑d,v2,N]/\aq H B/\B d\.dT (iU c)/\(∀p∈c,rs[p.2]?\p.1/\p.2<i)/\(∀(j:Nat) (w:Zg),j<i->rs[j]?\w->∃n,(w,n)∈c)/\(c.map (·.1)).Nodup/\⇑c<=i)
   ⟨[],none,none,2,s1,q1,(λp f=>by ext f),λj w D=>absurd D ∅,ajn,ahG _⟩ (λi L B _ q0=>by let⟨_,_,_,_,s2,_⟩:=q0;rwa[aH.of (s2^y)]) ?_ ?_
  ·rintro i v L B t hi nt ⟨c,v2,N,rfl,s2,M,F,R,hn,hlen⟩
   let g:i<⇑C:=by
    have:=(ahD.mp hi).1;rw[ahE]at this;rwa[this]
   let r:i<⇑rs:=by rw[<-x.1];rwa[g]
   let Z:C[i]?\(C[i]'g):=ahC g
   let S:rs[i]?\(rs[i]'r):=ahC r
   rw[ahZ,Z]at hi;obtain rfl:V.ref (C[i]'g)=v:=Za0 hi;change C[i]'g=q at Z;change rs[i]'r=w at S;let I:=aq.upd (o:=.tup [.int (i:Int),↑q]) nt;erw[t,12,bG.of ah,21121122];change upd B t (.tup [.int (i:Int),↑q])=H3 at I ⊢;let m:=I^M;let hq:H3 q\(.tup ((w.map (Sum.inl:Int->Key)).map kV)):=by rw[aip];rwa[(s2.trans I) _ _ (x.2 i q w Z S)]
   rwa[⟨12,d,2,.inr ⟨_,.inl m⟩,1212,iU c,w.map Sum.inl,q,m,2,hq,5,λv G=>?_,λG=>?_⟩]
   ·unfold iU;rw[ahE];rwa[ahK (show ⇑c<=1000 by omega) ⋯]
   ·rw[CM]at G;let⟨p,f,rfl⟩:=aiI.mp G;let e:p.1=w:=by let h9:=List.find?_some f;simpa using h9
    let hm:=List.mem_of_find?_eq_some f;rwa[⟨c,112,s2.trans I,m,λp f=>⟨(F p f).1,by have:=(F p f).2;ext⟩,λj u D eu=>?_,hn,3⟩];cases U:j<i
    ·rwa[R j u U eu]
    ·cbv
   ·rw[CM]at G
    let hno:∀p∈c,p.1≠w:=λp f e=>by
     have:=List.find?_eq_none.mp (ak0.mp G) p f
     cbv
    let ep:putK (iU c) (w.map Sum.inl) (V.int (i:Int))=iU (c++[(w,i)]):=by
     rw[A1 _ ([CM]▸G)];unfold iU;rw[aid];rfl
    rw[ep];let Y:H d=none:=J;rwa[⟨c++[(w,i)],112,λb o e=>[ak (ax e Y)]▸(s2.trans I) _ _ e,ah,λp f=>?_,λj u D eu=>?_,5,by rw[ahA];show _+ 1<=_;ext⟩]
    ·rcases ahL.mp f with z|z
     ·rwa[⟨(F p z).1,by have:=(F p z).2;ext⟩]
     ·rw[ahH.mp z];rwa[S,by show i<i+ 1;ext]
    ·cbv
    cbv
  ·rintro L B ⟨c,v2,N,rfl,s2,M,F,R,hn,hlen⟩;rwa[⟨12,k d c B s2 J M ⟨λp f=>(F p f).1,λw hw=>?_,hn⟩⟩];let⟨j,D⟩:=aiu hw;rwa[R j w ([ahE,x.1]▸(ahD.mp D).1) D]
def zF (a:Nat)(word:Zg)(start:Nat):Gg:=⟨a,word,start,start,(0),start,⇑word - 1⟩
inductive JC (CG:Zs) (vs:Zb) (H:Hp) (Q:VK) (E_:XK):Prop
 |mk (x dx wa:Zs) (which start:Nat) (word:Zg):vs=[↑x,.int which,↑wa,.int start]->H x\.ins CG dx []->H wa\.tup (ao word)->1<=⇑word->⇑word<=1000->(∀H',(∀b o,H b\o->b≠x->H' b\o)->ej CG H' x dx wa (zF which word start)->Q .non H')->JC CG vs H Q E_
def Ob (a start:Nat)(b:Zs)(l:Int):List (Str×V):=[("which",.int a)]
def Oc (a start:Nat)(b:Zs)(l:Int):List (Str×V):=[("which",.int a),("word",↑b)]
def Od (a start:Nat)(b:Zs)(l:Int):List (Str×V):=[("which",.int a),("word",↑b),("start",.int start)]
def Oe (a start:Nat)(b:Zs)(l:Int):List (Str×V):=[("which",.int a),("word",↑b),("start",.int start),("front",.int start)]
def Og (a start:Nat)(b:Zs)(l:Int):List (Str×V):=[("which",.int a),("word",↑b),("start",.int start),("front",.int start),("first",.int 0)]
def Oh (a start:Nat)(b:Zs)(l:Int):List (Str×V):=[("which",.int a),("word",↑b),("start",.int start),("front",.int start),("first",.int 0),("rear",.int start)]
def Uw (a start:Nat)(b:Zs)(l:Int):List (Str×V):=[("which",.int a),("word",↑b),("start",.int start),("front",.int start),("first",.int 0),("rear",.int start),("last",.int l)]
def gy2 (a start:Nat)(b:Zs)(l:Int):bI "word" ↑b (Ob a start b l)=Oc a start b l:=dP (by kernel_rfl)
def gy3 (a start:Nat)(b:Zs)(l:Int):bI "start" (.int start) (Oc a start b l)=Od a start b l:=dP (by kernel_rfl)
def gy4 (a start:Nat)(b:Zs)(l:Int):bI "front" (.int start) (Od a start b l)=Oe a start b l:=dP (by kernel_rfl)
def gy5 (a start:Nat)(b:Zs)(l:Int):bI "first" (.int 0) (Oe a start b l)=Og a start b l:=dP (by kernel_rfl)
def gy6 (a start:Nat)(b:Zs)(l:Int):bI "rear" (.int start) (Og a start b l)=Oh a start b l:=dP (by kernel_rfl)
def gy7 (a start:Nat)(b:Zs)(l:Int):bI "last" (.int l) (Oh a start b l)=Uw a start b l:=dP (by kernel_rfl)
def ub (T:Txt K mg A):T.gu.Ok mg P w base 1 (JC A.aJ):=by
 rwa[T.gu.on tW (λU AA m s H vs Q E hr h=>?_)]
 ·let⟨x,c,d,a,start,word,rfl,r,f,Oi,O,k⟩:=h
  refine⟨_,{b8 (pv 0) (pv 1) rfl,b8 (pv 0) (pv 2) rfl,b8 (pv 0) (pv 3) rfl,b8 (pv 0) (pv 3) rfl,b8 (pv 0) au rfl,b8 (pv 0) (pv 3) rfl,b8 (pv 0) (aK gW (2<<<0) au) rfl},?_⟩
  rwa[mE ?_];intro S oh Y X fI L;let st:∀{H0:Hp} {fs gs:List (Str×V)},H0 x\.ins A.aJ c fs->(∀b o,H b\o->b≠x->H0 b\o)->upd H0 x (.ins A.aJ c gs) x\.ins A.aJ c gs/\∀b o,H b\o->b≠x->upd H0 x (.ins A.aJ c gs) b\o:=λ_ h=>⟨ah,λb o e n=>[ak n]▸h b o e n⟩
  let g:d≠x:=bT f r f!"";let o0:∀b o,H b\o->b≠x->H b\o:=λb o e _=>e
  erw[1212,x,_,c,12,r,aU T,T.B9,(by show 0<1000;decide)];rw[show bI "which" (.int a) []=Ob a start d (((⇑word - 1:Nat):Int)) from rfl];let⟨v,D⟩:=st (gs:=Ob a start d (((⇑word - 1:Nat):Int))) r o0;change upd H x (.ins A.aJ c (Ob a start d (((⇑word - 1:Nat):Int))))=Z at v D ⊢;erw[1212,x,_,c,12,v,aU T,T.jD,(by show 1<1000;decide)];rw[gy2];let⟨q,C⟩:=st (gs:=Oc a start d (((⇑word - 1:Nat):Int))) v D;change upd Z x (.ins A.aJ c (Oc a start d (((⇑word - 1:Nat):Int))))=H2 at q C ⊢;erw[1212,x,_,c,12,q,aU T,T.qq,(by show 2<1000;decide)];rw[gy3];let⟨l,F⟩:=st (gs:=Od a start d (((⇑word - 1:Nat):Int))) q C;change upd H2 x (.ins A.aJ c (Od a start d (((⇑word - 1:Nat):Int))))=M at l F ⊢;erw[1212,x,_,c,12,l,aU T,T.gO,(by show 3<1000;decide)];rw[gy4];let⟨j,G⟩:=st (gs:=Oe a start d (((⇑word - 1:Nat):Int))) l F;change upd M x (.ins A.aJ c (Oe a start d (((⇑word - 1:Nat):Int))))=R at j G ⊢;erw[12,x,_,c,12,j,aU T,T.e9,(by show 4<1000;decide)];rw[gy5];let⟨t,B⟩:=st (gs:=Og a start d (((⇑word - 1:Nat):Int))) j G;change upd R x (.ins A.aJ c (Og a start d (((⇑word - 1:Nat):Int))))=N at t B ⊢;erw[1212,x,_,c,12,t,aU T,T.hO,(by show 5<1000;decide)];rw[gy6];let⟨u,i⟩:=st (gs:=Oh a start d (((⇑word - 1:Nat):Int))) t B;change upd N x (.ins A.aJ c (Oh a start d (((⇑word - 1:Nat):Int))))=I at u i ⊢;erw[12,d,12,.inr (bG.of (i _ _ f g)),112212,x,_,c,12,u,aU T,T.iQ,(by show 6<1000;decide)];rw[show V.int ((⇑(ao word):Int) - 1)=V.int (((⇑word - 1:Nat):Int)) by show V.int ((⇑(ao word):Int) - 1)=_;rw[aO];congr 1;ext];rw[gy7];let⟨y,p⟩:=st (gs:=Uw a start d (((⇑word - 1:Nat):Int))) u i;change upd I x (.ins A.aJ c (Uw a start d (((⇑word - 1:Nat):Int))))=J at y p ⊢;rwa[k J p ⟨y,p _ _ f g⟩]
structure sR (S:RS) (g g':Gg):Prop where
 wh:g'.which=g.which
 wo:g'.word=g.word
 st:g'.start=g.start
 gi:GI S g'
 ef:S.aw g'.front=g'.front
 er:S.aw g'.bu=g'.bu
 k1:S.aw g.front=g.front->S.by g.front g.z1=none->g'.front=g.front/\g'.first=g.first
 k2:S.aw g.bu=g.bu->S.by g.bu g.z2=none->g'.bu=g.bu/\g'.last=g.last
def sR.fwd {g g1:Gg}(h:sR S g g1)(i:Good S [] R)(a:g1.first<g1.last){c:Nat}(hc:S.by g1.front g1.z1=some c):sR S g { g1 with front:=c,first:=g1.first+ 1 }:=by
 let⟨_,b,_,e⟩:=i.st _ _ _ hc;let ll:=h.gi.ll;let hz:=Gg.qK (g:=g1) ∅;rwa[⟨h.wh,h.wo,h.st,⟨a,ll,h.gi.s,b,h.gi.r,5,h.gi.wr⟩,e,h.er,λf d=>?_,h.k2⟩]
 ·have:=h.gi.wf;rw[h.ef]at this;show wk S.by _ (g1.word.take (g1.first+ 1))=some (S.aw c);rw[take_snoc hz,oS this,SY hc,e]
 ·let⟨j,k⟩:=h.k1 f d;unfold Gg.z1 at hc d;rw[j,k,h.wo,d]at hc;ext hc
def sR.bwd {g g1:Gg}(h:sR S g g1)(d:Good S [] R)(f:g1.first<g1.last){c:Nat}(hc:S.by g1.bu g1.z2=some c):sR S g { g1 with bu:=c,last:=g1.last - 1 }:=by
 let⟨_,a,_,e⟩:=d.st _ _ _ hc;let ll:=h.gi.ll;let hz:=Gg.at2 (g:=g1) ll;rwa[⟨h.wh,h.wo,h.st,⟨by show g1.first<=g1.last - 1;ext,by show g1.last - 1<⇑g1.word;ext,h.gi.s,h.gi.f,a,h.gi.wf,5⟩,h.ef,e,h.k1,λi b=>?_⟩]
 ·have:=h.gi.wr;rw[h.er]at this;show wk S.by (S.aw c) (g1.word.drop (g1.last - 1+ 1))=some (S.aw g1.start);rw[show g1.last - 1+ 1=g1.last by ext,drop_cons hz,e,iN (d.sy _ _ _ hc)];ext
 ·let⟨j,k⟩:=h.k2 i b;unfold Gg.z2 at hc b;rw[j,k,h.wo,b]at hc;ext hc
inductive Oj (CR CG:Zs) (vs:Zb) (H:Hp) (Q:VK) (E_:XK):Prop
 |mk (p dx wa r:Zs) (g:Gg) (S:RS) (a:RA) (R:Za2):vs=[↑p,↑r]->ej CG H p dx wa g->ay CR H r S a->Good S [] R->GI S g->¬a.own r p->⇑g.word<=1000->(∀g' H',(∀b o,b≠p->H b\o->H' b\o)->ej CG H' p dx wa g'->Xp S g g'->Q .non H')->Oj CR CG vs H Q E_
def vy (T:Txt K mg A):T.lh.Ok mg P w base 2 (Oj A.az A.aJ):=by
 rwa[T.lh.on jr (λcC AA outer s H vs Q E X h=>?_)]
 ·let⟨p,d,t,r,g,S,a,R,rfl,O,hR,C,y,Y,G,k⟩:=h
  refine⟨_,{b8 (pv 0) (pm (pv 1) (aI T) T.hM (iR T) X #[0<<<1]) rfl,b8 (pv 0) (pm (pv 1) (aI T) T.hM (iR T) X #[0<<<1]) rfl,bE (gJ ah7 (aZ lI (0<<<1) (0<<<1) (bh _))
    {bC 2 jr.nd (pm (pv 1) (aI T) T.iF (hU T) X #[0<<<1,(0<<<1)&&&(0<<<1)]),bB (aZ oH (pv 2) dA (bh _))
     {uL}
     bj,b8 (pv 0) (pv 2) rfl,b8 (pv 0) (aK cI (0<<<1) au) rfl}),bE (gJ ah7 (aZ lI (0<<<1) (0<<<1) (bh _))
    {bC 2 jr.nd (pm (pv 1) (aI T) T.iF (hU T) X #[0<<<1,fe dN ((0<<<1)&&&(0<<<1))]),bB (aZ oH (pv 2) dA (bh _))
     {uL}
     bj,b8 (pv 0) (pv 2) rfl,b8 (pv 0) (aK gW (0<<<1) au) rfl})},?_⟩
  rwa[iB ?_];intro ja fI fV;let eo:∀{c:Nat},c<S.q->S.aX[c]?\(S.aw c):=λ{c} hc=>pH ([C.wf.e]▸hc)
  let kp:∀{F:Hp},(∀b o,b≠p->H b\o->F b\o)->ay A.az F r S a:=λ{F} f=>hR.keep (λb o hb e=>f b o (λz=>Y (z ▸ hb)) e) (λb xs e=>f b _ (bT e O.ins f!"") e)
  let up:∀{F:Hp} {o2:HO},(∀b o,b≠p->H b\o->F b\o)->∀b o,b≠p->H b\o->upd F p o2 b\o:=λf b o n e=>by rw[ak n];rwa[f b o n e]
  erw[12,r,a.dx,12,hR.ins,cS _ _ _ ⋯,12,p,_,d,112,O.ins,aU T,T.gO,kl _ _,r,S,a,g.front,S.aw g.front,2,hR,eo y.f,12,p,_,d,12,O.ins,aU T,T.gO,(by show 7<1000;decide)];rw[CL];let U:=O.set (g':={ g with front:=S.aw g.front }) rfl;let Z:=up (o2:=.ins A.aJ d (gA { g with front:=S.aw g.front } t)) (λb o _ e=>e);change upd H p (.ins A.aJ d (gA { g with front:=S.aw g.front } t))=H1 at U Z ⊢;let R1:=kp Z;erw[12,r,a.dx,12,R1.ins,cS _ _ _ ⋯,12,p,_,d,112,U.ins,aU T,T.hO,km _ _,r,S,a,g.bu,S.aw g.bu,2,R1,eo y.r,12,p,_,d,12,U.ins,aU T,T.hO,(by show 7<1000;decide)];rw[Fe];let p2:=U.set (g':={ g with front:=S.aw g.front,bu:=S.aw g.bu }) rfl;let f2:=up (o2:=.ins A.aJ d (gA { g with front:=S.aw g.front,bu:=S.aw g.bu } t)) Z;change upd H1 p (.ins A.aJ d (gA { g with front:=S.aw g.front,bu:=S.aw g.bu } t))=F at p2 f2 ⊢;let e1:=(C.el _ y.f).2;let e2:=(C.el _ y.r).2;let D:sR S g { g with front:=S.aw g.front,bu:=S.aw g.bu }:=⟨222,⟨y.fl,y.ll,y.s,C.lt y.f,C.lt y.r,by show wk _ _ _\S.aw (S.aw g.front);rw[e1];rwa[y.wf],by show wk _ (S.aw (S.aw g.bu)) _=_;rw[e2];rwa[y.wr]⟩,e1,e2,λe _=>⟨e,2⟩,λe _=>⟨e,2⟩⟩;erw[λ x l=>∃g1 u,x=#v[↑p,↑r,u]/\(∀b o,b≠p->H b\o->l b\o)/\ej A.aJ l p d t g1/\sR S g g1/\(g1.first<g1.last->S.by g1.front g1.z1=none),5]
  ·erw[λm J l=>∃g1 u,m=g1.last - g1.first/\J=#v[↑p,↑r,u]/\(∀b o,b≠p->H b\o->l b\o)/\ej A.aJ l p d t g1/\sR S g g1,⟨11,none,22,f2,p2,D⟩];rintro m J l ⟨g1,u,rfl,rfl,v,j,ad⟩;let M:=kp v;let ll:=ad.gi.ll;let fl:=ad.gi.fl;let lw:⇑g1.word<=1000:=by rw[ad.wo];rwa[G]
   erw[12,p,_,d,112,j.ins,aU T,T.e9,gR _ _,12,p,_,d,112,j.ins,aU T,T.iQ,ko _ _,112212];rwa[bR (λq=>?_) (λq=>?_)]
   ·let q:(g1.first:Int)<(g1.last:Int):=aia q;erw[_,λ_ _ z=>z];let hz:=Gg.qK (g:=g1) ∅;erw[12,r,a.dx,12,M.ins,cS _ _ _ ⋯,12,p,_,d,112,j.ins,aU T,T.gO,kl _ _,12,p,_,d,112,j.ins,aU T,T.jD,kj _ _,12,p,_,d,112,j.ins,aU T,T.e9,gR _ _,t,11,.int g1.z1,22,bG.of j.wo,dB (cQ hz),r,S,a,g1.front,g1.z1,2,M,[C.wf.w]▸ad.gi.f]
    cases I:S.by g1.front g1.z1 with
    |none=>rwa[12212,hV ⟨g1,12,v,j,ad,λ_=>I⟩]
    |some c=>
     rw[show (Option.map (λn:Nat=>V.int (n:Int)) (some c)).getD V.non=V.int (c:Int) from rfl];rwa[⟨12212,dh ?_⟩];erw[1212,p,_,d,12,j.ins,aU T,T.gO,(by show 7<1000;decide)];rw[CL];let B:=j.set (g':={ g1 with front:=c }) rfl;let L:=up (o2:=.ins A.aJ d (gA { g1 with front:=c } t)) v;change upd l p (.ins A.aJ d (gA { g1 with front:=c } t))=H3 at B L ⊢;erw[12,p,_,d,112,B.ins,aU T,T.e9,gR _ _,112212,p,_,d,12,B.ins,aU T,T.e9,(by show 7<1000;decide)];rw[show V.int ((({ g1 with front:=c }:Gg).first:Int)+ 1)=V.int ((g1.first+ 1:Nat):Int) from rfl,MF];rwa[_,by show g1.last - (g1.first+ 1)<_;ext,1122,up L,B.set rfl,ad.fwd C ∅ I]
   ·rwa[g1,u,2,v,j,ad,λz=>absurd (ah9 (show (g1.first:Int)<(g1.last:Int) by omega)) q]
  rintro x l ⟨g0,v0,rfl,f0,p0,D,n0⟩;erw[λ x l=>∃g1 u,x=#v[↑p,↑r,u]/\(∀b o,b≠p->H b\o->l b\o)/\ej A.aJ l p d t g1/\sR S g g1/\(g1.first<g1.last->S.by g1.front g1.z1=none)/\(g1.first<g1.last->S.by g1.bu g1.z2=none),5]
  ·erw[λm J l=>∃g1 u,m=g1.last - g1.first/\J=#v[↑p,↑r,u]/\(∀b o,b≠p->H b\o->l b\o)/\ej A.aJ l p d t g1/\sR S g g1/\(g1.first<g1.last->S.by g1.front g1.z1=none),⟨11,v0,22,f0,p0,D,n0⟩];rintro m J l ⟨g1,u,rfl,rfl,v,j,ad,N⟩;let M:=kp v;let ll:=ad.gi.ll;let fl:=ad.gi.fl;let lw:⇑g1.word<=1000:=by rw[ad.wo];rwa[G]
   erw[12,p,_,d,112,j.ins,aU T,T.e9,gR _ _,12,p,_,d,112,j.ins,aU T,T.iQ,ko _ _,112212];rwa[bR (λq=>?_) (λq=>?_)]
   ·let q:(g1.first:Int)<(g1.last:Int):=aia q;erw[_,λ_ _ z=>z];let hz:=Gg.at2 (g:=g1) ll;erw[12,r,a.dx,12,M.ins,cS _ _ _ ⋯,12,p,_,d,112,j.ins,aU T,T.hO,km _ _,12,p,_,d,112,j.ins,aU T,T.jD,kj _ _,12,p,_,d,112,j.ins,aU T,T.iQ,ko _ _,t,11,.int (-g1.z2),22,bG.of j.wo,dB (cQ hz),12,r,S,a,g1.bu,g1.z2,(by show [V.ref r,V.int (g1.bu:Int),V.int (- -g1.z2)]=_;rw[ajv]),M,[C.wf.w]▸ad.gi.r]
    cases I:S.by g1.bu g1.z2 with
    |none=>rwa[12212,hV ⟨g1,12,v,j,ad,N,λ_=>I⟩]
    |some c=>
     rw[show (Option.map (λn:Nat=>V.int (n:Int)) (some c)).getD V.non=V.int (c:Int) from rfl];rwa[⟨12212,dh ?_⟩];erw[1212,p,_,d,12,j.ins,aU T,T.hO,(by show 7<1000;decide)];rw[Fe];let B:=j.set (g':={ g1 with bu:=c }) rfl;let L:=up (o2:=.ins A.aJ d (gA { g1 with bu:=c } t)) v;change upd l p (.ins A.aJ d (gA { g1 with bu:=c } t))=H3 at B L ⊢;erw[12,p,_,d,112,B.ins,aU T,T.iQ,ko _ _,112212,p,_,d,12,B.ins,aU T,T.iQ,(by show 7<1000;decide)];rw[show V.int ((({ g1 with bu:=c }:Gg).last:Int) - 1)=V.int ((g1.last - 1:Nat):Int) by show V.int ((g1.last:Int) - 1)=_;congr 1;ext,QJ];rwa[_,by show (g1.last - 1) - g1.first<_;ext,1122,up L,B.set rfl,ad.bwd C ∅ I,λz=>N (by let z:g1.first<g1.last - 1:=z;omega)]
   ·rwa[g1,u,2,v,j,ad,N,λz=>absurd (ah9 (show (g1.first:Int)<(g1.last:Int) by omega)) q]
  rintro x l ⟨g1,u,rfl,v,j,ad,N,n2⟩;rwa[k g1 l v j ⟨ad.wh,ad.wo,ad.st,ad.gi,ad.ef,ad.er,N,n2,ad.k1,ad.k2⟩]
def W6 (ns:Zg)(j:Nat):gL (ao ns) none (some (j:Int))=ao (ns.take j):=by
 rw[AZ,HT.xU];show ao ((List.drop 0 ns).take (min j ⇑ns - 0))=_
 cbv
def QK (ns:Zg)(j:Nat)(h:j<=⇑ns):gL (ao ns) (some (j:Int)) none=ao (ns.drop j):=by
 rw[AZ,HT.xU,aj4 h];show ao ((ns.drop j).take (⇑ns - j))=_;rw[akf ([aiC]▸ahG _)]
theorem pJ {by_:Nat->Int->Zi}:∀{ws:Zg} {r:Nat},⇑(cx by_ r ws)<=⇑ws
 |[],_=>ahG _
 |z::ws,r=>by
  cases q:by_ r z with
  |none=>rw[zr q];rwa[ah2 _]
  |some d=>rw[nH q,ah0,ah0];rwa[Nat.succ_le_succ pJ]
inductive JD (CR CG:Zs) (vs:Zb) (H:Hp) (Q:VK) (E_:XK):Prop
 |mk (p dx wa r:Zs) (g:Gg) (S:RS) (a:RA) (R:Za2):vs=[↑p,↑r]->ej CG H p dx wa g->ay CR H r S a->Good S [] R->g.start<S.q->g.bu<S.q->g.last<⇑g.word->⇑g.word<=1000->(∀q H',aq H H'->bQ H' 2 ↑q (lW g.which ((g.start::cx S.by g.start (g.word.take g.first))++(g.bu::cx S.by g.bu (g.word.drop (g.last+ 1)))) g.first)->Q ↑q H')->JD CR CG vs H Q E_
def CN (T:Txt K mg A):T.sH.Ok mg P w base 3 (JD A.az A.aJ):=by
 rwa[T.sH.on mZ (λcC AA J s H vs Q E hr h=>?_)]
 ·let⟨p,m,wa,r,g,S,a,R,rfl,n,hR,I,hs,N,Yh,JF,k⟩:=h
  refine⟨_,{bC 2 mZ.nd (pc T.walked (zE T) hr #[1,0<<<1,pW AX (0<<<1) xV (oJ (0<<<1))]),bC 3 mZ.nd (pc T.walked (zE T) hr #[1,0<<<1,pW AX (0<<<1) (oJ (aK cI (0<<<1) au)) xV]),bf (cy #[cR (l:=[114,117,108,101]) rfl,0<<<1,gE qF rfl T.tR aka #[aK AK (pv 2) (pv 3)],0<<<1])},?_⟩
  rwa[fP ?_];intro fI fV;let y:∀c z d,S.by c z=some d->d<S.q:=λc z d e=>(I.st c z d e).2.1
  rwa[⟨1212,p,_,m,112,n.ins,aU T,T.qq,vx _ _,12,p,_,m,112,n.ins,aU T,T.jD,kj _ _,12,p,_,m,112,n.ins,aU T,T.e9,gR _ _,12,wa,12,n.wo,λt1 H1 s1 e1=>?_⟩];rw[W6]at e1;rwa[⟨r,S,a,g.start,t1,g.word.take g.first,2,hR.same s1,I.wf,hs,y,e1,by rw[aif];ext,λl1 H2 s2 h2=>?_⟩];let B:=s1.trans s2;let G:=n.same B;rwa[⟨1212,p,_,m,112,G.ins,aU T,T.hO,km _ _,12,p,_,m,112,G.ins,aU T,T.jD,kj _ _,12,p,_,m,112,G.ins,aU T,T.iQ,ko _ _,112212,wa,12,G.wo,λt2 H3 s3 e3=>?_⟩];rw[show (g.last:Int)+ 1=((g.last+ 1:Nat):Int) by ext,QK _ _ ∅]at e3;let C:=B.trans s3;rwa[⟨r,S,a,g.bu,t2,g.word.drop (g.last+ 1),2,hR.same C,I.wf,N,y,e3,by rw[aiC];ext,λl2 Z V h4=>?_⟩];let D:=C.trans V;let X:=n.same D;let lx:=pJ (by_:=S.by) (ws:=g.word.take g.first) (r:=g.start);let ly:=pJ (by_:=S.by) (ws:=g.word.drop (g.last+ 1)) (r:=g.bu);rw[aif]at lx;rw[aiC]at ly;rwa[⟨12,p,_,m,112,X.ins,aU T,T.B9,MD _ _,1212,l1,l2,1122,(s3.trans V) _ _ h2,h4,5,λM n3=>?_⟩]
  ·rw[aO,aO,bZ,bZ,ah0,ah0];rwa[ahP (show _<=100000 by omega) ⋯]
  rwa[⟨M,12,.inl ⟨aH.of ah,λF Y=>?_⟩⟩];rw[<-ints_app,<-iu]at Y ⊢;let s5:=aq.upd (o:=.lst (ao (nI ((g.start::cx S.by g.start (g.word.take g.first))++(g.bu::cx S.by g.bu (g.word.drop (g.last+ 1))))))) n3;change (g.start::cx S.by g.start (g.word.take g.first))++(g.bu::cx S.by g.bu (g.word.drop (g.last+ 1)))=path at *;let U:=s5.trans (aq.upd (o:=.tup (ao (nI path))) Y);let e6:upd (upd Z M (.lst (ao (nI path)))) F (.tup (ao (nI path))) F=_:=ah;change upd (upd Z M (.lst (ao (nI path)))) F (.tup (ao (nI path)))=H6 at U e6 ⊢;rwa[⟨12,p,_,m,112,(U^X.ins),aU T,T.e9,gR _ _,(Za4 4),λq nq=>?_⟩];let s7:=aq.upd (o:=.tup [.str (tx [114,117,108,101]),.int (g.which:Int),↑F,.int (g.first:Int)]) nq;rwa[k q _ (D.trans (U.trans s7)) (.t ah rfl λj v d b f=>?_)]
  match j,b,f with
  |0,b,f=>ext b;ext f;rwa[.s]
  |1,b,f=>ext b;ext f;rwa[.i]
  |2,b,f=>
   ext b;ext f;rwa[.t (s7^e6) (by rw[aO,bZ,ahE]) λi u x f1 O=>?_]
   let⟨z,rfl,t⟩:=cD f1;unfold nI at t;rw[ahZ]at t O
   cases q1:path[i]? with
   |none=>rw[q1]at t;ext t
   |some c=>
    rw[q1]at t O;ext t;ext O;rwa[.i]
  |3,b,f=>ext b;ext f;rwa[.i]
  |j+ 4,b,f=>simp at b
def same_none (s:aq H I){b:Zs}(h:I b=none):H b=none:=by
 cases e:H b with
 |none=>rfl
 |some o=>rw[s^e]at h;ext h
structure KA where
 dx:Zs
 aQ:Zs
 aG:Zs
 aA:Zs
 aW:Zs
noncomputable def pK (r:Zs)(c:KA)(a:Nat):List (Str×V):=[("rooms",↑r),("rules",↑c.aQ),("goings",↑c.aG),("agenda",↑c.aA),("waiting",↑c.aW),("heard",.int a)]
def fU (r:Zs)(c:KA)(a:Nat):(pK r c a).lookup ("rooms":Str)\↑r:=by kernel_rfl
def MH (r:Zs)(c:KA)(a:Nat):(pK r c a).lookup ("rules":Str)\↑c.aQ:=by kernel_rfl
def kY (r:Zs)(c:KA)(a:Nat):(pK r c a).lookup ("goings":Str)\↑c.aG:=by kernel_rfl
def oj (r:Zs)(c:KA)(a:Nat):(pK r c a).lookup ("agenda":Str)\↑c.aA:=by kernel_rfl
def lT (r:Zs)(c:KA)(a:Nat):(pK r c a).lookup ("waiting":Str)\↑c.aW:=by kernel_rfl
def vz (r:Zs)(c:KA)(a:Nat):(pK r c a).lookup ("heard":Str)\(.int a):=by kernel_rfl
def fq {r:Zs}{c:KA}(h:x∉(["rooms","rules","goings","agenda","waiting","heard"]:Zp)):(pK r c n).lookup x=none:=by
 simp only[ahR,ail,ajN,not_or]at h;let⟨e,b,g,d,f,a⟩:=h;unfold pK;simp only[List.lookup,ahX.mpr e,ahX.mpr b,ahX.mpr g,ahX.mpr d,ahX.mpr f,ahX.mpr a]
def MJ (r:Zs)(c:KA)(a n:Nat):bI "heard" (.int n) (pK r c a)=pK r c n:=by kernel_rfl
structure qx (CG:Zs) (H:Hp) (gv:Zb) (gs:Zf) (O:Zs->Prop):Prop where
 l:⇑gv=⇑gs
 n:∀(i:Nat) (v:V),gv[i]?\v->gs[i]?\none->v=.non
 s:∀(i:Nat) (v:V) (g:Gg),gv[i]?\v->gs[i]?\some g->∃p dx wa,v=↑p/\ej CG H p dx wa g/\O p
 i:∀(i j:Nat) (p:Zs),gv[i]?\↑p->gv[j]?\↑p->i=j
structure cz (CG CC:Zs) (H:Hp) (x r:Zs) (c:KA) (gs:Zf) (ag:Zh) (W:bD) (hd:Nat) (fp:List (Zg×Nat)) (O:Zs->Prop):Prop where
 ins:H x\(.ins CC c.dx (pK r c hd))
 hG:∃gv,H c.aG\.lst gv/\qx CG H gv gs O
 hA:H c.aA\(.lst (ao (nI ag)))
 wt:oT H c.aW W O
 ne:c.aG≠c.aA
 ox:O x
 oG:O c.aG
 oA:O c.aA
 th:∀b,O b->∃o,H b\o/\(∀xs,o≠.tup xs)/\(∀kv,o≠.dT kv)/\(∀u v,o≠.c9 u v)/\∀ps,o≠.fy ps
section
variable {CG CC:Zs}{H H':Hp}{x r:Zs}{c:KA}{gs:Zf}{ag:Zh}{W:bD}{hd:Nat}{fp:List (Zg×Nat)}{O:Zs->Prop}
def qx.keep (h:qx CG H L gs O)(f:∀b o,O b->H b\o->H' b\o)(d:∀b a,H b\.tup a->H' b\.tup a):qx CG H' L gs O:=by
 rwa[⟨h.l,h.n,λi v g j l=>?_,h.i⟩];let⟨p,dx,k,e,q,o⟩:=h.s i v g j l;rwa[p,dx,k,e,⟨f _ _ o q.ins,d^q.wo⟩,o]
def cz.keep (h:cz CG CC H x r c gs ag W hd fp O)(f:∀b o,O b->H b\o->H' b\o)(g:∀b a,H b\.tup a->H' b\.tup a):cz CG CC H' x r c gs ag W hd fp O:=by
 let⟨j,i,g2⟩:=h.hG;rwa[⟨f _ _ h.ox h.ins,⟨j,f _ _ h.oG i,g2.keep f g⟩,f _ _ h.oA h.hA,h.wt.keep f,h.ne,h.ox,h.oG,h.oA,λb d=>?_⟩];let⟨o,e,q⟩:=h.th b d;rwa[o,f _ _ d e,q]
def cz.same (h:cz CG CC H x r c gs ag W hd fp O)(s:aq H H'):cz CG CC H' x r c gs ag W hd fp O:=h.keep (λb o _ e=>s b o e) (λb o e=>s^e)
def cz.jj (h:cz CG CC H x r c gs ag W hd fp O){b:Zs}{a:Zb}(e:H b\.tup a):¬O b:=λz=>by
 let⟨o,q,n,_⟩:=h.th b z
 cbv
def cz.JG (h:cz CG CC H x r c gs ag W hd fp O){b:Zs}{a:List (Zd×V)}(e:H b\.dT a):¬O b:=λz=>by
 let⟨o,q,_,n,_⟩:=h.th b z
 cbv
def cz.waits (h:cz CG CC H x r c gs ag W hd fp O){k:bD}{a:Zs->Prop}(f:∀b o,(∀j,o≠.dK j)->H b\o->H' b\o)(d:∀b,O b->a b)(w:oT H' c.aW k a)(th:∀b,a b->∃o,H' b\o/\(∀t,o≠.tup t)/\(∀j,o≠.dT j)/\(∀u v,o≠.c9 u v)/\∀m,o≠.fy m):cz CG CC H' x r c gs ag k hd fp a:=by
 let⟨l,s,g2⟩:=h.hG;rwa[⟨f _ _ (by cbv) h.ins,⟨l,f _ _ (by cbv) s,g2.l,g2.n,λi v g y n=>?_,g2.i⟩,f _ _ (by cbv) h.hA,w,h.ne,d _ h.ox,d _ h.oG,d _ h.oA,th⟩];let⟨p,dx,z,e,q,o⟩:=g2.s i v g y n;rwa[p,dx,z,e,⟨f _ _ (by cbv) q.ins,f _ _ (by cbv) q.wo⟩,d _ o]
def cz.agenda (h:cz CG CC H x r c gs ag W hd fp O)(a:Zh):cz CG CC (upd H c.aA (.lst (ao (nI a)))) x r c gs a W hd fp O:=by
 let⟨f,l,g2⟩:=h.hG;let k:∀b o,b≠c.aA->H b\o->upd H c.aA (.lst (ao (nI a))) b\o:=λb o n e=>by rw[ak n];rwa[e]
 let kn:∀b o,(∀m,o≠.lst m)->H b\o->upd H c.aA (.lst (ao (nI a))) b\o:=λb o n e=>k b o (λz=>by rw[z,h.hA]at e;cbv) e
 rwa[⟨kn _ _ (by cbv) h.ins,⟨f,k _ _ h.ne l,g2.l,g2.n,λi v g s j=>?_,g2.i⟩,ah,5,h.ne,h.ox,h.oG,h.oA,λb d=>?_⟩]
 ·let⟨p,dx,t,e,q,o⟩:=g2.s i v g s j;rwa[p,dx,t,e,⟨kn _ _ (by cbv) q.ins,kn _ _ (by cbv) q.wo⟩,o]
 ·let⟨D,E,k1,k2⟩:=h.wt;rwa[D,E,k1.keep λb o d e=>by let⟨u,q⟩:=k1.there d;cbv,k2]
 ·cases e:b=c.aA
  ·rwa[_,[e]▸ah,(by cbv),(by cbv),(by cbv),by cbv]
  ·let⟨o,q,n⟩:=h.th b d;rwa[o,k _ _ e q,n]
end
def Bt (O:Zs->Prop)(H a:Hp):Prop:=∀b o,¬O b->H b\o->a b\o
def Bt.trans {O a:Zs->Prop}(h:Bt O H I)(c:Bt a I J)(f:∀b,a b->O b\/H b=none):Bt O H J:=λb o n e=>c b o (λz=>(f b z).elim n λq=>by cbv) (h b o n e)
def Bt.of {O:Zs->Prop}(s:aq H I):Bt O H I:=λb o _ e=>s b o e
inductive JH (CR CG CC:Zs) (vs:Zb) (H:Hp) (Q:VK) (E_:XK):Prop
 |mk (x r:Zs) (c:KA) (gs:Zf) (ag:Zh) (W:bD) (hd:Nat) (fp:List (Zg×Nat)) (O:Zs->Prop) (n m:Nat) (s:Int):vs=[↑x,.int n,.int m,.int s]->cz CG CC H x r c gs ag W hd fp O->m<100000->n<100000->(-1000<=s/\s<=1000)->(∀O' H',Bt O H H'->(∀b o,(∀kv,o≠.dK kv)->H b\o->H' b\o)->(∀b,O b->O' b)->(∀b,O' b->O b\/H b=none)->cz CG CC H' x r c gs ag (addW W m s n) hd fp O'->Q .non H')->JH CR CG CC vs H Q E_
structure jV (H:Hp) (O:Zs->Prop) (H1:Hp) (O1:Zs->Prop):Prop where
 f:∀b o,(∀kv,o≠.dK kv)->H b\o->H1 b\o
 bt:Bt O H H1
 le:∀b,O b->O1 b
 nw:∀b,O1 b->O b\/H b=none
 th:∀b,O1 b->∃o,H1 b\o/\(∀xs,o≠.tup xs)/\(∀kv,o≠.dT kv)/\(∀u v,o≠.c9 u v)/\∀ps,o≠.fy ps
def jV.new {O a:Zs->Prop}(h:jV H O I a){p:Zs}{c:List (Key×V)}(d:I p=none):jV H O (upd I p (.dK c)) a:=by
 let s:=aq.upd (o:=.dK c) d;rwa[⟨λb o n e=>s^h.f b o n e,λb o n e=>s^h.bt b o n e,h.le,h.nw,λb f=>?_⟩];let⟨o,e,q⟩:=h.th b f;rwa[o,s^e,q]
def jV.put {O a:Zs->Prop}(h:jV H O I a){d:Zs}(hd:a d){f kv':List (Key×V)}(ed:I d\.dK f):jV H O (upd I d (.dK kv')) a:=by
 let k:∀b o,b≠d->I b\o->upd I d (.dK kv') b\o:=λb o n e=>by rw[ak n];rwa[e]
 rwa[⟨λb o n e=>k _ _ (λz=>by have:=h.f b o n e;cbv) (h.f b o n e),λb o n e=>k _ _ (λz=>?_) (h.bt b o n e),h.le,h.nw,λb c=>?_⟩]
 ·rcases h.nw d hd with q|q
  ·cbv
  cbv
 ·cases e:b=d
  ·rwa[⟨_,by rw[e];rwa[ah],(by cbv),(by cbv),(by cbv),by cbv⟩]
  ·let⟨o,q,m⟩:=h.th b c;rwa[o,k _ _ e q,m]
def jV.Yi {O a:Zs->Prop}(h:jV H O I a){p:Zs}(d:H p=none){o:HO}(l:I p\o)(g:∀i,o≠.tup i)(c:∀k,o≠.dT k)(j:∀u v,o≠.c9 u v)(f:∀e,o≠.fy e):jV H O I (Ir a p):=by
 rwa[⟨h.f,h.bt,λb z=>.inl (h.le b z),λb z=>z.elim (h.nw b) λq=>.inr ([q]▸d),λb z=>?_⟩];rcases z with z|z
 ·rwa[h.th b z]
 ·rw[z];rwa[o,l,g,c,j,f]
def jV.no {O b:Zs->Prop}(h:jV H O I b){p:Zs}(a:I p=none):H p=none:=by
 cases e:H p with
 |none=>rfl
 |some o=>
  cases q:O p
  ·let⟨d,c,_⟩:=h.th p (h.le p q);cbv
  ·rw[h.bt p o q e]at a;ext a
def cz.mid {x r:Zs}{c:KA}{gs:Zf}{W:bD}{hd:Nat}{d:List (Zg×Nat)}{O:Zs->Prop}(h:cz a b H x r c gs B W hd d O):jV H O H O:=⟨λ_ _ _ e=>e,λ_ _ _ e=>e,λ_ z=>z,λ_ z=>.inl z,h.th⟩
def om (T:Txt K mg A):T.jS.Ok mg P w base 1 (JH A.az A.aJ A.aD):=by
 rwa[T.jS.on jU (λU AA G s H vs Q E V h=>?_)]
 ·let⟨x,r,c,gs,ag,W,B,fp,O,n,m,s,rfl,h,hm,hn,Y,k⟩:=h;let F:=iJ V
  erw[_,{bE (bC 4 jU.nd (nF (0<<<1) (pv 2) fN ⟨2222⟩)),bE (bC 5 jU.nd (nF (pv 4) (pv 3) fN ⟨2222⟩)),tq F (pv 5) (pv 1) kr rfl}]
  rwa[fP ?_];intro Z S;erw[λ f J=>∃d y,f=#v[↑x,.int (n:Int),.int (m:Int),.int s,↑d,none]/\jV H O J y/\fE J c.aW W y m d,5]
  ·rwa[⟨12,x,_,c.dx,112,h.ins,aL T,T.jT,lT^_,c.aW,2,h.wt.qH,12,λp b=>?_⟩];let⟨a,g,q,l,I⟩:=h.wt.room b (c:=(m:Int)) ∅;rwa[⟨a,Sum.inl (m:Int),g,2,q,λv j=>?_,λj=>?_⟩]
   ·let⟨d,rfl,w⟩:=l v j;rwa[d,O,2,h.mid.new b,w]
   ·let w:=I j;let M:O c.aW:=by let⟨D,E,_,z⟩:=h.wt;rwa[z.o _ (.inl rfl)]
    rwa[p,12,((h.mid.new b).put M g).Yi b ([ak (λz=>by rw[z]at b;let⟨o,e,_⟩:=h.th _ M;cbv)]▸ah) (by cbv) (by cbv) (by cbv) (by cbv),w]
  rintro f J ⟨d,y,rfl,u,C⟩;erw[λ f L=>∃e t,f=#v[↑x,.int (n:Int),.int (m:Int),.int s,↑d,↑e]/\jV H O L t/\p8 L c.aW W t m s e,5]
  ·rwa[⟨12,d,2,C.qH,12,λp b=>?_⟩];let⟨a,g,q,l,I⟩:=C.cell b Y;rwa[⟨a,Sum.inl s,g,2,q,λv j=>?_,λj=>?_⟩]
   ·let⟨e,rfl,w⟩:=l v j;rwa[e,y,2,u.new b,w]
   ·let w:=I j;let B:=C.own;rwa[p,12,((u.new b).put B g).Yi (u.no b) ([ak (λz=>by rw[z]at b;let⟨o,e,_⟩:=u.th _ B;cbv)]▸ah) (by cbv) (by cbv) (by cbv) (by cbv),w]
  rintro f L ⟨e,t,rfl,R,N⟩;let⟨a,g,q,l⟩:=N.put (n:=(n:Int)) ∅;erw[1212,e,12,rJ.k (k:=Sum.inl (n:Int)) g q];let i:=R.put (kv':=putK a (Sum.inl (n:Int)) (.bl true)) N.own g;rwa[k t _ i.bt i.f i.le i.nw (h.waits i.f i.le l i.th)]
inductive JK (CR CG CC:Zs) (vs:Zb) (H:Hp) (Q:VK) (E_:XK):Prop
 |mk (x r:Zs) (c:KA) (gs:Zf) (ag:Zh) (W:bD) (hd:Nat) (fp:List (Zg×Nat)) (O:Zs->Prop) (m:Nat) (s:Int):vs=[↑x,.int m,.int s]->cz CG CC H x r c gs ag W hd fp O->(∀ns:Zh,ns.Nodup->(∀n:Nat,n∈ns↔W m s n=true)->⇑ag+ ⇑ns<=1000000)->(∀ns H',Bt O H H'->ns.Nodup->(∀n:Nat,n∈ns↔W m s n=true)->cz CG CC H' x r c gs (ag++ns) (gn W m s) hd fp O->Q .non H')->JK CR CG CC vs H Q E_
def fJ (T:Txt K mg A):T.e8.Ok mg P w base 1 (JK A.az A.aJ A.aD):=by
 rwa[T.e8.on xk (λcC AA G s H vs Q E hr h=>?_)]
 ·let⟨x,r,c,gs,Z,W,hd,fp,O,m,s,rfl,h,hz,k⟩:=h;let D:=iJ hr;erw[_,{aV (cM ahM PySem.F.slot_list_extend PySem.F.type_list_extend y4 (0<<<1) #[gE (jN rfl) rfl T.iG aiQ #[uR (my D (0<<<1) (pv 1) fN ⟨2222⟩) (pv 2) fN ⟨2222⟩]])}]
  let rest:∀{i:Hp} {R:bD} {l:Zs} {ns:Zh},cz A.aJ A.aD i x r c gs Z R hd fp O->Bt O H i->i l=none->ns.Nodup->(∀n:Nat,n∈ns↔W m s n=true)->R=gn W m s->xX (V.ref c.aA) [V.ref l] (upd i l (.lst (ao (nI ns)))) (λ_ H'=>Q .non H'):=λ{i R l ns} p b2 g S X eW=>by
   subst eW;let N:=aq.upd (o:=.lst (ao (nI ns))) g;erw[c.aA,l,1122,N^p.hA,ah,5]
   ·rw[aO,aO,bZ,bZ];rwa[ahP (hz ns S X) ⋯]
   ·rw[<-ints_app,<-iu];rwa[k ns _ (λb o n e=>[ak (λz=>n ([z]▸h.oA))]▸N^b2 b o n e) S X ((p.same N).agenda (Z++ns))]
  rwa[⟨12,x,_,c.dx,112,h.ins,aL T,T.kT,oj^_,.inl ⟨21,aH.of h.hA⟩,12,x,_,c.dx,112,h.ins,aL T,T.jT,lT^_,c.aW,2,h.wt.qH,12,λB M=>?_⟩];let s1:=aq.upd (o:=.dK []) M;let F:upd H B (.dK []) B\(.dK []):=ah;change upd H B (.dK [])=C at s1 F ⊢;let I:=h.same s1;let⟨o,g1,g2⟩:=I.wt.get (c:=(m:Int));erw[o,g1];rcases g2 with ⟨rfl,no⟩|⟨d,rfl,w⟩
  ·rwa[⟨B,rfl,.inl ⟨_,.inl F⟩,_,rfl,λf j=>?_⟩];let a:=aq.upd (o:=.dK []) j;let u:upd C f (.dK []) f\(.dK []):=ah;change upd C f (.dK [])=i at a u ⊢;rwa[⟨[],Sum.inl s,a^F,2,(λv q=>by ext q),λ_=>⟨f,[],2,u,λl g=>?_⟩⟩];rwa[rest (ns:=[]) (I.same a) (.of (s1.trans a)) g ajn (λn=>⟨(λz=>by ext z),λz=>by rw[no]at z;ext z⟩) (yh (no s)).symm]
  ·rwa[⟨d,2,w.qH,12,λf j=>?_⟩];let a:=aq.upd (o:=.dK []) j;let u:upd C f (.dK []) f\(.dK []):=ah;change upd C f (.dK [])=i at a u ⊢;let p:=I.same a;let⟨t,Y,U,e3⟩:=(w.same a).pop s;rwa[⟨t,Sum.inl s,Y,2,λv q=>?_,λq=>⟨f,[],2,u,λl g=>?_⟩⟩]
   ·let⟨e,L,ns,rfl,J,f1,f2,f3,f4,f5⟩:=e3 v q;rwa[⟨e,L,2,[ak J]▸f1,λl g=>?_⟩];let y:=(p.mid.put (kv':=fh t (Sum.inl s)) w.own Y);rw[f2];rwa[rest (p.waits y.f y.le f5 y.th) (Bt.trans (.of (s1.trans a)) y.bt λb z=>.inl z) g f3 f4 rfl]
   ·rwa[rest (ns:=[]) p (.of (s1.trans a)) g ajn (λn=>⟨(λz=>by ext z),λz=>by rw[U q]at z;ext z⟩) (yh (U q)).symm]
def _root_.Lake.L2.CI.Ux {bs:List (Nat×Zg×Nat)}{gs:Zf}{W:bD}{d:Nat->Int->Prop}{x:Zi}(h:CI S bs gs B W d x){m:Nat}{s:Int}{ns:Zh}(nd:ns.Nodup)(c:∀n:Nat,n∈ns↔W m s n=true):⇑ns+ vX S.q ⇑gs (gn W m s)<=vX S.q ⇑gs W:=by
 cases ns with
 |nil=>
  have:∀n,W m s n=false:=λn=>by
   cases q:W m s n with
   |false=>rfl
   |true=>
    let⟨_,b,_,e,_⟩:=h.en _ _ _ q
    cbv
  rw[yh this,ajd,Nat.zero_add];rwa[ahG _]
 |cons n r=>
  let⟨k,b,l,_,a,_,f,_⟩:=h.en _ _ _ ((c n).mp (ahU ..));let a:m<S.q:=∅
  let i:=Qd (G:=⇑gs) (W:=W) a f
  let g:=Iu (P:=λn:Nat=>W m s n) (G:=⇑gs) nd λn a=>by
   let w:=(c n).mp a;let⟨_,b,_,e,_,j,_⟩:=h.en _ _ _ w;rwa[3,w]
  ext
def _root_.Lake.L2.CI.two {bs:List (Nat×Zg×Nat)}{gs:Zf}{W:bD}{a:Nat->Int->Prop}{x:Zi}(h:CI S bs gs B W a x):vX S.q ⇑gs W<=2* ⇑gs:=Qf λn=>by
 let⟨p,q,e,_⟩:=h.sl n;rwa[p,q,e]
def _root_.Lake.L2.fE.keys {k:Zs}{W:bD}{O:Zs->Prop}(h:fE H k W O z d):∃(a:List (Key×V)) (zs:Zg),H d\.dK a/\a.map (λb=>kV b.1)=ao zs/\⇑zs<=2001/\∀s n,W z s n=true->s∈zs:=by
 let⟨D,E,l,p,hd⟩:=h;let⟨a,j,o,c,f⟩:=l.Lg hd
 let q:⇑a<=2001:=vW (n:=2001) (lo:=-1000) o c f λi v m=>by
  cases e:E z i with
  |none=>rw[e]at m;ext m
  |some x=>have:=p.e z i x e;ext
 let ex:∃zs:Zg,a.map (·.1)=zs.map Sum.inl:=by
  clear j o f q
  induction a with
  |nil=>rwa[[],2]
  |cons b r t=>
   let⟨zs,e⟩:=t λx g=>c x (aie _ g)
   let⟨i,u⟩:=c b (ahU ..);rwa[i::zs,by cbv]
 let⟨zs,e⟩:=ex;rwa[⟨a,zs,j,55,λs n w=>?_⟩]
 ·rw[show (λb:Key×V=>kV b.1)=kV ∘ (·.1) from rfl,<-aip,e,aip];rfl
 ·have:=aiN List.length e;rw[ahE,ahE]at this;ext
 ·let⟨x,g⟩:=l.se _ _ _ w;have:Sum.inl s∈a.map (·.1):=ER (v:=↑x) (by rw[f,g];rfl)
  cbv
structure kZ (CG CC:Zs) (S:RS) (bs:List (Nat×Zg×Nat)) (gs:Zf) (W0:bD) (Ex:Nat->Int->Prop) (B:Nat) (x r:Zs) (c:KA) (hd:Nat) (fp:List (Zg×Nat)) (O:Zs->Prop) (H:Hp) (ag:Zh) (W:bD):Prop where
 c:cz CG CC H x r c gs ag W hd fp O
 i:CI S bs gs ag W Ex none
 s:∀r s n,W r s n=true->W0 r s n=true
 b:⇑ag+ vX S.q ⇑gs W<=B
def kZ.wake {bs:List (Nat×Zg×Nat)}{gs:Zf}{f:bD}{g:Nat->Int->Prop}{x r:Zs}{c:KA}{hd:Nat}{e:List (Zg×Nat)}{O:Zs->Prop}{W:bD}(h:kZ a b S bs gs f g n x r c hd e O H B W){m:Nat}{s:Int}{ns:Zh}(nd:ns.Nodup)(i:∀d:Nat,d∈ns↔W m s d=true)(q:cz a b I x r c gs (B++ns) (gn W m s) hd e O):kZ a b S bs gs f g n x r c hd e O I (B++ns) (gn W m s):=
 ⟨q,h.i.wake i,λr s d w=>h.s _ _ _ (dz.mp w).1,by have:=h.i.Ux nd i;have:=h.b;rw[ahA];ext⟩
def kZ.fits {bs:List (Nat×Zg×Nat)}{gs:Zf}{e:bD}{f:Nat->Int->Prop}{x r:Zs}{c:KA}{hd:Nat}{g:List (Zg×Nat)}{O:Zs->Prop}{W:bD}(h:kZ a b S bs gs e f n x r c hd g O H B W)(j:n<=1000000){m:Nat}{s:Int}:∀ns:Zh,ns.Nodup->(∀d:Nat,d∈ns↔W m s d=true)->⇑B+ ⇑ns<=1000000:=λns nd i=>by have:=h.i.Ux nd i;have:=h.b;ext
inductive Ff (CR CG CC:Zs) (vs:Zb) (H:Hp) (Q:VK) (E_:XK):Prop
 |mk (x r:Zs) (c:KA) (S:RS) (a:RA) (bs:List (Nat×Zg×Nat)) (gs:Zf) (ag:Zh) (W:bD) (Ex:Nat->Int->Prop) (B hd:Nat) (fp:List (Zg×Nat)) (O:Zs->Prop) (m:Nat):vs=[↑x,.int m]->kZ CG CC S bs gs W Ex B x r c hd fp O H ag W->B<=1000000->ay CR H r S a->S.Wf->(∀b,a.own r b->¬O b)->m<S.q->S.aw m<S.q->(∀iV W' H',Bt O H H'->kZ CG CC S bs gs W Ex B x r c hd fp O H' iV W'->(∀s n,W' m s n=false)->(∀s n,W' (S.aw m) s n=true->S.by (S.aw m) s=none)->Q .non H')->Ff CR CG CC vs H Q E_
def rq (T:Txt K mg A):T.jo.Ok mg P w base 2 (Ff A.az A.aJ A.aD):=by
 rwa[T.jo.on fm (λcC AA outer s H vs Q E hr h=>?_)]
 ·let⟨x,r,c,S,a,bs,Y,ag,W,Ex,B,hd,Z,O,m,rfl,h,hB,hR,wf,dj,hm,he,k⟩:=h;let qX:=iJ hr
  erw[_,{cW ah7 rfl (cO (gE (jN rfl) rfl T.iG aiQ #[my qX (0<<<1) (pv 1) fN ⟨2222⟩])) (dW 2 fm.nd)
   {aV (pm (pv 0) (aL T) T.e8 (fJ T) hr #[1,2])},bC 3 fm.nd (pm (0<<<1) (aI T) T.hM (iR T) hr #[1]),cW ah7 rfl (cO (gE (jN rfl) rfl T.iG aiQ #[my qX (0<<<1) (pv 3) fN ⟨2222⟩])) (dW 2 fm.nd)
    {bE (bB (aZ sZ (pm (0<<<1) (aI T) T.iF (hU T) hr #[3,2]) dA (bh _))
     {aV (pm (pv 0) (aL T) T.e8 (fJ T) hr #[3,2])}
     bj)}}]
  rwa[fP ?_];intro fI fV;let rk:∀{D:Hp},Bt O H D->ay A.az D r S a:=λ{D} b=>hR.keep (λb' o hb e=>b b' o (dj b' hb) e) (λb' xs e=>b b' _ (h.c.jj e) e)
  let get:∀{N:Hp} {Yj:Zh} {W1:bD} (m1:Nat),kZ A.aJ A.aD S bs Y W Ex B x r c hd Z O N Yj W1->∀L,N L=none->∃(o:Zc) (d:Zs) (u:List (Key×V)) (G:Zg),gf (upd N L (.dK [])) c.aW (.int (m1:Int)) o/\o.getD ↑L=↑d/\upd N L (.dK []) d\.dK u/\u.map (λkv=>kV kv.1)=ao G/\∀s n,W1 m1 s n=true->s∈G:=λ{N Yj W1} m1 h1 L F=>by
   let s1:=aq.upd (o:=.dK []) F;let⟨o,U,g2⟩:=(h1.c.same s1).wt.get (c:=(m1:Int));rcases g2 with ⟨rfl,no⟩|⟨d,rfl,w⟩
   ·rwa[⟨none,L,[],[],U,rfl,ah,rfl,λs n z=>by cbv⟩]
   ·let⟨u,G,e1,e2,_,e4⟩:=w.keys;rwa[_,d,u,G,U,2,e1,e2,e4]
  rwa[⟨12,x,_,c.dx,112,h.c.ins,aL T,T.jT,lT^_,c.aW,2,h.c.wt.qH,12,λL F=>?_⟩];let⟨o,d,u,G,U,g2,g3,g4,Yk⟩:=get m h L F;rwa[⟨o,U,d,u,(by rw[g2]),g3,λl nl=>?_⟩];rw[g4];let s1:=(aq.upd (o:=.dK []) F).trans (aq.upd (o:=.lst (ao G)) nl);let hl:upd (upd H L (.dK [])) l (.lst (ao G)) l\(.lst (ao G)):=ah;replace nl:=same_none (aq.upd (o:=.dK []) F) nl;change upd (upd H L (.dK [])) l (.lst (ao G))=N at s1 hl ⊢;clear U g2 g3 g4;let Yl:¬O l:=λz=>by let⟨o,e,_⟩:=h.c.th l z;cbv
  let h1:kZ A.aJ A.aD S bs Y W Ex B x r c hd Z O N ag W:=⟨h.c.same s1,h.i,h.s,h.b⟩;erw[l,2,⟨_,aH.of hl⟩]
  refine eY (K:=K) (a:=l) (xs:=ao G) (λi M D=>∃t I v2,M=#v[↑x,.int (m:Int),v2,none]/\Bt O N D/\kZ A.aJ A.aD S bs Y W Ex B x r c hd Z O D t I/\∀(j:Nat) (s:Int),j<i->G[j]?\s->∀n,I m s n=false)
   ⟨ag,W,none,2,λ_ _ _ e=>e,h1,λj s C=>absurd C ∅⟩ (λi M D _ q0=>by let⟨_,_,_,_,b2,_⟩:=q0;rwa[aH.of (b2 _ _ Yl hl)]) ?_ ?_
  ·rintro i v M D hi ⟨t,I,v2,rfl,b2,g,C⟩;let⟨s,rfl,hs⟩:=cD hi;rwa[⟨12,x,c.dx,12,g.c.ins,fq ⋯,1212,x,r,c,Y,t,I,hd,Z,O,m,s,2,g.c,g.fits hB,λns H3 b3 nd hn h3=>?_⟩];rwa[⟨1112,b2.trans b3 λb z=>.inl z,g.wake nd hn h3,λj s' f e n=>?_⟩]
   cases q:gn I m s m s' n with
   |false=>rfl
   |true=>
    let⟨q1,q2⟩:=dz.mp q
    cbv
  rintro M D ⟨t,I,v2,rfl,b2,g,C⟩;rw[aO]at C;let Uy:Bt O H D:=Bt.trans (.of s1) b2 λb z=>.inl z
  let off:∀s n,I m s n=false:=λs n=>by
   cases q:I m s n with
   |false=>rfl
   |true=>
    let⟨j,f,e⟩:=ajw.mp (Yk s n (g.s _ _ _ q));rw[C j s f (by rw[ahC f,e]) n]at q;ext q
  clear C Yk hl Yl h1;let R2:=rk Uy;erw[12,x,_,c.dx,112,g.c.ins,aL T,T.fb,fU^_,r,a.dx,12,R2.ins,cS _ _ _ ⋯,12,r,S,a,m,S.aw m,2,R2,pH ([wf.e]▸hm)];change S.aw m=e at he k ⊢;rwa[⟨12,x,_,c.dx,112,g.c.ins,aL T,T.jT,lT^_,c.aW,2,g.c.wt.qH,12,λp2 xt=>?_⟩];let⟨o2,d2,abd,y,U,g2,g3,g4,abe⟩:=get e g p2 xt;rwa[⟨o2,U,d2,abd,(by rw[g2]),g3,λl2 E9=>?_⟩];rw[g4];let s3:=(aq.upd (o:=.dK []) xt).trans (aq.upd (o:=.lst (ao y)) E9);let Iy:upd (upd D p2 (.dK [])) l2 (.lst (ao y)) l2\(.lst (ao y)):=ah;replace E9:=same_none (aq.upd (o:=.dK []) xt) E9;change upd (upd D p2 (.dK [])) l2 (.lst (ao y))=H3 at s3 Iy ⊢;clear U g2 g3 g4;let abf:¬O l2:=λz=>by let⟨o,e,_⟩:=g.c.th l2 z;cbv
  let h3:kZ A.aJ A.aD S bs Y W Ex B x r c hd Z O H3 t I:=⟨g.c.same s3,g.i,g.s,g.b⟩;erw[l2,2,⟨_,aH.of Iy⟩]
  refine eY (K:=K) (a:=l2) (xs:=ao y) (λi M X=>∃J W4 v2,M=#v[↑x,.int (m:Int),v2,.int (e:Int)]/\Bt O H3 X/\kZ A.aJ A.aD S bs Y W Ex B x r c hd Z O X J W4/\(∀r s n,W4 r s n=true->I r s n=true)/\∀(j:Nat) (s:Int),j<i->y[j]?\s->∀n,W4 e s n=true->S.by e s=none)
   ⟨t,I,12,λ_ _ _ q=>q,h3,λ_ _ _ q=>q,λj s C=>absurd C ∅⟩ (λi M X _ q0=>by let⟨_,_,_,_,b4,_⟩:=q0;rwa[aH.of (b4 _ _ abf Iy)]) ?_ ?_
  ·rintro i v M X hi ⟨J,W4,v4,rfl,b4,R,p,C⟩;let⟨s,rfl,hs⟩:=cD hi;let b04:Bt O H X:=Uy.trans (Bt.trans (.of s3) b4 λb z=>.inl z) λb z=>.inl z
   let R4:=rk b04;rwa[⟨15,λ_ _ z=>z⟩];erw[12,x,_,c.dx,112,R.c.ins,aL T,T.fb,fU^_,r,a.dx,12,R4.ins,cS _ _ _ ⋯,1212,r,S,a,e,s,2,R4,[wf.w]▸he]
   cases eb:S.by e s with
   |none=>
    erw[212];rwa[bR (λz=>absurd z ⋯) (λ_=>?_)];rwa[⟨1112,b4,R,p,λj s' f q n w=>?_⟩]
    cbv
   |some d=>
    rw[show (Option.map (λn:Nat=>V.int (n:Int)) (some d)).getD V.non=V.int (d:Int) from rfl];erw[212];rwa[bR (λ_=>?_) (λz=>absurd rfl z)];rwa[⟨12,x,c.dx,12,R.c.ins,fq ⋯,1212,x,r,c,Y,J,W4,hd,Z,O,e,s,2,R.c,R.fits hB,λns H5 b5 nd hn h5=>?_⟩];rwa[⟨1112,b4.trans b5 λb z=>.inl z,R.wake nd hn h5,λr s n w=>p _ _ _ (dz.mp w).1,λj s' f q n w=>?_⟩];let⟨w1,w2⟩:=dz.mp w
    cbv
  rintro M X ⟨J,W4,v4,rfl,b4,R,p,C⟩;rw[aO]at C;rwa[k J W4 X (Uy.trans (Bt.trans (.of s3) b4 λb z=>.inl z) λb z=>.inl z) R (λs n=>?_) λs n w=>?_]
  ·cbv
  ·let⟨j,f,q⟩:=ajw.mp (abe s n (p _ _ _ w));rwa[C j s f (by rw[ahC f,q]) n w]
def cz.W7 {x r:Zs}{c:KA}{gs:Zf}{W:bD}{hd:Nat}{l:List (Zg×Nat)}{O:Zs->Prop}(h:cz a b H x r c gs B W hd l O)(F:∀(n:Nat) (g:Gg) (p dx j:Zs),gs[n]?\some g->ej a H p dx j g->p≠x)(n:Nat):cz a b (upd H x (.ins b c.dx (pK r c n))) x r c gs B W n l O:=by
 let kn:∀f o,(∀C d fs,o≠.ins C d fs)->H f\o->upd H x (.ins b c.dx (pK r c n)) f\o:=λf o q e=>by rw[ak (λz=>by rw[z,h.ins]at e;cbv)];rwa[e]
 let⟨t,u,g2⟩:=h.hG;rwa[⟨ah,⟨t,kn _ _ (by cbv) u,g2.l,g2.n,λi v g y s=>?_,g2.i⟩,kn _ _ (by cbv) h.hA,5,h.ne,h.ox,h.oG,h.oA,λf k=>?_⟩]
 ·let⟨p,dx,j,e,q,o⟩:=g2.s i v g y s;rwa[p,dx,j,e,⟨[ak (F i g p dx j s q)]▸q.ins,kn _ _ (by cbv) q.wo⟩,o]
 ·let⟨D,E,k1,k2⟩:=h.wt;rwa[D,E,k1.keep λf o k e=>by let⟨G,q⟩:=k1.there k;rw[q]at e;ext e;rwa[kn _ _ (by cbv) q],k2]
 ·cases e:f=x
  ·rwa[_,[e]▸ah,(by cbv),(by cbv),(by cbv),by cbv]
  ·let⟨o,q,m⟩:=h.th f k;rwa[o,[ak e]▸q,m]
def CP {x r:Zs}{c:KA}{d:Zf}{W:bD}{f:List (Zg×Nat)}{O:Zs->Prop}(h:cz a b H x r c d B W n f O){p j i:Zs}{g:Gg}(q:ej a H p j i g):p≠x:=λz=>by
 have:=q.ins;rw[z,h.ins]at this;let e:=aiN (λo:Option HO=>match o with|some (.ins _ _ fs)=>⇑fs|_=>0) this;rwa[absurd (show 6=7 from e) ⋯]
def Ol (S:RS)(a:Nat):Nat->Int->Prop:=λr _=>∃m∈S.a9.drop a,r=m\/r=S.aw m
inductive JL (CR CG CC:Zs) (vs:Zb) (H:Hp) (Q:VK) (E_:XK):Prop
 |mk (x r:Zs) (c:KA) (S:RS) (a:RA) (R:Za2) (bs:List (Nat×Zg×Nat)) (gs:Zf) (ag:Zh) (W:bD) (B hd:Nat) (fp:List (Zg×Nat)) (O:Zs->Prop):vs=[↑x]->kZ CG CC S bs gs W (Ol S hd) B x r c hd fp O H ag W->B<=1000000->hd<=⇑S.a9->ay CR H r S a->Good S [] R->(∀m∈S.a9,m<S.q)->(∀b,a.own r b->¬O b)->(∀iV W' H',Bt O H H'->kZ CG CC S bs gs W fQ B x r c ⇑S.a9 fp O H' iV W'->Q .non H')->JL CR CG CC vs H Q E_
def xB (T:Txt K mg A):T.mW.Ok mg P w base 3 (JL A.az A.aJ A.aD):=by
 rwa[T.mW.on xl (λcC AA J s H vs Q E M h=>?_)]
 ·let⟨x,r,c,S,a,R,bs,gs,ag,W,B,hd,Z,O,rfl,h,hB,X,hR,I,U,dj,k⟩:=h
  refine⟨_,{bE (gJ ah7 (aZ lI (0<<<1) (((0<<<1)<<<1)<<<0) (bh _))
   {aV (pm (pv 0) (aL T) T.jo (rq T) M #[((0<<<1)<<<1)|||(0<<<1)]),b8 (pv 0) (aK cI (0<<<1) au) rfl})},?_⟩
  let rk:∀{v:Hp},Bt O H v->ay A.az v r S a:=λ{v} b=>hR.keep (λF o hb e=>b F o (dj F hb) e) (λF xs e=>b F _ (h.c.jj e) e)
  rwa[⟨λ ik H'=>Q .non H',5,λ_ _ q=>q⟩];erw[λm σ v=>∃d l G,m=⇑S.a9 - d/\σ=#v[↑x]/\d<=⇑S.a9/\Bt O H v/\kZ A.aJ A.aD S bs gs W (Ol S d) B x r c d Z O v l G,⟨_,hd,ag,W,22,X,λ_ _ _ e=>e,h⟩];rintro m σ v ⟨d,l,G,rfl,rfl,Iy,N,i⟩;let R2:=rk N;let u:=R2.ins;erw[12,x,_,c.dx,112,i.c.ins,aL T,T.mY,vz^_,12,x,_,c.dx,112,i.c.ins,aL T,T.fb,fU^_,r,_,a.dx,112,u,aI T,T.sO,tI^_,a.aN,12,.inl (aH.of R2.hN),112212];rwa[bR (λq=>?_) (λq=>?_)]
  ·let q:(d:Int)<(⇑(ao (nI S.a9)):Int):=aia q;rw[aO,bZ]at q;let f:d<⇑S.a9:=∅
   let D:S.a9[d]?\(S.a9[d]'f):=ahC f
   change S.a9[d]'f=m at D;let y:=U m (ahB D);erw[_,λ_ _ z=>z];erw[12,x,c.dx,12,i.c.ins,fq ⋯,12,x,_,c.dx,112,i.c.ins,aL T,T.fb,fU^_,r,_,a.dx,112,u,aI T,T.sO,tI^_,12,x,_,c.dx,112,i.c.ins,aL T,T.mY,vz^_,a.aN,11,.int (m:Int),22,aH.of R2.hN,dB (cQ (jM D))];rwa[⟨x,r,c,S,a,bs,gs,l,G,Ol S d,B,d,Z,O,m,2,⟨i.c,i.i,λ_ _ _ z=>z,i.b⟩,hB,R2,I.wf,dj,y,I.lt y,λL W3 H3 b3 t w1 w2=>?_⟩];erw[12,x,_,c.dx,112,t.c.ins,aL T,T.mY,vz^_,112212,x,_,c.dx,12,t.c.ins,aL T,T.mY,(by show 6<1000;decide)];rw[show V.int ((d:Int)+ 1)=V.int ((d+ 1:Nat):Int) from rfl,MJ];let c4:=t.c.W7 (λn g p dx wa _ z=>CP t.c z) (d+ 1);rwa[⟨⇑S.a9 - (d+ 1),3,d+ 1,L,W3,22,f,5,c4,t.i.ex λr' s n w M ex=>?_,λr s n w=>i.s _ _ _ (t.s _ _ _ w),t.b⟩]
   ·rwa[(N.trans b3 λb z=>.inl z).trans (λb o n e=>by rw[ak (λz=>n ([z]▸t.c.ox))];rwa[e]:Bt O H3 _) λb z=>.inl z]
   ·let⟨Y,j,C⟩:=ex;rw[aky f]at j;rcases ahR.mp j with z|z
    ·let em:Y=m:=by rw[z];rw[ahC f]at D;rwa[Za0 D]
     subst em;rcases C with C|C
     ·rw[C,w1]at w;ext w
     ·subst C;rwa[.inl ⟨(I.el _ y).2,w2 s n w⟩]
    ·rwa[.inr ⟨Y,z,C⟩]
  ·let q:¬(d:Int)<(⇑(ao (nI S.a9)):Int):=λz=>q (ah9 z)
   rw[aO,bZ]at q;let e:d=⇑S.a9:=∅
   subst e;rwa[k l G v N ⟨i.c,i.i.ex λr' s n w M ex=>?_,i.s,i.b⟩];let⟨Y,j,_⟩:=ex;rw[List.drop_length]at j;ext j
def zG {h:Ze}(g:Good S h R)(o:∀a z b,R a z b->z∈l)(r:S.q<=100000)(m:⇑l<=100000)(s:⇑S.rows<=1000000)(p:⇑S.a9<=1000000):xr S:=by
 rwa[⟨g.wf,λc i=>g.lt i,λc z d e=>(g.st c z d e).2.1,λc n t=>g.cb c n t,λc _=>⟨g.kn c,λq j=>(g.st c q.1 q.2 (jz (g.kn c) j)).2.1,λq j _=>?_⟩,⟨r,λf k=>?_,s,p,λf k=>?_⟩⟩]
 ·rw[g.sy c q.1 q.2 (jz (g.kn c) j)];rfl
 ·let⟨c,i⟩:=aiu k;have:S.way c=f:=by unfold RS.way;rw[ahJ,i];rfl
  rw[<-this];rwa[ahP (g.Ig o c) m]
 ·let⟨c,i⟩:=aiu k;have:S.ck c=f:=by unfold RS.ck;rw[ahJ,i];rfl
  rw[<-this];rwa[ahP (g.SK c) ∅]
def CQ (S:RS):S.stand<=S.q:=by
 unfold RS.stand;rwa[ahP ajO (by cbv)]
noncomputable def Uz (R:Za2)(m L B f M:Nat)(e:Zg)(d:RS)(c:Ze)(S:RS)(a:Ze):Prop:=Good S a R/\S.q=m/\S.L=L/\⇑S.rows+ S.stand<=B/\⇑S.a9+ S.stand<=f/\mu ⇑e S a<=M/\∀b,kc S a b->kc d c b
def MK {M:Nat}{r:Ze}(p:∀a z b,R a z b->z∈l)(J:m<=100000)(s:⇑l<=100000)(N:i<=1000000)(L:j<=1000000)(I:M<=1000000)(S:RS)(pend:Ze)(w:Way)(h:Uz R m n i j M l T r S (pend++[w])):
 xr S/\w.1<S.q/\w.2.2<S.q/\⇑pend<=1000000/\Uz R m n i j M l T r (S.takeIn pend w).1 (S.takeIn pend w).2/\mu ⇑l (S.takeIn pend w).1 (S.takeIn pend w).2<mu ⇑l S (pend++[w]):=by
 let⟨g,D,v,E,H,o,t⟩:=h;let⟨F,G,u,B,q⟩:=g.take p;let hw:=g.pl w (ahI _ ahU);rwa[⟨zG g p ∅ s ∅ ∅,hw.1,hw.2,5,⟨F,by rw[u,D],by rw[B,v],553,λC d=>t C (.take d)⟩,G⟩]
 ·unfold mu at o;rw[ahA]at o;ext
 ·rcases q with ⟨e,k,f⟩|⟨e,c,z,x,y,_,_,_,_,_,k,f,_⟩
  ·rw[e,k];rwa[E]
  ·rw[k,ahA];have:⇑([hJ c z (min x y) (max x y)]:List Dt)=1:=rfl;ext
 ·rcases q with ⟨e,k,f⟩|⟨e,c,z,x,y,_,_,_,_,_,k,f,_⟩
  ·rw[e,f];rwa[H]
  ·rw[f,ahA];have:⇑([max x y]:Zh)=1:=rfl;ext
def fx:z∈bx (2* n)↔z≠0/\z.natAbs<=n:=by
 unfold bx;rw[aiB];constructor
 ·rintro ⟨i,a,rfl⟩;rwa[M12.WT (ais.mp a)]
 ·rintro ⟨d,c⟩;cases b:0<z
  ·erw[2* (z.toNat - 1),ais.mpr ∅];unfold M12.st;rw[ah4 ∅];ext
  ·erw[2* (z.natAbs - 1)+ 1,ais.mpr ∅];unfold M12.st;rw[ahY ∅];ext
structure iW (CR:Zs) (H:Hp) (r:Zs) (S:RS) (a:RA) (R:Za2) (ks:Zg) (B:Nat):Prop where
 at_:ay CR H r S a
 g:Good S [] R
 w:fD S
 k:∀a z b,R a z b->z∈ks
 m:S.q<=2000
 l:⇑ks<=400
 rb:⇑S.rows+ S.stand<=B
 wb:⇑S.a9+ S.stand<=900000
def iW.keep {CR:Zs}{r:Zs}(h:iW CR H r S O R l n)(k:∀b o,O.own r b->H b\o->I b\o)(c:∀b a,H b\.tup a->I b\.tup a):iW CR I r S O R l n:=⟨h.at_.keep k c,h.g,h.w,h.k,h.m,h.l,h.rb,h.wb⟩
def iW.same {CR:Zs}{r:Zs}(h:iW CR H r S O R l n)(s:aq H I):iW CR I r S O R l n:=h.keep (λb o _ e=>s^e) (λb o e=>s^e)
def yH {r:Zs}(h:ay a H r S O){b:Zs}{d:List (Zd×V)}(e:H b\.dT d):¬O.own r b:=λz=>by
 rcases z with z|z|z
 ·rw[z,h.ins]at e;ext e
 ·let⟨c,q⟩:=h.Nr z;cbv
 ·let⟨c,q⟩:=h.qH z;cbv
def ML (w:Nat)(p:Zh)(k:Nat)(h:⇑p<=100000):mB (lW w p k):=by
 rwa[.t (by show 4<=100000;decide) λd a=>?_]
 simp only[ahR,ail,ajN]at a;rcases a with rfl|rfl|rfl|rfl
 ·rwa[.s]
 ·rwa[.i]
 ·rwa[.t (by rw[ahE];rwa[h]) λd a=>?_]
  let⟨c,_,rfl⟩:=aiB.mp a;rwa[.i]
 ·rwa[.i]
inductive JM (CR CG CC:Zs) (vs:Zb) (H:Hp) (Q:VK) (E_:XK):Prop
 |mk (x r p dx wa:Zs) (c:KA) (S:RS) (a:RA) (R:Za2) (ks:Zg) (B:Nat) (ws:Za3) (nr:Nat) (bs:List (Nat×Zg×Nat)) (gs:Zf) (ag:Zh) (W:bD) (fp:List (Zg×Nat)) (O:Zs->Prop) (n:Nat) (g:Gg):vs=[↑x,↑p]->cz CG CC H x r c gs ag W ⇑S.a9 fp O->iW CR H r S a R ks B->B<900000->(∀b,a.own r b->¬O b)->CI S bs gs ag W fQ (some n)->gs[n]?\none->bs[n]?\(g.which,g.word,g.start)->ej CG H p dx wa g->¬O p->¬a.own r p->GI S g->g.first=g.last->S.aw g.start=g.start->S.aw g.front=g.front->S.aw g.bu=g.bu->ws[g.which]?\g.word->(g.which<nr\/g.start=0)->(∀z∈g.word,z∈ks/\-z∈ks)->⇑g.word<=1000->⇑ag+ 2* ⇑gs<=1000000->(∀S' a' R' iV W' H',(∀b o,¬O b->¬a.own r b->H b\o->H' b\o)->cz CG CC H' x r c gs iV W' ⇑S'.a9 fp O->iW CR H' r S' a' R' ks (B+ 1)->(∀b,a'.own r b->a.own r b\/H b=none)->CI S' bs gs iV W' fQ none->⇑iV<=⇑ag+ 2* ⇑gs->(∀a z b,R a z b->R' a z b)->S'.q=S.q->S'.L=S.L->Tr ws nr S S'->Q .non H')->JM CR CG CC vs H Q E_
def yI (T:Txt K mg A):T.oz.Ok mg P w base 6 (JM A.az A.aJ A.aD):=by
 rwa[T.oz.on pD (λcC AA outer s H vs Q E U h=>?_)]
 ·let⟨x,r,p,t,wa,c,S,a,R,ks,B,ws,nr,bs,I,ag,W,fp,O,n,g,rfl,Z,f,hB,dj,ci,Ym,JN,v,npO,npo,i,F,es,ef,er,Om,hnr,hks,JF,L,k⟩:=h
  refine⟨_,{bC 2 pD.nd ((1<<<1)&&&(1<<<1)),bB (aZ dJ (pm (0<<<1) (aI T) T.iF (hU T) U #[1<<<1,2]) (1<<<1) (bh _))
    {xP}
    bj,aV (pm (0<<<1) (aI T) T.sI (CJ T) U #[1<<<1,2,1<<<1,pm (pv 1) (aU T) T.sH (CN T) U #[0<<<1]]),aV (pm (pv 0) (aL T) T.e8 (fJ T) U #[1<<<1,2]),aV (pm (pv 0) (aL T) T.e8 (fJ T) U #[1<<<1,fe dN (pv 2)]),aV (wy (pv 0) (aL T) T.mW (xB T) U)},?_⟩
  rwa[mD ?_];intro oh lF ja fI fV;let hz:=Gg.qK (g:=g) ([F]▸i.ll);let qK:j0 (ao g.word) (g.first:Int)\(.int g.z1):=dB (cQ hz);let gd:=f.g;erw[12,p,_,t,112,v.ins,aU T,T.jD,kj _ _,12,p,_,t,112,v.ins,aU T,T.e9,gR _ _,wa,11,.int g.z1,22,bG.of v.wo,qK];erw[12,x,_,c.dx,112,Z.ins,aL T,T.fb,fU^_,r,a.dx,12,f.at_.ins,cS _ _ _ ⋯,12,p,_,t,112,v.ins,aU T,T.gO,kl _ _,12,r,S,a,g.front,g.z1,2,f.at_,[gd.wf.w]▸i.f,12,p,_,t,112,v.ins,aU T,T.hO,km _ _]
  let fin:S.by g.front g.z1=some g.bu->Q .non H:=λj=>by
   rwa[k S a R ag W H (λ_ _ _ _ e=>e) Z ⟨f.at_,f.g,f.w,f.k,f.m,f.l,by have:=f.rb;ext,f.wb⟩ (λb z=>.inl z) (ci.done Ym λb eb=>?_) ∅ (λ_ _ _ z=>z) rfl rfl (.refl S)];rw[JN]at eb;obtain rfl:=Za0 eb;rwa[.inr (i.whole F es ef er j)]
  cases j:S.by g.front g.z1=some g.bu
  ·rw[j];erw[212];rwa[bR (λ_=>fin j) (λz=>absurd (ah9 rfl) z)]
  let N:Kr (((S.by g.front g.z1).map λn:Nat=>V.int (n:Int)).getD .non) (.int (g.bu:Int))=true/\decide ((((S.by g.front g.z1).map λn:Nat=>V.int (n:Int)).getD .non)=V.int (g.bu:Int))=false:=by
   cases q:S.by g.front g.z1 with
   |none=>rwa[2,aik f!""]
   |some d=>rwa[2,aik (λz=>j (by rw[q];have:=V.int.inj z;congr 1;omega))]
  erw[N.1,12];rw[N.2];rwa[dh ?_];clear fin N;rwa[⟨12,x,_,c.dx,112,Z.ins,aL T,T.fb,fU^_,r,a.dx,12,f.at_.ins,cS _ _ _ ⋯,12,p,_,t,112,v.ins,aU T,T.gO,kl _ _,1212,p,_,t,112,v.ins,aU T,T.hO,km _ _,12,p,t,12,v.ins,N9 ⋯,12,x,_,c.dx,112,Z.ins,aL T,T.fb,fU^_,p,t,wa,r,g,S,a,R,2,v,f.at_,gd,i.s,i.r,i.ll,JF,λq H1 s1 dt=>?_⟩];let lx:=pJ (by_:=S.by) (ws:=g.word.take g.first) (r:=g.start);let ly:=pJ (by_:=S.by) (ws:=g.word.drop (g.last+ 1)) (r:=g.bu);rw[aif]at lx;rw[aiC]at ly;let f1:=i.wf;let f2:=i.wr;rw[es,ef]at f1;rw[es,er,<-F]at f2;rw[<-F]at dt ly;let ra:Bm ws nr S g.which g.word g.start g.first g.front g.bu g.z1:=⟨Om,hnr,⟨i.s,es⟩,hz,f1,f2,⟨i.f,ef⟩,⟨i.r,er⟩,j⟩
  let C:∀a y b,fO R g.front g.z1 g.bu a y b->y∈ks:=by
   have:=hks g.z1 (ahB hz);rintro a y b (z|⟨_,e,_⟩|⟨_,e,_⟩)
   ·rwa[f.k _ _ _ z]
   ·rw[e];rwa[this.1]
   ·rw[e];rwa[this.2]
  let stl:=CQ S
  let N8:mu ⇑ks (p7 S g.which g.word g.start g.first g.bu) [(g.front,g.z1,g.bu)]<=1000000:=by
   unfold mu;let h1:(p7 S g.which g.word g.start g.first g.bu).stand=S.stand:=rfl;have:S.stand* (⇑ks+ 1)<=2000* 401:=akA (by have:=f.m;omega) (by have:=f.l;omega);rw[h1];show S.stand* (⇑ks+ 1)+ 1<=_;ext
  let gl:=gd.lay g.z1 i.f i.r (p7 S g.which g.word g.start g.first g.bu).rows;rwa[⟨r,q,S,a,g.front,g.bu,g.z1,_,Uz (fO R g.front g.z1 g.bu) S.q S.L (B+ 1) 900000 1000000 ks (p7 S g.which g.word g.start g.first g.bu) [(g.front,g.z1,g.bu)],mu ⇑ks,2,f.at_.same s1,by have:=f.rb;ext,dt,ML _ _ _ (by rw[ahA,ah0,ah0];omega),⟨gl,225,f.wb,N8,λ_ z=>z⟩,MK C (by have:=f.m;omega) (by have:=f.l;omega) ∅ ⋯ ⋯,λu a' H2 b2 h2 i2 o2=>?_⟩]
  ·show ⇑(S.rows++[_])+ S.stand<=_;rw[ahA];have:=f.rb;show _+ 1+ _<=_;ext
  let⟨g2,em,eL,rb2,wb2,_,re⟩:=i2;let lay:=re u (.nil u);let⟨_,w2,_,_,l,el⟩:=lay.all gl C (⟨f.w.a,f.w.b,f.w.c⟩:fD (p7 S g.which g.word g.start g.first g.bu));let el:u.a9=S.a9++l:=el;let D:∀b o,¬a.own r b->H b\o->H2 b\o:=λb o nb e=>b2 b o nb (s1^e)
  let Yn:∀b,a'.own r b->a.own r b\/H b=none:=λb z=>(o2 b z).imp id (same_none s1)
  let M:∀b,a'.own r b->¬O b:=λb z y=>by
   rcases Yn b z with q|q
   ·rwa[dj b q y]
   ·let⟨o,e,_⟩:=Z.th b y;cbv
  let X:cz A.aJ A.aD H2 x r c I ag W ⇑S.a9 fp O:=Z.keep (λb o j e=>D b o (λz=>dj b z j) e) (λb xs e=>D b _ (f.at_.tJ e) e);let p2:ej A.aJ H2 p t wa g:=⟨D _ _ npo v.ins,D _ _ (f.at_.tJ v.wo) v.wo⟩;let lt:=Later.of gd g2 iz (akG em.symm)
  let CT:=ci.lay Ym gd g2 em f.w w2 el i.f ef i.r er λb eb=>by
   rw[JN]at eb;obtain rfl:=Za0 eb;show u.aw g.start≠g.start\/wk u.by g.start g.word=some g.start;cases Y:u.aw g.start=g.start
   ·right
    let h1:=lt.wk f1;let h3:=lt.wk f2;let hbb:=g2.rX.mpr ⟨g.front,g.bu,kb,22⟩;rw[Y]at h1 h3;have:g.word=g.word.take g.first++(g.z1::g.word.drop (g.first+ 1)):=by rw[<-drop_cons hz,ajs]
    rw[this,oS h1,iN hbb];rwa[h3]
   ·rwa[.inl Y]
  let JP:kZ A.aJ A.aD u bs I W _ (⇑ag+ 2* ⇑I) x r c ⇑S.a9 fp O H2 ag W:=⟨X,CT,λ_ _ _ z=>z,by have:=CT.two;ext⟩;rwa[⟨12,x,c.dx,12,X.ins,fq ⋯,12,p,_,t,112,p2.ins,aU T,T.gO,kl _ _,12,x,r,c,I,ag,W,⇑S.a9,fp,O,g.front,g.z1,2,X,JP.fits L,λns H3 b3 nd hn c3=>?_⟩];let Yo:=JP.wake nd hn c3;let p3:ej A.aJ H3 p t wa g:=⟨b3 _ _ npO p2.ins,b3 _ _ (X.jj p2.wo) p2.wo⟩;rwa[⟨12,x,c.dx,12,c3.ins,fq ⋯,12,p,_,t,112,p3.ins,aU T,T.hO,km _ _,1212,x,r,c,I,11,⇑S.a9,fp,O,g.bu,-g.z1,2,c3,Yo.fits L,λns2 H4 b4 nd2 Yp c4=>?_⟩];let Yq:=Yo.wake nd2 Yp c4;let G:Bt O H2 H4:=b3.trans b4 λb z=>.inl z
  let R4:ay A.az H4 r u a':=h2.keep (λb o j e=>G b o (M b j) e) (λb xs e=>G b _ (X.jj e) e)
  let i4:CI u bs I (ag++ns++ns2) (gn (gn W g.front g.z1) g.bu (-g.z1)) (Ol u ⇑S.a9) none:=Yq.i.ex λr' s n' w U ex=>by
   let⟨w1,n1⟩:=dz.mp w;let⟨w2,n2⟩:=dz.mp w1;rcases ex with ⟨Y,e2⟩|⟨Y,e2⟩|⟨m,hm,e⟩
   ·rwa[absurd ⟨by rw[Y],e2⟩ n2]
   ·rwa[absurd ⟨by rw[Y],e2⟩ n1]
   ·rwa[.inr ⟨m,by cbv,e⟩]
  rwa[⟨_,rfl,x,c.dx,_,rfl,c4.ins,fq (by decide),x,r,c,u,a',_,bs,I,_,_,_,⇑S.a9,fp,O,rfl,⟨c4,i4,λ_ _ _ z=>z,Yq.b⟩,L,by rw[el,ahA];ext,R4,g2,w2.c,M,λUA W5 H5 b5 h5=>?_⟩];let J:Bt O H2 H5:=G.trans b5 λb z=>.inl z
  rwa[k u a' _ UA W5 H5 (λb o n1 n2 e=>J b o n1 (D b o n2 e)) h5.c ⟨h2.keep (λb o j e=>J b o (M b j) e) (λb xs e=>J b _ (X.jj e) e),g2,w2,C,[em]▸f.m,f.l,rb2,wb2⟩ Yn h5.i (by have:=h5.b;omega) iz em eL (.step (.refl S) ra lay)]
def W8 {x:V}{A B:Prop}(h:x=q)(k:B):if (!decide (x=q))=true then A else B:=by cbv
section
variable {CG CC:Zs}{H H':Hp}{x r:Zs}{c:KA}{gs:Zf}{ag:Zh}{W:bD}{hd:Nat}{fp:List (Zg×Nat)}{O:Zs->Prop}{gv:Zb}{n:Nat}{p dx wa:Zs}{g g':Gg}
def cz.W9 (h:cz CG CC H x r c gs ag W hd fp O)(hG:H c.aG\.lst gv)(j:qx CG H gv gs O)(I:gv[n]?\↑p)(N:O p)(q:ej CG H p dx wa g)(f:∀b o,b≠p->H b\o->H' b\o)(L:ej CG H' p dx wa g'):cz CG CC H' x r c (gs.set n (some g')) ag W hd fp O/\qx CG H' gv (gs.set n (some g')) O:=by
 let kn:∀b o,(∀C d fs,o≠.ins C d fs)->H b\o->H' b\o:=λb o w e=>f b o (λz=>by rw[z,q.ins]at e;cbv) e
 let a:qx CG H' gv (gs.set n (some g')) O:=by
  rwa[⟨[ah6]▸j.l,λi v y l=>?_,λi v u y l=>?_,j.i⟩]
  ·rcases fB l with ⟨_,z⟩|⟨_,z⟩
   ·ext z
   ·rwa[j.n i v y z]
  ·rcases fB l with ⟨z1,z⟩|⟨z1,z⟩
   ·cbv
   ·let⟨F,t,s,e,B,J⟩:=j.s i v u y z;let G:F≠p:=λz=>z1 (j.i i n p (by cbv) I)
    rwa[F,t,s,e,⟨f _ _ G B.ins,kn _ _ (by cbv) B.wo⟩,J]
 rwa[⟨⟨f _ _ (CP h q).symm h.ins,⟨gv,kn _ _ (by cbv) hG,a⟩,kn _ _ (by cbv) h.hA,5,h.ne,h.ox,h.oG,h.oA,λb k=>?_⟩,a⟩]
 ·let⟨D,E,k1,k2⟩:=h.wt;rwa[D,E,k1.keep λb o k e=>by let⟨M,q⟩:=k1.there k;cbv,k2]
 ·cases e:b=p
  ·rwa[_,[e]▸L.ins,(by cbv),(by cbv),(by cbv),by cbv]
  ·let⟨o,q,m⟩:=h.th b k;rwa[o,f _ _ e q,m]
theorem cz.Fg (h:cz CG CC H x r c gs ag W hd fp O)(hG:H c.aG\.lst gv)(f:qx CG H gv gs O)(M:gv[n]?\↑p)(q:ej CG H p dx wa g):cz CG CC (upd H c.aG (.lst (gv.set n .non))) x r c (gs.set n none) ag W hd fp (λb=>O b/\b≠p):=by
 let k:∀b o,b≠c.aG->H b\o->upd H c.aG (.lst (gv.set n .non)) b\o:=λb o n e=>by rw[ak n];rwa[e]
 let kn:∀b o,(∀s,o≠.lst s)->H b\o->upd H c.aG (.lst (gv.set n .non)) b\o:=λb o w e=>k b o (λz=>by cbv) e
 let I:∀{b s},H b\.lst s->b≠p:=λ{b s} e z=>by rw[z,q.ins]at e;ext e
 rwa[⟨kn _ _ (by cbv) h.ins,⟨_,ah,[ah6,ah6]▸f.l,λi v l d=>?_,λi v u l d=>?_,λi j R l d=>?_⟩,k _ _ h.ne.symm h.hA,5,h.ne,⟨h.ox,(CP h q).symm⟩,⟨h.oG,I hG⟩,⟨h.oA,I h.hA⟩,λb a=>?_⟩]
 ·rcases fB l with ⟨z1,z⟩|⟨z1,z⟩
  ·rwa[z]
  ·rcases fB d with ⟨t,_⟩|⟨_,y⟩
   ·rwa[absurd t z1]
   ·rwa[f.n i v z y]
 ·rcases fB d with ⟨_,z⟩|⟨z1,z⟩
  ·ext z
  ·rcases fB l with ⟨t,_⟩|⟨_,y⟩
   ·rwa[absurd t z1]
   ·let⟨G,C,B,e,F,N⟩:=f.s i v u y z;let L:G≠p:=λw=>z1 (f.i i n p (by cbv) M)
    rwa[G,C,B,e,⟨kn _ _ (by cbv) F.ins,kn _ _ (by cbv) F.wo⟩,N,L]
 ·rcases fB l with ⟨_,z⟩|⟨_,z⟩
  ·ext z
  ·rcases fB d with ⟨_,y⟩|⟨_,y⟩
   ·ext y
   ·rwa[f.i i j R z y]
 ·let⟨D,E,k1,k2⟩:=h.wt;rwa[⟨D,E,k1.keep λb o a e=>by let⟨Q,q⟩:=k1.there a;cbv,λb a=>⟨k2.o b a,λz=>?_⟩,k2.d,k2.e,k2.w⟩];let⟨Q,J⟩:=k1.there a;rw[z,q.ins]at J;ext J
 ·cases e:b=c.aG
  ·rwa[_,[e]▸ah,(by cbv),(by cbv),(by cbv),by cbv]
  ·let⟨o,q,m⟩:=h.th b a.1;rwa[o,k _ _ e q,m]
end
structure CV (ws:Za3) (nr:Nat) (ks:Zg) (bs:List (Nat×Zg×Nat)):Prop where
 w:∀b∈bs,ws[b.1]?\b.2.1
 n:∀b∈bs,b.1<nr\/b.2.2=0
 l:∀b∈bs,⇑b.2.1<=1000
 k:∀b∈bs,∀z∈b.2.1,z∈ks/\-z∈ks
 c:⇑bs<100000
def live (a:Zf):Nat:=a.countP (·.isSome)
def CW {a:Zf}{g:Gg}(h:a[n]?\some g):(∀u:Gg,live (a.set n (some u))=live a)/\live (a.set n none)+ 1=live a:=by
 unfold live
 induction a generalizing n with
 |nil=>simp at h
 |cons y r c=>
  cases n with
  |zero=>
   have:y\g:=by simpa using h
   subst this;simp[ala]
  |succ n=>
   let⟨b,d⟩:=c (n:=n) (by simpa using h);simp only[List.set_cons_succ,ala];rwa[λu=>by rw[b u],3]
inductive JQ (CR CG CC:Zs) (vs:Zb) (H:Hp) (Q:VK) (E_:XK):Prop
 |mk (x r:Zs) (c:KA) (S:RS) (a:RA) (R:Za2) (ks:Zg) (B:Nat) (ws:Za3) (nr:Nat) (bs:List (Nat×Zg×Nat)) (gs:Zf) (ag:Zh) (W:bD) (fp:List (Zg×Nat)) (O:Zs->Prop) (n:Nat):vs=[↑x,.int n]->cz CG CC H x r c gs ag W ⇑S.a9 fp O->iW CR H r S a R ks B->B<900000->(∀b,a.own r b->¬O b)->CI S bs gs (ag++[n]) W fQ none->CV ws nr ks bs->⇑ag+ 2* ⇑gs<=1000000->(∀S' a' R' jb iV W' O' B' H',(∀b o,¬O b->¬a.own r b->H b\o->H' b\o)->cz CG CC H' x r c jb iV W' ⇑S'.a9 fp O'->iW CR H' r S' a' R' ks B'->(∀b,a'.own r b->a.own r b\/H b=none)->(∀b,O' b->O b\/H b=none)->(∀b,a'.own r b->¬O' b)->CI S' bs jb iV W' fQ none->(∀a z b,R a z b->R' a z b)->S'.q=S.q->S'.L=S.L->Tr ws nr S S'->(live jb=live gs/\⇑iV=⇑ag/\B'=B)\/(live jb+ 1=live gs/\⇑iV<=⇑ag+ 2* ⇑gs/\B'<=B+ 1)->Q .non H')->JQ CR CG CC vs H Q E_
theorem vA (T:Txt K mg A):T.lj.Ok mg P w base 7 (JQ A.az A.aJ A.aD):=by
 rwa[T.lj.on m2 (λcC AA outer s H vs Q E hr h=>?_)]
 ·let⟨x,r,c,S,a,R,ks,B,ws,nr,bs,G,ag,W,fp,O,n,rfl,h,L,hB,dj,ci,m,Yr,k⟩:=h
  refine⟨_,{bC 2 m2.nd ((0<<<1)|||1),bB (aZ oH (pv 2) dA (bh _))
    {xP}
    bj,bB (aZ pV (pm (0<<<1) (aI T) T.hM (iR T) hr #[2<<<1]) (2<<<1) (bh _))
    {mh dA (vH (0<<<1) (pv 1) set_list),xP}
    bj,aV (pm (pv 2) (aU T) T.lh (vy T) hr #[0<<<1]),bE (bB (aZ lI (2<<<1) (2<<<1) (bh _))
    {aV (pm (pv 0) (aL T) T.jS (om T) hr #[1,2<<<1,(2<<<1)&&&(2<<<1)]),aV (pm (pv 0) (aL T) T.jS (om T) hr #[1,2<<<1,fe dN ((2<<<1)&&&(2<<<1))])}
    {mh dA (vH (0<<<1) (pv 1) set_list),aV (pm (pv 0) (aL T) T.oz (yI T) hr #[2])})},?_⟩
  rwa[p5 ?_];intro lF ja fI fV;let J:n<⇑G:=ci.ab n (ahI _ (ahH.mpr rfl));let⟨F,hG,Z⟩:=h.hG;let hv:F[n]?\(F[n]'([Z.l]▸J)):=ahC _
  change F[n]'(by cbv)=v at hv;let gd:=L.g;erw[12,x,_,c.dx,112,h.ins,aL T,T.jE,kY^_,12,c.aG,11,v,22,aH.of hG,dB hv];let f:G[n]?\(G[n]'J):=ahC J
  change G[n]'J=og at f
  cases og with
  |none=>
   obtain rfl:=Z.n n v hv f;rwa[⟨12212,hV ?_⟩];rwa[k S a R G ag W O B H (λ_ _ _ _ e=>e) h L (λb z=>.inl z) (λb z=>.inl z) dj (ci.pop.done f λb eb=>ci.de n b f (by cbv) eb) (λ_ _ _ z=>z) rfl rfl (.refl S) (.inl ⟨222⟩)]
  |some g=>
   let⟨p,i,wa,rfl,U,op⟩:=Z.s n v g hv f;let⟨JN,gi,_⟩:=ci.al n g f;let D:=ahB JN;let JF:⇑g.word<=1000:=m.l _ D;let V:¬a.own r p:=λz=>dj p z op
   rwa[⟨12212,dh ?_⟩];erw[12,x,_,c.dx,112,h.ins,aL T,T.fb,fU^_,r,a.dx,12,L.at_.ins,cS _ _ _ ⋯,12,p,_,i,112,U.ins,aU T,T.qq,vx _ _,r,S,a,g.start,S.aw g.start,2,L.at_,pH ([gd.wf.e]▸gi.s),12,p,_,i,112,U.ins,aU T,T.qq,vx _ _,212];let Y:∀b,a.own r b->¬(O b/\b≠p):=λb z y=>dj b z y.1
   cases es:S.aw g.start=g.start
   ·rwa[W8 (by rw[es]) ?_];rwa[⟨12,p,i,12,U.ins,N9 ⋯,12,x,_,c.dx,112,h.ins,aL T,T.fb,fU^_,p,i,wa,r,g,S,a,R,2,U,L.at_,gd,gi,V,JF,λd j f1 l ad=>?_⟩];let R1:iW A.az j r S a R ks B:=L.keep (λb o hb e=>f1 b o (λz=>V (z ▸ hb)) e) (λb xs e=>f1 b _ (bT e U.ins (by cbv)) e);let⟨c1,gs1⟩:=h.W9 hG Z hv op U f1 l;let Ys:j c.aG\(.lst F):=f1 _ _ (bT hG U.ins (by cbv)) hG;let t:=ad.gi;let Yh:=t.ll;let Oo:=t.fl;let abg:⇑d.word<=1000:=by rw[ad.wo];rwa[JF]
    let z1:=Gg.qK (g:=d) ∅;let z2:=Gg.at2 (g:=d) Yh;let agl:(G.set n (some d))[n]?\(some d):=ait J
    let lv:=CW f;let lm:=L.m;rwa[⟨λ_ H'=>Q .non H',5,λ_ _ q=>q⟩];erw[12,p,_,i,112,l.ins,aU T,T.e9,gR _ _,12,p,_,i,112,l.ins,aU T,T.iQ,ko _ _,112212];rwa[bR (λq=>?_) (λq=>?_)]
    ·let q:(d.first:Int)<(d.last:Int):=aia q;let bw:∀z∈d.word,-1000<=z/\z<=1000:=λz hz=>ci.bd _ D z (by rw[<-ad.wo];rwa[hz])
     let b1:=bw _ (ahB z1);let b2:=bw _ (ahB z2);let hf:=t.f;let hrr:=t.r;let Yt:n<100000:=by have:=ci.len;have:=m.c;ext
     rwa[⟨12,x,c.dx,12,c1.ins,fq ⋯,1212,p,_,i,112,l.ins,aU T,T.gO,kl _ _,12,p,_,i,112,l.ins,aU T,T.jD,kj _ _,12,p,_,i,112,l.ins,aU T,T.e9,gR _ _,wa,11,.int d.z1,22,bG.of l.wo,dB (cQ z1),x,r,c,_,ag,W,⇑S.a9,fp,O,n,d.front,d.z1,2,c1,3,Yt,b1,λO2 H2 Yu f2 Oq CY u=>?_⟩];let M:ej A.aJ H2 p i wa d:=⟨f2 _ _ (by cbv) l.ins,f2 _ _ (by cbv) l.wo⟩;rwa[⟨12,x,c.dx,12,u.ins,fq ⋯,1212,p,_,i,112,M.ins,aU T,T.hO,km _ _,12,p,_,i,112,M.ins,aU T,T.jD,kj _ _,12,p,_,i,112,M.ins,aU T,T.iQ,ko _ _,wa,11,.int (-d.z2),22,bG.of M.wo,dB (cQ z2),12,x,r,c,_,ag,_,⇑S.a9,fp,O2,n,d.bu,d.z2,(by cbv),u,3,Yt,3,λO3 H3 bt3 f3 Yv nw3 c3=>?_⟩]
     let abh:∀b,O3 b->O b\/j b=none:=λb z=>by
      rcases nw3 b z with y|y
      ·rwa[CY b y]
      ·cases w:O b
       ·rwa[.inl w]
       ·rwa[.inr ?_]
        cases e:j b with
        |none=>rfl
        |some o=>rw[Yu b o w e]at y;ext y
     let nw:∀b,O3 b->O b\/H b=none:=λb z=>by
      rcases abh b z with y|y
      ·rwa[.inl y]
      ·cases w:b=p
       ·cbv
       ·rwa[.inr ?_]
        cases e:H b with
        |none=>rfl
        |some o=>rw[f1 b o w e]at y;ext y
     let C:Bt O j H3:=Yu.trans bt3 CY
     let dj3:∀b,a.own r b->¬O3 b:=λb z y=>by
      rcases nw b y with w|w
      ·rwa[dj b z w]
      ·let⟨o,e⟩:=L.at_.there z;cbv
     rwa[k S a R _ ag _ O3 B H3 (λb o I _ e=>C b o I (f1 b o (λz=>I ([z]▸op)) e)) c3 (R1.keep (λb o hb e=>C b o (dj b hb) e) (λb xs e=>C b _ (c1.jj e) e)) (λb z=>.inl z) nw dj3 (ci.pop.waits f ad ∅) (λ_ _ _ z=>z) rfl rfl (.refl S) (.inl ⟨lv.1 d,22⟩)]
    ·let q:¬(d.first:Int)<(d.last:Int):=λz=>q (ah9 z)
     let efl:d.first=d.last:=∅
     erw[12,x,_,c.dx,112,c1.ins,aL T,T.jE,kY^_,12,c.aG,11,n,22,Ys,pG ([Z.l]▸J)];let u:=c1.Fg Ys gs1 hv l;let kn:∀b o,(∀xs,o≠.lst xs)->j b\o->upd j c.aG (.lst (F.set n .non)) b\o:=λb o w e=>by rw[ak (λz=>by cbv)];rwa[e]
     let M:ej A.aJ (upd j c.aG (.lst (F.set n .non))) p i wa d:=⟨kn _ _ (by cbv) l.ins,kn _ _ (by cbv) l.wo⟩;let X:¬a.own r c.aG:=λz=>dj _ z h.oG
     let R2:iW A.az (upd j c.aG (.lst (F.set n .non))) r S a R ks B:=R1.keep (λb o hb e=>[ak (λz=>X (by cbv))]▸e) (λb xs e=>kn _ _ (by cbv) e);let ess:(G.set n (some d)).set n none=G.set n none:=List.set_set ..;rw[ess]at u;let UB:∀b o,¬O b->H b\o->upd j c.aG (.lst (F.set n .non)) b\o:=λb o I e=>by rw[ak (λz=>I ([z]▸h.oG))];cbv
     let N:∀b,upd j c.aG (.lst (F.set n .non)) b=none->H b=none:=λb z=>by
      cases e:H b with
      |none=>rfl
      |some o=>
       cases w:O b
       ·cases y:b=p
        ·rw[y,M.ins]at z;ext z
        ·let⟨o2,e2,_⟩:=u.th b ⟨w,y⟩;cbv
       ·rw[UB b o w e]at z;ext z
     change upd j c.aG (.lst (F.set n .non))=H2 at u M R2 UB N ⊢;rwa[⟨12,x,c.dx,12,u.ins,fq ⋯,12,x,r,p,i,wa,c,S,a,R,ks,B,ws,nr,bs,G.set n none,ag,W,fp,_,n,d,2,u,R2,hB,Y,ci.pop.kill,ait J,by rw[JN,ad.wh,ad.wo,ad.st],M,(λz=>z.2 rfl),V,t,efl,[ad.st]▸es,ad.ef,ad.er,[ad.wh,ad.wo]▸m.w _ D,[ad.wh,ad.st]▸m.n _ D,[ad.wo]▸m.k _ D,abg,[ah6]▸Yr,λS' a' R' iV W' H' f3 c3 R3 o3 UC la rr em eL tr=>?_⟩];let o03:∀b,a'.own r b->a.own r b\/H b=none:=λb z=>(o3 b z).imp id (N b)
     rw[ah6]at la;rwa[k S' a' R' _ iV W' _ (B+ 1) H' (λb o I n2 e=>f3 b o (λz=>I z.1) n2 (UB b o I e)) c3 R3 o03 (λb z=>.inl z.1) (λb z y=>?_) UC rr em eL tr (.inr ⟨lv.2,la,ahG _⟩)];rcases o3 b z with w|w
     ·rwa[Y b w y]
     ·let⟨o2,e2,_⟩:=u.th b y;cbv
   ·rwa[bR (λ_=>?_) (λz=>absurd (by cbv) z)];erw[12,x,_,c.dx,112,h.ins,aL T,T.jE,kY^_,12,c.aG,11,n,22,hG,pG ([Z.l]▸J)];let u:=h.Fg hG Z hv U;let X:¬a.own r c.aG:=λz=>dj _ z h.oG
    rwa[k S a R _ ag W _ B _ (λb o I _ e=>[ak (λz=>I ([z]▸h.oG))]▸e) u (L.keep (λb o hb e=>[ak (λz=>X (by cbv))]▸e) (λb xs e=>[ak (λz=>by cbv)]▸e)) (λb z=>.inl z) (λb z=>.inl z.1) Y (ci.pop.kill.done (ait J) λb eb=>?_) (λ_ _ _ z=>z) rfl rfl (.refl S) (.inr ⟨(CW f).2,33⟩)]
    cbv
def _root_.Lake.L2.Tr.trans {ws:Za3}{c:RS}(h:Tr ws n S T)(k:Tr ws n T c):Tr ws n S c:=by
 induction k with
 |refl=>exact h
 |step _ a b d=>exact .step d a b
inductive CZ (CR CG CC:Zs) (vs:Zb) (H:Hp) (Q:VK) (E_:XK):Prop
 |mk (x r:Zs) (c:KA) (S:RS) (a:RA) (R:Za2) (ks:Zg) (B:Nat) (ws:Za3) (nr:Nat) (bs:List (Nat×Zg×Nat)) (gs:Zf) (ag:Zh) (W:bD) (fp:List (Zg×Nat)) (O:Zs->Prop):vs=[↑x]->cz CG CC H x r c gs ag W ⇑S.a9 fp O->iW CR H r S a R ks B->B+ live gs<900000->(∀b,a.own r b->¬O b)->CI S bs gs ag W fQ none->CV ws nr ks bs->live gs* (2* ⇑bs+ 1)+ ⇑ag+ 2* ⇑bs<=1000000->(∀S' a' R' jb W' O' B' H',(∀b o,¬O b->¬a.own r b->H b\o->H' b\o)->cz CG CC H' x r c jb [] W' ⇑S'.a9 fp O'->iW CR H' r S' a' R' ks B'->(∀b,a'.own r b->a.own r b\/O b\/H b=none)->(∀b,O' b->O b\/a.own r b\/H b=none)->(∀b,a'.own r b->¬O' b)->CI S' bs jb [] W' fQ none->(∀a z b,R a z b->R' a z b)->S'.q=S.q->S'.L=S.L->Tr ws nr S S'->B'+ live jb<=B+ live gs->Q .non H')->CZ CR CG CC vs H Q E_
def lG (T:Txt K mg A):T.iO.Ok mg P w base 8 (CZ A.az A.aJ A.aD):=by
 rwa[T.iO.on tX (λcC AA outer s H vs Q E hr h=>?_)]
 ·let⟨x,r,c,S,a,R,ks,B,ws,nr,bs,gs,ag,W,fp,O,rfl,h,hR,hB,dj,ci,hbs,hm,k⟩:=h
  refine⟨_,{bE (gJ ah7 (Az (0<<<1) (λ_=>rfl))
   {aV (pm (pv 0) (aL T) T.lj (vA T) hr #[Ht ahM PySem.F.slot_list_pop PySem.F.type_list_pop Hu (0<<<1)])})},?_⟩
  let hgl:=ci.len;rwa[⟨λ_ H'=>Q .non H',5,λ_ _ q=>q⟩];erw[λm σ g=>∃j a2 R2 f d U F D,m=live f* (2* ⇑bs+ 1)+ ⇑d/\σ=#v[↑x]/\(∀b o,¬O b->¬a.own r b->H b\o->g b\o)/\cz A.aJ A.aD g x r c f d U ⇑j.a9 fp F/\iW A.az g r j a2 R2 ks D/\(∀b,a2.own r b->a.own r b\/O b\/H b=none)/\(∀b,F b->O b\/a.own r b\/H b=none)/\(∀b,a2.own r b->¬F b)/\CI j bs f d U fQ none/\(∀a z b,R a z b->R2 a z b)/\j.q=S.q/\j.L=S.L/\Tr ws nr S j/\D+ live f<=B+ live gs/\live f* (2* ⇑bs+ 1)+ ⇑d+ 2* ⇑bs<=1000000,⟨_,S,a,R,gs,ag,W,O,B,22,λ_ _ _ _ e=>e,h,hR,λb z=>.inl z,λb z=>.inl z,dj,ci,λ_ _ _ z=>z,22,.refl S,ahG _,hm⟩];rintro m σ g ⟨j,a2,R2,f,d,U,F,D,rfl,rfl,f2,i,r2,M,C,t,v,V,N,G,L,J,CF⟩;erw[12,x,_,c.dx,112,i.ins,aL T,T.kT,oj^_,!(ao (nI d)).isEmpty,.inl ⟨_,aH.of i.hA,2⟩];cases l:d=[]
  ·subst l;rwa[dh ?_];rwa[k j a2 R2 f U F D g f2 i r2 M C t v V N G L J]
  ·let u:=ajx l;change d.getLast l=n at u;change d.dropLast=pre at u;subst u;rw[show (!(ao (nI (pre++[n]))).isEmpty)=true by unfold ao nI;simp];rwa[hV ?_];erw[_,λ_ _ z=>z];erw[12,x,c.dx,12,i.ins,fq ⋯,12,x,_,c.dx,112,i.ins,aL T,T.kT,oj^_,.inl ⟨21,aH.of i.hA⟩,c.aA,_,.int (n:Int),22,i.hA,5]
   ·rw[aO,bZ,ahA];rwa[cQ (jM (by show (pre++[n])[⇑pre+ 1 - 1]?\n;rw[Nat.add_sub_cancel,ahO (ahG _),ajC];rfl))]
   let Uv:(ao (nI (pre++[n]))).dropLast=ao (nI pre):=by rw[iu,ints_app];rwa[List.dropLast_concat]
   rw[Uv];let c3:=i.agenda pre;let noA:¬a2.own r c.aA:=λz=>t _ z i.oA
   let Z:∀b o,b≠c.aA->g b\o->upd g c.aA (.lst (ao (nI pre))) b\o:=λb o Y e=>by rw[ak Y];rwa[e]
   let r3:iW A.az (upd g c.aA (.lst (ao (nI pre)))) r j a2 R2 ks D:=r2.keep (λb o hb e=>Z b o (λz=>noA (by cbv)) e) (λb xs e=>Z b _ (λz=>by rw[z,i.hA]at e;ext e) e)
   let I:∀b,upd g c.aA (.lst (ao (nI pre))) b=none->g b=none:=λb z=>by
    cases e:b=c.aA
    ·rw[e,ah]at z;ext z
    ·rw[ak e]at z;rwa[z]
   change upd g c.aA (.lst (ao (nI pre)))=H3 at c3 Z r3 I ⊢;let ln2:=v.len;rw[ahA]at CF;have:⇑([n]:Zh)=1:=rfl
   let th2:∀b,g b=none->a.own r b\/O b\/H b=none:=λb z=>by
    cases w:a.own r b
    ·rwa[.inl w]
    ·cases w2:O b
     ·rwa[.inr (.inl w2)]
     ·rwa[.inr (.inr ?_)]
      cases e:H b with
      |none=>rfl
      |some o=>rw[f2 b o w2 w e]at z;ext z
   rwa[⟨x,r,c,j,a2,R2,ks,D,ws,nr,bs,f,pre,U,fp,F,n,2,c3,r3,3,t,v,hbs,3,λS4 a4 R4 p X W4 O4 B4 H4 f4 c4 r4 ow4 oo4 dj4 Fh rr4 em4 eL4 tr4 ms=>?_⟩];let ow:∀b,a4.own r b->a.own r b\/O b\/H b=none:=λb z=>(ow4 b z).elim (M b) λw=>th2 b (I b w)
   let oo:∀b,O4 b->O b\/a.own r b\/H b=none:=λb z=>(oo4 b z).elim (C b) λw=>by
    cbv
   let y:B4+ live p<=B+ live gs/\live p* (2* ⇑bs+ 1)+ ⇑X<live f* (2* ⇑bs+ 1)+ ⇑(pre++[n]):=by
    rw[ahA];rcases ms with ⟨e1,e2,e3⟩|⟨e1,e2,e3⟩
    ·rw[e1,e2,e3];rwa[J,3]
    ·rw[<-e1,ak6];rwa[33]
   rwa[⟨_,y.2,S4,a4,R4,p,X,W4,O4,B4,22,λb o Y n2 e=>?_,c4,r4,ow,oo,dj4,Fh,λa z b q=>rr4 _ _ _ (V _ _ _ q),em4.trans N,eL4.trans G,L.trans tr4,y.1,by have:=y.2;rw[ahA]at this;ext⟩];rwa[f4 b o (λz=>?_) (λz=>?_) (Z b o (λz=>Y ?_) (f2 b o Y n2 e))]
   ·cbv
   ·cbv
   ·subst z;rcases C c.aA i.oA with w|w|w
    ·rwa[w]
    ·cbv
    cbv
def _root_.Lake.L2.CI.begin {bs:List (Nat×Zg×Nat)}{gs:Zf}{W:bD}{u:Nat->Int->Prop}(h:CI S bs gs B W u none){which m:Nat}{word:Zg}(E:word≠[])(n:m<S.q)(C:∀z∈word,-1000<=z/\z<=1000):CI S (bs++[(which,word,m)]) (gs++[some (zF which word m)]) (B++[⇑gs]) W u none:=by
 let F:=List.length_pos_iff.mpr E
 let d:∀{k:Nat} {y:Option Gg},(gs++[some (zF which word m)])[k]?\y->(k<⇑gs/\gs[k]?\y)\/(k=⇑gs/\y\zF which word m):=λ{k y} e=>by
  cases a:k<⇑gs
  ·rw[ahN a]at e;rwa[.inl ⟨a,e⟩]
  ·rw[ahO ∅]at e;have:=(ahD.mp e).1;let i:k=⇑gs:=by simp at this;ext
   subst i;rw[ajC]at e;rwa[.inr ⟨2,(Za0 e).symm⟩]
 let c:∀{k:Nat},k<⇑gs->(bs++[(which,word,m)])[k]?=bs[k]?:=λ{k} a=>ahN (by rw[<-h.len];rwa[a])
 rwa[⟨by rw[ahA,ahA,h.len];rfl,λk g e=>?_,λk b e H t=>?_,λk a=>?_,λr s k q=>?_,λk=>?_,λb o=>?_⟩]
 ·rcases d e with ⟨a,e⟩|⟨a,e⟩
  ·let⟨l,j,G⟩:=h.al k g e;rwa[[c a]▸l,j,G.imp (ah3 _) id]
  ·ext e;rwa[⟨5,⟨ah2 _,by show ⇑word - 1<⇑word;ext,n,n,n,25⟩,.inl (ahI _ (ahH.mpr a))⟩]
   ·rw[ahO ([a,h.len]▸ahG _),a,h.len,ajC];rfl
   ·show wk S.by _ (word.drop (⇑word - 1+ 1))=_;rw[show ⇑word - 1+ 1=⇑word by ext,List.drop_length];rfl
 ·rcases d e with ⟨a,e⟩|⟨a,e⟩
  ·rw[c a]at t;rwa[h.de k b e H t]
  ·ext e
 ·rw[ahA];rcases ahL.mp a with q|q
  ·have:=h.ab k q;show k<_+ 1;ext
  ·rw[ahH.mp q];show _<_+ 1;ext
 ·let⟨x,f,I,D,J,L,v⟩:=h.en r s k q;rwa[x,f,I,D,J,by rw[ahA];show f<_+ 1;ext,v]
 ·cases a:k<⇑gs
  ·let⟨p,q,l,j⟩:=h.sl k;rwa[⟨p,q,l,λg e=>j g ?_⟩];rw[ahN a]at e;rwa[e]
  ·rwa[⟨((zF which word m).front,(zF which word m).z1),((zF which word m).bu,(zF which word m).z2),λr s w=>?_,λg e=>?_⟩]
   ·let⟨_,f,_,e,_,F,_⟩:=h.en r s k w;ext
   cbv
 ·rcases ahL.mp o with q|q
  ·rwa[h.bd b q]
  ·rw[ahH.mp q];rwa[C]
def cz.Xa {x r:Zs}{l:KA}{gs:Zf}{W:bD}{hd:Nat}{S:List (Zg×Nat)}{O:Zs->Prop}{dx:Zs}{g:Gg}(h:cz a b H x r l gs B W hd S O)(hG:H l.aG\.lst L)(t:qx a H L gs O)(np:H c=none)(s:aq H I)(q:ej a I c dx d g):cz a b (upd I l.aG (.lst (L++[↑c]))) x r l (gs++[some g]) B W hd S (Ir O c):=by
 let k:∀f o,f≠l.aG->I f\o->upd I l.aG (.lst (L++[↑c])) f\o:=λf o n e=>by rw[ak n];rwa[e]
 let kn:∀f o,(∀xs,o≠.lst xs)->I f\o->upd I l.aG (.lst (L++[↑c])) f\o:=λf o w e=>k f o (λz=>by rw[z,s^hG]at e;cbv) e
 let fresh:∀(i:Nat),L[i]?≠some ↑c:=λi e=>by
  let C:i<⇑gs:=by rw[<-t.l];rwa[(ahD.mp e).1]
  cases Y:gs[i]? with
  |none=>cbv
  |some y=>
   cases y with
   |none=>cases t.n i _ e Y
   |some u=>
    let⟨X,_,_,J,M,_⟩:=t.s i _ u e Y;ext J;have:=M.ins;cbv
 let F:∀{i:Nat} {v:V},(L++[↑c])[i]?\v->(i<⇑L/\L[i]?\v)\/(i=⇑L/\v=↑c):=λ{i v} e=>by
  cases T:i<⇑L
  ·rw[ahN T]at e;rwa[.inl ⟨T,e⟩]
  ·rw[ahO ∅]at e;have:=(ahD.mp e).1;let N:i=⇑L:=by simp at this;ext
   subst N;rw[ajC]at e;rwa[.inr ⟨2,(Za0 e).symm⟩]
 rwa[⟨kn _ _ (by cbv) (s^h.ins),⟨_,ah,by rw[ahA,ahA,t.l];rfl,λi v J p=>?_,λi v u J p=>?_,λi j p' J p=>?_⟩,k _ _ h.ne.symm (s^h.hA),5,h.ne,.inl h.ox,.inl h.oG,.inl h.oA,λf G=>?_⟩]
 ·rcases F J with ⟨C,e⟩|⟨C,e⟩
  ·rw[ahN (by rw[<-t.l];rwa[C])]at p;rwa[t.n i v e p]
  ·rw[C,t.l,ahO (ahG _),ajC]at p;cases Za0 p
 ·rcases F J with ⟨C,e⟩|⟨C,e⟩
  ·rw[ahN (by rw[<-t.l];rwa[C])]at p;let⟨X,R,Q,e3,M,Z⟩:=t.s i v u e p;rwa[X,R,Q,e3,⟨kn _ _ (by cbv) (s^M.ins),kn _ _ (by cbv) (s^M.wo)⟩,.inl Z]
  ·rw[C,t.l,ahO (ahG _),ajC]at p;cases Za0 p;rwa[c,dx,d,e,⟨kn _ _ (by cbv) q.ins,kn _ _ (by cbv) q.wo⟩,.inr rfl]
 ·rcases F J with ⟨C,e⟩|⟨C,e⟩
  ·rcases F p with ⟨hj,U⟩|⟨hj,U⟩
   ·rwa[t.i i j p' e U]
   cbv
  cbv
 ·let⟨D,E,k1,k2⟩:=h.wt;rwa[D,E,(k1.same s).keep λf o G e=>by let⟨kv,q⟩:=(k1.same s).there G;cbv,λf G=>.inl (k2.o f G),k2.d,k2.e,k2.w]
 ·rcases G with G|G
  ·cases e:f=l.aG
   ·rwa[⟨_,by rw[e];rwa[ah],(by cbv),(by cbv),(by cbv),by cbv⟩]
   ·let⟨o,q,m⟩:=h.th f G;rwa[o,k _ _ e (s^q),m]
  ·rw[G];rwa[_,kn _ _ (by cbv) q.ins,(by cbv),(by cbv),(by cbv),by cbv]
noncomputable def nz (b:Nat)(a:Zg)(m:Nat):List (Nat×Zg×Nat):=if a=[] then [] else [(b,a,m)]
inductive Fi (CR CG CC:Zs) (vs:Zb) (H:Hp) (Q:VK) (E_:XK):Prop
 |mk (x r wa:Zs) (c:KA) (S:RS) (bs:List (Nat×Zg×Nat)) (gs:Zf) (ag:Zh) (W:bD) (hd:Nat) (fp:List (Zg×Nat)) (O:Zs->Prop) (Ex:Nat->Int->Prop) (which m:Nat) (word:Zg):vs=[↑x,.int which,↑wa,.int m]->cz CG CC H x r c gs ag W hd fp O->CI S bs gs ag W Ex none->H wa\.tup (ao word)->⇑word<=1000->(∀z∈word,-1000<=z/\z<=1000)->m<S.q->⇑bs<100000->⇑ag<=⇑bs->(∀jb iV O' H',Bt O H H'->(∀b,O b->O' b)->(∀b,O' b->O b\/H b=none)->cz CG CC H' x r c jb iV W hd fp O'->CI S (bs++nz which word m) jb iV W Ex none->⇑iV<=⇑(bs++nz which word m)->Q .non H')->Fi CR CG CC vs H Q E_
def m4 (T:Txt K mg A):T.jg.Ok mg P w base 3 (Fi A.az A.aJ A.aD):=by
 rwa[T.jg.on vq (λcC AA I s H vs Q E hr h=>?_)]
 ·let⟨x,r,X,c,S,bs,i,g,W,hd,fp,O,Ex,d,m,a,rfl,h,ci,j,D,F,hm,Z,N,k⟩:=h
  refine⟨_,{bE (bB (aZ vL (2<<<0) au (bh _))
   {aV (cM ahM ahV ahW bH (0<<<1) #[(0<<<1)<<<0]),aV (cM ahM ahV ahW bH (0<<<1) #[xS (vp T) (ub T) hr.Za5 rfl T.QG T.gu.b .nil gq #[1,2,3]])}
   bj)},?_⟩
  let hgl:=ci.len;rwa[⟨λ_ H'=>Q .non H',5,λ_ _ q=>q⟩];erw[12,X,12,.inr (bG.of j),112212];rwa[bR (λq=>?_) (λq=>?_)]
  ·let q:(0:Int)<(⇑(ao a):Int):=aia q;rw[aO]at q;let f:a≠[]:=λz=>by cbv
   let⟨gv,hG,hs⟩:=h.hG;erw[12,x,_,c.dx,112,h.ins,aL T,T.kT,oj^_,.inl ⟨21,aH.of h.hA⟩,12,x,_,c.dx,112,h.ins,aL T,T.jE,kY^_,c.aG,12,.inl (aH.of hG),c.aA,1122,h.hA,5]
   ·rw[aO,bZ];rwa[ahK (show ⇑g<=100000 by omega) ⋯]
   let ea:ao (nI g)++[V.int (⇑gv:Int)]=ao (nI (g++[⇑i])):=by rw[iu,ints_app,hs.l];rfl
   rw[ea];let B:=h.agenda (g++[⇑i]);let C:∀b o,b≠c.aA->H b\o->upd H c.aA (.lst (ao (nI (g++[⇑i])))) b\o:=λb o n e=>by rw[ak n];rwa[e]
   let Y:∀b,upd H c.aA (.lst (ao (nI (g++[⇑i])))) b=none->H b=none:=λb z=>by
    cases e:b=c.aA
    ·rw[e,ah]at z;ext z
    ·rw[ak e]at z;rwa[z]
   change upd H c.aA (.lst (ao (nI (g++[⇑i]))))=L at B C Y ⊢;let v:=C _ _ (bT j h.hA (by cbv)) j;let⟨gv1,l,t⟩:=B.hG;rwa[⟨12,x,_,c.dx,112,B.ins,aL T,T.jE,kY^_,.inl ⟨21,aH.of l⟩,121212,λp R y G J=>?_⟩];let U:aq L (upd (upd L R (.own p)) p (.ins A.aJ R [])):=(aq.upd G).trans (aq.upd ([ak J.symm]▸y));rwa[⟨p,R,X,d,m,a,2,ah,U^v,3,D,λH3 f3 g3=>⟨25⟩⟩];let M:aq L H3:=λb o e=>f3 b o (U^e) (ax e y)
   erw[c.aG,1122,M^l,([t.l]▸ahK (show ⇑i<=100000 by omega) ⋯)];let u:nz d a m=[(d,a,m)]:=ahY f;rwa[k _ _ (Ir O p) _ (λb o n e=>?_) (λb z=>.inl z) (λb z=>z.imp id λw=>[w]▸Y p y) (B.Xa l t y M g3) ([u]▸ci.begin f hm F) (by rw[u,ahA,ahA];show _+ 1<=_+ 1;omega)];rw[ak (λz=>n ([z]▸h.oG))];rwa[M^(C b o (λz=>n ([z]▸h.oA)) e)]
  ·let q:¬(0:Int)<(⇑(ao a):Int):=λz=>q (ah9 z)
   rw[aO]at q;let f:a=[]:=List.length_eq_zero_iff.mp ∅;let u:nz d a m=[]:=ah4 f;rwa[k i g O H (λ_ _ _ e=>e) (λb z=>z) (λb z=>.inl z) h ([u,aib]▸ci) ([u,aib]▸N)]
def gB (a:List (Zg×Nat))(m:Nat):List (Nat×Zg×Nat):=a.flatMap λp=>nz p.2 p.1 m
def Ot (w:Nat)(u:Zg)(m:Nat):⇑(nz w u m)<=1:=by
 unfold nz;split
 ·rwa[ah2 _]
 ·rwa[ahG _]
theorem qy (m:Nat):∀a:List (Zg×Nat),⇑(gB a m)<=⇑a
 |[]=>ahG _
 |p::l=>by
  have:=qy m l;have:=Ot p.2 p.1 m;unfold gB at *;rw[List.flatMap_cons,ahA,ah0];ext
def JR {a:List (Zg×Nat)}{p:Zg×Nat}(h:a[i]?\p)(m:Nat):gB (a.take (i+ 1)) m=gB (a.take i) m++nz p.2 p.1 m:=by
 unfold gB;rw[ajA,h,akE];show _++(nz p.2 p.1 m++[])=_;rw[aib]
def UD {a:List (Zg×Nat)}{b:Zd×V}(h:(iU a)[i]?\b):∃p,a[i]?\p/\b=(p.1.map Sum.inl,.int p.2):=by
 unfold iU at h
 cbv
inductive JS (CR CG CC:Zs) (vs:Zb) (H:Hp) (Q:VK) (E_:XK):Prop
 |mk (x r:Zs) (c:KA) (S:RS) (bs:List (Nat×Zg×Nat)) (gs:Zf) (ag:Zh) (W:bD) (hd:Nat) (fp:List (Zg×Nat)) (O:Zs->Prop) (Ex:Nat->Int->Prop) (m:Nat):vs=[↑x,.int m]->cz CG CC H x r c gs ag W hd fp O->H c.aQ\.dT (iU fp)->CI S bs gs ag W Ex none->(∀p∈fp,⇑p.1<=1000/\∀z∈p.1,-1000<=z/\z<=1000)->m<S.q->⇑bs+ ⇑fp<100000->⇑ag<=⇑bs->(∀jb iV O' H',Bt O H H'->(∀b,O b->O' b)->(∀b,O' b->O b\/H b=none)->cz CG CC H' x r c jb iV W hd fp O'->CI S (bs++gB fp m) jb iV W Ex none->⇑iV<=⇑(bs++gB fp m)->Q .non H')->JS CR CG CC vs H Q E_
def jc (T:Txt K mg A):T.fi.Ok mg P w base 4 (JS A.az A.aJ A.aD):=by
 rwa[T.fi.on fT (λcC AA outer s H vs Q E hr h=>?_)]
 ·let⟨x,r,c,S,bs,gs,ag,W,hd,f,O,Ex,m,rfl,h,I,ci,hfp,hm,Ou,UE,k⟩:=h
  refine⟨_,{EI (cW ah7 rfl (Ww (0<<<1) rfl rfl) (oF rfl (dy (dW 2 fT.nd) (dy (dW 3 fT.nd) lV)))
   {aV (pm (pv 0) (aL T) T.jg (m4 T) hr #[3,2,1])})},?_⟩
  let Z:¬O c.aQ:=h.JG I;let nxQ:x≠c.aQ:=bT h.ins I (by cbv);rwa[⟨c.aQ,_,I,trivial,12,x,_,c.dx,112,h.ins,aL T,T.Ca,MH^_,c.aQ,iU f,2,I,λN=>?_⟩];let k0:∀b o,b≠c.aQ->H b\o->upd H c.aQ (.c9 N (.dT (iU f))) b\o:=λb o n e=>by rw[ak n];rwa[e]
  let h0:cz A.aJ A.aD (upd H c.aQ (.c9 N (.dT (iU f)))) x r c gs ag W hd f O:=h.keep (λb o R e=>k0 b o (λz=>Z (by cbv)) e) (λb xs e=>k0 b _ (bT e I (by cbv)) e)
  refine SQ (d:=c.aQ) (o:=N) (kvs:=iU f) (λi X B=>∃g a v v2 v3,X=#v[↑x,.int (m:Int),v2,v3]/\B c.aQ\.c9 N (.dT (iU f))/\(∀b o,b≠c.aQ->¬O b->H b\o->B b\o)/\(∀b,O b->v b)/\(∀b,v b->O b\/H b=none)/\cz A.aJ A.aD B x r c g a W hd f v/\CI S (bs++gB (f.take i) m) g a W Ex none/\⇑a<=⇑(bs++gB (f.take i) m))
   ⟨gs,ag,O,none,none,2,ah,λb o n _ e=>k0 b o n e,λb z=>z,λb z=>.inl z,h0,by rw[List.take_zero];show CI S (bs++[]) _ _ _ _ _;rw[aib];rwa[ci],by cbv⟩ (λi X B _ q0=>by let⟨_,_,_,_,_,_,q,_⟩:=q0;rwa[q]) ?_ ?_
  ·rintro i kv X B t kp hkv nt D ⟨g,a,v,v2,v3,rfl,U,V,C,j,c5,u,l⟩;let⟨p,hp,rfl⟩:=UD hkv;let hi:=(ahD.mp hp).1
   replace D:B kp\(.tup (ao p.1)):=by
    rw[D];show some (HO.tup (((p.1.map (Sum.inl:Int->Key)).map kV)))=_;rw[aip];rfl
   let F:=aq.upd (o:=.tup [↑kp,.int (p.2:Int)]) nt;erw[t,12,bG.of ah,21121122];change upd B t (.tup [↑kp,.int (p.2:Int)])=H6 at F ⊢;let R:=hfp p (ahB hp);let bl:=qy m (f.take i);rw[aif]at bl;let c6:=c5.same F;rwa[⟨12,x,c.dx,12,c6.ins,fq ⋯,121212,x,r,kp,c,S,_,g,a,W,hd,f,v,Ex,p.2,m,p.1,2,c6,u,F^D,R.1,R.2,hm,by rw[ahA];ext,l,λY ag7 O7 H7 M le7 nw7 c7 J L=>?_⟩];let G:¬v c.aQ:=λz=>(j _ z).elim Z λq=>by cbv
   rw[aiL,<-JR hp]at J L;rwa[⟨Y,ag7,O7,112,M _ _ G (F^U),λb o n1 n2 e=>M b o (λz=>(j b z).elim n2 λq=>by cbv) (F^V b o n1 n2 e),λb z=>le7 b (C b z),λb z=>?_,c7,J,L⟩];rcases nw7 b z with w|w
   ·rwa[j b w]
   ·cases y:O b
    ·rwa[.inl y]
    ·rwa[.inr ?_]
     cases e:H b with
     |none=>rfl
     |some o=>
      cases y2:b=c.aQ
      ·rw[y2,F^U]at w;ext w
      ·rw[F^V b o y2 y e]at w;ext w
  ·rintro X B ⟨g,a,v,v2,v3,rfl,U,V,C,j,c5,u,l⟩;rw[show ⇑(iU f)=⇑f by unfold iU;cbv,ai3]at u l;let G:¬v c.aQ:=λz=>(j _ z).elim Z λq=>by cbv
   rwa[⟨N,U,k g a v _ (λb o n e=>?_) C j (c5.keep (λb o R e=>[ak (λz=>G (by cbv))]▸e) (λb xs e=>[ak (λz=>by cbv)]▸e)) u l⟩];cases z:b=c.aQ
   ·rw[z,ah,<-I,<-z];rwa[e]
   ·rw[ak z];rwa[V b o z n e]
noncomputable def Ov (r:Zs):List (Str×V):=[("rooms",↑r)]
noncomputable def Ow (r q:Zs):List (Str×V):=[("rooms",↑r),("rules",↑q)]
noncomputable def Ox (r q g:Zs):List (Str×V):=[("rooms",↑r),("rules",↑q),("goings",↑g)]
noncomputable def Oy (r q g e:Zs):List (Str×V):=[("rooms",↑r),("rules",↑q),("goings",↑g),("agenda",↑e)]
noncomputable def Oz (r q g e w:Zs):List (Str×V):=[("rooms",↑r),("rules",↑q),("goings",↑g),("agenda",↑e),("waiting",↑w)]
noncomputable def UG (r q g e w:Zs)(n:Int):List (Str×V):=[("rooms",↑r),("rules",↑q),("goings",↑g),("agenda",↑e),("waiting",↑w),("heard",.int n)]
def cz2 (r q:Zs):bI "rules" ↑q (Ov r)=Ow r q:=dP (by kernel_rfl)
def cz3 (r q g:Zs):bI "goings" ↑g (Ow r q)=Ox r q g:=dP (by kernel_rfl)
def cz4 (r q g e:Zs):bI "agenda" ↑e (Ox r q g)=Oy r q g e:=dP (by kernel_rfl)
def cz5 (r q g e w:Zs):bI "waiting" ↑w (Oy r q g e)=Oz r q g e w:=dP (by kernel_rfl)
def cz6 (r q g e w:Zs)(n:Int):bI "heard" (.int n) (Oz r q g e w)=UG r q g e w n:=dP (by kernel_rfl)
def kat_nil {k:Zs}(h:H k\.dK []):dU H k (λ_=>none) (λ_ _=>none) (λ_ _ _=>false):=⟨⟨[],h,by simp,(λa z=>by ext z),λ_=>rfl⟩,(λ_ _ z=>by ext z),(λ_ _ _ z=>by ext z),(λ_ _ _ z=>by ext z),(λ_ _ _ z=>by ext z),(λ_ _ z=>by ext z),(λ_ _ _ z=>by ext z),(λ_ _ _ z=>by ext z),(λ_ _ _ _ z=>by ext z),(λ_ _ _ _ _ z=>by ext z)⟩
def dw (S:RS):Zh:=(~~~S.q).filter λc=>decide (S.aX[c]?\c)
def dG (a:List (Zg×Nat))(st:Zh):List (Nat×Zg×Nat):=st.flatMap λm=>gB a m
def fK (a:Za3)(b i:Nat):List (Nat×Zg×Nat):=(~~~i).flatMap λj=>nz (b+ j) (a.getD j []) 0
theorem lU (a:List (Zg×Nat)):∀st:Zh,⇑(dG a st)<=⇑st* ⇑a
 |[]=>ah2 _
 |m::st=>by
  have:=lU a st;have:=qy m a;unfold dG at *;rw[List.flatMap_cons,ahA,ah0,ak6];ext
theorem sS (a:Za3)(b:Nat):∀i,⇑(fK a b i)<=i
 |0=>ahG _
 |i+ 1=>by
  have:=sS a b i;have:=Ot (b+ i) (a.getD i []) 0;unfold fK at *;rw[ajf,akE,ahA];show _+ ⇑(nz _ _ 0++[])<=_;rw[aib];ext
def sT:bD:=λ_ _ _=>false
def UH:CI S [] [] [] sT fQ none:=⟨2,(λn g e=>by simp at e),(λn b e=>by simp at e),(λn z=>by ext z),(λr s n z=>by ext z),λn=>⟨(0,0),(0,0),(λr s z=>by ext z),λg e=>by simp at e⟩,(λb z=>by ext z)⟩
inductive JT (CR CG CC:Zs) (vs:Zb) (H:Hp) (Q:VK) (E_:XK):Prop
 |mk (x dx r ru pa:Zs) (S:RS) (a:RA) (R:Za2) (rs ps:Za3):vs=[↑x,↑r,↑ru,↑pa]->H x\.ins CC dx []->ay CR H r S a->Good S [] R->0<S.q->S.q<=2000->¬a.own r x->bX H ru rs->bX H pa ps->⇑rs<=400->⇑ps<=400->(∀u∈rs++ps,⇑u<=1000/\∀z∈u,-1000<=z/\z<=1000)->(∀fp,yG rs fp->S.q* ⇑fp+ ⇑ps<50000)->(∀c gs ag fp O H',(∀b o,H b\o->b≠x->H' b\o)->cz CG CC H' x r c gs ag sT ⇑S.a9 fp O->H' c.aQ\.dT (iU fp)->(∀b,O b->b=x\/H b=none)->CI S (dG fp (dw S)++fK ps ⇑rs ⇑ps) gs ag sT fQ none->⇑ag<=⇑(dG fp (dw S)++fK ps ⇑rs ⇑ps)->yG rs fp->Q .non H')->JT CR CG CC vs H Q E_
def rA (T:Txt K mg A):T.eZ.Ok mg P w base 5 (JT A.az A.aJ A.aD):=by
 rwa[T.eZ.on fk (λcC AA outer s H vs Q E hr h=>?_)]
 ·let⟨x,B,r,ru,pa,S,a,R,rs,ps,rfl,hx,hR,gd,hm0,hm,C0,JV,uC,zD,oU,Yw,C1,k⟩:=h
  refine⟨_,{b8 (pv 0) (pv 1) rfl,b8 (pv 0) (pc T.mR (xA T) hr #[2]) rfl,b8 (pv 0) (bV aj) rfl,b8 (pv 0) (bV aj) rfl,b8 (pv 0) fN rfl,b8 (pv 0) ((1<<<1)<<<0) rfl,cW ah7 rfl (cO (wy (pv 1) (aI T) T.eS (fZ T) hr)) (dW 4 fk.nd)
    {aV (pm (pv 0) (aL T) T.fi (jc T) hr #[4])},cW ah7 rfl (Iq rfl T.uy (pv 3) (2<<<0) rfl rfl) (oF rfl (dy (dW 5 fk.nd) (dy (dW 6 fk.nd) lV)))
    {aV (pm (pv 0) (aL T) T.jg (m4 T) hr #[5,6,au])}},?_⟩
  rwa[Bg ?_];intro Jt zC oh lF ja fI fV;let⟨UI,OB,Fj⟩:=id JV;let⟨J,OD,UJ⟩:=id uC
  let st:∀{H0:Hp} {fs gs:List (Str×V)},H0 x\.ins A.aD B fs->(∀b o,H b\o->b≠x->H0 b\o)->upd H0 x (.ins A.aD B gs) x\.ins A.aD B gs/\(∀b o,H b\o->b≠x->upd H0 x (.ins A.aD B gs) b\o)/\(∀b o,b≠x->H0 b\o->upd H0 x (.ins A.aD B gs) b\o)/\∀b,upd H0 x (.ins A.aD B gs) b=none->H0 b=none:=λ_ h=>⟨ah,λb o e n=>[ak n]▸h b o e n,λb o n e=>[ak n]▸e,λb z=>by
   cases e:b=x
   ·rw[e,ah]at z;ext z
   ·rw[ak e]at z;rwa[z]⟩
  let o0:∀b o,H b\o->b≠x->H b\o:=λb o e _=>e
  let UK:ru≠x:=bT OB hx (by cbv);let UL:pa≠x:=bT OD hx (by cbv);erw[1212,x,_,B,12,hx,aL T,T.fb,(by show 0<1000;decide)];rw[show bI "rooms" ↑r []=Ov r from rfl];obtain⟨x1,o1,-,n1⟩:=st (gs:=Ov r) hx o0;change upd H x (.ins A.aD B (Ov r))=H1 at x1 o1 n1 ⊢;let Yx:bX H1 ru rs:=⟨UI,o1 _ _ OB UK,Fj.1,λi q u e1 e2=>o1 _ _ (Fj.2 i q u e1 e2) (bT (Fj.2 i q u e1 e2) hx (by cbv))⟩;rwa[⟨12,ru,rs,2,Yx,3,λq d H2 s2 nq hq UM=>?_⟩];let x2:=s2^x1;let o2:∀b o,H b\o->b≠x->H2 b\o:=λb o e n=>s2^o1 b o e n
  let n2:∀b,H2 b=none->H b=none:=λb z=>n1 b (same_none s2 z)
  erw[12,x,_,B,12,x2,aL T,T.Ca,(by show 1<1000;decide)];rw[cz2];let JW:q≠x:=bT hq x2 (by cbv);let⟨x3,o3,k3,n3⟩:=st (gs:=Ow r q) x2 o2;change upd H2 x (.ins A.aD B (Ow r q))=X at x3 o3 k3 n3 ⊢;let q3:=k3 _ _ JW hq;rwa[⟨ah2 _,λg ng=>?_⟩];let M:=aq.upd (o:=.lst []) ng;let g4:upd X g (.lst []) g\(.lst []):=ah;let n4:∀b,upd X g (.lst []) b=none->H b=none:=λb z=>n2 b (n3 b (same_none M z))
  let ng0:=n2 g (n3 g ng);change upd X g (.lst [])=H4 at M g4 n4 ⊢;erw[12,x,_,B,12,M^x3,aL T,T.jE,(by show 2<1000;decide)];rw[cz3];let⟨x5,o5,k5,n5⟩:=st (gs:=Ox r q g) (M^x3) (λb o e n=>M^o3 b o e n);change upd H4 x (.ins A.aD B (Ox r q g))=H5 at x5 o5 k5 n5 ⊢;let JX:g≠x:=bT g4 (M^x3) (by cbv);let q5:=k5 _ _ JW (M^q3);let g5:=k5 _ _ JX g4;rwa[⟨ah2 _,λe ne=>?_⟩];let s6:=aq.upd (o:=.lst []) ne;let e6:upd H5 e (.lst []) e\(.lst []):=ah;let n6:∀b,upd H5 e (.lst []) b=none->H b=none:=λb z=>n4 b (n5 b (same_none s6 z))
  let JY:=n4 e (n5 e ne);let Yy:g≠e:=ax g5 ne;change upd H5 e (.lst [])=H6 at s6 e6 n6 ⊢;erw[12,x,_,B,12,s6^x5,aL T,T.kT,(by show 3<1000;decide)];rw[cz4];let⟨x7,o7,k7,n7⟩:=st (gs:=Oy r q g e) (s6^x5) (λb o e n=>s6^o5 b o e n);change upd H6 x (.ins A.aD B (Oy r q g e))=H7 at x7 o7 k7 n7 ⊢;let wg:e≠x:=bT e6 (s6^x5) (by cbv);let q7:=k7 _ _ JW (s6^q5);let g7:=k7 _ _ JX (s6^g5);let e7:=k7 _ _ wg e6;rwa[λw nw=>?_]
  let Y:=aq.upd (o:=.dK []) nw;let w8:upd H7 w (.dK []) w\(.dK []):=ah;let n8:∀b,upd H7 w (.dK []) b=none->H b=none:=λb z=>n6 b (n7 b (same_none Y z))
  let nw0:=n6 w (n7 w nw);change upd H7 w (.dK [])=H8 at Y w8 n8 ⊢;erw[12,x,_,B,12,Y^x7,aL T,T.jT,(by show 4<1000;decide)];rw[cz5];let⟨x9,o9,k9,n9⟩:=st (gs:=Oz r q g e w) (Y^x7) (λb o e n=>Y^o7 b o e n);change upd H8 x (.ins A.aD B (Oz r q g e w))=H9 at x9 o9 k9 n9 ⊢;let UN:w≠x:=bT w8 (Y^x7) (by cbv);let R9:ay A.az H9 r S a:=hR.keep (λb o hb e=>o9 b o e (λz=>C0 (by cbv))) (λb xs e=>o9 b _ e (bT e hx (by cbv)));erw[12,r,_,a.dx,112,R9.ins,aI T,T.sO,tI^_,a.aN,12,.inl (aH.of R9.hN),12,x,_,B,12,x9,aL T,T.mY,(by show 5<1000;decide)];rw[aO,bZ,cz6];let⟨xa,oa,ka,na⟩:=st (gs:=UG r q g e w ⇑S.a9) x9 o9;change upd H9 x (.ins A.aD B (UG r q g e w ⇑S.a9))=Ha at xa oa ka na ⊢;let up:∀b o,b≠x->H8 b\o->Ha b\o:=λb o n z=>ka b o n (k9 b o n z)
  let cA:cz A.aJ A.aD Ha x r ⟨B,q,g,e,w⟩ [] [] sT ⇑S.a9 d (λb=>b=x\/b=g\/b=e\/b=w):=by
   rwa[⟨xa,⟨[],up _ _ JX (Y^g7),2,(λi v z=>by simp at z),(λi v u z=>by simp at z),(λi j p z=>by simp at z)⟩,up _ _ wg (Y^e7),⟨11,kat_nil (up _ _ UN w8),⟨λb hb=>?_,(λ_ _ z=>by ext z),(λ_ _ _ z=>by ext z),(λ_ _ _ z=>by ext z)⟩⟩,Yy,.inl rfl,.inr (.inl rfl),.inr (.inr (.inl rfl)),λb hb=>?_⟩]
   ·rcases hb with z|⟨_,z⟩|⟨_,_,z⟩
    ·rwa[.inr (.inr (.inr z))]
    ·ext z
    ·ext z
   ·rcases hb with z|z|z|z
    ·rw[z];rwa[_,xa,(by cbv),(by cbv),(by cbv),by cbv]
    ·rw[z];rwa[_,up _ _ JX (Y^g7),(by cbv),(by cbv),(by cbv),by cbv]
    ·rw[z];rwa[_,up _ _ wg (Y^e7),(by cbv),(by cbv),(by cbv),by cbv]
    ·rw[z];rwa[_,up _ _ UN w8,(by cbv),(by cbv),(by cbv),by cbv]
  let qa:=up _ _ JW (Y^q7)
  let Oa:∀b,(b=x\/b=g\/b=e\/b=w)->b=x\/H b=none:=λb z=>by
   cbv
  let Ra:ay A.az Ha r S a:=hR.keep (λb o hb e=>oa b o e (λz=>C0 (by cbv))) (λb xs e=>oa b _ e (bT e hx (by cbv)));let nA:∀b,Ha b=none->H b=none:=λb z=>n8 b (n9 b (na b z))
  obtain⟨O,eO⟩:∃O:Zs->Prop,O=λb=>b=x\/b=g\/b=e\/b=w:=⟨12⟩
  rw[<-eO]at cA;replace Oa:∀b,O b->b=x\/H b=none:=by rw[eO];rwa[Oa]
  clear eO;generalize ec:(⟨B,q,g,e,w⟩:KA)=c at cA;let qa:Ha c.aQ\(.dT (iU d)):=by rw[<-ec];rwa[qa]
  clear g7 e7 w8 x9 o9 k9 n9 Y n8 x7 o7 k7 n7 s6 n6 e6 x5 o5 k5 n5 M g4 n4 x3 o3 k3 n3 x1 o1 n1 x2 o2 n2 up ka q7 q5 q3 g5 xa na R9 nw0 JY ng0 nw ne ng Yy wg JX UN hq nq s2 JW Yx;let hfb:∀p∈d,⇑p.1<=1000/\∀z∈p.1,-1000<=z/\z<=1000:=λp hp=>Yw _ (ah3 _ (ahB (UM.a p hp)))
  let C1:=C1 d UM;rwa[⟨12,r,a.dx,12,Ra.ins,cS _ _ _ ⋯,r,S,a,2,Ra,gd.wf,3,λl nl=>?_⟩];let sl:⇑(dw S)<=S.q:=ahP (ajK _ _) (by cbv);let stm:∀m∈dw S,m<S.q:=λm hm=>ais.mp (ajo.mp hm).1
  let Yz:⇑(dw S)* ⇑d<=S.q* ⇑d:=ajS _ sl;let sb:=aq.upd (o:=.lst (ao (nI (dw S)))) nl;let hl:upd Ha l (.lst (ao (nI (dw S)))) l\(.lst (ao (nI (dw S)))):=ah;show ∃a_1,_;rw[show (~~~S.q).filter (λc=>decide (S.aX[c]?\c))=dw S from rfl];let nl0:=nA l nl;let nlO:¬O l:=λz=>by let⟨o,e,_⟩:=cA.th l z;cbv
  change upd Ha l (.lst (ao (nI (dw S))))=Hb at sb hl ⊢;let cB:=cA.same sb;erw[l,2,⟨_,aH.of hl⟩]
  refine eY (K:=K) (a:=l) (xs:=ao (nI (dw S))) (λi σ H2=>∃U F O2 v4,σ=#v[↑x,↑r,↑ru,↑pa,v4,none,none]/\(∀b o,¬O b->Hb b\o->H2 b\o)/\(∀b,O b->O2 b)/\(∀b,O2 b->O b\/Hb b=none)/\cz A.aJ A.aD H2 x r c U F sT ⇑S.a9 d O2/\CI S (dG d ((dw S).take i)) U F sT fQ none/\⇑F<=⇑(dG d ((dw S).take i)))
   ⟨[],[],O,none,2,λ_ _ _ e=>e,λb z=>z,λb z=>.inl z,cB,UH,ahG _⟩ (λi σ H2 _ q0=>by let⟨_,_,_,_,_,f,_⟩:=q0;rwa[aH.of (f _ _ nlO hl)]) ?_ ?_
  ·rintro i v σ H2 hi ⟨U,F,O2,v4,rfl,f2,Oq,CY,c2,CT,JZ⟩;let⟨z,rfl,hz⟩:=cD hi
   obtain⟨m,UO,rfl⟩:∃m,(dw S)[i]?\m/\z=(m:Int):=by
    unfold nI at hz
    cbv
   let L:=(ahD.mp UO).1;let nQ:¬O c.aQ:=cA.JG qa;let q2:=f2 _ _ nQ (sb^qa);let ll:=lU d ((dw S).take i);rw[aif,aj4 ∅]at ll;let li:(i+ 1)* ⇑d<=⇑(dw S)* ⇑d:=ajS _ L;rw[ak6]at li;rwa[⟨12,x,c.dx,12,c2.ins,fq ⋯,12,x,r,c,S,_,U,F,sT,⇑S.a9,d,O2,fQ,m,2,c2,q2,CT,hfb,stm m (ahB UO),3,JZ,λD C O3 X b3 Yv N c3 G I=>?_⟩]
   let es:dG d ((dw S).take (i+ 1))=dG d ((dw S).take i)++gB d m:=by
    unfold dG;rw[ajA,UO,akE];show _++(gB d m++[])=_;rw[aib]
   rw[<-es]at G I;rwa[⟨D,C,O3,12,λb o n e=>b3 b o (λz=>(CY b z).elim n λy=>by cbv) (f2 b o n e),λb z=>Yv b (Oq b z),λb z=>?_,c3,G,I⟩];rcases N b z with y|y
   ·rwa[CY b y]
   ·cases y2:O b
    ·rwa[.inl y2]
    ·rwa[.inr ?_]
     cases e:Hb b with
     |none=>rfl
     |some o=>rw[f2 b o y2 e]at y;ext y
  rintro σ H2 ⟨U,F,O2,v4,rfl,f2,Oq,CY,c2,CT,JZ⟩;rw[aO,bZ,ai3]at CT JZ;let ll:=lU d (dw S);let UQ:Hb pa\(.lst (J.map V.ref)):=sb^oa _ _ OD UL;let Z:∀{b o},H b\o->b≠x->¬O b:=λ{b o} e n z=>(Oa b z).elim n λy=>by cbv
  let abi:=f2 _ _ (Z OD UL) UQ;let abj:=f2 _ _ (Z OB UK) (sb^oa _ _ OB UK);let lr:⇑(UI.map V.ref)=⇑rs:=by rw[ahE,Fj.1]
  erw[1212,ru,12,.inl (aH.of abj),pa,(⇑(UI.map V.ref):Int),2233,⟨_,aH.of abi⟩];rw[lr]
  refine F2 (K:=K) (a:=pa) (xs:=J.map V.ref) (λi σ X=>∃D C O3 v5 v6,σ=#v[↑x,↑r,↑ru,↑pa,v4,v5,v6]/\(∀b o,¬O b->Hb b\o->X b\o)/\(∀b,O3 b->O b\/Hb b=none)/\cz A.aJ A.aD X x r c D C sT ⇑S.a9 d O3/\CI S (dG d (dw S)++fK ps ⇑rs i) D C sT fQ none/\⇑C<=⇑(dG d (dw S)++fK ps ⇑rs i))
   ⟨U,F,O2,none,none,2,f2,CY,c2,by show CI S (_++[]) _ _ _ _ _;rw[aib];rwa[CT],by show _<=⇑(_++[]);rw[aib];rwa[JZ]⟩ (λi σ X _ q0=>by let⟨_,_,_,_,_,_,f,_⟩:=q0;rwa[aH.of (f _ _ (Z OD UL) UQ)]) ?_ ?_
  ·rintro i v σ X t hi nt ⟨D,C,O3,v5,v6,rfl,f3,N,c3,G,I⟩
   let L:i<⇑J:=by
    have:=(ahD.mp hi).1;rw[ahE]at this;rwa[this]
   let UT:i<⇑ps:=by rw[<-UJ.1];rwa[L]
   let g1:J[i]?\(J[i]'L):=ahC L
   let g2:ps[i]?\(ps[i]'UT):=ahC UT
   rw[ahZ,g1]at hi;obtain rfl:V.ref (J[i]'L)=v:=Za0 hi;change J[i]'L=wa at g1;change ps[i]'UT=u at g2;let sU:=UJ.2 i wa u g1 g2;let YB:wa≠x:=bT sU hx (by cbv);let abk:=f3 _ _ (Z sU YB) (sb^oa _ _ sU YB);let M:=aq.upd (o:=.tup [.int ((⇑rs:Int)+ (i:Int)),↑wa]) nt;erw[t,12,bG.of ah,21121122];change upd X t (.tup [.int ((⇑rs:Int)+ (i:Int)),↑wa])=H4 at M ⊢;let c4:=c3.same M;let pl:=sS ps ⇑rs i;let YC:=Yw u (ahI _ (ahB g2));rwa[⟨12,x,c.dx,12,c4.ins,fq ⋯,1212,x,r,wa,c,S,_,D,C,sT,⇑S.a9,d,O3,fQ,⇑rs+ i,(0),u,2,c4,G,M^abk,YC.1,YC.2,hm0,by rw[ahA];ext,I,λgs5 UA O5 H5 b5 le5 nw5 c5 J0 YD=>?_⟩]
   let ep:fK ps ⇑rs (i+ 1)=fK ps ⇑rs i++nz (⇑rs+ i) u 0:=by
    unfold fK;rw[ajf,akE];show _++(nz (⇑rs+ i) (ps.getD i []) 0++[])=_;rw[aib,ahJ,g2];rfl
   rw[aiL,<-ep]at J0 YD;rwa[⟨gs5,UA,O5,112,λb o n e=>b5 b o (λz=>(N b z).elim n λy=>by cbv) (M^f3 b o n e),λb z=>?_,c5,J0,YD⟩];rcases nw5 b z with y|y
   ·rwa[N b y]
   ·cases y2:O b
    ·rwa[.inl y2]
    ·rwa[.inr ?_]
     cases e:Hb b with
     |none=>rfl
     |some o=>rw[M^f3 b o y2 e]at y;ext y
  ·rintro σ X ⟨D,C,O3,v5,v6,rfl,f3,N,c3,G,I⟩;rw[ahE,UJ.1]at G I;rwa[k c D C d O3 X (λb o e n=>f3 b o (Z e n) (sb^oa b o e n)) c3 (f3 _ _ (cA.JG qa) (sb^qa)) (λb z=>?_) G I UM];rcases N b z with y|y
   ·rwa[Oa b y]
   ·rwa[.inr (nA b (same_none sb y))]
def C2 {rs:Za3}{b:List (Zg×Nat)}(h:yG rs b):⇑b<=⇑rs:=by
 let c:(b.map (·.2)).Nodup:=by
  have:=h.n;unfold List.Nodup at this ⊢;rw[ajl]at this ⊢
  exact this.imp_of_mem λ{p q} a d n e=>n (by
   let i:=h.a p a;let g:=h.a q d
   cbv)
 have:=lM ⇑rs _ c λn f=>by
  let⟨p,a,rfl⟩:=aiB.mp f;rwa[(ahD.mp (h.a p a)).1]
 rw[ahE]at this;rwa[this]
def xC {b:Nat×Zg×Nat}{w:Nat}(h:b∈nz w l m):b=(w,l,m)/\l≠[]:=by
 unfold nz at h
 cbv
def G8 {w:Nat}(h:l≠[]):(w,l,m)∈nz w l m:=by
 unfold nz;cbv
def QL {c:List (Zg×Nat)}{st:Zh}{a:Za3}{b:Nat×Zg×Nat}(h:b∈dG c st++fK a n ⇑a):(∃p∈c,b.1=p.2/\b.2.1=p.1/\b.2.2∈st)\/∃j u,a[j]?\u/\b=(n+ j,u,0):=by
 rcases ahL.mp h with q|q
 ·let⟨m,e,q⟩:=aji.mp q;let⟨p,d,q⟩:=aji.mp q;let⟨rfl,_⟩:=xC q;rwa[.inl ⟨p,d,22,e⟩]
 ·let⟨j,f,q⟩:=aji.mp q;let⟨rfl,_⟩:=xC q
  cbv
def ends {bs:List (Nat×Zg×Nat)}{d:Zf}{W:bD}(ci:CI S bs d [] W fQ none)(x:Good S [] R){b:Nat×Zg×Nat}(p:b∈bs)(a:S.aw b.2.2=b.2.2):Nt S b.2.2 b.2.1:=by
 let⟨n,f⟩:=aiu p;let B:n<⇑d:=by rw[ci.len];rwa[(ahD.mp f).1]
 cases q:d[n]? with
 |none=>cbv
 |some y=>
  cases y with
  |none=>
   rcases ci.de n b q (by cbv) f with z|z
   ·rwa[absurd a z]
   ·rwa[.inl z]
  |some g=>
   let⟨e,c,z⟩:=ci.al n g q;rw[f]at e;obtain rfl:=Za0 e;rcases z with z|z|⟨lt,l,v⟩
   ·ext z
   ·ext z
   ·let⟨o,_,k,_,_,_,_,f1⟩:=ci.en _ _ _ l;let⟨s,_,j,_,_,_,_,f2⟩:=ci.en _ _ _ v;let k:o=g.front:=∅
    let j:s=g.bu:=∅
    subst k j;rcases f1 with ⟨t,u⟩|f1
    ·rcases f2 with ⟨m,r⟩|f2
     ·let i:=c.wf;let h:=c.wr;let a:S.aw g.start=g.start:=a;rw[a,t]at i;rw[a,m]at h;rwa[.inr ⟨g.first,g.last,g.front,g.bu,g.z1,-g.z2,lt,Gg.qK (by have:=c.ll;omega),Gg.at2 c.ll,i,u,h,[ajv]▸r⟩]
     ·rwa[f2.elim]
    ·rwa[f1.elim]
inductive QM (CR CG CC:Zs) (vs:Zb) (H:Hp) (Q:VK) (E_:XK):Prop
 |mk (r ru pa:Zs) (S:RS) (a:RA) (R:Za2) (ks:Zg) (B:Nat) (rs ps:Za3):vs=[↑r,↑ru,↑pa]->iW CR H r S a R ks B->0<S.q->B<800000->bX H ru rs->bX H pa ps->⇑rs<=400->⇑ps<=400->S.q* ⇑rs+ ⇑ps<=700->(∀u∈rs++ps,⇑u<=1000/\∀z∈u,(-1000<=z/\z<=1000)/\z∈ks/\-z∈ks)->(∀S' a' R' B' H',(∀b o,¬a.own r b->H b\o->H' b\o)->iW CR H' r S' a' R' ks B'->(∀b,a'.own r b->a.own r b\/H b=none)->(∀a z b,R a z b->R' a z b)->S'.q=S.q->S'.L=S.L->Tr (rs++ps) ⇑rs S S'->uW rs ps S'->B'<=B+ 700->Q .non H')->QM CR CG CC vs H Q E_
noncomputable def eI (z:Int):Int:=if z > 0 then 2* z - 2 else -2* z - 1
def J1 (k:Nat):eI (M12.st k)=k:=by
 unfold eI M12.st;cases h:k % 2=0
 ·rw[ah4 h,ah4 ∅];ext
 ·rw[ahY h,ahY ∅];ext
def yJ (h:eI z=eI y):z=y:=by
 unfold eI at h;split at h <;> split at h <;> ext
def QN:Sp:=λa H Q _=>∃z:Int,a=[.int z]/\Q (.int (eI z)) H
noncomputable def pL (l:Zg):V:=(l.head?.map V.int).getD .non
inductive UU (C:Zs) (vs:Zb) (H:Hp) (Q:VK) (E_:XK):Prop
 |mk (r:Zs) (S:RS) (a:RA) (c:Nat):vs=[↑r,.int c]->ay C H r S a->c<⇑S.gaps->Q (pL (S.gap c)) H->UU C vs H Q E_
def Eb (T:Txt K mg A):T.mS.Ok P w base 1 QN:=by
 rwa[T.mS.on DY (λb f a s H d Q E e h=>?_) (len:=by rintro _ _ _ _ ⟨z,rfl,_⟩;rfl)]
 ·let⟨z,rfl,k⟩:=h
  refine⟨_,{bB (aZ vL (pv 0) au (bh _))
   {bf (aK gW (aK ml au (pv 0)) au)}
   bj,bf (aK gW (aK ml (fe dN au) (pv 0)) au)},?_⟩
  rwa[iA ?_];intro c;erw[12112212];unfold eI at k;rwa[bR (λh=>?_) (λh=>?_)]
  ·rw[ah4 (aia h)]at k;rwa[121122,.inl ⟨44⟩,1122,k]
  ·rw[ahY (λq=>h (ah9 q))]at k;rwa[12121122,.inl ⟨44⟩,1122,k]
def iH (T:Txt K mg A):T.fF.Ok mg P w base 1 (UU A.az):=by
 rwa[T.fF.on kU (λy I m s H G Q E J h=>?_)]
 ·let⟨r,S,a,c,rfl,h,F,k⟩:=h
  erw[_,{EI (cW ah7 rfl (Wu ((0<<<1)|||1)) (dW 2 kU.nd)
   {bf (pv 2)}),bf dA}]
  rwa[iA ?_];intro v;let x:=xq F;let⟨p,B,l⟩:=h.rG.at x;erw[p,.dK (gK (S.gap c)),l,True.intro];rwa[⟨12,r,_,a.dx,112,h.ins,aI T,T.sN,tH^_,12,a.aG,11122,aH.of h.hG,eH B,p,gK (S.gap c),2,l,λo=>?_⟩]
  let back:upd (upd H p (.c9 o (.dK (gK (S.gap c))))) p (.dK (gK (S.gap c)))=H:=by
   rw[OY]
   funext b
   cases t:b=p
   ·rw[t,ah,l]
   ·rw[ak t]
  rwa[SN (d:=p) (o:=o) (kvs:=gK (S.gap c)) (λi g j=>g=#v[↑r,.int c,none]/\j=upd H p (.c9 o (.dK (gK (S.gap c))))/\i=0) ⟨222⟩ (λi g j _ q=>[q.2.1]▸ah) ?_ ?_]
  ·rintro i C g j f ⟨rfl,rfl,rfl⟩
   let e:∃z,(S.gap c).head?\z/\kV C.1=.int z:=by
    unfold gK at f;rw[ahZ]at f
    cases q:(S.gap c)[0]? with
    |none=>rw[q]at f;ext f
    |some z=>
     rw[q]at f;erw[z,[List.head?_eq_getElem?]▸q];rw[<-Za0 f];rfl
   let⟨z,D,n⟩:=e;rw[n];erw[12,o,ah];rw[back];have:pL (S.gap c)=.int z:=by unfold pL;rw[D];rfl
   rw[<-this];rwa[k]
  ·rintro g j ⟨rfl,rfl,e⟩;erw[o,ah];rw[back];have:S.gap c=[]:=ai4 (by unfold gK at e;cbv);let n:pL (S.gap c)=.non:=by rw[this];rfl
   show Q V.non H;rw[<-n];rwa[k]
def cL:Pos:=⟨(173),(29),(173),(57)⟩
def eG:Str:=(PyProof.Rows.envOfC "ByLetters.gap" (aB jP) 0 0 .none).qual++"<lambda>"
def Kp (c:Zs)(H a:Hp):Prop:=∀b u,b≠c->H b\u->a b\u
def Kp.refl:Kp a H H:=λ_ _ _ e=>e
def Kp.trans (c:Kp a H I)(b:Kp a I J):Kp a H J:=λx u n e=>b x u n (c x u n e)
def Kp.same (b:aq H I):Kp a H I:=λx u _ e=>b x u e
def _root_.Lake.L2.cH.same {pos:Pos}(h:cH a pos x H)(s:aq H I):cH a pos x I:=h.keep λb u e _=>s b u e
def dm (S:RS)(L c:Nat)(z:Int):Prop:=c<S.q/\S.aX[c]?\c/\z∈bx (2* L)/\S.by c z=none
def rk (w c:Nat)(z:Int):Zg:=if w=0 then [(c:Int),eI z] else if w=1 then [eI z,(c:Int)] else [-(c:Int),eI z]
def ic (w:Nat)(S:RS)(L c:Nat)(z:Int):Prop:=dm S L c z/\∀a b,dm S L a b->HT.lexLt (rk w a b) (rk w c z)=false
structure GL (S:RS) (L:Nat):Prop where
 wf:S.Wf
 m:S.q<=100000
 l2:L<=200
 gp:∀c,c<S.q->S.aX[c]?\c->S.gap c=(bx (2* L)).filter λz=>(S.by c z).isNone
inductive jW (C Pt D:Zs) (w:Nat) (vs:Zb) (H:Hp) (Q:VK) (E_:XK):Prop
 |mk (o dx r:Zs) (S:RS) (a:RA) (L:Nat):vs=[↑o,↑r]->H o\.ins D dx []->ay C H r S a->GL S L->cH Pt cL eG H->((∀c z,¬dm S L c z)->∀H',Kp Pt H H'->cH Pt cL eG H'->Q .non H')->(∀(c:Nat) (z:Int),ic w S L c z->∀t H',Kp Pt H H'->cH Pt cL eG H'->H' t\.tup [.int (c:Int),.int z]->Q ↑t H')->jW C Pt D w vs H Q E_
def cu (S:RS):Zh:=(~~~S.q).filter λc=>decide (S.aX[c]?\c)
def gS:n∈cu S↔n<S.q/\S.aX[n]?\n:=by
 unfold cu;rw[ajo,ais];simp
def yK (S:RS):(cu S).Pairwise (·< ·):=List.Pairwise.filter _ ak1
def Xb (n:Nat):(bx n).Pairwise λa b=>eI a<eI b:=by
 unfold bx;rw[ajl];rwa[List.Pairwise.imp (λh=>?_) (ak1 (n:=n))];rw[J1,J1];ext
def G9 (pw:l.Pairwise λa b=>eI a<eI b){z:Int}(h:l.head?\z):z∈l/\∀y∈l,eI z<=eI y:=by
 cases l with
 |nil=>ext h
 |cons x l=>
  let e:x=z:=Za0 h;subst e;rwa[⟨ahU,λy c=>?_⟩];rcases ahR.mp c with rfl|c
  ·rwa[Int.le_refl _]
  ·rwa[Int.le_of_lt ((List.pairwise_cons.mp pw).1 y c)]
def GL.head (g:GL S n)(hc:m<S.q)(h:S.aX[m]?\m):(∀z,(S.gap m).head?\z->dm S n m z/\∀y,dm S n m y->eI z<=eI y)/\((S.gap m).head?=none->∀y,¬dm S n m y):=by
 let e:=g.gp m hc h
 let mem:∀y,dm S n m y↔y∈S.gap m:=λy=>by
  rw[e,ajo];constructor
  ·rintro ⟨_,_,d,c⟩;rwa[d,by rw[c];rfl]
  ·rintro ⟨d,c⟩;rwa[hc,h,d,by simpa using c]
 let pw:(S.gap m).Pairwise λa b=>eI a<eI b:=by rw[e];rwa[(Xb _).filter _]
 rwa[⟨λz hz=>?_,λi y f=>?_⟩]
 ·let⟨d,c⟩:=G9 pw hz;rwa[(mem z).mpr d,λy f=>c y ((mem y).mp f)]
 cbv
def eJ (S:RS)(cs:Zh):Option (Nat×Int):=cs.findSome? λc=>(S.gap c).head?.map λz=>(c,z)
def Ec (h:eJ S B=none):∀c∈B,(S.gap c).head?=none:=λc a=>by
 unfold eJ at h;rw[List.findSome?_eq_none_iff]at h;have:=h c a
 cases q:(S.gap c).head? with
 |none=>rfl
 |some z=>cbv
theorem uD {S:RS}:∀{cs:Zh} {c:Nat} {z:Int},eJ S cs\(c,z)->∃i:Nat,cs[i]?\c/\(S.gap c).head?\z/\∀j b:Nat,j<i->cs[j]?\b->(S.gap b).head?=none
 |[],_,_,h=>by ext h
 |x::cs,c,z,h=>by
  unfold eJ at h;rw[List.findSome?_cons]at h
  cases q:(S.gap x).head? with
  |some y=>
   rw[q]at h;let h:(x,y)=(c,z):=Za0 h;injection h with d a
   subst d a;rwa[(0),2,q,λj b e=>absurd e (Nat.not_lt_zero _)]
  |none=>
   rw[q]at h;let⟨i,d,a,g⟩:=uD (cs:=cs) h;rwa[⟨i+ 1,d,a,λj b e f=>?_⟩]
   cases j with
   |zero=>rw[<-Za0 f];rwa[q]
   |succ j=>exact g j b ∅ f
inductive Fm (C:Zs) (vs:Zb) (H:Hp) (Q:VK) (E_:XK):Prop
 |mk (r l:Zs) (S:RS) (a:RA) (cs:Zh):vs=[↑r,↑l]->ay C H r S a->H l\.lst (ao (nI cs))->(∀c∈cs,c<⇑S.gaps)->(eJ S cs=none->Q .non H)->(∀(c:Nat) (z:Int),eJ S cs\(c,z)->∀t,H t=none->Q ↑t (upd H t (.tup [.int (c:Int),.int z])))->Fm C vs H Q E_
def Ed {cs:Zh}(d:cs[i]?\n)(a:eJ S (cs.take i)=none):(∀z,(S.gap n).head?\z->eJ S cs\(n,z))/\((S.gap n).head?=none->eJ S (cs.take (i+ 1))=none):=by
 let e:cs.take (i+ 1)=cs.take i++[n]:=by rw[List.take_add_one,d];rfl
 constructor
 ·intro z b;let c:cs=cs.take (i+ 1)++cs.drop (i+ 1):=(ajs _ _).symm;unfold eJ at a ⊢;rw[c,e,aiL,List.findSome?_append,a,Option.none_or,akb,List.findSome?_cons,b];rfl
 ·intro b;unfold eJ at a ⊢
  cbv
def uE (T:Txt K mg A):T.mz.Ok P w base 2 (Fm A.az):=by
 rwa[T.mz.on oD (λD M m s H L Q E F h=>?_)]
 ·let⟨r,l,S,a,cs,rfl,h,n,J,u,p⟩:=h
  erw[_,{cW ah7 rfl (cO (pv 1)) (dW 2 oD.nd)
   {bC 3 oD.nd (pm (pv 0) (aI T) T.fF (iH T) F #[2]),bB (aZ sZ (pv 3) dA (bh _))
    {bf (cy #[2,3])}
    bj},bf dA}]
  rwa[iA ?_];intro o;erw[12,l,2,⟨_,aH.of n⟩];rwa[eY (K:=K) (a:=l) (xs:=ao (nI cs)) (λi f j=>∃v k,f=#v[↑r,↑l,v,k]/\j=H/\eJ S (cs.take i)=none) ⟨none,none,222⟩ (λi f j _ ζ=>by let⟨_,_,_,e,_⟩:=ζ;rwa[[e]▸aH.of n]) ?_ ?_]
  ·rintro i x f j G ⟨v,k,rfl,rfl,g⟩;let⟨z,rfl,C⟩:=cD G
   obtain⟨c,b,rfl⟩:∃c:Nat,cs[i]?\c/\z=(c:Int):=by
    unfold nI at C
    cbv
   let⟨B,I⟩:=Ed b g;erw[12,r,a.dx,12,h.ins,212,r,S,a,c,2,h,J c (ahB b)];erw[12212]
   cases d:(S.gap c).head? with
   |none=>
    let e:pL (S.gap c)=.non:=by unfold pL;rw[d];rfl
    rw[e];rwa[some (.int c),some .non,22,I d]
   |some y=>
    let e:pL (S.gap c)=.int y:=by unfold pL;rw[d];rfl
    rw[e];rwa[1212,Za4 2,λt q=>p c y (B y d) t q]
  ·rintro f j ⟨v,k,rfl,rfl,g⟩;rw[aO,bZ,ai3]at g;rwa[u g]
def C3 {a a' b b':Int}(h:a<a'\/a'=a/\b<=b'):HT.lexLt [a',b'] [a,b]=false:=by
 rw[HT.lJ,HT.lJ,HT.qE]
 cbv
def yL {b a:Int}(d:HT.lexLt [y,a] [z,b]=false)(c:HT.lexLt [z,b] [y,a]=false):y=z/\a=b:=by
 rw[HT.lJ,HT.lJ,HT.qE]at d c
 cbv
def Gj {c:Type}{R:c->c->Prop}{l:List c}(pw:l.Pairwise R){i j:Nat}{a b:c}(d:i<j)(f:l[i]?\a)(h:l[j]?\b):R a b:=by
 let⟨g,rfl⟩:=ahD.mp f;let⟨e,rfl⟩:=ahD.mp h;rwa[List.pairwise_iff_getElem.mp pw i j g e d]
def C4 (g:GL S n)(b:∀c,c∈cu S->c∈B)(h:eJ S B=none):∀c z,¬dm S n c z:=λc z a=>(g.head a.1 a.2.1).2 (Ec h c (b c (gS.mpr ⟨a.1,a.2.1⟩))) z a
def uF {w:Nat}{cs:Zh}(R:Nat->Nat->Prop)(g:GL S n)(k:∀m,m∈cs↔m∈cu S)(pw:cs.Pairwise R)(r:∀a b,R a b->∀y,HT.lexLt (rk w b y) (rk w a z)=false)(u:∀y,eI z<=eI y->HT.lexLt (rk w m y) (rk w m z)=false)(h:eJ S cs\(m,z)):ic w S n m z:=by
 let⟨i,f,p,s⟩:=uD h;let o:=gS.mp ((k m).mp (ahB f));let⟨t,v⟩:=(g.head o.1 o.2).1 z p;rwa[⟨t,λd e c=>?_⟩];let⟨j,l⟩:=aiu ((k d).mpr (gS.mpr ⟨c.1,c.2.1⟩));rcases Nat.lt_trichotomy i j with q|q|q
 ·rwa[r m d (Gj pw q f l) e]
 ·cbv
 ·rwa[absurd c ((g.head c.1 c.2.1).2 (s j d q l) e)]
def UX (g:GL S n)(h:eJ S (cu S)\(m,z)):ic 0 S n m z:=
 uF (·< ·) g (λ_=>Iff.rfl) (yK S) (λa b d y=>C3 (.inl (by omega))) (λy c=>C3 (.inr ⟨rfl,c⟩)) h
def UY (g:GL S n)(h:eJ S (cu S).reverse\(m,z)):ic 2 S n m z:=
 uF (λa b=>b<a) g (λm=>List.mem_reverse) (List.pairwise_reverse.mpr (yK S)) (λa b d y=>C3 (.inl (by omega))) (λy c=>C3 (.inr ⟨rfl,c⟩)) h
def sV (T:Txt K mg A):T.jC.Ok mg P w base 3 (jW A.az A.di A.cZ 0):=by
 rwa[T.jC.on Cu (λv D f s H C Q E k h=>?_)]
 ·let⟨o,G,r,S,a,L,rfl,F,h,g,j,p,n⟩:=h;erw[_,{bf (pc T.mz (uE T) k #[1,wy (pv 1) (aI T) T.eS (fZ T) k])}];rwa[⟨1212,r,a.dx,12,h.ins,2,r,S,a,2,h,g.wf,g.m,λl x=>?_⟩];let d:aq H (upd H l (.lst (ao (nI (cu S))))):=aq.upd x;rwa[⟨r,l,S,a,cu S,2,h.same d,ah,λc B=>[g.wf.g]▸(gS.mp B).1,λy=>p (C4 g (λ_ h=>h) y) _ (.same d) (j.same d),λc z q t m=>?_⟩];let i:=aq.upd (o:=.tup [.int (c:Int),.int z]) m;rwa[n c z (UX g q) t _ (.same λb u e=>i b u (d b u e)) ((j.same d).same i) ah]
def qY (T:Txt K mg A):T.iP.Ok mg P w base 3 (jW A.az A.di A.cG 2):=by
 rwa[T.iP.on Ae (λC M i s H J Q E m h=>?_)]
 ·let⟨o,O,r,S,a,L,rfl,N,h,g,k,x,v⟩:=h;erw[_,{bf (pc T.mz (uE T) m #[1,Ga rfl rfl T.iG rfl T.GB #[wy (pv 1) (aI T) T.eS (fZ T) m] rfl rfl])}];rwa[⟨1212,r,a.dx,12,h.ins,2,r,S,a,2,h,g.wf,g.m,λl D=>?_⟩];let F:aq H (upd H l (.lst (ao (nI (cu S))))):=aq.upd D;rwa[⟨l,12,aH.of ah,λn f=>?_⟩];let y:=aq.upd (o:=.lst (ao (nI (cu S))).reverse) f;let d:aq H (upd (upd H l (.lst (ao (nI (cu S))))) n (.lst (ao (nI (cu S))).reverse)):=λb u e=>y b u (F b u e)
  let p:(ao (nI (cu S))).reverse=ao (nI (cu S).reverse):=by unfold ao nI;rw[List.map_reverse,List.map_reverse]
  rwa[⟨r,n,S,a,(cu S).reverse,2,h.same d,by rw[<-p];rwa[ah],λc I=>[g.wf.g]▸(gS.mp (List.mem_reverse.mp I)).1,λG=>x (C4 g (λ_ h=>List.mem_reverse.mpr h) G) _ (.same d) (k.same d),λc z B t q=>?_⟩];let j:=aq.upd (o:=.tup [.int (c:Int),.int z]) q;rwa[v c z (UY g B) t _ (.same λb u e=>j b u (d b u e)) ((k.same d).same j) ah]
def j3 (S:RS)(cs:Zh):List (Nat×Int):=cs.filterMap λc=>(S.gap c).head?.map λz=>(c,z)
def yM:(n,z)∈j3 S B↔n∈B/\(S.gap n).head?\z:=by
 unfold j3;rw[akO];constructor
 ·rintro ⟨b,a,e⟩
  cases q:(S.gap b).head? with
  |none=>rw[q]at e;ext e
  |some y=>
   cbv
 cbv
def UZ {cs:Zh}(h:cs.Pairwise (·< ·)):(j3 S cs).Pairwise λp q=>p.1<q.1:=by
 unfold j3;rwa[List.pairwise_filterMap.mpr (h.imp λ{a b} e p c q d=>?_)]
 cases f:(S.gap a).head? with
 |none=>rw[f]at c;ext c
 |some y=>
  cases g:(S.gap b).head? with
  |none=>rw[g]at d;ext d
  |some x=>
   rw[f]at c;rw[g]at d;rw[<-Za0 c,<-Za0 d];rwa[e]
def MN {cs:Zh}(a:cs[i]?\n):j3 S (cs.take (i+ 1))=j3 S (cs.take i)++((S.gap n).head?.map λz=>(n,z)).toList:=by
 unfold j3;rw[show cs.take (i+ 1)=cs.take i++[n] by rw[List.take_add_one,a];rfl,List.filterMap_append,List.filterMap_cons,List.filterMap_nil];cases (S.gap n).head? <;> rfl
def U0 (g:GL S n)(h:(j3 S (cu S))[i]?\(m,z))(r:∀j d c,(j3 S (cu S))[j]?\(d,c)->eI z<=eI c/\(j<i->eI z<eI c)):ic 1 S n m z:=by
 let⟨s,p⟩:=yM.mp (ahB h);let o:=gS.mp s;rwa[⟨((g.head o.1 o.2).1 z p).1,λd c f=>?_⟩];let hd:=g.head f.1 f.2.1
 cases q:(S.gap d).head? with
 |none=>exact absurd f (hd.2 q c)
 |some y=>
  let B:=(hd.1 y q).2 c f;let⟨j,l⟩:=aiu (yM.mpr ⟨gS.mpr ⟨f.1,f.2.1⟩,q⟩);let⟨u,t⟩:=r j d y l;rwa[C3 (a:=eI z) (b:=(m:Int)) (a':=eI c) (b':=(d:Int)) ?_];cases e:eI z<eI c
  ·rwa[.inl e]
  ·rwa[.inr ⟨35⟩];rcases Nat.lt_trichotomy i j with k|k|k
   ·have:m<d:=Gj (UZ (yK S)) k h l;ext
   ·cbv
   ·have:=t k;ext
def U1 (g:GL S n)(h:j3 S (cu S)=[]):∀c z,¬dm S n c z:=λc z a=>by
 let hd:=g.head a.1 a.2.1
 cases q:(S.gap c).head? with
 |none=>exact hd.2 q z a
 |some y=>
  have:=yM.mpr ⟨gS.mpr ⟨a.1,a.2.1⟩,q⟩
  cbv
def m5 (T:Txt K mg A)(Ou:jO mg base):du P w K mg base (cY P w) 6 A.nV A.jR ["self","rooms"] (jW A.az A.di A.bJ 1):=by
 rwa[T.gX.F.okT T.lam.code m3 (λvs H Q E h=>?_) (λAA outer s H vs Q E hr h=>?_)]
 ·let⟨o,dx,r,S,a,L,rfl,_⟩:=h;rfl
 ·let⟨o,dx,r,S,a,L,rfl,ho,h,g,hT,kn,ks⟩:=h
  erw[_,{qM (iy:=2) m3.nd rfl (Or.inl rfl) (fns:=["rooms"]) (ixs:=[1]) (cl:=_) rfl (cO (wy (pv 1) (aI T) T.eS (fZ T) hr)) (lK rfl rfl ⋯ rfl ⋯ rfl ⋯ ⋯ rfl rfl rfl rfl) (λC s H ex=>(aZ sZ (pm (pv 1) (aI T) T.fF (iH T) hr #[0]) dA (bh _))) (λC s H ex=>(cy #[0,pm (pv 1) (aI T) T.fF (iH T) hr #[0]])),bf (Qj (x:="gap") (k:=2) rfl rfl T.GA (pv 2) rfl T.lam.hd rfl rfl Ou hr.Za5 (by ac_rfl) (λ_ _ _ _=>rfl) (λ_ _ _ _ _ _ Fj=>xR (Eb T) (Fj.mono ⋯) rfl T.mS.m T.mS.F.kp T.mS.b .nil gq #[bF (EF (K:=K) rfl) (pv 0) au (λ_ _=>rfl)]) rfl rfl)}]
  rwa[iA ?_];intro fV;rwa[⟨12,r,a.dx,12,h.ins,2,r,S,a,2,h,g.wf,g.m,λl hl=>?_⟩];let s1:aq H (upd H l (.lst (ao (nI (cu S))))):=aq.upd hl;let J:upd H l (.lst (ao (nI (cu S)))) l\(.lst (ao (nI (cu S)))):=ah;rw[show ((~~~S.q).filter λc=>decide (S.aX[c]?\c))=cu S from rfl];change upd H l (.lst (ao (nI (cu S))))=H1 at s1 J;let h1:=h.same s1;let R:=hT.same s1;let YF:⇑(cu S)<=S.q:=ahP (ajK _ _) (by cbv);let hgm:=g.m;let el:⇑(ao (nI (cu S)))=⇑(cu S):=by rw[aO,bZ]
  erw[l,2,⟨_,aH.of J⟩];erw[λi m ys Z=>m=⇑(cu S) - i/\i<=⇑(cu S)/\aq H1 Z/\∃d:Zn,ys=d.map V.ref/\⇑d<=i/\Each (λt (p:Nat×Int)=>Z t\.tup [.int (p.1:Int),.int p.2]) d (j3 S ((cu S).take i)),⟨⇑(cu S),by simp,ah2 _,λ_ _ e=>e,[],2,ahG _,2,λi p x e=>by simp at e⟩];rintro i m ys Z ⟨rfl,hi,G,d,rfl,YG,B⟩;let N:=G^J;let h2:=h1.same G;cases U:i<⇑(cu S)
  ·rwa[.inr ⟨i3 (aH.of N) i ∅,[ahE]▸ahK (ahP YG (show i<=100000 by omega)) ⋯,λx H3 U2=>?_⟩];let⟨rfl,hx⟩:=g6 (aH.of N) i x H3 ∅ U2;let⟨z,rfl,hz⟩:=cD hx
   obtain⟨c,X,rfl⟩:∃c:Nat,(cu S)[i]?\c/\z=(c:Int):=by
    unfold nI at hz
    cbv
   let nJ:c<⇑S.gaps:=by rw[g.wf.g];rwa[(gS.mp (ahB X)).1]
   let et:=MN (S:=S) X;erw[12,r,a.dx,12,h2.ins,212,r,S,a,c,2,h2,nJ,212]
   cases hg:(S.gap c).head? with
   |none=>
    let e:pL (S.gap c)=.non:=by unfold pL;rw[hg];rfl
    rw[e];erw[⇑(cu S) - (i+ 1),32,U,G,d,23];rw[et,hg];simpa using B
   |some y=>
    let e:pL (S.gap c)=.int y:=by unfold pL;rw[hg];rfl
    rw[e];rwa[⟨1212,r,a.dx,12,h2.ins,212,r,S,a,c,2,h2,nJ,Za4 2,λt hnt=>?_⟩];let v:=aq.upd (o:=.tup [.int (c:Int),pL (S.gap c)]) hnt;erw[⇑(cu S) - (i+ 1),32,U,λb u q=>v b u (G b u q),d++[t],by cbv,by rw[ahA,aiM];ext];rw[et,hg];rwa[(B.imp λp x _ _ q=>v^q).snoc ?_];show upd H3 t _ t=_;rw[ah,e]
  ·let e:i=⇑(cu S):=∅
   subst e;rw[ai3]at B;rwa[.inl ⟨by rw[<-el];rwa[fL (aH.of N)],[ahE]▸ahP YG (ahP (show ⇑(cu S)<=100000 by omega) ⋯),λD hD=>?_⟩];let v:=aq.upd (o:=.lst (d.map V.ref)) hD;let YH:upd Z D (.lst (d.map V.ref)) D\(.lst (d.map V.ref)):=ah;change upd Z D (.lst (d.map V.ref))=H3 at v YH;let Y:aq H H3:=λb u q=>v b u (G b u (s1 b u q))
   rwa[⟨12,D,d.map V.ref,λj=>eI ((j3 S (cu S)).getD j (0,0)).2,2,aH.of YH,(R.same G).same v,λH4 YJ k4=>⟨λj y M=>?_,λe=>?_,λj y M hb=>?_⟩⟩]
   ·let I:j<⇑(j3 S (cu S)):=by rw[<-B.1,<-ahE (f:=V.ref)];rwa[(ahD.mp M).1]
    let⟨t,O,q⟩:=B.at (ahC I);rw[ahZ,O]at M;let e:=Za0 M;subst e
    let q4:H4 t=_:=k4 t _ (λz=>by
     let q3:=v^q;rcases (R.same G).same v with w|⟨_,_,_,_,w,_⟩
     ·rw[z,w]at q3;ext q3
     cbv) (v^q)
    rwa[⟨12,t,11122,bG.of q4,21252⟩]
    cbv
   ·have:d=[]:=List.map_eq_nil_iff.mp e;let e2:j3 S (cu S)=[]:=ai4 (by rw[<-B.1,this];rfl);rwa[kn (U1 g e2) H4 (λb u n q=>k4 b u n (Y b u q)) YJ]
   ·let I:j<⇑(j3 S (cu S)):=by rw[<-B.1,<-ahE (f:=V.ref)];rwa[(ahD.mp M).1]
    let F:=ahC I;change (j3 S (cu S))[j]=p at F;let⟨t,O,q⟩:=B.at F;rw[ahZ,O]at M;let e:=Za0 M;subst e;let q3:=v^q
    let q4:H4 t=_:=k4 t _ (λz=>by
     rcases (R.same G).same v with w|⟨_,_,_,_,w,_⟩
     ·cbv
     cbv) q3
    let kv:∀{n:Nat} {x:Nat×Int},(j3 S (cu S))[n]?\x->eI ((j3 S (cu S)).getD n (0,0)).2=eI x.2:=λ{n x} hx=>by cbv
    rwa[ks p.1 p.2 (U0 g F λn c' z' hn=>?_) t H4 (λb u n q=>k4 b u n (Y b u q)) YJ q4];have:=hb n ([ahE,B.1]▸(ahD.mp hn).1);dsimp only at this;rw[kv F,kv hn]at this;rwa[this]
noncomputable def U4:Zh:=[114,111,111,109,115]
noncomputable def MV:Zh:=[108,101,116,116,101,114,115]
noncomputable def U6:Zh:=[110,101,119,101,115,116]
def New (C:Zs)(H:Hp)(Q:VK):Prop:=∀x d,H x=none->H d=none->d≠x->Q ↑x (upd (upd H d (.own x)) x (.ins C d []))
def J9 (e d f a:Zs):Sp:=λb H Q E=>∃t:Zh,b=[.str (tx t)]/\⇑t<=100/\(∀c∈t,32<=c/\c<=126)/\(t=U4->New d H Q)/\(t=MV->New f H Q)/\(t=U6->New a H Q)/\(t≠U4->t≠MV->t≠U6->E ↑e none H)
def eV {b:Zh}:(V.str (tx B)=V.str (tx b))↔B=b:=⟨λh=>RW (V.str.inj h),λh=>by rw[h]⟩
def Ee (T:Txt K mg A):du P w K mg base (cY P w) 1 A.wJ A.wL ["name"] (J9 A.cq A.cZ A.bJ A.cG):=by
 rwa[T.qi.F.TK DZ (λg H Q E h=>?_) (λk y a s H g Q E p h=>?_)]
 ·let⟨t,rfl,_⟩:=h;rfl
 ·let⟨t,rfl,B,v,i,b,u,o⟩:=h
  erw[_,{bB (aZ dJ (pv 0) (cR (l:=[114,111,111,109,115]) rfl) (bh _))
   {bf (uX T.Mm T.Mq T.Mp rfl T.QD)}
   bj,bB (aZ dJ (pv 0) (cR (l:=[108,101,116,116,101,114,115]) rfl) (bh _))
    {bf (uX T.Cj T.Cm T.Ck rfl T.DW)}
    bj,bB (aZ dJ (pv 0) (cR (l:=[110,101,119,101,115,116]) rfl) (bh _))
    {bf (uX T.Ji T.Jk T.Jj rfl T.L4)}
    bj,IK (E:=E) rfl rfl T.sJ T.Jl (za (tu (cR (l:=[116,104,101,114,101,32,105,115,32,110,111,32,111,114,100,101,114,32]) rfl) (tu (Lv (pv 0)) HL))) Xz rfl rfl (by decide)}]
  rwa[iB ?_];intro m x d;erw[12212];rwa[bR (λh=>?_) (λf=>?_)]
  ·rwa[i (eV.mp (aia h))]
  erw[12212];rwa[bR (λh=>?_) (λj=>?_)]
  ·rwa[b (eV.mp (aia h))]
  erw[12212];rwa[bR (λh=>?_) (λc=>?_)]
  ·rwa[u (eV.mp (aia h))]
  rwa[⟨12412,t,2,v,3,λr p=>⟨r,255,o (λz=>f (ah9 (eV.mpr z))) (λz=>j (ah9 (eV.mpr z))) (λz=>c (ah9 (eV.mpr z)))⟩⟩]
  ·let e:∀n:Nat,n<=100->n+ ⇑r<=1000000:=λn q=>∅
   rwa[e _ ⋯]
  ·rw[ahA];let e:∀n:Nat,n<=100->n+ ⇑r<=1000000:=λn q=>∅
   rwa[e _ ⋯]
def qA {r:Zs}(h:ay a H r S O){d:Zs}{o:HO}(g:H d\o)(j:∀p q c,o≠.ins p q c)(i:∀b,o≠.lst b)(k:∀b,o≠.dK b):¬O.own r d:=λf=>by
 rcases f with q|q|q
 ·have:=h.ins;cbv
 ·let⟨b,e⟩:=h.Nr q;cbv
 ·let⟨b,e⟩:=h.qH q;cbv
def QO {r:Zs}(h:ay a H r S O){p:Zs}{c:Zb}(b:H p\.tup c):¬O.own r p:=qA h b (by cbv) (by cbv) (by cbv)
def QP {C:Zs}{x:Zs}(nx:H x=none)(c:H a=none)(d:a≠x)(k:∀b o,upd (upd H a (.own x)) x (.ins C a []) b\o->b≠x->I b\o)(g:∀b,O.own x b->b=x\/upd (upd H a (.own x)) x (.ins C a []) b=none):aq H I/\∀b,O.own x b->H b=none:=by
 let f:aq H (upd (upd H a (.own x)) x (.ins C a [])):=(aq.upd c).trans (aq.upd ([ak d.symm]▸nx));rwa[λb o e=>k b o (f^e) (ax e nx),λb z=>(g b z).elim (λe=>[e]▸nx) (same_none f)]
def OG (p:Zs)(H a:Hp):Prop:=∀q o,q≠p->H q\o->a q\o
def OG.upd {o:HO}:OG a H (upd H a o):=λq u n e=>[ak n]▸e
def _root_.Lake.L2.dO.but {rs:Zn}{rows:Za3}{w:Zs}(h:dO H rs rows)(b:OG w H I)(c:w∉rs):dO I rs rows:=⟨h.1,λi r ns a d=>b _ _ (λz=>c (by rw[<-z];rwa[ahB a])) (h.2 i r ns a d)⟩
def MP {rows:Za3}(h:dO H F rows){r:Zs}(c:r∈F):∃d,H r\(.lst (ao d)):=by
 let⟨i,b,e⟩:=ajw.mp c;let a:i<⇑rows:=by rw[<-h.1];rwa[b]
 rwa[_,h.2 i r _ (by rw[ahC b,e]) (ahC a)]
def _root_.Lake.L2.dO.snoc {rs:Zn}{rows:Za3}{r:Zs}{ns:Zg}(h:dO H rs rows)(e:H r\.lst (ao ns)):dO H (rs++[r]) (rows++[ns]):=by
 rwa[⟨by rw[ahA,ahA,h.1];rfl,λi q d b a=>?_⟩];cases c:i<⇑rs
 ·rw[ahN c]at b;rw[ahN (by rw[<-h.1];rwa[c])]at a;rwa[h.2 i q d b a]
 ·rw[ahO ∅]at b;rw[ahO (by rw[<-h.1];omega)]at a;rw[ahH.mp (ahB b),ahH.mp (ahB a)];rwa[e]
def bK (S:RS)(k c:Nat):Nat:=(S.by c (M12.st k)).getD 0
inductive xD (C:Zs) (vs:Zb) (H:Hp) (Q:VK) (E_:XK):Prop
 |mk (r:Zs) (S:RS) (a:RA) (Z:Nat->Prop):vs=[↑r]->ay C H r S a->1<=S.L->S.L<=40->S.q<=300->⇑S.ways=S.q->Z 0->(∀c,Z c->c<S.q/\∀k,k<2* S.L->∃d,S.by c (M12.st k)=some d/\Z d)->(∀l N H',aq H H'->H l=none->TabAt H' l (M24.vd (bK S) (2* S.L) (M24.bM (bK S) (2* S.L) 0 N))->⇑(M24.bM (bK S) (2* S.L) 0 N)=N->Q ↑l H')->xD C vs H Q E_
def vB (a:List (Key×V))(found:Zh):Prop:=⇑a<=⇑found/\∀c:Nat,bA a (Sum.inl (c:Int))=if c∈found then some (V.int (M24.ix found c:Int)) else none
def vB.one:vB [(Sum.inl 0,.int 0)] [0]:=⟨ahG _,λc=>by
 cases h:c=0
 ·subst h;rfl
 ·rw[ahY (λq=>h (ahH.mp q))];show bA (putK [] (Sum.inl 0) (.int 0)) (Sum.inl (c:Int))=none;rw[pY,ahY (λq=>by injection q with q;omega)];rfl⟩
def vB.put {c:List (Key×V)}{found:Zh}(h:vB c found)(nd:found.Nodup)(hc:n∉found):vB (putK c (Sum.inl (n:Int)) (.int (⇑found:Int))) (found++[n]):=by
 let g:(found++[n]).Nodup:=by
  rw[aiD];rwa[nd,by simp,λa i b j=>by cbv]
 rwa[⟨5,λf=>?_⟩]
 ·have:=hH c (Sum.inl (n:Int)) (.int (⇑found:Int));have:=h.1;rw[ahA,aiM];ext
 rw[pY];cases e:f=n
 ·subst e;rw[ah4 rfl,ah4 (ahI _ ahU),M24.T7 hc]
 ·rw[ahY (λq=>e (by injection q with q;omega)),h.2];cases d:f∈found
  ·rw[ah4 d,ah4 (ah3 _ d),M24.I7 g d]
  cbv
structure NS (H0 H:Hp) (lf d lr:Zs) (ts:Zn) (kvs:List (Key×V)) (found:Zh) (Tb:Za3):Prop where
 same:aq H0 H
 f1:H lf\(.lst (ao (nI found)))
 d1:H d\(.dK kvs)
 nm:vB kvs found
 r1:H lr\(.lst (ts.map V.ref))
 r2:dO H ts Tb
 un:(lf::lr::ts).Nodup
 new:∀x∈lf::lr::ts,H0 x=none
 dn:H0 d=none
section
variable {H0 H H':Hp}{lf d lr:Zs}{ts:Zn}{kvs:List (Key×V)}{found:Zh}{Tb:Za3}
def NS.more (h:NS H0 H lf d lr ts kvs found Tb)(s:aq H H'):NS H0 H' lf d lr ts kvs found Tb:=
 ⟨h.same.trans s,s^h.f1,s^h.d1,h.nm,s^h.r1,h.r2.same s,h.un,h.new,h.dn⟩
def NS.ne (h:NS H0 H lf d lr ts kvs found Tb):lf≠lr/\lf∉ts/\lr∉ts/\ts.Nodup:=by
 let a:=aih.mp h.un
 cbv
def NS.add (h:NS H0 H lf d lr ts kvs found Tb)(nd:found.Nodup){c:Nat}(hc:c∉found):NS H0 (upd (upd H d (.dK (putK kvs (Sum.inl (c:Int)) (.int (⇑found:Int))))) lf (.lst (ao (nI found)++[.int (c:Int)]))) lf d lr ts (putK kvs (Sum.inl (c:Int)) (.int (⇑found:Int))) (found++[c]) Tb:=by
 let⟨j,k,n,m⟩:=h.ne;let dl:∀b g,H b\.lst g->b≠d:=λb g e=>bT e h.d1 (by cbv)
 rwa[⟨λb o e=>?_,55,h.nm.put nd hc,5,⟨h.r2.1,λi q ns f l=>?_⟩,h.un,h.new,h.dn⟩]
 ·rw[ak (ax e (h.new lf ahU)),ak (ax e h.dn)];rwa[h.same^e]
 ·rw[ah,iu,ints_app];rfl
 ·rw[ak (aiU (dl lf _ h.f1)),ah]
 ·rw[ak (aiU j),ak (dl lr _ h.r1)];rwa[h.r1]
 ·let a:=h.r2.2 i q ns f l;rw[ak (λe=>k (by rw[<-e];rwa[ahB f])),ak (dl q _ a)];rwa[a]
def NS.row (h:NS H0 H lf d lr ts kvs found Tb){q:Zs}{row:Zg}(f:H q\.lst (ao row))(p:H0 q=none)(c:q∉lf::lr::ts):NS H0 (upd H lr (.lst ((ts++[q]).map V.ref))) lf d lr (ts++[q]) kvs found (Tb++[row]):=by
 let⟨g,k,m,i⟩:=h.ne;simp only[ahR,not_or]at c;let⟨j,l,n⟩:=c;rwa[⟨λb o e=>?_,55,h.nm,ah,55,λx a=>?_,h.dn⟩]
 ·rw[ak (ax e (h.new lr (aie _ ahU)))];rwa[h.same^e]
 ·rw[ak g];rwa[h.f1]
 ·rw[ak (bT h.d1 h.r1 (by cbv))];rwa[h.d1]
 ·rwa[dO.but (w:=lr) (h.r2.snoc f) OG.upd ?_]
  cbv
 ·cbv
 ·rw[<-akb,<-akb]at a;rcases ahL.mp a with a|a
  ·rwa[h.new x a]
  cbv
end
def Ef (T:Txt K mg A):T.numbered.Ok P w base 2 (xD A.az):=by
 rwa[T.numbered.on fS (λcC AA outer s H vs Q E hr h=>?_)]
 ·let⟨r,S,a,Z,rfl,hR,kX,uB,hm,hw,hZ0,hZ,k⟩:=h;let qX:=iJ hr
  erw[_,{bC 1 fS.nd (pc T.qh (uz T) hr #[0<<<1]),bC 2 fS.nd (bV #[au]),bC 3 fS.nd (Pq (KS au au Pp) rfl rfl (by simp) ⋯),bC 4 fS.nd (bV aj),bE (gJ ah7 (aZ lI (4<<<0) (2<<<0) (bh _))
    {kx (iy:=5) fS.nd rfl (Or.inl rfl) (fns:=["rows","rooms","found"]) (ixs:=[4,0,2]) (cl:=_) rfl (cO (pv 1)) (F7 rfl rfl rfl rfl ⋯ rfl ⋯ rfl ⋯ ⋯ rfl rfl rfl rfl rfl rfl rfl rfl rfl rfl) (λC s H ex=>(pm (pv 2) (aI T) T.iF (hU T) hr #[bF (A7 (K:=K) rfl) (pv 3) (bq (zO (K:=K) rfl) rfl T.fj aix #[1]) (λ_ _=>rfl),0])),cW ah7 rfl (cO (pv 5)) (dW 6 fS.nd)
     {bE (bB (Rb (HK qX (pv 6) (pv 3)) (by first|rwa[Km _ (by decide) (by decide)]|rfl))
      {tq qX (pv 3) (pv 6) (2<<<0) rfl,aV (cM ahM ahV ahW bH (pv 2) #[6])}
      bj)},aV (cM ahM ahV ahW bH (pv 4) #[jn (fns:=["numbers"]) (ixs:=[3]) (cl:=_) rfl (cO (pv 5)) (lK rfl rfl ⋯ rfl ⋯ rfl ⋯ ⋯ rfl rfl rfl rfl) (λC s H ex=>(EA qX (pv 1) (pv 0) (λ_ _=>rfl)))])}),bf (pv 4)}]
  rwa[mD ?_];intro oh lF ja fI fV;rwa[⟨12,r,_,a.dx,112,hR.ins,aI T,T.sL,vU^_,S.L,2,kX,3,λsl H1 s1 hs1=>?_⟩];rwa[⟨Za4 1,λp C5=>?_⟩];let s2:=aq.upd (o:=.lst [.int 0]) C5;let C6:upd H1 p (.lst [.int 0]) p\(.lst (ao (nI [0]))):=ah;change upd H1 p (.lst [.int 0])=H2 at s2 C6 ⊢;intro d hd;erw[ah,[(Sum.inl 0,.int 0)],2,by show 1<=15;decide];generalize Bv:upd (upd H2 d (.dK [])) d _=H3;let YK:H3 d\(.dK [(Sum.inl 0,.int 0)]):=by rw[<-Bv,ah];rfl
  let s3:aq H2 H3:=λb o e=>by rw[<-Bv,ak (ax e hd),ak (ax e hd)];rwa[e]
  clear Bv;rwa[⟨ah2 _,λl U9=>?_⟩];let s4:=aq.upd (o:=.lst []) U9;let Va:upd H3 l (.lst []) l\(.lst (([]:Zn).map V.ref)):=ah;change upd H3 l (.lst [])=H4 at s4 Va ⊢
  let B4:NS H1 H4 p d l [] [(Sum.inl 0,.int 0)] (M24.bM (bK S) (2* S.L) 0 0) (M24.oy (bK S) (2* S.L) 0 0):=by
   let Vb:H2 l=none:=s3.free U9;let e:p≠l:=λz=>by cbv
   rwa[⟨(s2.trans s3).trans s4,(s3.trans s4) _ _ C6,s4^YK,vB.one,Va,⟨2,λi r ns h1=>by simp at h1⟩,by simp[e],λx hx=>?_,s2.free hd⟩];simp only[ahR,ail,ajN]at hx;rcases hx with e|e
   ·rw[e];rwa[C5]
   ·rw[e];rwa[s2.free Vb]
  clear s2 s3 s4 C6 YK Va C5 hd U9
  let nJ:∀y i,Z y->i<2* S.L->Z (bK S i y):=λy i hy B=>by
   let⟨d,e1,e2⟩:=(hZ y hy).2 i B;unfold bK;rw[e1];rwa[e2]
  let oZ:∀n,∀z∈M24.bM (bK S) (2* S.L) 0 n,Z z:=M24.tN hZ0 nJ;let Y:∀n,⇑(M24.bM (bK S) (2* S.L) 0 n)<=300:=λn=>ahP (M11.kL S.q _ (M24.oW _ _ _ n) λz R=>(hZ z (oZ n z R)).1) hm
  erw[λ ik H'=>∃(N:Nat) (G:Zn) (f:List (Key×V)) (v5 M:Zc),ik=#v[↑r,↑sl,↑p,↑d,↑l,v5,M]/\NS H1 H' p d l G f (M24.bM (bK S) (2* S.L) 0 N) (M24.oy (bK S) (2* S.L) 0 N)/\⇑(M24.bM (bK S) (2* S.L) 0 N)=N,5]
  ·erw[λm σ H'=>∃(n:Nat) (G:Zn) (f:List (Key×V)) (v5 M:Zc),m=300 - n/\σ=#v[↑r,↑sl,↑p,↑d,↑l,v5,M]/\NS H1 H' p d l G f (M24.bM (bK S) (2* S.L) 0 n) (M24.oy (bK S) (2* S.L) 0 n)/\n<=⇑(M24.bM (bK S) (2* S.L) 0 n),⟨_,(0),[],_,none,none,22,B4,ah2 _⟩];rintro m σ H5 ⟨n,G,f,v5,M,rfl,rfl,O,hn⟩;let hop:=Y n
   let X:⇑G=n:=by
    rw[O.r2.1];unfold M24.oy;rw[ahE,aif];ext
   erw[12,l,12,.inl (aH.of O.r1),12,p,12,.inl (aH.of O.f1),112212];rwa[bR (λh=>?_) (λh=>?_)]
   ·let j1:n<⇑(M24.bM (bK S) (2* S.L) 0 n):=by
     let h':(⇑(G.map V.ref):Int)<(⇑(ao (nI (M24.bM (bK S) (2* S.L) 0 n))):Int):=aia h;rw[aO,bZ,ahE,X]at h';ext
    clear h;let F:=ahC j1;change (M24.bM (bK S) (2* S.L) 0 n)[n]=c at F;let Vc:=oZ n c (ahB F);let hcm:=(hZ c Vc).1;erw[_,λ ik H' h=>h];let R5:ay A.az H5 r S a:=hR.same (s1.trans O.same);let D:=O.same^hs1;erw[12,sl,2,⟨_,aH.of D⟩];rwa[kI (ao ((~~~(2* S.L)).map M12.st)) (λv=>match v with|.int z=>.int (((S.by c z).getD 0:Nat):Int)|v=>v) (i3 (aH.of D)) (g6 (aH.of D)) (fL (aH.of D)) ([aO,ahE,air]▸ahP (show 2* S.L<=1000 by omega) ⋯) (λi v hv Rr J=>?_) (λlo Vd=>?_)]
    ·let⟨z,rfl,R⟩:=cD hv
     let B:i<2* S.L:=by
      have:=(ahD.mp R).1;rw[ahE,air]at this;rwa[this]
     let ez:M12.st i=z:=Za0 ((xm B).symm.trans R);let⟨dd,e1,e2⟩:=(hZ c Vc).2 i B;rw[ez]at e1;erw[12,r,a.dx,12,R5.ins,cS _ _ _ ⋯,1212,l,12,.inl (aH.of O.r1),p,11122,aH.of O.f1,([ahE,X]▸dB (cQ (jM F))),12,r,S,a,c,z,2,R5,[hw]▸hcm]
     cbv
    let eo:(ao ((~~~(2* S.L)).map M12.st)).map (λv=>match v with|.int z=>V.int (((S.by c z).getD 0:Nat):Int)|v=>v)=ao (nI ((~~~(2* S.L)).map λi=>bK S i c)):=by
     unfold ao nI;rw[aip,aip,aip,aip];rfl
    rw[eo];clear eo;let s6:=aq.upd (o:=.lst (ao (nI ((~~~(2* S.L)).map λi=>bK S i c)))) Vd;let Ve:upd H5 lo (.lst (ao (nI ((~~~(2* S.L)).map λi=>bK S i c)))) lo\(.lst (ao (nI ((~~~(2* S.L)).map λi=>bK S i c)))):=ah;change upd H5 lo (.lst (ao (nI ((~~~(2* S.L)).map λi=>bK S i c))))=H6 at s6 Ve ⊢;let n1:lo≠p:=λz=>by rw[z,O.f1]at Vd;ext Vd
    let Tj:∀i,i<2* S.L->((~~~(2* S.L)).map λi=>bK S i c)[i]?\(bK S i c):=λi B=>by rw[ahZ,akD B];rfl
    erw[12,lo,2,⟨_,aH.of Ve⟩];rwa[eY (K:=K) (a:=lo) (xs:=ao (nI ((~~~(2* S.L)).map λi=>bK S i c))) (λi σ U=>∃(f:List (Key×V)) (M:Zc),σ=#v[↑r,↑sl,↑p,↑d,↑l,↑lo,M]/\NS H1 U p d l G f (M24.kg (bK S) c (M24.bM (bK S) (2* S.L) 0 n) i) (M24.oy (bK S) (2* S.L) 0 n)/\U lo\.lst (ao (nI ((~~~(2* S.L)).map λi=>bK S i c)))) ⟨f,M,2,O.more s6,Ve⟩ (λi σ U _ ζ=>by let⟨_,_,_,_,h⟩:=ζ;rwa[aH.of h]) ?_ ?_]
    ·rintro i y σ U B ⟨f,M,rfl,g,u⟩
     let Vf:i<2* S.L:=by
      have:=(ahD.mp B).1;rw[aO,bZ,ahE,air]at this;rwa[this]
     rw[cQ (jM (Tj i Vf))]at B;let ey:=Za0 B;subst ey
     let UE:⇑(M24.kg (bK S) c (M24.bM (bK S) (2* S.L) 0 n) i)<=300:=ahP (M11.kL S.q _ (M24.tM (M24.oW _ _ _ n) i) λz R=>by
      rcases M24.kh.mp R with q|⟨j,hj,rfl⟩
      ·rwa[(hZ z (oZ n z q)).1]
      ·rwa[(hZ _ (nJ c j Vc (by omega))).1]) hm
     let YL:(M24.kg (bK S) c (M24.bM (bK S) (2* S.L) 0 n) i).Nodup:=M24.tM (M24.oW _ _ _ n) i;let Vg:=M24.nK (bK S) c (M24.bM (bK S) (2* S.L) 0 n) i;change M24.kg (bK S) c (M24.bM (bK S) (2* S.L) 0 n) i=come at Vg g UE YL;rw[Vg];clear Vg;change bK S i c=o;rwa[⟨15,λ_ _ h=>h⟩];erw[1212,d,12,gf.k (k:=Sum.inl (o:Int)) g.d1,12];rw[g.nm.2 o];cases L:o∈come
     ·rw[ah4 L];rwa[dh ⟨f,125,u⟩];unfold M24.add;rw[ah4 L];rwa[g]
     ·rw[ahY L];rwa[hV ?_];let B8:=g.add YL L;let abl:(⇑(ao (nI come)):Int)=(⇑come:Int):=by rw[aO,bZ]
      erw[12,p,12,.inl (aH.of g.f1),1212,d,12,rJ.k (k:=Sum.inl (o:Int)) g.d1 (ahK (show ⇑f<=300 by have:=g.nm.1;omega) ⋯)];let YM:upd U d (.dK (putK f (Sum.inl (o:Int)) (.int (⇑(ao (nI come)):Int)))) p\(.lst (ao (nI come))):=by rw[ak (bT g.f1 g.d1 (by cbv))];rwa[g.f1]
      erw[12,.inl ⟨21,aH.of YM⟩,12,p,1122,YM,5]
      ·rw[aO,bZ];rwa[ahK UE ⋯]
      rw[abl];erw[putK f (Sum.inl (o:Int)) (.int (⇑come:Int)),125]
      ·unfold M24.add;rw[ahY L];rwa[B8]
      ·rw[ak n1,ak (bT u g.d1 (by cbv))];rwa[u]
    ·rintro σ U ⟨f,M,rfl,g,u⟩;rw[aO,bZ,ahE,air,<-M24.iD F]at g;let agc:=Y (n+ 1);let⟨t,ht⟩:=M24.BF (bK S) (2* S.L) 0 n;let Fd:n+ 1<=⇑(M24.bM (bK S) (2* S.L) 0 (n+ 1)):=by rw[ht,ahA];ext
     let hin:∀i,i<2* S.L->bK S i c∈M24.bM (bK S) (2* S.L) 0 (n+ 1):=λi B=>by rw[M24.iD F];rwa[M24.kh.mpr (.inr ⟨i,B,2⟩)]
     erw[12,.inl ⟨21,aH.of g.r1⟩,12,lo,2,⟨_,aH.of u⟩];rwa[kI (ao (nI ((~~~(2* S.L)).map λi=>bK S i c))) (λv=>match v with|.int z=>.int ((M24.ix (M24.bM (bK S) (2* S.L) 0 (n+ 1)) z.toNat:Nat):Int)|v=>v) (i3 (aH.of u)) (g6 (aH.of u)) (fL (aH.of u)) ([aO,bZ,ahE,air]▸ahP (show 2* S.L<=1000 by omega) ⋯) (λi v hv Rr J=>?_) (λlq I=>?_)]
     ·let⟨z,rfl,R⟩:=cD hv
      let B:i<2* S.L:=by
       have:=(ahD.mp R).1;rw[bZ,ahE,air]at this;rwa[this]
      let ez:((bK S i c:Nat):Int)=z:=Za0 ((jM (Tj i B)).symm.trans R);subst ez;let J:Rr (.int ((M24.ix (M24.bM (bK S) (2* S.L) 0 (n+ 1)) (((bK S i c:Nat):Int)).toNat:Nat):Int)) U:=J;rw[aic]at J;rwa[⟨1212,d,125,J⟩];have:=gf.k (k:=Sum.inl ((bK S i c:Nat):Int)) g.d1;rw[g.nm.2,ah4 (hin i B)]at this;rwa[this]
     let eo:(ao (nI ((~~~(2* S.L)).map λi=>bK S i c))).map (λv=>match v with|.int z=>V.int ((M24.ix (M24.bM (bK S) (2* S.L) 0 (n+ 1)) z.toNat:Nat):Int)|v=>v)=ao ((~~~(2* S.L)).map λi=>((M24.ix (M24.bM (bK S) (2* S.L) 0 (n+ 1)) (bK S i c):Nat):Int)):=by
      unfold ao nI;rw[aip,aip,aip,aip];rfl
     rw[eo];clear eo;let s8:=aq.upd (o:=.lst (ao ((~~~(2* S.L)).map λi=>((M24.ix (M24.bM (bK S) (2* S.L) 0 (n+ 1)) (bK S i c):Nat):Int)))) I;let YN:upd U lq (.lst (ao ((~~~(2* S.L)).map λi=>((M24.ix (M24.bM (bK S) (2* S.L) 0 (n+ 1)) (bK S i c):Nat):Int)))) lq\(.lst (ao ((~~~(2* S.L)).map λi=>((M24.ix (M24.bM (bK S) (2* S.L) 0 (n+ 1)) (bK S i c):Nat):Int)))):=ah;change upd U lq (.lst (ao ((~~~(2* S.L)).map λi=>((M24.ix (M24.bM (bK S) (2* S.L) 0 (n+ 1)) (bK S i c):Nat):Int))))=H8 at s8 YN ⊢
     let nq:lq∉p::l::G:=by
      simp only[ahR,not_or];rwa[⟨λz=>?_,λz=>?_,λz=>?_⟩]
      ·rw[z,g.f1]at I;ext I
      ·rw[z,g.r1]at I;ext I
      ·let⟨ns,e⟩:=MP g.r2 z
       cbv
     let B8:=(g.more s8).row YN (g.same.free I) nq;rw[<-M24.I8 F]at B8;erw[l,1122,s8^g.r1,5]
     ·rw[ahE,X];rwa[ahK (show n<=300 by omega) ⋯]
     rw[aid]at B8;rwa[300 - (n+ 1),3,n+ 1,G++[lq],f,1122,B8,Fd]
   ·erw[n,G,f,112,O];let h':¬(⇑(G.map V.ref):Int)<(⇑(ao (nI (M24.bM (bK S) (2* S.L) 0 n))):Int):=λq=>h (ah9 q)
    rw[aO,bZ,ahE,X]at h';ext
  rintro ik H' ⟨N,G,f,v5,M,rfl,B',hN⟩;rwa[⟨12,k l N H' (s1.trans B'.same) (s1.free (B'.new l (aie _ ahU))) ⟨G,B'.r1,5⟩ hN⟩];rw[<-M24.LZ hN];rwa[B'.r2]
inductive Ka (K:Za1) (vs:Zb) (H:Hp) (Q:VK) (E_:XK):Prop
 |mk (a:Zs) (ns:Zg) (k:Nat):vs=[↑a,.int k]->aH K H a (ao ns)->k<=1000->(∀z,Q (.int z) H)->Ka K vs H Q E_
def bp (T:Txt K mg A):T.bz.Ok P w base 1 (Ka K):=by
 rwa[T.bz.on xi (λi l c s H j Q E m h=>?_)]
 ·let⟨a,b,n,rfl,d,o,k⟩:=h
  refine⟨_,{bB (aZ lI (pv 1) (0<<<0) (bh _))
   {bf (0|||1)}
   bj,bf au},?_⟩
  rwa[iA ?_];intro f;erw[1212,a,12,.inl d,112212];rwa[bR (λh=>?_) (λh=>?_)]
  ·let g:(n:Int)<(⇑(ao b):Int):=aia h;rw[aO]at g;let e:b[n]?=some b[n]:=ahC ∅
   rwa[1212,a,11122,d,dB (cQ e),k _]
  ·rwa[k _]
def QQ:Sp:=λa H Q _=>∃n:Int,a=[.int n]/\Q (.bl true) H
def qZ (T:Txt K mg A):T.lP.Ok P w base 1 QQ:=by
 rwa[T.lP.on Ad (λb e a s H c Q E d h=>?_) (len:=by rintro _ _ _ _ ⟨n,rfl,_⟩;rfl)]
 ·let⟨n,rfl,k⟩:=h;erw[_,{bf (vG (bq gM rfl T.bN ah1 #[0,gZ (v:=.ty "int") rfl T.WY PyProof.Rows.boot_int rfl]) (Aw (Rc (bq gM rfl T.bN ah1 #[0,gZ (v:=.ty "bool") rfl T.T8 PyProof.Rows.boot_bool rfl]))))}];rwa[⟨1211112,.int n,uP K "int",12,hV ?_⟩];rwa[1211112,.int n,AU K,12,k]
structure CS (CR CG CC:Zs) (H:Hp) (x r:Zs) (q:KA) (S:RS) (a:RA) (R:Za2) (ks:Zg) (B:Nat) (rs ps:Za3) (fp:List (Zg×Nat)) (bs:List (Nat×Zg×Nat)) (gs:Zf) (ag:Zh) (W:bD) (O:Zs->Prop):Prop where
 c:cz CG CC H x r q gs ag W ⇑S.a9 fp O
 q:H q.aQ\(.dT (iU fp))
 rm:iW CR H r S a R ks B
 dj:∀b,a.own r b->¬O b
 ci:CI S bs gs ag W fQ none
 bo:CV (rs++ps) ⇑rs ks bs
 pl:yG rs fp
 br:∀b∈bs,b.2.2<S.q
 ra:∀w∈rs,w≠[]->∀c,c<S.q->S.aw c=c->∃n,(n,w,c)∈bs
 pa:∀w∈ps,w≠[]->∃n,(n,w,0)∈bs
 ln:⇑bs<=S.q* ⇑fp+ ⇑ps
 wb:∀u∈rs++ps,⇑u<=1000/\∀z∈u,(-1000<=z/\z<=1000)/\z∈ks/\-z∈ks
def CS.Vh {CR:Zs}{x r:Zs}{q:KA}{rs m:Za3}{o:List (Zg×Nat)}{bs:List (Nat×Zg×Nat)}{gs:Zf}{W:bD}{d:Zs->Prop}(h:CS CR a b H x r q S O R l n rs m o bs gs [] W d)(p:0<S.q):uW rs m S:=by
 rwa[⟨λw i c hc k=>?_,λw i=>?_⟩]
 ·cases g:w=[]
  ·rw[g];rwa[.inl rfl]
  ·let⟨e,j⟩:=h.ra w i g c hc k;rwa[ends (b:=(e,w,c)) h.ci h.rm.g j k]
 ·cases g:w=[]
  ·rw[g];rwa[.inl rfl]
  ·let⟨e,j⟩:=h.pa w i g;rwa[ends (b:=(e,w,0)) h.ci h.rm.g j (by have:=(h.rm.g.el 0 p).1;rwa[Nat.le_zero.mp this])]
inductive Fo (CR CG CC:Zs) (vs:Zb) (H:Hp) (Q:VK) (E_:XK):Prop
 |mk (x r:Zs) (q:KA) (S:RS) (a:RA) (R:Za2) (B:Nat) (rs ps:Za3) (fp:List (Zg×Nat)) (bs:List (Nat×Zg×Nat)) (gs:Zf) (W:bD) (O:Zs->Prop) (c:Nat) (z:Int):vs=[↑x,.int c,.int z]->CS CR CG CC H x r q S a R (bx (2* S.L)) B rs ps fp bs gs [] W O->1<=S.L->S.L<=200->c<S.q->S.aw c=c->S.by c z=none->z∈bx (2* S.L)-> -z∈bx (2* S.L)->S.q<1000->(S.q+ 1)* ⇑fp+ ⇑ps<=700->B<800000->⇑S.a9+ S.stand<=800000->(∀S' a' R' bs' jb W' O' B' H',(∀b o,¬O b->¬a.own r b->H b\o->H' b\o)->CS CR CG CC H' x r q S' a' R' (bx (2* S.L)) B' rs ps fp bs' jb [] W' O'->(∀b,a'.own r b\/O' b->a.own r b\/O b\/H b=none)->Tr (rs++ps) ⇑rs (S.make c z (bx (2* S.L))) S'->S'.q=S.q+ 1->S'.L=S.L->B'<=B+ 702->Q .non H')->Fo CR CG CC vs H Q E_
def xE (T:Txt K mg A):T.mV.Ok mg P w base 9 (Fo A.az A.aJ A.aD):=by
 rwa[T.mV.on xj (λcC AA outer s H vs Q E hr h=>?_)]
 ·let⟨x,r,q,S,a,R,B,rs,ps,i,bs,gs,W,O,c,z,rfl,h,kX,uB,hc,ec,d,hz,D,hm,C1,hB,hwn,k⟩:=h
  refine⟨_,{aV (pm (pv 0) (aL T) T.fi (jc T) hr #[pm (0<<<1) (aI T) T.qp (Ag T) hr #[1,2]]),aV (pm (pv 0) (aL T) T.e8 (fJ T) hr #[1,2]),aV (wy (pv 0) (aL T) T.iO (lG T) hr)},?_⟩
  rwa[fP ?_];intro fI fV;let l:=h.rm.g;let rb:=h.rm.rb;let ok:=zG l h.rm.k ∅ (by have:=h.rm.l;omega) ∅ ∅;rwa[⟨12,x,q.dx,12,h.c.ins,fq ⋯,12,x,_,q.dx,112,h.c.ins,aL T,T.fb,fU^_,r,a.dx,12,h.rm.at_.ins,cS _ _ _ ⋯,1212,r,S,a,c,z,2,h.rm.at_,l.wf,kX,uB,hc,33,ok.sm.w,λa1 H1 V qK X=>?_⟩];let oth:∀b,O b->∃o,H b\o:=λb y=>by let⟨o,e,_⟩:=h.c.th b y;rwa[o,e]
  let tno:∀b Z,H b\.tup Z->H1 b\(.tup Z):=λb Z e=>V b _ (λy=>QO h.rm.at_ e y) e
  let c1:=h.c.keep (λb o y e=>V b o (λw=>h.dj b w y) e) tno;let q1:H1 q.aQ=_:=V _ _ (yH h.rm.at_ h.q) h.q;let ci1:=h.ci.make l hc ec d h.br (bx (2* S.L))
  let Y:∀b,a1.own r b->¬O b:=λb y w=>by
   rcases X b y with v|v
   ·rwa[h.dj b v w]
   cbv
  let Oo:⇑bs+ ⇑i<=700:=by have:=h.ln;rw[ak6,Nat.one_mul]at C1;ext
  rwa[⟨x,r,q,S.make c z (bx (2* S.L)),bs,gs,[],W,⇑S.a9,i,O,_,S.q,2,c1,q1,ci1,λp hp=>?_,ai2 _,3,ah2 _,λf j L H2 u Oq G c2 J JZ=>?_⟩]
  ·have:=h.wb p.1 (ah3 _ (ahB (h.pl.a p hp)));rwa[this.1,λy hy=>(this.2 y hy).1]
  let bl:=qy S.q i;let l2:⇑(bs++gB i S.q)<=700:=by rw[ahA];ext
  let YP:CV (rs++ps) ⇑rs (bx (2* S.L)) (bs++gB i S.q):=by
   let nw:∀b∈gB i S.q,(rs++ps)[b.1]?\b.2.1/\b.1<⇑rs:=λb d=>by
    let⟨p,hp,d⟩:=aji.mp d;let⟨rfl,_⟩:=xC d;let h1:=h.pl.a p hp
    cbv
   rwa[⟨λb d=>?_,λb d=>?_,λb d=>?_,λb d=>?_,3⟩]
   ·rwa[(ahL.mp d).elim (h.bo.w b) λy=>(nw b y).1]
   ·rwa[(ahL.mp d).elim (h.bo.n b) λy=>.inl (nw b y).2]
   ·rwa[(ahL.mp d).elim (h.bo.l b) λy=>(h.wb _ (ahB (nw b y).1)).1]
   ·rwa[(ahL.mp d).elim (h.bo.k b) λy z' D=>((h.wb _ (ahB (nw b y).1)).2 z' D).2]
  let g2:⇑f<=700:=by rw[J.len];rwa[l2]
  let JP:kZ A.aJ A.aD (S.make c z (bx (2* S.L))) (bs++gB i S.q) f W (λr s=>r=c/\s=z) (⇑j+ 2* ⇑f) x r q ⇑S.a9 i L H2 j W:=⟨c2,J,λ_ _ _ z=>z,by have:=J.two;ext⟩;rwa[⟨12,x,q.dx,12,c2.ins,fq ⋯,1212,x,r,q,f,j,W,⇑S.a9,i,L,c,z,2,c2,JP.fits ∅,λns H3 t nd3 Vi c3=>?_⟩];let N:=JP.wake nd3 Vi c3;let UC:CI (S.make c z (bx (2* S.L))) (bs++gB i S.q) f (j++ns) (gn W c z) fQ none:=N.i.ex λr' s' n' w' _ e=>absurd ⟨aiN Nat.cast e.1,e.2⟩ (dz.mp w').2
  let YQ:∀b,a1.own r b->¬L b:=λb y w=>by
   rcases G b w with v|v
   ·rwa[Y b y v]
   ·let⟨o,e⟩:=qK.there y;cbv
  let YR:iW A.az H1 r (S.make c z (bx (2* S.L))) a1 (fO R c z S.q) (bx (2* S.L)) (B+ 2):=by
   let es:=Gi (c:=c) (z:=z) (g:=bx (2* S.L)) l.wf;let M:(S.make c z (bx (2* S.L))).a9=S.a9:=rfl;rwa[⟨qK,l.make hc ec d _,zz h.rm.w l.wf _ _ _,λa y b e=>?_,by show S.q+ 1<=_;ext,h.rm.l,5,by rw[M];ext⟩]
   ·rcases e with e|⟨_,e,_⟩|⟨_,e,_⟩
    ·rwa[h.rm.k _ _ _ e]
    ·rw[e];rwa[hz]
    ·rw[e];rwa[D]
   ·show ⇑(S.rows++[_])+ _<=_;rw[ahA,es];show ⇑S.rows+ 1+ _<=_;ext
  let rm3:=(YR.keep (λb o y e=>u b o (Y b y) e) (λb Z e=>u b _ (c1.jj e) e)).keep (λb o y e=>t b o (YQ b y) e) (λb Z e=>t b _ (c2.jj e) e);let lv:live f<=700:=ahP ajO g2;let hmul:live f* (2* ⇑(bs++gB i S.q)+ 1)<=700* 1401:=akA lv ∅;let Yr:⇑(j++ns)<=2100:=by have:=N.b;ext
  rwa[⟨12,x,q.dx,12,c3.ins,fq ⋯,x,r,q,S.make c z (bx (2* S.L)),a1,fO R c z S.q,bx (2* S.L),B+ 2,rs++ps,⇑rs,bs++gB i S.q,f,j++ns,gn W c z,i,L,2,c3,rm3,3,YQ,UC,YP,3,λS' a' R' jb W' O' B' H' f' c' r' ow oo dj' ci' rr em eL tr Br=>?_⟩];let I:S'.q=S.q+ 1:=em
  let out:∀{b o},¬O b->¬a.own r b->H b\o->H' b\o:=λ{b o} C F e=>by
   let U:=V b o F e;let e2:=u b o C U;let n3:¬L b:=λy=>(G b y).elim C λv=>by cbv
   rwa[f' b o n3 (λy=>(X b y).elim F λv=>by cbv) (t b o n3 e2)]
  let non:∀b,a1.own r b\/L b\/H3 b=none->a.own r b\/O b\/H b=none:=λb y=>by
   cases F:a.own r b
   ·rwa[.inl F]
   cases C:O b
   ·rwa[.inr (.inl C)]
   rwa[.inr (.inr ?_)]
   cases e:H b with
   |none=>rfl
   |some o=>
    exfalso
    let U:=V b o F e;let n3:¬L b:=λy=>(G b y).elim C λv=>by cbv
    rcases y with y|y|y
    ·cbv
    ·rwa[n3 y]
    ·rw[t b o n3 (u b o C U)]at y;ext y
  let lt:=Later.of l (l.make hc ec d (bx (2* S.L))) iz (ajE _);let lt2:=Later.of YR.g r'.g rr (akG em.symm);let el1:∀b,b<S.q->(S.make c z (bx (2* S.L))).aw b=S.aw b:=λb j1=>(fA l.wf c z (bx (2* S.L)) b).trans (ahY ∅)
  rwa[k S' a' R' (bs++gB i S.q) jb W' O' B' H' (λb o C F e=>out C F e) ⟨c',out (h.c.JG h.q) (yH h.rm.at_ h.q) h.q,r',dj',ci',YP,h.pl,λb d=>?_,λw M m b d eb=>?_,λw M m=>?_,5,h.wb⟩ (λb y=>?_) tr I (eL.trans rfl) ∅]
  ·rw[I];rcases ahL.mp d with y|y
   ·have:=h.br b y;ext
   ·let⟨p,_,d⟩:=aji.mp y;let⟨rfl,_⟩:=xC d;rwa[ai2 _]
  ·cases e:b<S.q
   ·let U:=lt2.el b (by show b<S.q+ 1;omega);rw[el1 b e,eb]at U;let l1:=(l.el b e).1;let l2:=(r'.g.el (S.aw b) ∅).1;let⟨n,hn⟩:=h.ra w M m b e ∅
    cbv
   ·let e:b=S.q:=∅
    subst e;let⟨n,hn⟩:=h.pl.b w M;rwa[n,ahI _ (aji.mpr ⟨(w,n),hn,G8 m⟩)]
  ·let⟨n,hn⟩:=h.pa w M m
   cbv
  ·have:=h.ln;rw[ahA,I,ak6,Nat.one_mul];ext
  cbv
def oq (T:Txt K mg A):yi K A.aP:=⟨T.GN,T.GO,T.GP,T.xc,T.xg,T.xh⟩
noncomputable def q9 (n:Nat)(l:Zs):List (Str×V):=[("made",.int n),("rows",↑l)]
inductive OI (C:Zs) (vs:Zb) (H:Hp) (Q:VK) (E_:XK):Prop
 |mk (x l:Zs) (n:Nat) (xs:Zb):vs=[↑x,.int n,↑l]->H x\XO x C none true->n<100000->H l\.lst xs->⇑xs<=1000000->(∀d l2 H',H d=none->H l2=none->d≠x->(∀b o,b≠x->H b\o->H' b\o)->H' x\XO x C (some d) true->H' d\XD d (q9 n l2)->H' l2\.lst xs->l2≠x->Q .non H')->OI C vs H Q E_
def j4 (T:Txt K mg A):T.cJ.Ok mg P w base 1 (OI A.aP):=by
 rwa[T.cJ.on ro (λN X D s H U Q E Y h=>?_)]
 ·let⟨x,l,n,v,rfl,y,Z,I,L,k⟩:=h
  refine⟨_,{aV (LV (yj T.qv T.cJ.m.at_) ⟨T.aaX,T.aaY,T.aaZ⟩ rfl T.oB #[0,za (tu (Pw (pv 1)) (tu (cR (l:=[32,114,111,111,109,115,32,119,101,114,101,32,109,97,100,101,44,32,97,110,100,32,116,104,101,114,101,32,97,114,101,32,103,97,112,115,32,108,101,102,116]) rfl) HL))] (by decide) rfl rfl rfl),EX (pv 0) (pv 1) rfl,EX (pv 0) (gE (AI) rfl T.iG aiQ #[2]) rfl},?_⟩
  rwa[fP ?_];intro R M;let S:=KN (n:=(n:Int)) ∅ ∅;erw[1212,(n:Int),2312,by show 0+ _<=1000000;ext,1255,x,none,12,y]
  ·rw[akj];let e:∀m:Nat,m<=100->⇑(AY (n:Int))+ m<=1000000:=λm O=>∅
   rwa[e _ ⋯]
  ·rw[akj,ahA];let e:∀m:Nat,m<=100->⇑(AY (n:Int))+ m<=1000000:=λm O=>∅
   rwa[e _ ⋯]
  rwa[⟨1212,x,A.aP,none,true,2,y,oq T,T.pC,λd p=>?_⟩];let a:d≠x:=(ax y p).symm;let c:upd (upd H d (XD d [("made",V.int n)])) x (XO x A.aP (some d) true) x\(XO x A.aP (some d) true):=ah;let i:upd (upd H d (XD d [("made",V.int n)])) x (XO x A.aP (some d) true) d\(XD d [("made",V.int n)]):=by rw[ak a,ah]
  let C:∀b o,b≠x->H b\o->upd (upd H d (XD d [("made",V.int n)])) x (XO x A.aP (some d) true) b\o:=λb o B e=>by rw[ak B,ak (ax e p)];rwa[e]
  let B:∀b,upd (upd H d (XD d [("made",V.int n)])) x (XO x A.aP (some d) true) b=none->H b=none:=λb e=>by
   cases q:b=x
   ·cbv
   ·rw[ak q]at e;cases J:b=d
    ·rw[J];rwa[p]
    ·rw[ak J]at e;rwa[e]
  change upd (upd H d (XD d [("made",V.int n)])) x (XO x A.aP (some d) true)=G at c i C B ⊢;let F:l≠x:=bT I y f!"";rwa[⟨12,l,v,2,.inl (aH.of (C _ _ F I)),λg f=>?_⟩];let t:=aq.upd (o:=.lst v) f;let r:upd G g (.lst v) g\(.lst v):=ah;let j:g≠x:=(ax c f).symm;let u:g≠d:=(ax i f).symm;change upd G g (.lst v)=H2 at t r ⊢;erw[12,x,A.aP,some d,true,2,t^c,oq T,T.yD,_,a,t^i,by show 1<1000;decide];rw[show bI "rows" (V.ref g) [("made",V.int n)]=q9 n g from dP (by kernel_rfl)];rwa[k d g _ p (B _ f) a (λb o q e=>?_) ?_ ah ?_ j]
  ·rw[ak (ax e p)];rwa[t^C b o q e]
  ·rw[ak a.symm];rwa[t^c]
  ·rw[ak u];rwa[r]
inductive Fl (rs ps:Za3) (L w lim:Nat):RS->Prop
 |start {S:RS}:Tr (rs++ps) ⇑rs (RS.new L (bx (2* L))) S->uW rs ps S->Fl rs ps L w lim S
 |next {S S':RS} {c:Nat} {z:Int}:Fl rs ps L w lim S->S.q<lim->ic w S L c z->Tr (rs++ps) ⇑rs (S.make c z (bx (2* L))) S'->uW rs ps S'->Fl rs ps L w lim S'
def Fq (L:Nat)(u:Zg):Prop:=⇑u<=1000/\∀z∈u,z≠0/\z.natAbs<=L
def pM (d:n<=200){u:Zg}(h:Fq n u):⇑u<=1000/\∀z∈u,(-1000<=z/\z<=1000)/\z∈bx (2* n)/\-z∈bx (2* n):=by
 rwa[⟨h.1,λz c=>?_⟩];let⟨b,a⟩:=h.2 z c;rwa[3,fx.mpr ⟨b,a⟩,fx.mpr ⟨33⟩]
def jd (h:S.aX[n]?\n):S.aw n=n:=by unfold RS.aw;rw[ahJ,h];rfl
def Fl.ys {rs a:Za3}{w:Nat}(h:Fl rs a n w m S)(b:∀u∈rs++a,∀z∈u,z∈bx (2* n)/\-z∈bx (2* n)):∃R,YS S n (bx (2* n)) R:=by
 induction h with
 |start t _=>
  let⟨R,y,_⟩:=YS.new.tr t b;rwa[R,y]
 |next _ _ l t _ i=>
  let⟨R,y⟩:=i;let⟨f,d,c,e⟩:=l.1;let⟨k,o⟩:=fx.mp c;let⟨j,g,_⟩:=(y.make f (jd d) e c (fx.mpr ⟨33⟩)).tr t b;rwa[j,g]
def _root_.Lake.L2.YS.gl (y:YS S n (bx (2* n)) R)(a:S.q<=100000)(d:n<=200):GL S n:=⟨y.g.wf,a,d,λc hc b=>y.gi.fin y.g (Jo _) hc (jd b)⟩
def Kp.at {pos:Pos}(k:Kp a H I)(t:cH a pos x H){b:Zs}{u:HO}(e:H b\u)(n:∀c,u≠.fy c):I b\u:=k b u (λz=>by
 rcases t with w|⟨_,_,_,_,w,_⟩
 ·cbv
 cbv) e
def OJ (S:RS)(L w:Nat)(H:Hp)(v:V):Prop:=(v=.non/\∀c z,¬dm S L c z)\/∃(c:Nat) (z:Int) (t:Zs),v=↑t/\ic w S L c z/\H t\(.tup [.int (c:Int),.int z])
def xF (b c a:Zs)(H:Hp)(o:Zs)(w:Nat):Prop:=∃d,(w=0/\H o\.ins b d [])\/(w=1/\H o\.ins c d [])\/(w=2/\H o\.ins a d [])
def xF.keep {w:Nat}(h:xF a b c H d w)(k:∀C e,H d\.ins C e []->I d\.ins C e []):xF a b c I d w:=by
 obtain⟨e,h|h|h⟩:=h
 ·rwa[e,.inl ⟨h.1,k^h.2⟩]
 ·rwa[e,.inr (.inl ⟨h.1,k^h.2⟩)]
 ·rwa[e,.inr (.inr ⟨h.1,k^h.2⟩)]
def C7 {e r:Zs}{w:Nat}{Q:VK}{E:XK}(p:H d\.ins c e [])(h:ay a H r S O)(g:GL S n)(o:cH b cL eG H)(k:∀v i,Kp b H i->cH b cL eG i->OJ S n w i v->Q v i):jW a b c w [↑d,↑r] H Q E:=
 ⟨d,e,r,S,O,n,2,p,h,g,o,λs i j l=>k _ i j l (.inl ⟨2,s⟩),λf z q t i j l m=>k _ i j l (.inr ⟨f,z,t,2,q,m⟩)⟩
def QR {r:Zs}{w:Nat}{Q:VK}{E:XK}(c:D[5]?\some ↑a)(f:D[6]?\some ↑r)(j:xF A.cZ A.bJ A.cG H a w)(h:ay A.az H r S O)(g:GL S n)(i:cH A.di cL eG H)(k:∀v b,Kp A.di H b->cH A.di cL eG b->OJ S n w b v->Q v b):
 Bs (ku A.cZ "gap" (jW A.az A.di A.cZ 0) [] E (jl 5) (jI (jl 6) j6)) (Bs (ku A.bJ "gap" (jW A.az A.di A.bJ 1) [] E (jl 5) (jI (jl 6) j6)) (ku A.cG "gap" (jW A.az A.di A.cG 2) [] E (jl 5) (jI (jl 6) j6))) D H Q:=by
 obtain⟨d,⟨rfl,e⟩|⟨rfl,e⟩|⟨rfl,e⟩⟩:=j
 ·rwa[.inl ⟨_,c,a,d,12,e,21,f,C7 e h g i k⟩]
 ·rwa[.inr (.inl ⟨_,c,a,d,12,e,21,f,C7 e h g i k⟩)]
 ·rwa[.inr (.inr ⟨_,c,a,d,12,e,21,f,C7 e h g i k⟩)]
def dY (w:Nat):Zh:=if w=0 then U4 else if w=1 then MV else U6
def jX (H:Hp)(l:Zs)(S:RS):Prop:=∃a:Zn,H l\.lst (a.map V.ref)/\Each (λp d=>bQ H 4 ↑p d) a S.rows/\⇑S.rows<=1000000
def Xc (f k i j:Zs)(L a:Nat)(nm:Zh)(H:Hp)(Q:VK)(E:XK):Prop:=∃(cap w:Nat) (rs e:Za3),nm=dY w/\w<3/\1<=L/\L<=40/\1<=a/\1<=cap/\cap<=300/\(∀S c z,Fl rs e L w a S->S.q<a->ic w S L c z->S.q+ 1<=cap)/\bX H i rs/\bX H j e/\(∀u∈rs++e,Fq L u)/\cap* ⇑rs+ ⇑e<=700/\⇑rs<=400/\⇑e<=400/\cH f cL eG H/\
 (∀t h g S N b,Kp f H b->cH f cL eG b->Fl rs e L w a S->(∀c z,¬dm S L c z)->b t\.tup [↑h,↑g]->TabAt b h (M24.vd (bK S) (2* S.L) (M24.bM (bK S) (2* S.L) 0 N))->⇑(M24.bM (bK S) (2* S.L) 0 N)=N->jX b g S->Q ↑t b)/\
 ∀d g S b,Kp f H b->cH f cL eG b->Fl rs e L w a S->S.q=a->(∃c z,ic w S L c z)->b d\XD d (q9 S.q g)->jX b g S->E ↑k (some d) b
inductive Kb (Pt cN cT:Zs) (vs:Zb) (H:Hp) (Q:VK) (E:XK):Prop
 |mk (ru pa:Zs) (L lim:Nat) (nm:Zh):vs=[.int L,↑ru,↑pa,.int lim,.str (tx nm)]->(Xc Pt cT ru pa L lim nm H Q E\/nm=[114,111,111,109]/\E ↑cN none H)->Kb Pt cN cT vs H Q E
section
variable {CR CG CC:Zs}{H H':Hp}{x r:Zs}{q:KA}{S:RS}{a:RA}{R:Za2}{ks:Zg}{B:Nat}{rs ps:Za3}{fp:List (Zg×Nat)}{bs:List (Nat×Zg×Nat)}{gs:Zf}{ag:Zh}{W:bD}{O:Zs->Prop}
def CS.keep (h:CS CR CG CC H x r q S a R ks B rs ps fp bs gs ag W O)(f:∀b o,H b\o->(∀ps,o≠.fy ps)->H' b\o):CS CR CG CC H' x r q S a R ks B rs ps fp bs gs ag W O:=
 ⟨h.c.keep (λb o c e=>f b o e (by let⟨i,g,n⟩:=h.c.th b c;cbv)) (λb d e=>f b _ e (by cbv)),f _ _ h.q (by cbv),h.rm.keep (λb o c e=>f b o e (by
  intro ps z;rw[z]at e;rwa[qA h.rm.at_ e (by cbv) (by cbv) (by cbv) c])) (λb d e=>f b _ e (by cbv)),h.dj,h.ci,h.bo,h.pl,h.br,h.ra,h.pa,h.ln,h.wb⟩
def CS.tab (h:CS CR CG CC H x r q S a R ks B rs ps fp bs gs ag W O){d:Zs}{pos:Pos}{c:Str}(t:cH d pos c H)(f:∀b o,¬O b->¬a.own r b->H b\o->H' b\o):cH d pos c H':=by
 rwa[t.keep λb u e k=>f b u (λz=>?_) (λz=>?_) e]
 ·let⟨o,g,n⟩:=h.c.th b z
  cbv
 ·rcases k with ⟨ps,rfl⟩|⟨o,v,rfl⟩
  ·rwa[qA h.rm.at_ e (by cbv) (by cbv) (by cbv) z]
  ·rwa[qA h.rm.at_ e (by cbv) (by cbv) (by cbv) z]
end
structure xG (A:qU) (H0 H:Hp) (x r:Zs) (L lim cap w:Nat) (rs ps:Za3) (S:RS):Prop where
 k:Kp A.di H0 H
 t:cH A.di cL eG H
 cs:∃q a R B fp bs gs W O,CS A.az A.aJ A.aD H x r q S a R (bx (2* L)) B rs ps fp bs gs [] W O/\(∀b,a.own r b\/O b->H0 b=none)/\B<=702* S.q
 f:Fl rs ps L w lim S
 m:S.q<=lim
 mc:S.q<=cap
 l:S.L=L
def xG.kp {H0:Hp}{x r:Zs}{cap w:Nat}{rs d:Za3}(h:xG A H0 H x r n m cap w rs d S)(k:Kp A.di H I)(t:cH A.di cL eG I):xG A H0 I x r n m cap w rs d S:=by
 let⟨q,a,R,B,f,bs,gs,W,O,cs,g,i⟩:=h.cs;rwa[h.k.trans k,t,⟨q,a,R,B,f,bs,gs,W,O,cs.keep λb o e c=>k.at h.t e c,g,i⟩,h.f,h.m,h.mc,h.l]
def yN (T:Txt K mg A)(Z:jO mg base):du P w K mg base (cY P w) 11 A.Ja A.Jb ["letters","rules","part","limit","order"] (Kb A.di A.cq A.aP):=by
 rwa[T.fill.TK lY (λvs H Q E h=>?_) (λcC AA outer s H vs Q E M h=>?_)]
 ·let⟨ru,pa,L,D,nm,rfl,_⟩:=h;rfl
 ·let⟨ru,pa,L,D,nm,rfl,hsp⟩:=h
  erw[_,{bC 5 lY.nd (xR (Ee T) (M.mono ⋯) rfl T.qi.m T.qi.F.kp T.qi.b .nil WD #[4]),bC 6 lY.nd (xS (vo T) (ua T) (M.mono ⋯) rfl T.QF T.gw.b .nil gq #[0]),bC 7 lY.nd (xS (qu T) (rA T) (M.mono ⋯) rfl T.Jd T.eZ.b .nil gq #[6,1,2]),aV (wy (pv 7) (aL T) T.iO (lG T) M),bC 8 lY.nd (vZ (j7 (pv 5) (Cq T) T.jC.m (sV T) (M.mono ⋯) T.jC.b .nil gq #[6]) (vZ (j7 (pv 5) (sP T) T.gX.m (m5 T Z) (M.mono ⋯) T.gX.b .nil gq #[6]) (j7 (pv 5) (zA T) T.iP.m (qY T) (M.mono ⋯) T.iP.b .nil gq #[6]))),bE (gJ PassesOwn.leaving (aZ sZ (pv 8) dA (bh _))
    {bB (aZ V3 (6<<<1) (pv 3) (bh _))
     {IL (E:=E) (j4 T) (M.mono ⋯) T.cJ.b rfl rfl T.nY (yj T.qv T.cJ.m.at_) T.cJ.m.fn T.w9 #[6<<<1,wy (pv 6) (aI T) T.kB (pF T) M] Xz rfl (by decide) (by decide) rfl rfl}
     bj,aV (pm (pv 7) (aL T) T.mV (xE T) M #[8&&&au,8&&&au]),bC 8 lY.nd (vZ (j7 (pv 5) (Cq T) T.jC.m (sV T) (M.mono ⋯) T.jC.b .nil gq #[6]) (vZ (j7 (pv 5) (sP T) T.gX.m (m5 T Z) (M.mono ⋯) T.gX.b .nil gq #[6]) (j7 (pv 5) (zA T) T.iP.m (qY T) (M.mono ⋯) T.iP.b .nil gq #[6])))}),bf (cy #[pc T.numbered (Ef T) M #[6],wy (pv 6) (aI T) T.kB (pF T) M])}]
  rwa[mE ?_];intro zC oh lF ja fI fV;rcases hsp with ⟨cap,J,rs,f,rfl,Yg,kX,uB,Oi,lD,Iz,abm,JV,uC,aM,C1,zD,oU,hT,kq,ke⟩|⟨rfl,ke⟩
  rotate_left
  ·rwa[⟨_,rfl,[114,111,111,109],rfl,by first|rfl|decide,by first|rfl|decide,λe=>absurd e (by decide),λe=>absurd e (by decide),λe=>absurd e (by decide),λ_ _ _=>?_⟩];rwa[ke]
  let OL:∀u∈rs++f,∀z∈u,z∈bx (2* L)/\-z∈bx (2* L):=λu hu z hz=>((pM ∅ (aM u hu)).2 z hz).2
  suffices main:∀o I,aq H I->xF A.cZ A.bJ A.cG I o J->fV { nx:=λ_ H'=>Q .non H',rt:=Q } #v[.int L,↑ru,↑pa,.int D,.str (tx (dY J)),↑o,none,none,none] I by
   let sm:∀{C x d:Zs},H x=none->H d=none->d≠x->aq H (upd (upd H d (.own x)) x (.ins C d [])):=λ{C x d} nx nd G=>(aq.upd nd).trans (aq.upd ([ak G.symm]▸nx))
   rwa[⟨12,dY J,255,λe x d nx nd G=>main x _ (sm nx nd G) ⟨d,.inl ⟨5,ah⟩⟩,λe x d nx nd G=>main x _ (sm nx nd G) ⟨d,.inr (.inl ⟨5,ah⟩)⟩,λe x d nx nd G=>main x _ (sm nx nd G) ⟨d,.inr (.inr ⟨5,ah⟩)⟩,λn0 n1 n2=>?_⟩]
   all_goals rcases (show J=0\/J=1\/J=2 by omega) with rfl|rfl|rfl
   all_goals first|rfl|decide|(rwa[absurd e (by decide)])|(rwa[absurd rfl n0])|(rwa[absurd rfl n1])|rwa[absurd rfl n2]
  intro o I s1 ho;let YT:=hT.same s1;replace JV:=JV.same s1;replace uC:=uC.same s1;rwa[⟨12,λr dx nx C8 G=>⟨r,dx,L,2,ah,kX,3,λra H2 k2 h2 Vj=>⟨25⟩⟩⟩];let⟨s2,Vk⟩:=QP (C:=A.az) nx C8 G k2 Vj;clear k2 Vj nx C8 G;rwa[⟨121212,λx dx nx C8 G=>?_⟩];let s0:aq H2 (upd (upd H2 dx (.own x)) x (.ins A.aD dx [])):=(aq.upd C8).trans (aq.upd ([ak G.symm]▸nx));let OO:upd (upd H2 dx (.own x)) x (.ins A.aD dx []) x\(.ins A.aD dx []):=ah;let C0:¬ra.own r x:=λz=>by let⟨o,e⟩:=h2.there z;rw[nx]at e;ext e
  let n0:∀b,upd (upd H2 dx (.own x)) x (.ins A.aD dx []) b=none->H2 b=none:=λb z=>same_none s0 z
  change upd (upd H2 dx (.own x)) x (.ins A.aD dx [])=H3 at s0 OO n0 ⊢;let gd:=uT L (bx (2* L))
  let fit:∀F,yG rs F->1* ⇑F+ ⇑f<=700:=λF h=>by
   have:=ajS ⇑rs lD;have:=C2 h;ext
  let sl:0+ (RS.new L (bx (2* L))).stand<=1:=by rw[Nat.zero_add];rwa[CQ (RS.new L (bx (2* L)))]
  let y0:=YS.new (L:=L) (ks:=bx (2* L));let xH:iW A.az H2 r (RS.new L (bx (2* L))) ra (λ_ _ _=>False) (bx (2* L)) 1:=⟨h2,gd,y0.w,y0.k,by show 1<=2000;decide,by rw[tS];ext,sl,ahP sl ⋯⟩;rwa[⟨x,dx,r,ru,pa,RS.new L (bx (2* L)),ra,λ_ _ _=>False,rs,f,2,OO,h2.same s0,gd,Nat.one_pos,by show 1<=2000;decide,C0,(JV.same s2).same s0,(uC.same s2).same s0,zD,oU,λu hu=>⟨(pM ∅ (aM u hu)).1,λz hz=>((pM ∅ (aM u hu)).2 z hz).1⟩,λF h=>by have:=fit F h;show 1* ⇑F+ ⇑f<50000;ext,λq gs ag F O H4 f4 c4 q4 o4 Fh YV hp=>⟨25⟩⟩];let hf:=fit F hp;let sd:⇑(dw (RS.new L (bx (2* L))))<=1:=ahP (ajK _ _) ([air]▸ahG _);let Yz:⇑(dw (RS.new L (bx (2* L))))* ⇑F<=1* ⇑F:=ajS _ sd;let l1:=lU F (dw (RS.new L (bx (2* L))));let l2:=sS f ⇑rs ⇑f;let Z:⇑(dG F (dw (RS.new L (bx (2* L))))++fK f ⇑rs ⇑f)<=1* ⇑F+ ⇑f:=by rw[ahA];ext
  let YW:live gs<=⇑(dG F (dw (RS.new L (bx (2* L))))++fK f ⇑rs ⇑f):=by rw[<-Fh.len];rwa[ajO]
  let r4:iW A.az H4 r (RS.new L (bx (2* L))) ra (λ_ _ _=>False) (bx (2* L)) 1:=(xH.same s0).keep (λb o Y e=>f4 b o e (λz=>C0 (by rw[<-z];rwa[Y]))) (λb xs e=>f4 b _ e (bT e OO f!""))
  let dj:∀b,ra.own r b->¬O b:=λb z y=>by
   let⟨o,e⟩:=(h2.same s0).there z;rcases o4 b y with w|w
   ·rwa[C0 (by rw[<-w];rwa[z])]
   ·rw[w]at e;ext e
  let bin:∀b∈dG F (dw (RS.new L (bx (2* L))))++fK f ⇑rs ⇑f,((rs++f)[b.1]?\b.2.1/\(b.1<⇑rs\/b.2.2=0))/\b.2.2<1:=λb Y=>by
   rcases QL Y with ⟨p,Tt,e1,X,e3⟩|⟨j,u,hj,rfl⟩
   ·let h1:=hp.a p Tt;let h2:=(ahD.mp h1).1;rw[e1,X,ahN h2];rwa[⟨h1,.inl h2⟩,ais.mp (ajo.mp e3).1]
   ·rwa[⟨by show (rs++f)[⇑rs+ j]?=_;rw[ahO ∅,Nat.add_sub_cancel_left];rwa[hj],.inr rfl⟩,Nat.one_pos]
  let U:CV (rs++f) ⇑rs (bx (2* L)) (dG F (dw (RS.new L (bx (2* L))))++fK f ⇑rs ⇑f):=
   ⟨λb Y=>(bin b Y).1.1,λb Y=>(bin b Y).1.2,λb Y=>(aM _ (ahB (bin b Y).1.1)).1,λb Y z hz=>OL _ (ahB (bin b Y).1.1) z hz,3⟩
  let Vl:∀w∈rs,w≠[]->∃n,(n,w,0)∈dG F (dw (RS.new L (bx (2* L))))++fK f ⇑rs ⇑f:=λw hw uj=>by
   let⟨n,hn⟩:=hp.b w hw;let C9:0∈dw (RS.new L (bx (2* L))):=ajo.mpr ⟨ais.mpr Nat.one_pos,ah9 rfl⟩;rwa[n,ah3 _ (aji.mpr ⟨(0),C9,aji.mpr ⟨(w,n),hn,G8 uj⟩⟩)]
  let Vm:∀w∈f,w≠[]->∃n,(n,w,0)∈dG F (dw (RS.new L (bx (2* L))))++fK f ⇑rs ⇑f:=λw hw uj=>by
   let⟨j,hj⟩:=aiu hw;rwa[⟨⇑rs+ j,ahI _ (aji.mpr ⟨j,ais.mpr (ahD.mp hj).1,5⟩)⟩];rw[ahJ,hj];rwa[G8 uj]
  change dG F (dw (RS.new L (bx (2* L))))++fK f ⇑rs ⇑f=bs at Fh YV Z YW bin U Vl Vm;let hmul:live gs* (2* ⇑bs+ 1)<=700* 1401:=akA ∅ ∅;clear l1 l2 Yz sd;rwa[⟨12,x,q.dx,12,c4.ins,fq ⋯,x,r,q,RS.new L (bx (2* L)),ra,λ_ _ _=>False,bx (2* L),(1),rs++f,⇑rs,bs,gs,ag,sT,F,O,2,c4,r4,3,dj,Fh,U,3,λS' a' R' jb W' O' B' H5 f5 c5 r5 ow oo YX J0 rr em eL tr hb5=>?_⟩];let OQ:S'.q=1:=em
  let IG:∀b o,I b\o->H5 b\o:=λb o e=>by
   let X:=s2^e
   let nO:¬O b:=λy=>by
    rcases o4 b y with w|w
    ·rw[w,nx]at X;ext X
    ·rw[s0^X]at w;ext w
   rwa[f5 b o nO (λy=>by rw[Vk b y]at e;ext e) (f4 b o (s0^X) (ax X nx))]
  let U5:∀b,a'.own r b\/O' b->I b=none:=λb y=>by
   let nn:ra.own r b\/O b\/H4 b=none->I b=none:=λy=>by
    rcases y with y|y|y
    ·rwa[Vk b y]
    ·cases e:I b with
     |none=>rfl
     |some u=>
      let X:=s2^e;rcases o4 b y with w|w
      ·rw[w,nx]at X;ext X
      ·rw[s0^X]at w;ext w
    ·cases e:I b with
     |none=>rfl
     |some u=>
      let X:=s2^e;rw[f4 b u (s0^X) (ax X nx)]at y;ext y
   rcases y with y|y
   ·rwa[nn (ow b y)]
   ·rcases oo b y with v|v|v
    ·rwa[nn (.inr (.inl v))]
    ·rwa[nn (.inl v)]
    ·rwa[nn (.inr (.inr v))]
  let Vn:CS A.az A.aJ A.aD H5 x r q S' a' R' (bx (2* L)) B' rs f F bs jb [] W' O':=by
   rwa[⟨c5,f5 _ _ (c4.JG q4) (yH r4.at_ q4) q4,r5,YX,J0,U,hp,λb Y=>by rw[OQ];rwa[(bin b Y).2],λw hw uj c hc _=>?_,Vm,by rw[OQ];rwa[Z],λu hu=>pM (by omega) (aM u hu)⟩];have:c=0:=∅
   subst this;rwa[Vl w hw uj]
  let YY:xG A I H5 x r L D cap J rs f S':=⟨λb u _ e=>IG b u e,YT.same IG,⟨q,a',R',B',F,bs,jb,W',O',Vn,U5,by rw[OQ];ext⟩,.start tr (Vn.Vh ∅),33,eL.trans rfl⟩;clear Vn U5 IG hmul Vm Vl U bin dj r4 YW Z hf xH y0 sl c5 r5 ow oo YX J0 rr f5 hb5 OQ em eL tr c4 q4 o4 Fh YV hp f4 OO C0 n0 s0 gd fit
  let look:∀{H5:Hp} {S:RS} {σ:St} {Qv:VK},xG A I H5 x r L D cap J rs f S->σ[5]?\some ↑o->σ[6]?\some ↑r->(∀v H6,xG A I H6 x r L D cap J rs f S->OJ S L J H6 v->Qv v H6)->(Bs (ku A.cZ "gap" (jW A.az A.di A.cZ 0) [] (λ_ _ _=>False) (jl 5) (jI (jl 6) j6)) (Bs (ku A.bJ "gap" (jW A.az A.di A.bJ 1) [] (λ_ _ _=>False) (jl 5) (jI (jl 6) j6)) (ku A.cG "gap" (jW A.az A.di A.cG 2) [] (λ_ _ _=>False) (jl 5) (jI (jl 6) j6)))) σ H5 Qv:=λ{H5 S σ Qv} i e5 e6 kk=>by
   let⟨Ry,y⟩:=i.f.ys OL;let⟨q,a,R,B,F,bs,gs,W,O,cs,_⟩:=i.cs;rwa[QR e5 e6 (ho.keep λC d e=>i.k.at YT e s!"") cs.rm.at_ (y.gl (by have:=i.mc;omega) ∅) i.t λv H6 k6 t6 an=>kk v H6 (i.kp k6 t6) an]
  rwa[look YY rfl rfl λv H6 YZ an=>?_]
  clear YY;erw[λ ik H'=>∃S,ik=#v[.int L,↑ru,↑pa,.int D,.str (tx (dY J)),↑o,↑r,↑x,some .non]/\xG A I H' x r L D cap J rs f S/\∀c z,¬dm S L c z,5]
  ·erw[λm σ H'=>∃S v,m=D+ 1 - S.q/\σ=#v[.int L,↑ru,↑pa,.int D,.str (tx (dY J)),↑o,↑r,↑x,some v]/\xG A I H' x r L D cap J rs f S/\OJ S L J H' v,⟨_,S',v,22,YZ,an⟩];clear YZ an;rintro m σ H7 ⟨S,v,rfl,rfl,i,an⟩;erw[12212];rcases an with ⟨rfl,hn⟩|⟨c,z,t,rfl,hl,ht⟩
   ·rwa[nj rfl ⟨S,rfl,i,hn⟩]
   rwa[bR (λ_=>?_) (λh=>absurd rfl h)];erw[_,λ ik H' h=>h];let⟨Ry,y⟩:=i.f.ys OL;let⟨q,a,R,B,F,bs,gs,W,O,cs,n0,hB⟩:=i.cs;let hm:=i.m;let hmc:=i.mc;let eL:=i.l;let rb:=cs.rm.rb;let wr:=y.wr;let hBm:B<=702* 300:=ahP hB (Nat.mul_le_mul_left _ ∅);erw[12,r,_,a.dx,112,cs.rm.at_.ins,aI T,T.pA,tF^_,12112212];rwa[bR (λh=>?_) (λh=>?_)]
   ·let h:(D:Int)<=(S.q:Int):=aia h;rwa[⟨12,r,_,a.dx,112,cs.rm.at_.ins,aI T,T.pA,tF^_,12,r,a.dx,12,cs.rm.at_.ins,cS _ _ _ ⋯,r,S,a,2,cs.rm.at_,3,λp d hd e=>(y.d d hd).low e,λl qs H8 s8 nl hl8 zx=>?_⟩];intro xx Y0;let s9:=aq.upd (o:=XO xx A.aP none true) Y0;let eln:⇑(qs.map V.ref)<=1000000:=by rw[ahE,zx.1];ext
    rwa[⟨xx,l,S.q,qs.map V.ref,2,ah,3,s9^hl8,eln,λd l2 H9 nd E9 C8 f9 hx9 hd9 OS Y1=>⟨2,some d,hx9,5⟩⟩]
    let Vo:aq H8 (del H9 xx):=λb u e=>by
     let nb:=ax e Y0;rw[oV nb];rwa[f9 b u nb (s9^e)]
    rwa[ke d l2 S _ (λb u nb e=>Vo^(s8^(i.k b u nb (s1^e)))) ((i.t.same s8).same Vo) i.f ∅ ⟨c,z,hl⟩ ([oV C8]▸hd9) ⟨qs,[oV Y1]▸OS,zx.imp (λp d _ _ e=>e.same Vo),3⟩]
   let h:S.q<D:=Nat.lt_of_not_le λw=>h (ah9 ∅)
   let⟨g1,g2,g3,g4⟩:=hl.1;let⟨z1,z2⟩:=fx.mp g3;let Oo:⇑F<=⇑rs:=C2 cs.pl;let C9:=abm S c z i.f h hl;let N8:(S.q+ 1)* ⇑F<=cap* ⇑rs:=akA C9 Oo;rw[<-eL]at cs;rwa[⟨12,x,q.dx,12,cs.c.ins,fq ⋯,12,t,11122,bG.of ht,212,t,11122,bG.of ht,2,x,r,q,S,a,R,B,rs,f,F,bs,gs,W,O,c,z,2,cs,33,g1,jd g2,g4,[eL]▸g3,fx.mpr ⟨33⟩,3333,λS2 a2 R2 bs2 gs2 W2 O2 B2 H8 f8 Vp ow8 Y2 em8 el8 hb8=>?_⟩]
   let fl8:xG A I H8 x r L D cap J rs f S2:=by
    rw[eL]at Vp Y2;rwa[⟨λb u nb e=>f8 b u (λw=>by rw[n0 b (.inr w)]at e;ext e) (λw=>by rw[n0 b (.inl w)]at e;ext e) (i.k b u nb e),cs.tab i.t f8,⟨q,a2,R2,B2,F,bs2,gs2,W2,O2,Vp,λb w=>?_,by rw[em8];ext⟩,.next i.f h hl Y2 (Vp.Vh ∅),33,el8.trans eL⟩];rcases ow8 b w with v|v|v
    ·rwa[n0 b (.inl v)]
    ·rwa[n0 b (.inr v)]
    ·cases e:I b with
     |none=>rfl
     |some u=>
      let nP:b≠A.di:=λw=>by
       rcases i.t with p|⟨_,_,_,_,p,_⟩
       ·rw[w,p]at v;ext v
       ·rw[w,p]at v;ext v
      rw[i.k b u nP e]at v;ext v
   rwa[look fl8 rfl rfl λv H9 fl9 an=>⟨D+ 1 - S2.q,3,S2,v,22,fl9,an⟩]
  rintro σ H7 ⟨S,rfl,i,hn⟩;let⟨Ry,y⟩:=i.f.ys OL;let⟨q,a,R,B,F,bs,gs,W,O,cs,n0,hB⟩:=i.cs;let hm:=i.m;let hmc:=i.mc;let eL:=i.l;let rb:=cs.rm.rb;let g:=y.g;let hBm:B<=702* 300:=ahP hB (Nat.mul_le_mul_left _ ∅);rwa[⟨12,r,S,a,λc=>c<S.q/\S.aw c=c,2,cs.rm.at_,333,g.wf.w,⟨y.m,by have:=(g.el 0 y.m).1;ext⟩,λc hc=>⟨hc.1,λk hk=>?_⟩,λtb N H8 s8 nt h8 hN=>?_⟩]
  ·cases e:S.by c (M12.st k) with
   |some d=>
    let⟨_,d2,_,d4⟩:=g.st _ _ _ e;rwa[d,2,d2,d4]
   |none=>
    rw[eL]at hk;rwa[absurd ⟨hc.1,5,ahB (xm hk),e⟩ (hn c _)];rw[pH ([g.wf.e]▸hc.1),hc.2]
  rwa[⟨12,r,a.dx,12,(cs.rm.at_.same s8).ins,cS _ _ _ ⋯,r,S,a,2,cs.rm.at_.same s8,3,λp d hd e=>(y.d d hd).low e,λpp qs H9 s9 np hp9 zx=>?_⟩];rwa[⟨Za4 2,λt nt=>?_⟩];let sA:=aq.upd (o:=.tup [↑tb,↑pp]) nt;rwa[kq t tb pp S N _ (λb u nb e=>sA^(s9^(s8^(i.k b u nb (s1^e))))) (((i.t.same s8).same s9).same sA) i.f hn ah ((h8.same s9).same sA) hN ⟨qs,sA^hp9,zx.imp (λp d _ _ e=>e.same sA),3⟩]
theorem words_of {H:Hp}{P:Zg->Prop}:∀{ps:Zn},(∀(i:Nat) (p:Zs),ps[i]?\p->∃w,H p\.tup (ao w)/\P w)->∃a,cf H ps a/\∀w∈a,P w
 |[],_=>⟨[],⟨2,(λi p w e=>by simp at e)⟩,(λw g=>by ext g)⟩
 |p::ps,h=>by
  let⟨a,f,k⟩:=words_of (ps:=ps) λi q e=>h (i+ 1) q (by simpa using e)
  let⟨w,j,l⟩:=h 0 p rfl;rwa[⟨w::a,⟨by rw[ah0,ah0,f.1],λi q u c d=>?_⟩,λu b=>?_⟩]
  ·cases i with
   |zero=>ext c;ext d;rwa[j]
   |succ i=>exact f.2 i q u (by simpa using c) (by simpa using d)
  ·rcases ahR.mp b with rfl|b
   ·rwa[l]
   ·rwa[k u b]
def Vq:Sp:=λa H Q _=>∃(z:Int) (L:Nat),a=[.int z,.int L]/\1<=L/\L<=200/\∀s:Int,s≠0->s.natAbs<=L->Q (.int s) H
def sW (T:Txt K mg A):T.nX.Ok P w base 1 Vq:=by
 rwa[T.nX.on Cr (λd j a s H g Q E l h=>?_) (len:=by rintro _ _ _ _ ⟨z,L,rfl,_⟩;rfl)]
 ·let⟨z,L,rfl,c,f,k⟩:=h
  erw[_,{bB (aZ dJ (aK bP (pv 0) au) au (bh _))
   {bf (fe dN (aK cI au (aK bP (aK cX (pv 0) au) (pv 1))))}
   bj,bf (aK cI au (aK bP (aK cX (pv 0) au) (pv 1)))}]
  rwa[iA ?_];intro b;let e:∀y:Int,0<=y % (L:Int)/\y % (L:Int)<L:=λy=>⟨ajc _ ∅,ai1 _ ∅⟩
  let i:=e (z / 2);rwa[⟨121122,(by show (0:Int)<2;decide),212,bR (λh=>?_) (λh=>?_)⟩]
  ·refine⟨121122,⟨44⟩,121122,(by show (0:Int)<(L:Int);omega),112212,k _ ?_ ?_⟩ <;> ext
  ·refine⟨121122,⟨44⟩,121122,(by show (0:Int)<(L:Int);omega),1122,k _ ?_ ?_⟩ <;> ext
noncomputable def sX (n:Nat):Zb:=(~~~n).map λi:Nat=>V.int (i:Int)
def m6 (n:Nat):⇑(sX n)=n:=by unfold sX;rw[ahE,air]
def Fs (h:i<n):(sX n)[i]?\(V.int (i:Int)):=by
 unfold sX;rw[ahZ,akD h];rfl
def QS {x:V}(h:(sX n)[i]?\x):i<n/\x=V.int (i:Int):=by
 let a:i<n:=by
  have:=(ahD.mp h).1;rw[m6]at this;rwa[this]
 rw[Fs a]at h;rwa[a,(Za0 h).symm]
def xI {d:TE}{Q:VK}(g:Nat->Int)(l:n<=1000)(m:∀i:Nat,i<n->∀R:VK,R (.int (g i)) H->d (some (.int (i:Int))::D) H R)(h:∀a,H a=none->Q ↑a (upd H a (.lst (ao ((~~~n).map g))))):rF d D Q (vI 0 n) H:=by
 rwa[kI (sX n) (λv=>match v with|.int z=>.int (g z.toNat)|v=>v) (λi b=>by rw[m6]at b;rwa[b]) (λi x p b y=>?_) ([m6]▸ahG _) ([m6]▸ahP l ⋯) (λi x k R o=>?_) (λa j=>?_)]
 ·rw[m6]at b;let⟨f,c⟩:=y;erw[by first|rwa[f]|rwa[c]];rw[Fs b]
  congr 1
  first
  |(rw[c,Int.zero_add])
  |(rw[f,Int.zero_add])
 ·let⟨b,rfl⟩:=QS k;rwa[m i b R ?_];have:R (V.int (g ((i:Int)).toNat)) H:=o;rw[aic]at this;rwa[this]
 ·let e:((sX n).map λv=>match v with|.int z=>V.int (g z.toNat)|v=>v)=ao ((~~~n).map g):=by
   unfold sX ao;rw[aip,aip];rfl
  rw[e];rwa[h a j]
def vC {a:Za3}(h:cf H F a){w:Zs}{c:Zb}{o:HO}(b:H w\.lst c):cf (upd H w o) F a:=h.keep λp d e=>by
 rw[ak (bT e b f!"")];rwa[e]
noncomputable def sf (rows:Za3)(x:Nat)(s:Int):Nat:=if 0<s then ((rows.getD (s.natAbs - 1) []).getD x 0).toNat else (rows.getD (s.natAbs - 1) []).findIdx (λz=>z==(x:Int))
inductive yO (vs:Zb) (H:Hp) (Q:VK) (E_:XK):Prop
 |mk (a wa:Zs) (rows:Za3) (p x:Nat) (w:Zg):vs=[↑a,.int x,↑wa]->TabAt H a rows->(∀r∈rows,M11.Pm p r)->x<p->p<=1000->H wa\.tup (ao w)->M11.hY ⇑rows w->⇑rows<=1000->Q (.int ((w.foldl (sf rows) x:Nat):Int)) H->yO vs H Q E_
theorem Ft:∀{r:Zg} {i:Nat} {x:Int},r.Nodup->r[i]?\x->r.findIdx (λz=>z==x)=i
 |[],i,x,_,h=>by simp at h
 |a::r,0,x,_,h=>by
  let e:a=x:=Za0 h;rw[ak7,e];simp
 |a::r,i+ 1,x,c,h=>by
  let b:a≠x:=λz=>(aih.mp c).1 ([z]▸ahB (l:=r) (i:=i) h)
  rw[ak7,show (a==x)=false from ahX.mpr b,Ft (aih.mp c).2 h];rfl
def Dc {rows:Za3}{x:Nat}{r:Zg}(h:0<z)(b:rows[z.natAbs - 1]?\r)(a:r[x]?\(n:Int)):sf rows x z=n:=by
 unfold sf;rw[ah4 h,ahJ,ahJ,b,Option.getD_some,a,Option.getD_some];rfl
def Dd {rows:Za3}{x:Nat}{r:Zg}(h:¬ 0<z)(b:rows[z.natAbs - 1]?\r)(c:r.Nodup)(a:r[n]?\(x:Int)):sf rows x z=n:=by
 unfold sf;rw[ahY h,ahJ,b,Option.getD_some];rwa[Ft c a]
def rh (T:Txt K mg A):T.lQ.Ok P w base 1 yO:=by
 rwa[T.lQ.on jh (λZ AA J s H vs Q E hr h=>?_)]
 ·let⟨a,R,rows,p,x,w,rfl,N,M,hx,hp,o,G,zD,k⟩:=h
  erw[_,{cW ah7 rfl (Ax (pv 2)) (dW 3 jh.nd)
   {bE (bB (aZ vL (pv 3) au (bh _))
    {bC 1 jh.nd ((0|||(aK gW (pv 3) au))|||1)}
    {bC 1 jh.nd (cM ahM PySem.F.slot_list_index PySem.F.type_list_index zP (0|||(aK gW (fe dN (pv 3)) au)) #[1])})},bf (pv 1)}]
  rwa[iA ?_];intro Y;let⟨rs,m,g⟩:=id N;erw[12,R,2,⟨_,bG.of o⟩];rwa[Ej (K:=K) (a:=R) (xs:=ao w) (λn u B=>∃v:Zc,u=#v[↑a,.int (((w.take n).foldl (sf rows) x:Nat):Int),↑R,v]/\B=H/\(w.take n).foldl (sf rows) x<p) ⟨none,22,hx⟩ (λn u B _ ζ=>by let⟨_,_,e,_⟩:=ζ;rwa[[e]▸bG.of o]) ?_ ?_]
  ·rintro n y u B hn ⟨v,rfl,rfl,b⟩;let⟨z,rfl,U⟩:=cD hn;let hs:=G z (ahB U)
   let d:(w.take (n+ 1)).foldl (sf rows) x=sf rows ((w.take n).foldl (sf rows) x) z:=by
    rw[ajA,U,aku];rfl
   rw[d];change (w.take n).foldl (sf rows) x=pt at b ⊢;let X:z.natAbs - 1<⇑rows:=∅
   let l:rows[z.natAbs - 1]?=some rows[z.natAbs - 1]:=ahC X
   let L:z.natAbs - 1<⇑rs:=by rw[g.1];rwa[X]
   let t:rs[z.natAbs - 1]?=some rs[z.natAbs - 1]:=ahC L
   change rows[z.natAbs - 1]=row at l;change rs[z.natAbs - 1]=f at t;let c:=g.2 _ _ _ t l;let C:=M row (ahB l);rwa[⟨15,λ_ _ h=>h⟩];erw[12112212];rwa[bR (λh=>?_) (λh=>?_)]
   ·let I:(0:Int)<z:=aia h;let⟨j,D,r⟩:=C.at b
    let O:j0 (rs.map V.ref) (z - 1)\↑f:=by
     rw[show z - 1=((z.natAbs - 1:Nat):Int) by ext];rwa[eH t]
    erw[12121122,a,11,↑f,22,aH.of m,O,12,f,11122,aH.of c,dB (cQ D)];rw[Dc I l D];rwa[122,r]
   ·let I:¬(0:Int)<z:=λq=>h (ah9 q)
    let⟨j,D,r⟩:=C.T4 b
    let O:j0 (rs.map V.ref) (-z - 1)\↑f:=by
     rw[show -z - 1=((z.natAbs - 1:Nat):Int) by ext];rwa[eH t]
    rwa[⟨1212121122,a,11,↑f,22,aH.of m,O,.inl ⟨21,aH.of c⟩,12,f,row,(pt:Int),22,c,ahB D,λi S _=>?_⟩];rw[Dd I l C.nd S]
    let F:i<p:=by
     have:=(ahD.mp S).1;rw[C.len]at this;rwa[this]
    rwa[122,F]
  ·rintro u B ⟨v,rfl,rfl,b⟩;rw[aO,ai3];rwa[12,k]
def Hc {rows:Za3}{x:Nat}(d:∀r∈rows,M11.Pm n r)(e:x<n)(i:z≠0)(f:z.natAbs<=⇑rows):sf rows x z<n/\sf rows (sf rows x z) (-z)=x:=by
 let g:rows[z.natAbs - 1]?\(rows[z.natAbs - 1]'∅):=ahC ∅
 change rows[z.natAbs - 1]'∅=r at g;let c:=d r (ahB g);cases h:0<z
 ·let⟨j,a,b⟩:=c.at e;rw[Dc h g a];rwa[b,Dd ∅ ([Int.natAbs_neg]▸g) c.nd a]
 ·let⟨j,a,b⟩:=c.T4 e;rw[Dd h g c.nd a];rwa[b,Dc ∅ ([Int.natAbs_neg]▸g) a]
def xJ {w:Zg}(h:M11.hY n (z::w)):(z≠0/\z.natAbs<=n)/\M11.hY n w:=⟨h z (ahU ..),λx a=>h x (aie _ a)⟩
theorem Hd {rows:Za3}{p:Nat}(a:∀r∈rows,M11.Pm p r):∀{w:Zg} {x:Nat},M11.hY ⇑rows w->x<p->w.foldl (sf rows) x<p
 |[],x,_,c=>c
 |s::w,x,e,c=>by
  let⟨d,b⟩:=xJ e;rwa[Hd a (w:=w) b (Hc a c d.1 d.2).1]
theorem De {rows:Za3}{p:Nat}(a:∀r∈rows,M11.Pm p r):∀{w:Zg} {x y:Nat},M11.hY ⇑rows w->x<p->y<p->w.foldl (sf rows) x=w.foldl (sf rows) y->x=y
 |[],x,y,_,_,_,e=>e
 |s::w,x,y,d,g,f,e=>by
  let⟨b,c⟩:=xJ d;let a1:=Hc a g b.1 b.2;let a2:=Hc a f b.1 b.2;have:=De a (w:=w) c a1.1 a2.1 e;rw[<-a1.2,<-a2.2,this]
def Vr:M11.Pm n (eX 0 n):=by
 rwa[⟨oM 0 n,5,λz d=>?_⟩]
 ·unfold eX;rwa[List.Pairwise.map _ (λa b (c:a≠b) (z:(0:Int)+ (a:Int)=0+ (b:Int))=>c ∅) alb]
 ·unfold eX at d;let⟨i,e,rfl⟩:=aiB.mp d;have:=ais.mp e;ext
def Vs {f:Nat->Nat}{xs:Zh}(h:∀x∈xs,x<n)(a:∀x,x<n->M17.it f 60 x=x):xs.map (M17.it f 60)=xs.map (M17.it f 0):=aiG λx b=>a x (h x b)
noncomputable def gC (xs:Zh):Zg:=xs.map λx:Nat=>(x:Int)
def QT (xs:Zh):⇑(gC xs)=⇑xs:=by unfold gC;rw[ahE]
theorem Fu:∀{a ys:Zh},gC a=gC ys->a=ys
 |[],[],_=>rfl
 |[],_::_,h=>by ext h
 |_::_,[],h=>by ext h
 |x::a,y::ys,h=>by
  let b:(x:Int)::gC a=(y:Int)::gC ys:=h;injection b with d c
  rw[show x=y by ext,Fu c]
def Kc (h:(gC B)[i]?\z):∃x,B[i]?\x/\z=(x:Int):=by
 unfold gC at h;rw[ahZ]at h
 cases q:B[i]? with
 |none=>rw[q]at h;ext h
 |some x=>rw[q]at h;rwa[x,2,(Za0 h).symm]
noncomputable def Ap (f:Nat->Nat):V->V
 |.int z=>.int ((f z.toNat:Nat):Int)
 |v=>v
def zH (f:Nat->Nat)(xs:Zh):(ao (gC xs)).map (Ap f)=ao (gC (xs.map f)):=by
 unfold ao gC;rw[aip,aip,aip,aip];rwa[aiG λx _=>?_]
 show V.int ((f ((x:Int)).toNat:Nat):Int)=V.int ((f x:Nat):Int);rw[aic]
def zI {rs:Zn}{rows:Za3}{r:Zs}(h:dO H rs rows)(e:H r\.lst (ao l)):dO H (rs++[r]) (rows++[l]):=by
 rwa[⟨by rw[ahA,ahA,h.1];rfl,λi q d b a=>?_⟩];cases c:i<⇑rs
 ·rw[ahN c]at b;rw[ahN (by rw[<-h.1];rwa[c])]at a;rwa[h.2 i q d b a]
 ·rw[ahO ∅]at b;rw[ahO (by rw[<-h.1];omega)]at a;rw[ahH.mp (ahB b),ahH.mp (ahB a)];rwa[e]
inductive Fv (vs:Zb) (H:Hp) (Q:VK) (E_:XK):Prop
 |mk (z:Int) (m:Nat) (b:Bool):vs=[.int z,.int m,.bl b]->1<=m->m<=100->0<=z->(∀l r H',aq H H'->H' l\.lst (ao r)->M11.Pm m r->Q ↑l H')->Fv vs H Q E_
def Df (d:n<m)(f:i<m)(h:(z+ (n:Int)) % (m:Int)=(z+ (i:Int)) % (m:Int)):n=i:=by
 let e:=Int.emod_emod_of_dvd (z+ (n:Int)) (Int.dvd_refl (m:Int));let b:(m:Int)∣(z+ (n:Int)) - (z+ (i:Int)):=Int.dvd_of_emod_eq_zero (by rw[Int.sub_emod,h,Int.sub_self];rfl);let⟨q,c⟩:=b
 let a:q=0:=by
  rwa[akz λg=>?_]
  have:(m:Int)<=((m:Int)* q).natAbs:=by
   rw[Int.natAbs_mul];have:1<=q.natAbs:=∅
   have:=Nat.mul_le_mul_left m this;rw[Nat.mul_one]at this;show (m:Int)<=((m* q.natAbs:Nat):Int);ext
  ext
 rw[a,Int.mul_zero]at c;ext
def OU {g:Nat->Int}(f:∀i,i<m->0<=g i/\g i<(m:Int))(k:∀i j,i<m->j<m->g i=g j->i=j):M11.Pm m ((~~~m).map g):=by
 rwa[⟨by rw[ahE,air],5,λz l=>?_⟩]
 ·rwa[ajl.mpr (akN ?_ alb)];intro a b e h d z;rwa[d (k a b (ais.mp e) (ais.mp h) z)]
 ·let⟨i,c,rfl⟩:=aiB.mp l;rwa[f i (ais.mp c)]
def QV {r:Zg}(h:r.Perm (eX 0 m)):M11.Pm m r:=by
 let a:M11.Pm m (eX 0 m):=Vr;rwa[by rw[h.length_eq,a.len],h.nodup_iff.mpr a.nd,λz b=>a.rg z (h.mem_iff.mp b)]
theorem erase_cons:∀{s:Zg} {k:Nat} {x:Int},s[k]?\x->(x::s.eraseIdx k).Perm s
 |[],k,x,h=>by simp at h
 |a::s,0,x,h=>by
  let e:a=x:=Za0 h;subst e;rwa[List.Perm.refl _]
 |a::s,k+ 1,x,h=>(List.Perm.swap a x (s.eraseIdx k)).trans ((erase_cons (s:=s) h).cons a)
def He {s:Zg}{k:Nat}{x:Int}(h:s[k]?\x):((l++[x])++s.eraseIdx k).Perm (l++s):=by
 rw[aiL];rwa[List.Perm.append_left l (erase_cons h)]
def Xd {k:Nat}(h:k<n):seqIndex? (k:Int) n\k:=(xW (pG h)).1
theorem xK:∀(ns:Zg) (k:Nat),(ao ns).eraseIdx k=ao (ns.eraseIdx k)
 |[],_=>rfl
 |a::ns,0=>rfl
 |a::ns,k+ 1=>by
  show V.int a::(ao ns).eraseIdx k=V.int a::ao (ns.eraseIdx k);rw[xK ns k]
def xM (T:Txt K mg A):T.mU.Ok P w base 1 Fv:=by
 rwa[T.mU.on fH (λcC AA outer s H vs Q E hr h=>?_)]
 ·let⟨z,m,b,rfl,Y3,CF,hz,k⟩:=h;let hu:=Nat.lt_of_succ_lt (iJ hr)
  erw[_,{bC 3 fH.nd (aK bP (aK cX (pv 0) au) (pv 1)),bE (bB (PW.pt (Av (dq (pv 2)) (xO (aZ dJ (aK bP (pv 0) au) au (bh _)))))
    {bf (jn (fns:=["_law_many","_law_by"]) (ixs:=[1,3]) (cl:=_) rfl (ip rfl T.eU #[1]) (jL rfl rfl rfl ⋯ rfl ⋯ rfl ⋯ ⋯ rfl rfl rfl rfl rfl rfl rfl) (λC s H ex=>(aK bP (aK gW (pv 2) (pv 0)) (pv 1))))}
    bj),bB (dq (pv 2))
    {bf (jn (fns:=["_law_many","_law_by"]) (ixs:=[1,3]) (cl:=_) rfl (ip rfl T.eU #[1]) (jL rfl rfl rfl ⋯ rfl ⋯ rfl ⋯ ⋯ rfl rfl rfl rfl rfl rfl rfl) (λC s H ex=>(aK bP (aK cI (pv 2) (pv 0)) (pv 1))))}
    bj,bC 4 fH.nd (qG rfl rfl T.iG rfl T.eU #[1]),bC 5 fH.nd (bV aj),bE (gJ ah7 (aZ (EE hu) (pv 4) (bV aj) (bh _))
    {aV (cM ahM ahV ahW bH (pv 5) #[cM ahM PySem.F.slot_list_pop PySem.F.type_list_pop KG (pv 4) #[aK bP (pv 0) (4<<<0)]]),bC 0 fH.nd (aK cX (pv 0) (aK cI (4<<<0) au))}),bf (pv 5)}]
  rwa[mE ?_];intro zC oh lF ja fI fV;let b1:=ajc (z / 2) (show (m:Int)≠0 by omega);let b2:=ai1 (z / 2) (show (0:Int)<(m:Int) by omega);erw[121122,⟨44⟩,121122,(by show (0:Int)<(m:Int);omega)];obtain⟨y,hy⟩:∃y,z / 2 % (m:Int)=y:=⟨12⟩;rw[hy]at b1 b2;simp only[hy];erw[λ p q=>p=#v[.int z,.int m,.bl b,.int y,none,none]/\q=H,5]
  ·erw[1212];rwa[bR (λ_=>?_) (λ_=>dh ⟨22⟩)];erw[121122,(by show (0:Int)<2;decide),212];rwa[bR (λ_=>?_) (λ_=>⟨22⟩)];erw[12,(m:Int),233];rw[aic];rwa[xI (λi=>(y - (i:Int)) % (m:Int)) ∅ (λi G R hR=>?_) (λD hD=>?_)]
   ·rwa[12121122121122,(by show (0:Int)<(m:Int);omega),hR]
   ·rwa[k D _ _ (aq.upd hD) ah (OU (λi G=>⟨ajc _ ∅,ai1 _ ∅⟩) λi j G hj e=>?_)]
    let e2:((y - (m:Int)+ 1)+ (((m - 1 - i:Nat)):Int)) % (m:Int)=((y - (m:Int)+ 1)+ (((m - 1 - j:Nat)):Int)) % (m:Int):=by
     rw[show (y - (m:Int)+ 1)+ (((m - 1 - i:Nat)):Int)=y - (i:Int) by ext,show (y - (m:Int)+ 1)+ (((m - 1 - j:Nat)):Int)=y - (j:Int) by ext];rwa[e]
    have:=Df ∅ ∅ e2;ext
  rintro p q ⟨rfl,rfl⟩;erw[1212];rwa[bR (λ_=>?_) (λ_=>?_)]
  ·erw[12,(m:Int),233];rw[aic];rwa[xI (λi=>(y+ (i:Int)) % (m:Int)) ∅ (λi G R hR=>?_) (λD hD=>?_)]
   ·rwa[12121122121122,(by show (0:Int)<(m:Int);omega),hR]
   ·rwa[k D _ _ (aq.upd hD) ah (OU (λi G=>⟨ajc _ ∅,ai1 _ ∅⟩) λi j G hj e=>Df G hj e)]
  rwa[⟨12,m,23,λd X=>?_⟩];let s1:aq q (upd q d (.lst (ao (eX 0 m)))):=aq.upd X;let h1:upd q d (.lst (ao (eX 0 m))) d\(.lst (ao (eX 0 m))):=ah;change upd q d (.lst (ao (eX 0 m)))=Z at s1 h1 ⊢;rwa[⟨ah2 _,λlt t=>?_⟩];let s2:aq Z (upd Z lt (.lst [])):=aq.upd t;let h2:upd Z lt (.lst []) lt\(.lst (ao [])):=ah;let L:d≠lt:=λe=>by rw[<-e,h1]at t;ext t
  let Vt:q lt=none:=s1.free t;change upd Z lt (.lst [])=H2 at s2 h2 ⊢;erw[λ p l=>∃(g:Zg) (v0:Zc),p=#v[v0,.int m,.bl b,.int y,↑d,↑lt]/\aq q l/\l lt\.lst (ao g)/\g.Perm (eX 0 m),5]
  ·erw[λn σ l=>∃(g a:Zg) (x:Int),n=⇑a/\σ=#v[.int x,.int m,.bl b,.int y,↑d,↑lt]/\aq q l/\l lt\.lst (ao g)/\l d\.lst (ao a)/\(g++a).Perm (eX 0 m),⟨_,[],eX 0 m,z,22,s1.trans s2,h2,s2^h1,List.Perm.refl _⟩];rintro n σ l ⟨g,a,x,rfl,rfl,s3,v,hs3,I⟩;let hlen:=I.length_eq;rw[ahA,oM]at hlen;rwa[⟨12,ah2 _,λJ he0=>?_⟩];let U:aq l (upd l J (.lst [])):=aq.upd he0;let h4:upd l J (.lst []) J\(.lst (ao [])):=ah;change upd l J (.lst [])=Y at U h4 ⊢;let F:=U^v;let u:=U^hs3;erw[d,J,a,[],22,u,h4,12];cases r:a=[]
   ·rwa[nj r ?_];rw[r,aib]at I;rwa[g,12,s3.trans U,F,I]
   ·let S:0<⇑a:=List.length_pos_iff.mpr r;rwa[bR (λ_=>?_) (λh=>?_)]
    ·erw[_,λ p q h=>h];let⟨f,hkk,B⟩:=fM x (n:=⇑a) S;let hx:a[f]?=some a[f]:=ahC B
     change a[f]=c at hx;let ekk:x % (⇑(ao a):Int)=(f:Int):=by rw[aO];rwa[hkk]
     erw[12,.inl ⟨21,aH.of F⟩,12,.inl ⟨21,aH.of u⟩,1212,d,12,.inl (aH.of u),1122,(by show (0:Int)<(⇑(ao a):Int);rw[aO];omega)];simp only[ekk];erw[d,_,(f:Int),f,.int c,22,u,33,Xd ([aO]▸B),cQ hx];rw[xK];let M:upd Y d (.lst (ao (a.eraseIdx f))) lt\(.lst (ao g)):=by rw[ak (aiU L)];rwa[F]
     let O:upd Y d (.lst (ao (a.eraseIdx f))) d\(.lst (ao (a.eraseIdx f))):=ah;let nls:q d=none:=X;let s5:aq q (upd Y d (.lst (ao (a.eraseIdx f)))):=λb o e=>by rw[ak (ax e nls)];rwa[U^s3^e]
     change upd Y d (.lst (ao (a.eraseIdx f)))=H5 at M O s5 ⊢;erw[lt,1122,M,5]
     ·rw[aO];rwa[ahK (show ⇑g<=100 by omega) ⋯]
     let EH:⇑(a.eraseIdx f)=⇑a - 1:=List.length_eraseIdx_of_lt B;let N:upd H5 lt (.lst (ao g++[.int c])) d\(.lst (ao (a.eraseIdx f))):=by rw[ak L];rwa[O]
     erw[1212,d,12,.inl (aH.of N),11221122,⟨by show (0:Int)<(⇑(ao (a.eraseIdx f)):Int)+ 1;ext,by show (⇑(ao (a.eraseIdx f)):Int)+ 1<1073741824;rw[aO];ext⟩];rwa[⟨⇑(a.eraseIdx f),3,g++[c],a.eraseIdx f,122,λb o e=>?_,by rw[ah,ints_app];rfl,N,(He hx).trans I⟩];rw[ak (ax e Vt)];rwa[s5^e]
    ·rwa[absurd (by rw[aik r];rfl) h]
  rintro p l ⟨g,v0,rfl,s3,v,I⟩;rwa[12,k lt g l s3 v (QV I)]
def Kd {r lt:Zs}{rs:Zn}(h:H r\.lst (ao l))(b:l≠[])(a:H lt\.lst (rs.map V.ref)):r≠lt:=λe=>by
 rw[e,a]at h;injection h with h
 injection h with h
 cases l with
 |nil=>exact b rfl
 |cons z l=>
  cases rs with
  |nil=>ext h
  |cons q rs=>ext h
def QW (p:Nat):eX 0 p=gC (~~~p):=by
 unfold eX gC;exact aiG λi _=>by show (0:Int)+ (i:Int)=(i:Int);ext
inductive Dg (vs:Zb) (H:Hp) (Q:VK) (E_:XK):Prop
 |mk (ta pa wa:Zs) (rows:Za3) (p:Nat) (xs:Zh) (w:Zg):vs=[↑ta,↑pa,↑wa]->TabAt H ta rows->(∀r∈rows,M11.Pm p r)->p<=6->H pa\.lst (ao (gC xs))->(∀x∈xs,x<p)->⇑xs<=6->H wa\.tup (ao w)->M11.hY ⇑rows w->⇑rows<=40->(∀(n:Nat) H',1<=n->n<=60->(∀x∈xs,M17.it (λx=>w.foldl (sf rows) x) n x=x)->(∀c,1<=c->c<n->¬ ∀x∈xs,M17.it (λx=>w.foldl (sf rows) x) c x=x)->aq H H'->Q (.int (n:Int)) H')->Dg vs H Q E_
def pN (T:Txt K mg A):T.ky.Ok P w base 2 Dg:=by
 rwa[T.ky.on gx (λcC AA outer s H vs Q E hr h=>?_)]
 ·let⟨S,O,U,rows,p,xs,w,rfl,OV,B,Fw,L,G,Y,sU,v,zD,k⟩:=h;let hu:=Nat.lt_of_succ_lt (iJ hr)
  erw[_,{bC 3 gx.nd au,kx (iy:=4) gx.nd rfl (Or.inl rfl) (fns:=["_law_word","_law_turns"]) (ixs:=[2,0]) (cl:=_) rfl (cO (pv 1)) (jL rfl rfl rfl ⋯ rfl ⋯ rfl ⋯ ⋯ rfl rfl rfl rfl rfl rfl rfl) (λC s H ex=>(pc T.lQ (rh T) hr #[2,0,1])),bE (gJ ah7 (aZ (EE hu) (pv 4) (pv 1) (bh _))
    {kx (iy:=4) gx.nd rfl (Or.inl rfl) (fns:=["_law_word","_law_turns"]) (ixs:=[2,0]) (cl:=_) rfl (cO (pv 4)) (jL rfl rfl rfl ⋯ rfl ⋯ rfl ⋯ ⋯ rfl rfl rfl rfl rfl rfl rfl) (λC s H ex=>(pc T.lQ (rh T) hr #[2,0,1])),bC 3 gx.nd (aK cI (pv 3) au)}),bf (pv 3)}]
  rwa[iB ?_];intro ja fI fV;obtain⟨f,hf⟩:∃f:Nat->Nat,f=λx=>w.foldl (sf rows) x:=⟨12⟩
  rw[<-hf]at k;let u:∀x,w.foldl (sf rows) x=f x:=λx=>by rw[hf]
  let M:∀x,x<p->f x<p:=λx a=>by rw[<-u];rwa[Hd B v a]
  let C6:∀x y,x<p->y<p->f x=f y->x=y:=λx y a I e=>by rw[<-u,<-u]at e;rwa[De B v a I e]
  let X:=Vs G (M17.WU Fw M C6);let hit:=λ(n:Nat) (x:Nat) (a:x<p)=>M17.tL M n x a
  let e0:xs.map (M17.it f 0)=xs:=(aiG λx _=>rfl).trans (List.map_id xs);let step:∀c,(xs.map (M17.it f c)).map f=xs.map (M17.it f (c+ 1)):=λc=>by rw[aip];rwa[aiG λx _=>rfl]
  let lt:∀c,∀x∈xs.map (M17.it f c),x<p:=λc x a=>by
   let⟨y,I,rfl⟩:=aiB.mp a;rwa[hit c y (G y I)]
  let body:∀{j:Hp} {R:VK} {i c:Nat} {x:V},aq H j->(ao (gC (xs.map (M17.it f c))))[i]?\x->R (Ap f x) j->yO [↑S,x,↑U] j R E0:=λ{j R i c x} s2 a N=>by
   let⟨z,rfl,hz⟩:=cD a;let⟨y,I,rfl⟩:=Kc hz;let hyp:=lt c y (ahB I);erw[S,U,rows,p,y,w,2,OV.same s2,B,hyp,3,s2^sU,v,3];let o:R (V.int ((f ((y:Nat):Int).toNat:Nat):Int)) j:=N;rw[aic]at o;rw[u];rwa[o]
  let ln:∀c,⇑(ao (gC (xs.map (M17.it f c))))<=sizeLine:=λc=>by rw[aO,QT,ahE];rwa[ahP Y ⋯]
  let g:H O\(.lst (ao (gC (xs.map (M17.it f 0))))):=by rw[e0];rwa[L]
  erw[12,O,2,⟨_,aH.of g⟩];rwa[kI (ao (gC (xs.map (M17.it f 0)))) (Ap f) (i3 (aH.of g)) (g6 (aH.of g)) (fL (aH.of g)) (ln 0) (λi x a R N=>⟨121212,body (aq.refl H) a N⟩) (λb YF=>?_)];rw[zH,step];let s1:aq H (upd H b (.lst (ao (gC (xs.map (M17.it f 1)))))):=aq.upd YF;let o:upd H b (.lst (ao (gC (xs.map (M17.it f 1))))) b\(.lst (ao (gC (xs.map (M17.it f 1))))):=ah;change upd H b (.lst (ao (gC (xs.map (M17.it f 1)))))=H1 at s1 o ⊢;erw[λ J j=>∃(b:Zs) (c:Nat),J=#v[↑S,↑O,↑U,.int (c:Int),↑b]/\aq H j/\1<=c/\c<=60/\xs.map (M17.it f c)=xs/\(∀d,1<=d->d<c->xs.map (M17.it f d)≠xs),5]
  ·erw[λm σ j=>∃(b:Zs) (c:Nat),m=60 - c/\σ=#v[↑S,↑O,↑U,.int (c:Int),↑b]/\aq H j/\j b\.lst (ao (gC (xs.map (M17.it f c))))/\1<=c/\c<=60/\(∀d,1<=d->d<c->xs.map (M17.it f d)≠xs),⟨_,b,(1),22,s1,o,ahG _,3,λd o r=>∅⟩];rintro m σ j ⟨b,c,rfl,rfl,s2,r,F,D,t⟩;erw[1212,b,O,1122,r,s2^L,12];cases e:gC (xs.map (M17.it f c))=gC xs
   ·rwa[nj e ⟨b,c,2,s2,F,D,Fu e,t⟩]
   ·rwa[bR (λ_=>?_) (λh=>absurd (by rw[aik e];rfl) h)]
    let Y4:c<60:=by
     rcases ajB c 60 with q|q
     ·rwa[q]
     ·rwa[absurd (by rw[show c=60 by ext,X,e0]) e]
    rwa[⟨_,λ_ _ h=>h,?_⟩];erw[12,b,2,⟨_,aH.of r⟩];rwa[kI (ao (gC (xs.map (M17.it f c)))) (Ap f) (i3 (aH.of r)) (g6 (aH.of r)) (fL (aH.of r)) (ln c) (λi x a R N=>⟨121212,body s2 a N⟩) (λs3 Z=>?_)];rw[zH,step];rwa[⟨121122,60 - (c+ 1),3,s3,c+ 1,25,s2.trans (aq.upd Z),ah,33,λd o r=>?_⟩]
    ·rw[show ((c+ 1:Nat):Int)=(c:Int)+ 1 by ext];rfl
    ·cases q:d=c
     ·rw[q];rwa[λz=>e (by rw[z])]
     ·rwa[t d o ∅]
  rintro J j ⟨b,c,rfl,s2,F,D,hxc,t⟩;rwa[⟨12,k c j F D (λx a=>?_) (λd o r z=>t d o r ((aiG λx a=>z x a).trans (List.map_id xs))) s2⟩];let⟨i,hi,rfl⟩:=ajw.mp a;let h9:=aiN (λl=>l[i]?) hxc;simp only[ahZ,ahC hi]at h9;rwa[Za0 h9]
def Ke {j:TE}{Q:VK}(lo:Int)(y:n<=1000)(t:∀(i:Nat) (b:Hp) (R:VK),i<n->(∀q,b q=none->R ↑q (upd b q (.tup (ao [lo+ (i:Int)]))))->j (some (.int (lo+ (i:Int)))::D) b R)
 (k:∀a b c,aq H b->b a=none->cf b c ((~~~n).map λi:Nat=>[lo+ (i:Int)])->Q ↑a (upd b a (.lst (c.map V.ref)))):rF j D Q (vI lo n) H:=by
 erw[λi m ys b=>m=n - i/\i<=n/\∃c:Zn,ys=c.map V.ref/\aq H b/\cf b c ((~~~i).map λi:Nat=>[lo+ (i:Int)]),⟨n,by simp,ah2 _,[],2,λ_ _ e=>e,⟨2,λi r u p=>by simp at p⟩⟩];rintro i m ys b ⟨rfl,v,c,rfl,s2,f⟩;let g:⇑c=i:=by have:=f.1;rw[ahE,air]at this;rwa[this]
 cases d:i<n
 ·rwa[.inr ⟨d,[ahE,g]▸ahK (show i<=1000 by omega) ⋯,λx o s=>?_⟩];let⟨rfl,rfl⟩:=s;rwa[t i o _ d λq h=>?_]
  erw[n - (i+ 1),32,d,c++[q],by rw[aid];rfl,s2.trans (aq.upd h)];rw[ajf,aid];rwa[(f.same (aq.upd h)).snoc ah]
 ·let e:i=n:=∅
  subst e;rwa[.inl ⟨ahG _,[ahE,g]▸ahP (show i<=1000 by omega) ⋯,λa l=>k a b c s2 l f⟩]
def vD {f:Zn}{d e:Za3}(h:cf H F d)(c:cf H f e):cf H (F++f) (d++e):=by
 rwa[⟨by rw[ahA,ahA,h.1,c.1],λi p w b a=>?_⟩];cases g:i<⇑F
 ·rw[ahN g]at b;rw[ahN (by rw[<-h.1];rwa[g])]at a;rwa[h.2 i p w b a]
 ·rw[ahO ∅]at b;rw[ahO (by rw[<-h.1];omega),<-h.1]at a;rwa[c.2 _ p w b a]
def Dh (w:Zg)(n:Nat):(List.replicate n (ao w)).flatten=ao ((List.replicate n w).flatten):=by
 induction n with
 |zero=>rfl
 |succ n a=>rw[ajF,akt,a,ajF,akt,ints_app]
def Dj {w:Zg}(h:z∈(List.replicate n w).flatten):z∈w:=by
 let⟨u,b,a⟩:=List.mem_flatten.mp h;rw[(List.mem_replicate.mp b).2]at a;rwa[a]
def zJ (w:Zg)(n:Nat):(List.replicate n w).flatten.length=⇑w* n:=by
 induction n with
 |zero=>rfl
 |succ n a=>rw[ajF,akt,ahA,a,Nat.mul_succ];ext
theorem Dl {a:Type}(g:Nat->a->Nat)(w:List a):∀(n x:Nat),((List.replicate n w).flatten).foldl g x=M17.it (λx=>w.foldl g x) n x
 |0,x=>rfl
 |n+ 1,x=>by
  let e:=M17.wA (λx=>w.foldl g x) 1 n x;rw[show n+ 1=1+ n by ext,e,show 1+ n=n+ 1 by ext,ajF,akt,aku,Dl g w n];rfl
def Kf (rows:Za3)(p:Nat)(u:Zg):Prop:=M11.hY ⇑rows u/\⇑u<=60/\∀x,x<p->u.foldl (sf rows) x=x
inductive Fx (vs:Zb) (H:Hp) (Q:VK) (E_:XK):Prop
 |mk (ta:Zs) (rows:Za3) (p:Nat) (z xH:Int):vs=[↑ta,.int ⇑rows,.int z,.int xH]->xH<=60->TabAt H ta rows->1<=⇑rows->⇑rows<=3->(∀r∈rows,M11.Pm p r)->p<=6->(∀l R H',aq H H'->bX H' l R->(∀u∈R,Kf rows p u)->⇑R<=21->H l=none->Q ↑l H')->Fx vs H Q E_
def Ah (T:Txt K mg A):T.qk.Ok P w base 3 Fx:=by
 rwa[T.qk.on df (λcC AA outer s H vs Q E hr h=>?_)]
 ·let⟨ta,rows,p,z0,xH,rfl,agm,OV,kX,Y5,Y6,Fw,k⟩:=h
  refine⟨_,{kx (iy:=4) df.nd rfl (Or.inl rfl) (fns:=[]) (ixs:=[]) (cl:=[]) rfl (ni rfl T.eU #[au,aK cI (pv 1) au]) (jJ (by decide) (by decide) rfl (by decide) rfl) (λC s H ex=>(cy #[0])),cW ah7 rfl (ni rfl T.eU #[au,aK cI (pv 1) au]) (dW 5 df.nd)
    {cW ah7 rfl (ni rfl T.eU #[au,5]) (dW 6 df.nd)
     {bC 4 df.nd (aK AK (pv 4) (bV #[cy #[6,5],cy #[6,fe dN (pv 5)],cy #[6,5,fe dN (pv 6),fe dN (pv 5)]]))}},bC 7 df.nd (bV aj),cW ah7 rfl (cO (pv 4)) (dW 8 df.nd)
    {bC 9 df.nd (pc T.ky (pN T) hr #[0,qG rfl rfl T.iG rfl T.eU #[(0|||au)<<<0],8]),bE (bB (PW.pt (Av (aZ vL (aK bP (pv 2) au) au (bh _)) (xO (aZ V2 (aK ml (8<<<0) (pv 9)) (pv 3) (bh _)))))
     {aV (cM ahM ahV ahW bH (pv 7) #[aK Ey (pv 8) (pv 9)]),bC 3 df.nd (aK gW (pv 3) (aK ml (8<<<0) (pv 9)))}
     bj),bC 2 df.nd (aK cX (pv 2) au)},bf (pv 7)},?_⟩
  rwa[p5 ?_];intro lF ja fI fV;let⟨Vu,abn,t⟩:=id OV;let l:0<⇑rows:=∅
  let c0:rows[0]?=some rows[0]:=ahC l
  let Z:=Y6 _ (ahB c0);change rows[0]=abo at c0 Z;let d0:Vu[0]?\(Vu[0]'([t.1]▸l)):=ahC ([t.1]▸l)
  change Vu[0]'([t.1]▸l)=Vv at d0;let abp:=t.2 0 Vv abo d0 c0;erw[121122,(1),(⇑rows:Int)+ 1,2,⟨3333⟩];rwa[Ke 1 (n:=((⇑rows:Int)+ 1 - 1).toNat) ∅ (λi H2 R hi hR=>⟨12,Za4 1,λq hq=>hR q hq⟩) (λd H1 c s1 hlw zx=>?_)];let Vw:aq H1 (upd H1 d (.lst (c.map V.ref))):=aq.upd hlw;let h2:upd H1 d (.lst (c.map V.ref)) d\(.lst (c.map V.ref)):=ah;change upd H1 d (.lst (c.map V.ref))=H2 at Vw h2 ⊢;let Y:=zx.same Vw
  let Y7:∀u∈(List.range ((⇑rows:Int)+ 1 - 1).toNat).map (λi:Nat=>[(1:Int)+ (i:Int)]),M11.hY ⇑rows u/\⇑u<=4:=λu g=>by
   let⟨i,hi,rfl⟩:=aiB.mp g;have:=ais.mp hi;rwa[λs m=>[ahH.mp m]▸⟨33⟩,by show 1<=4;decide]
  let X2:⇑((List.range ((⇑rows:Int)+ 1 - 1).toNat).map (λi:Nat=>[(1:Int)+ (i:Int)]))<=3:=by rw[ahE,air];ext
  change (List.range ((⇑rows:Int)+ 1 - 1).toNat).map (λi:Nat=>[(1:Int)+ (i:Int)])=W0 at Y Y7 X2;let s02:=s1.trans Vw;erw[121122,(2),(⇑rows:Int)+ 1,2,⟨3333⟩];rwa[iq (lo:=2) (n:=((⇑rows:Int)+ 1 - 2).toNat) (λi B G=>∃(d:Zs) (c:Zn) (f:Za3) (v5 L:Zc),B=#v[↑ta,.int (⇑rows:Int),.int z0,.int xH,↑d,v5,L,none,none,none]/\aq H G/\G d\.lst (c.map V.ref)/\cf G c f/\(∀u∈f,M11.hY ⇑rows u/\⇑u<=4)/\⇑f<=3+ 9* i) ⟨d,c,W0,none,none,2,s02,h2,Y,Y7,3⟩ ?_ ?_]
  ·rintro i B G hi ⟨d,c,f,v5,L,rfl,s3,h3,t3,Vx,hl3⟩;erw[12,(1),2+ (i:Int),2,⟨3333⟩];rwa[iq (lo:=1) (n:=(2+ (i:Int) - 1).toNat) (λn B X=>∃(d:Zs) (c:Zn) (f:Za3) (L:Zc),B=#v[↑ta,.int (⇑rows:Int),.int z0,.int xH,↑d,.int (2+ (i:Int)),L,none,none,none]/\aq H X/\X d\.lst (c.map V.ref)/\cf X c f/\(∀u∈f,M11.hY ⇑rows u/\⇑u<=4)/\⇑f<=3+ 9* i+ 3* n) ⟨d,c,f,L,2,s3,h3,t3,Vx,3⟩ ?_ ?_]
   ·rintro n B X hn ⟨d,c,f,L,rfl,s4,h4,t4,Vy,hl4⟩;rwa[⟨121212,Za4 2,λU Jz=>?_⟩];let s5:=aq.upd (o:=.tup [.int (1+ (n:Int)),.int (2+ (i:Int))]) Jz;let a5:upd X U (.tup [.int (1+ (n:Int)),.int (2+ (i:Int))]) U\(.tup (ao [1+ (n:Int),2+ (i:Int)])):=ah;change upd X U (.tup [.int (1+ (n:Int)),.int (2+ (i:Int))])=j at s5 a5 ⊢;rwa[⟨121212,Za4 2,λS Fb=>?_⟩];let s6:=aq.upd (o:=.tup [.int (1+ (n:Int)),.int (-(2+ (i:Int)))]) Fb;let a6:upd j S (.tup [.int (1+ (n:Int)),.int (-(2+ (i:Int)))]) S\(.tup (ao [1+ (n:Int),-(2+ (i:Int))])):=ah;change upd j S (.tup [.int (1+ (n:Int)),.int (-(2+ (i:Int)))])=H6 at s6 a6 ⊢;rwa[⟨121212121212,Za4 4,λN hq3=>?_⟩];let s7:=aq.upd (o:=.tup [.int (1+ (n:Int)),.int (2+ (i:Int)),.int (-(1+ (n:Int))),.int (-(2+ (i:Int)))]) hq3;let a7:upd H6 N (.tup [.int (1+ (n:Int)),.int (2+ (i:Int)),.int (-(1+ (n:Int))),.int (-(2+ (i:Int)))]) N\(.tup (ao [1+ (n:Int),2+ (i:Int),-(1+ (n:Int)),-(2+ (i:Int))])):=ah;change upd H6 N (.tup [.int (1+ (n:Int)),.int (2+ (i:Int)),.int (-(1+ (n:Int))),.int (-(2+ (i:Int)))])=H7 at s7 a7 ⊢;rwa[⟨Za4 3,λql CH=>?_⟩];let s8:=aq.upd (o:=.lst [↑U,↑S,↑N]) CH;let a8:upd H7 ql (.lst [↑U,↑S,↑N]) ql\(.lst ([U,S,N].map V.ref)):=ah;change upd H7 ql (.lst [↑U,↑S,↑N])=H8 at s8 a8 ⊢;let Vz:=((s5.trans s6).trans s7).trans s8
    let t8:cf H8 [U,S,N] [[1+ (n:Int),2+ (i:Int)],[1+ (n:Int),-(2+ (i:Int))],[1+ (n:Int),2+ (i:Int),-(1+ (n:Int)),-(2+ (i:Int))]]:=by
     let b0:cf H8 [] []:=⟨2,λi p w h1=>by simp at h1⟩;rwa[((b0.snoc (s8^s7^s6^a5)).snoc (s8^s7^a6)).snoc (s8^a7)]
    let oU:⇑c=⇑f:=t4.1;rwa[⟨d,ql,1122,Vz^h4,a8,5,λl9 OS=>?_⟩]
    ·rw[ahE,ahE];rwa[ahP (show ⇑c+ 3<=1000 by omega) ⋯]
    erw[l9,c++[U,S,N],112,(s4.trans Vz).trans (aq.upd OS),by rw[ah,aid],(vD (t4.same Vz) t8).same (aq.upd OS),λu g=>?_]
    ·rcases ahL.mp g with g|g
     ·rwa[Vy u g]
     ·let ok:∀s:Int,s=1+ (n:Int)\/s=2+ (i:Int)\/s= -(1+ (n:Int))\/s= -(2+ (i:Int))->s≠0/\s.natAbs<=⇑rows:=λs m=>by
       rcases m with rfl|rfl|rfl|rfl
       ·rwa[⟨by ext,by ext⟩]
       ·rwa[⟨by ext,by ext⟩]
       ·rwa[⟨by ext,by ext⟩]
       ·rwa[⟨by ext,by ext⟩]
      simp only[ahR,ail,ajN]at g;rcases g with rfl|rfl|rfl
      ·rwa[⟨λs m=>ok s ?_,by show 2<=4;decide⟩];simp only[ahR,ail,ajN]at m;rcases m with h|h
       ·rwa[.inl h]
       ·rwa[.inr (.inl h)]
      ·rwa[⟨λs m=>ok s ?_,by show 2<=4;decide⟩];simp only[ahR,ail,ajN]at m;rcases m with h|h
       ·rwa[.inl h]
       ·rwa[.inr (.inr (.inr h))]
      ·rwa[⟨λs m=>ok s ?_,by show 4<=4;decide⟩];simp only[ahR,ail,ajN]at m;rwa[m]
    ·rw[ahA];simp only[ah0,ajd];ext
   ·rintro B X ⟨d,c,f,L,rfl,s4,h4,t4,Vy,hl4⟩;rwa[d,c,f,112,s4,h4,t4,Vy,3]
  rintro B G ⟨d,c,f,v5,L,rfl,s3,h3,t3,Vx,hl3⟩;rwa[⟨ah2 _,λI C5=>?_⟩];let VA:aq G (upd G I (.lst [])):=aq.upd C5;let h4:upd G I (.lst []) I\(.lst (([]:Zn).map V.ref)):=ah;change upd G I (.lst [])=X at VA h4 ⊢;erw[12,d,2,⟨_,aH.of (VA^h3)⟩];rwa[eY (K:=K) (a:=d) (xs:=c.map V.ref) (λn B j=>∃(fs:Zn) (R:Za3) (zm D:Int) (v8 v9:Zc),B=#v[↑ta,.int (⇑rows:Int),.int zm,.int D,↑d,v5,L,↑I,v8,v9]/\aq G j/\j I\.lst (fs.map V.ref)/\cf j fs R/\(∀u∈R,Kf rows p u)/\⇑R<=n/\D<=60) ⟨[],[],z0,xH,none,none,2,VA,h4,⟨2,λi p w h1=>by simp at h1⟩,(λu g=>by ext g),ah2 _,3⟩ (λn B j _ ζ=>by let⟨_,_,_,_,_,_,_,s,_⟩:=ζ;rwa[aH.of (s^h3)]) ?_ ?_]
  ·rintro n y B j hn ⟨fs,R,zm,D,v8,v9,rfl,s5,h5,t5,J,OW,VB⟩;rw[ahZ]at hn
   let Fd:n<⇑c:=by
    cases e:c[n]? with
    |none=>rw[e]at hn;ext hn
    |some r=>exact(ahD.mp e).1
   let g1:c[n]?=some c[n]:=ahC Fd
   rw[g1]at hn;let ey:V.ref c[n]=y:=Za0 hn;subst ey;change c[n]=wa at g1;let oU:⇑c=⇑f:=t3.1;let g2:f[n]?\(f[n]'∅):=ahC ∅
   change f[n]'∅=w at g2;let sU:=t3.2 n wa w g1 g2;let⟨Om,X9⟩:=Vx w (ahB g2);let VC:=s3.trans s5;let Xe:=VC^abn;rwa[⟨1212,ta,11,↑Vv,22,aH.of Xe,eH (i:=0) d0,Vv,12,.inl (aH.of (VC^abp)),p,by rw[aO,Z.1],3,λlp hlp=>?_⟩];let M:aq j (upd j lp (.lst (ao (eX 0 p)))):=aq.upd hlp;let h6:upd j lp (.lst (ao (eX 0 p))) lp\(.lst (ao (eX 0 p))):=ah;change upd j lp (.lst (ao (eX 0 p)))=H6 at M h6 ⊢;rw[QW]at h6;rwa[⟨12,ta,lp,wa,rows,p,List.range p,w,2,OV.same (VC.trans M),Y6,Fw,h6,λx hx=>ais.mp hx,[air]▸Fw,M^s5^sU,Om,3,λon H7 ho1 Vj Fy _ s67=>?_⟩];let O:=M.trans s67;let v:=O^s5^sU;let h7:=O^h5;let t7:=t5.same O;let VD:=s5.trans O;erw[λ ik H'=>∃(fs:Zn) (R:Za3) (D:Int),ik=#v[↑ta,.int (⇑rows:Int),.int zm,.int D,↑d,v5,L,↑I,↑wa,.int (on:Int)]/\aq G H'/\H' I\.lst (fs.map V.ref)/\cf H' fs R/\(∀u∈R,Kf rows p u)/\⇑R<=n+ 1/\D<=60,5]
   ·rwa[⟨121122,(by show (0:Int)<3;decide),112212,bR (λ_=>?_) (λ_=>dh ⟨fs,R,D,2,VD,h7,t7,J,3,VB⟩)⟩];rwa[⟨12,wa,12,.inr (bG.of v),121122,.inr ⟨33⟩,12112212,bR (λh=>?_) (λ_=>⟨fs,R,D,2,VD,h7,t7,J,3,VB⟩)⟩];let hle:(⇑(ao w):Int)* (on:Int)<=D:=aia h;rw[aO]at hle
    let hmul:⇑w* on<=60:=by
     have:((⇑w* on:Nat):Int)=(⇑w:Int)* (on:Int):=Int.natCast_mul ..;ext
    rwa[⟨12,.inl ⟨21,aH.of h7⟩,1212,wa,1122,v,335,λq8 H8 F h8=>?_⟩]
    ·rw[aO,aic];rwa[ahP hmul ⋯]
    rw[aic,Dh]at h8;let VF:=F^h7;let Oo:⇑fs=⇑R:=t5.1;erw[I,1122,VF,5]
    ·rw[ahE];rwa[ahK (show ⇑fs<=1000 by omega) ⋯]
    let abq:upd H8 I (.lst (fs.map V.ref++[V.ref q8])) wa\(.tup (ao w)):=by
     rw[ak (bT (F^v) VF f!"")];rwa[F^v]
    erw[1212,wa,12,.inr (bG.of abq),121122,.inr ⟨33⟩,1122];erw[fs++[q8],R++[(List.replicate on w).flatten],12,λb o e=>[ak (ax e C5)]▸F^VD^e,by rw[ah,aid];rfl,vC ((t7.same F).snoc h8) VF,λu g=>?_,by rw[ahA];simp only[ah0,ajd];ext]
    ·rcases ahL.mp g with g|g
     ·rwa[J u g]
     ·rw[ahH.mp g];rwa[λs m=>Om s (Dj m),[zJ]▸hmul,λx hx=>[Dl]▸Fy x (ais.mpr hx)]
    ·rw[aO];have:(0:Int)<=(⇑w:Int)* (on:Int):=Int.mul_nonneg ∅ ∅;ext
   rintro ik H8 ⟨fs,R,D,rfl,s8,h8,t8,hR8,abr,abt⟩;rwa[121122,⟨44⟩,fs,R,_,D,112,s8,h8,t8,hR8,abr,abt]
  ·rintro B j ⟨fs,R,zm,D,v8,v9,rfl,s5,h5,t5,J,OW,VB⟩;let oU:⇑c=⇑f:=t3.1;rw[ahE]at OW;rwa[12,k I R j (s3.trans s5) ⟨fs,h5,t5⟩ J ∅ (same_none s3 C5)]
def VG (rows:Za3)(x:Nat)(u:Zg):Prop:=M11.hY ⇑rows u/\⇑u<=1000/\u.foldl (sf rows) x=x
inductive Kg (K:Za1) (vs:Zb) (H:Hp) (Q:VK) (E_:XK):Prop
 |mk (a ta:Zs) (ns:Zg) (rows:Za3) (p x:Nat):vs=[↑a,↑ta,.int ⇑rows,.int x]->aH K H a (ao ns)->⇑ns<=63->TabAt H ta rows->1<=⇑rows->⇑rows<=3->(∀r∈rows,M11.Pm p r)->p<=6->x<p->(∀l P H',aq H H'->bX H' l P->(∀u∈P,VG rows x u)->⇑P<=3->Q ↑l H')->Kg K vs H Q E_
structure jG (H H':Hp) (l:Zs) (L n m:Nat) (Ws:Za3):Prop where
 s:aq H H'
 f:H l=none
 h:bX H' l Ws
 w:∀u∈Ws,M11.hY L u/\⇑u<=m
 c:⇑Ws<=n
def jG.same {b:Za3}(h:jG H I a n m i b)(s:aq I J):jG H J a n m i b:=⟨h.s.trans s,h.f,h.h.same s,h.w,h.c⟩
def jG.le {n' m':Nat}{b:Za3}(h:jG H I a n m i b)(e:m<=n')(d:i<=m'):jG H I a n n' m' b:=⟨h.s,h.f,h.h,λu c=>⟨(h.w u c).1,ahP (h.w u c).2 d⟩,ahP h.c e⟩
def jG.add {q:Zs}{f:Za3}{u:Zg}(h:jG H I a n m i f)(j:I q\.tup (ao u))(l:M11.hY n u/\⇑u<=i):∃c:Zn,I a\.lst (c.map V.ref)/\⇑c<=m/\jG H (upd I a (.lst (c.map V.ref++[↑q]))) a n (m+ 1) i (f++[u]):=by
 let⟨c,g,d⟩:=h.h;rwa[⟨c,g,[d.1]▸h.c,λb o e=>[ak (ax e h.f)]▸h.s^e,h.f,⟨c++[q],by rw[ah,aid];rfl,vC (d.snoc j) g⟩,λv k=>?_,by rw[ahA];have:=h.c;show _+ 1<=_;ext⟩];rcases ahL.mp k with y|y
 ·rwa[h.w v y]
 ·rw[ahH.mp y];rwa[l]
def jG.ins {K:Za1}{b:Za3}(h:jG H I a n m i b):M9 K "list" ↑a I:=by
 let⟨d,c,_⟩:=h.h;rwa[.inl ⟨21,aH.of c⟩]
def Dm (T:Txt K mg A):T.sG.Ok P w base 3 (Kg K):=by
 rwa[T.sG.on gy (λcC AA outer s H vs Q E M h=>?_)]
 ·let⟨a,Z,ns,rows,p,x,rfl,ha,Y8,hT,kX,Y5,N,Fw,J,k⟩:=h;let O:=Nat.lt_of_succ_lt (iJ M)
  erw[_,{bC 4 gy.nd (aK bP (pc T.bz (bp T) M #[0,au]) au),bC 5 gy.nd (bV aj),bE (bB (PW.pt (lH (aZ dJ (pv 4) au (bh _)) (lZ (aZ dJ (pv 4) au (bh _)))))
    {aV (cM ahM ahV ahW bH (pv 5) #[cy #[aK cI au (aK bP (aK cX (pc T.bz (bp T) M #[0,au]) au) (pv 2))]])}
    bj),bE (bB (aZ dJ (pv 4) au (bh _))
    {aV (cM ahM ahV ahW bH (pv 5) #[cy #[(5|||au)&&&au,aK gW (fe dN au) (aK bP (aK cX (pc T.bz (bp T) M #[0,au]) au) (pv 2))]])}
    bj),bE (bB (aZ dJ (pv 4) au (bh _))
    {bC 6 gy.nd (cy aj),cW ah7 rfl (cO (pW Es (pv 0) (oJ au) (oJ au))) (dW 7 gy.nd)
     {bC 6 gy.nd (aK AV (pv 6) (cy #[pc T.nX (sW T) M #[aK bP (aK ml (pv 7) au) au,2]]))},bE (bB (aZ (Pj O) (pv 6) (cy aj) (bh _))
     {aV (cM ahM ahV ahW bH (pv 5) #[6])}
     bj)}
    bj),bf (jn (fns:=["_law_turns","_law_first"]) (ixs:=[1,3]) (cl:=_) rfl (cO (pv 5)) (jL rfl rfl rfl ⋯ rfl ⋯ rfl ⋯ ⋯ rfl rfl rfl rfl rfl rfl rfl) (λC s H ex=>(aK Ey (pv 0) (pc T.ky (pN T) M #[1,bV #[2],0]))))}]
  rwa[mD ?_];intro oh lF ja fI fV;rwa[⟨12,a,ns,(6),2,ha,4,λz=>⟨1122,(by show (0:Int)<4;decide),5⟩⟩];obtain⟨y,m⟩:∃y,z % 4=y:=⟨12⟩;rw[show V.int (z % 4)=V.int y from aiN V.int m];clear m;rwa[⟨ah2 _,λl nl=>?_⟩];let w0:jG H (upd H l (.lst [])) l ⇑rows 0 1 []:=⟨aq.upd nl,nl,⟨[],ah,2,λi p w h=>by simp at h⟩,(λu O=>by ext O),ahG _⟩;change upd H l (.lst [])=H1 at w0 ⊢;let md:∀z:Int,0<=z % (⇑rows:Int)/\z % (⇑rows:Int)<⇑rows:=λz=>⟨ajc _ ∅,ai1 _ ∅⟩
  erw[λ d r=>∃g,d=#v[↑a,↑Z,.int ⇑rows,.int x,.int y,↑l,none,none]/\jG H r l ⇑rows 1 2 g/\(y=2->∃s,g=[[s]]),5]
  ·erw[12212];rwa[bR (λL=>hV ?_) (λL=>⟨12212,bR (λh2=>?_) (λh2=>⟨[],2,w0.le ⋯ ⋯,λe=>absurd (by rw[e];rfl) h2⟩)⟩)]
   all_goals
    rwa[⟨12,w0.ins,12,a,ns,(6),2,w0.s.seq ha,4,λz1=>⟨1122,⟨44⟩,121122,(by show (0:Int)<(⇑rows:Int);omega),1122,(Za4 1),λq hq=>?_⟩⟩];let sq:=aq.upd (o:=.tup [.int (1+ z1 / 24 % (⇑rows:Int))]) hq;have:=md (z1 / 24);let⟨f,j,g2,g3⟩:=(w0.same sq).add (q:=q) (u:=[1+ z1 / 24 % (⇑rows:Int)]) ah ⟨λs F=>[ahH.mp F]▸⟨33⟩,ahG _⟩;rwa[l,1122,j,[ahE]▸ahK (show ⇑f<=100 by omega) ⋯,12,g3.le ⋯ ⋯,λ_=>⟨12⟩]
  rintro d R ⟨g,rfl,X,m⟩;erw[λ d r=>∃g,d=#v[↑a,↑Z,.int ⇑rows,.int x,.int y,↑l,none,none]/\jG H r l ⇑rows 2 2 g,5]
  ·erw[12212];rwa[bR (λL=>?_) (λL=>⟨g,2,X.le ⋯ ⋯⟩)];let h1':V.int y=V.int 2:=aia L;let⟨s0,rfl⟩:=m (by injection h1');let⟨f,j,g2⟩:=id X.h
   obtain⟨S,rfl⟩:∃S,f=[S]:=by
    have:=g2.1
    match f,this with
    |[S],_=>rwa[S,2]
   let g3:R S\(.tup (ao [s0])):=g2.2 0 S _ rfl rfl;let Kh:=(X.w _ (ahH.mpr rfl)).1 s0 (ahH.mpr rfl);rwa[⟨12,X.ins,12,l,11122,aH.of j,2,S,11122,bG.of g3,21212,a,ns,(7),2,X.s.seq ha,4,λz1=>⟨1122,⟨44⟩,121122,(by show (0:Int)<(⇑rows:Int);omega),1122,(Za4 2),λq hq=>?_⟩⟩];let sq:=aq.upd (o:=.tup [.int s0,.int (-1 - z1 / 192 % (⇑rows:Int))]) hq;have:=md (z1 / 192)
   let⟨f,j,g2,g3⟩:=(X.same sq).add (q:=q) (u:=[s0,-1 - z1 / 192 % (⇑rows:Int)]) ah ⟨λs F=>by
    rcases ahR.mp F with rfl|F
    ·rwa[Kh]
    ·rw[ahH.mp F];rwa[33],ahG _⟩
   rwa[l,1122,j,[ahE]▸ahK (show ⇑f<=100 by omega) ⋯,12,g3]
  rintro d H3 ⟨Ws3,rfl,w3⟩;clear X m w0 g;erw[λ d r=>∃g v6 I,d=#v[↑a,↑Z,.int ⇑rows,.int x,.int y,↑l,v6,I]/\jG H r l ⇑rows 3 63 g,5]
  ·erw[12212];rwa[bR (λL=>?_) (λL=>⟨Ws3,112,w3.le ⋯ ⋯⟩)];rwa[⟨ah2 _,λt nt=>?_⟩];let st:=aq.upd (o:=.tup []) nt;let qt:upd H3 t (.tup []) t\(.tup (ao [])):=ah;change upd H3 t (.tup [])=H4 at st qt ⊢;rwa[⟨121212,a,12,(w3.s.trans st).seq ha,λb nb=>?_⟩]
   obtain⟨ms,em,hm⟩:∃ms:Zg,gL (ao ns) (some 8) (some 63)=ao ms/\⇑ms<=63:=by
    erw[(ns.drop (HT.b6 ⇑(ao ns) 0 (some 8))).take (HT.b6 ⇑(ao ns) ⇑(ao ns) (some 63) - HT.b6 ⇑(ao ns) 0 (some 8)),by unfold gL ao;rw[List.map_take,List.map_drop]];rw[aif,aiC];ext
   rw[em];let sb:=aq.upd (o:=.lst (ao ms)) nb;let qb:upd H4 b (.lst (ao ms)) b\(.lst (ao ms)):=ah;change upd H4 b (.lst (ao ms))=Y at sb qb ⊢;erw[b,2,⟨_,aH.of qb⟩];rwa[eY (K:=K) (a:=b) (xs:=ao ms) (λi σ r=>∃(t:Zs) (u:Zg) (I:Zc),σ=#v[↑a,↑Z,.int ⇑rows,.int x,.int y,↑l,↑t,I]/\aq Y r/\r t\.tup (ao u)/\⇑u=i/\M11.hY ⇑rows u) ⟨t,[],none,2,aq.refl _,sb^qt,2,(λs F=>by ext F)⟩ (λi σ r _ ζ=>by let⟨_,_,_,_,s,_⟩:=ζ;rwa[aH.of (s^qb)]) ?_ ?_]
   ·rintro i v σ H6 B ⟨t,u,I,rfl,s6,q6,hl,O⟩;let⟨z1,rfl,hz⟩:=cD B;let Vf:=(ahD.mp hz).1;rwa[⟨12121122,.inr ⟨44⟩,1122,(by show (0:Int)<2147483647;decide),121,⇑rows,2,kX,3,λs L h2=>⟨(Za4 1),λu' nu=>?_⟩⟩];rwa[⟨t,u',1122,aq.upd nu _ _ q6,ah,5,λp' H7 s7 e7=>?_⟩]
    ·rw[aO];rwa[ahP (show ⇑u+ 1<=100 by omega) ⋯]
    rwa[⟨p',u++[s],12,s6.trans ((aq.upd nu).trans s7),[ints_app]▸e7,by rw[ahA,hl];rfl,λx J=>?_⟩];rcases ahL.mp J with q|q
    ·rwa[O x q]
    ·rw[ahH.mp q];rwa[L,h2]
   rintro σ H6 ⟨t,u,I,rfl,s6,q6,hl,O⟩;rw[aO]at hl;let w6:=w3.same ((st.trans sb).trans s6);rwa[⟨λ d r=>∃g v6 I,d=#v[↑a,↑Z,.int ⇑rows,.int x,.int y,↑l,v6,I]/\jG H r l ⇑rows 3 63 g,5,λ_ _ z=>z⟩];rwa[⟨12,ah2 _,λe0 JY=>?_⟩];let se:=aq.upd (o:=.tup []) JY;let w7:=(w6.same se).le (n':=2) (m':=63) ⋯ ⋯;erw[t,e0,u,[],22,bG.of (se^q6),bG.of ah,12];rwa[bR (λ_=>?_) (λ_=>⟨1112,w7.le ⋯ ⋯⟩)];let⟨f,j,g2,g3⟩:=w7.add (q:=t) (u:=u) (se^q6) ⟨O,3⟩;rwa[12,w7.ins,12,l,1122,j,[ahE]▸ahK (show ⇑f<=100 by omega) ⋯,1112,g3]
  rintro d H4 ⟨g,v6,I,rfl,w4⟩;let⟨f,j,g2⟩:=id w4.h;let CH:⇑f<=3:=by rw[g2.1];rwa[w4.c]
  erw[12,l,2,⟨_,aH.of j⟩];rwa[ny ⇑f (λi=>(f.map V.ref).getD i .non) (λR v i=>∃p,v=↑p/\∃w,R p\.tup (ao w)/\VG rows x w) (λH1 R v i s ζ=>by let⟨p,e,w,q,o⟩:=ζ;rwa[⟨p,e,w,s^q,o⟩]) (ahP CH ⋯) (λi R s2 B=>i3 (aH.of (s2^j)) i ([ahE]▸B)) (λi v R H3 s2 B y=>?_) (λR s2=>?_) (λi Y Rr B s5 kk=>?_) (λD Y ys s5 hD U2 M=>?_)]
  ·let⟨e1,e2⟩:=g6 (aH.of (s2^j)) i v H3 ([ahE]▸B) y;rwa[e1,by rw[ahJ,e2];rfl]
  ·have:=fL (K:=K) (aH.of (K:=K) (s2^j));rw[ahE]at this;rwa[this]
  ·let e1:f[i]?=some f[i]:=ahC B
   let e2:g[i]?\(g[i]'(by rw[<-g2.1];rwa[B])):=ahC (by rw[<-g2.1];rwa[B])
   change f[i]=wa at e1;generalize g[i]'(by rw[<-g2.1];rwa[B])=u at e2;let sU:=g2.2 i wa u e1 e2;let⟨G,qX⟩:=w4.w u (ahB e2);rw[show (f.map V.ref).getD i .non=V.ref wa by rw[ahJ,ahZ,e1];rfl];rwa[⟨121212,(Za4 1),λl1 n1=>?_⟩];let s1:=aq.upd (o:=.lst [.int (x:Int)]) n1;let q1:upd Y l1 (.lst [.int (x:Int)]) l1\(.lst (ao (gC [x]))):=ah;change upd Y l1 (.lst [.int (x:Int)])=H6 at s1 q1 ⊢;let U:=s5.trans s1;rwa[⟨12,Z,l1,wa,rows,p,[x],u,2,(hT.same w4.s).same U,N,Fw,q1,λy m=>[ahH.mp m]▸J,by show 1<=6;decide,U^sU,G,3,λn H7 hn1 Yp Vi hn4 s7=>?_⟩];let hf1:∀x,x<p->u.foldl (sf rows) x<p:=λx J=>Hd N G J
   let C6:∀x y,x<p->y<p->u.foldl (sf rows) x=u.foldl (sf rows) y->x=y:=λx y J m e=>De N G J m e
   let⟨c,lD,Iz,Y4⟩:=M17.ring hf1 C6 J
   let hn6:n<=6:=by
    rcases ajB c n with q|q
    ·rwa[absurd (λy m=>by rw[ahH.mp m];rwa[Y4]) (hn4 c lD q)]
    ·ext
   let hmul:⇑u* n<=1000:=ahP (akA qX hn6) (by decide);rwa[⟨wa,1122,s7^U^sU,335,λq8 H8 s8 h8=>?_⟩]
   ·rw[aO,aic];rwa[ahP hmul ⋯]
   rw[aic,Dh]at h8;rwa[kk _ _ ((s1.trans s7).trans s8) ⟨q8,21,h8,λs F=>G s (Dj F),[zJ]▸hmul,[Dl]▸Vi x (ahH.mpr rfl)⟩]
  let⟨pP,rfl,hqs⟩:=tK (P:=λ_ p=>∃w,Y p\.tup (ao w)/\VG rows x w) ys 0 (λi v hv=>M i v hv);let⟨ps,tP,oP⟩:=words_of λi p e=>hqs i p e
  rwa[k D ps _ ((w4.s.trans s5).trans (aq.upd hD)) ⟨pP,ah,tP.same (aq.upd hD)⟩ oP (by rw[<-tP.1];rw[ahE]at U2;omega)]
inductive Dq (Pt cT:Zs) (vs:Zb) (H:Hp) (Q:VK) (E_:XK):Prop
 |mk (ru pa:Zs) (L lim cap w:Nat) (ot:Zh) (rs ps:Za3):vs=[.int L,↑ru,↑pa,.int lim,.str (tx ot)]->(ot=dY w\/ot=[]/\w=0)->w<3->1<=L->L<=40->1<=lim->1<=cap->cap<=300->(∀S c z,Fl rs ps L w lim S->S.q<lim->ic w S L c z->S.q+ 1<=cap)->bX H ru rs->bX H pa ps->(∀u∈rs++ps,Fq L u)->cap* ⇑rs+ ⇑ps<=700->⇑rs<=400->⇑ps<=400->cH Pt cL eG H->(∀q t tb pp S N H',Kp Pt H H'->cH Pt cL eG H'->Fl rs ps L w lim S->(∀c z,¬dm S L c z)->H' q\.tup [↑t,.non]->H' t\.tup [↑tb,↑pp]->TabAt H' tb (M24.vd (bK S) (2* S.L) (M24.bM (bK S) (2* S.L) 0 N))->⇑(M24.bM (bK S) (2* S.L) 0 N)=N->jX H' pp S->Q ↑q H')->(∀q x d pp S H',Kp Pt H H'->cH Pt cL eG H'->Fl rs ps L w lim S->S.q=lim->(∃c z,ic w S L c z)->H' q\.tup [.non,↑x]->H' x\XO x cT (some d) false->H' d\XD d (q9 S.q pp)->jX H' pp S->Q ↑q H')->Dq Pt cT vs H Q E_
def jX.same (h:jX H a S)(s:aq H I):jX I a S:=by
 let⟨b,f,c,g⟩:=h;rwa[b,s^f,c.imp (λp d _ _ e=>e.same s),g]
def pO (T:Txt K mg A)(v:jO mg base):T.kA.Ok P w base 12 (Dq A.di A.aP):=by
 rwa[T.kA.on dR (λcC AA outer s H vs Q E hr h=>?_)]
 ·let⟨ru,pa,L,f,cap,n,ot,rs,ps,rfl,D,B,F,uB,Oi,lD,M,p,Z,uC,Y,u,O,y,hT,kq,ke⟩:=h;let⟨tkd,hbd⟩:=T.fill.bd
  erw[_,{bC 5 dR.nd dA,bC 6 dR.nd dA,bE (EZ rfl rfl (TV (aZ dJ (pv 4) (cR (l:=[]) rfl) (bh _)) (EY (i:=5) dR.nd rfl (Or.inl rfl) (BD (dvs:=[V.str (tx [114,111,111,109,115])]) (yN T v) hr.Za5 rfl T.fill.m T.fill.kp hbd (.cons ⟨12⟩ .nil) #[0,1,2,3])) (EY (i:=5) dR.nd rfl (Or.inl rfl) (BD (yN T v) hr.Za5 rfl T.fill.m T.fill.kp T.fill.b .nil #[0,1,2,3,4])))
    (IV (i:=7) dR.nd rfl rfl rfl T.nY (λ_=>{bC 6 dR.nd (pv 7)})
    IW)),bf (cy #[5,6])}]
  rwa[iB ?_];intro ja fI fV;erw[λ X g=>Kp A.di H g/\cH A.di cL eG g/\∃C R,X=#v[.int L,↑ru,↑pa,.int f,.str (tx ot),some C,some R,none]/\((∃t r b S N,C=↑t/\R=.non/\Fl rs ps L n f S/\(∀c z,¬dm S L c z)/\g t\.tup [↑r,↑b]/\TabAt g r (M24.vd (bK S) (2* S.L) (M24.bM (bK S) (2* S.L) 0 N))/\⇑(M24.bM (bK S) (2* S.L) 0 N)=N/\jX g b S)\/∃x d b S,C=.non/\R=↑x/\Fl rs ps L n f S/\S.q=f/\(∃c z,ic n S L c z)/\g x\XO x A.aP (some d) false/\g d\XD d (q9 S.q b)/\jX g b S),5]
  ·erw[12212];rwa[bR (λh=>?_) (λh=>?_)]
   ·let e:ot=[]:=eV.mp (aia h)
    let ew:n=0:=by
     rcases D with q|q
     ·rw[e]at q;rcases (show n=0\/n=1\/n=2 by omega) with rfl|rfl|rfl
      ·rfl
      ·rwa[absurd q (by decide)]
      ·rwa[absurd q (by decide)]
     ·rwa[q.2]
    subst ew;rwa[⟨12121212,ru,pa,L,f,12,.inl ⟨cap,(0),rs,ps,2,B,F,uB,Oi,lD,M,p,Z,uC,Y,u,O,y,hT,λt r b S N g m t1 j J k a2 G I=>?_,λd b S g m t1 j U l1 k a2=>?_⟩⟩]
    ·rwa[m,t1,↑t,.non,2,.inl ⟨t,r,b,S,N,22,j,J,k,a2,G,I⟩]
    ·rwa[⟨12,true,T.XC,hV λx nx=>⟨125⟩⟩];let a:=aq.upd (o:=XO x A.aP (some d) false) nx;rwa[m.trans (.same a),t1.same a,.non,↑x,2,.inr ⟨x,d,b,S,22,j,U,l1,ah,a^k,a2.same a⟩]
   ·let e:ot=dY n:=D.elim id λq=>absurd (ah9 (eV.mpr q.1)) h
    subst e;rwa[⟨1212121212,ru,pa,L,f,12,.inl ⟨cap,n,rs,ps,2,B,F,uB,Oi,lD,M,p,Z,uC,Y,u,O,y,hT,λt r b S N g m t1 j J k a2 G I=>?_,λd b S g m t1 j U l1 k a2=>?_⟩⟩]
    ·rwa[m,t1,↑t,.non,2,.inl ⟨t,r,b,S,N,22,j,J,k,a2,G,I⟩]
    ·rwa[⟨12,true,T.XC,hV λx nx=>⟨125⟩⟩];let a:=aq.upd (o:=XO x A.aP (some d) false) nx;rwa[m.trans (.same a),t1.same a,.non,↑x,2,.inr ⟨x,d,b,S,22,j,U,l1,ah,a^k,a2.same a⟩]
  rintro X H1 ⟨m,t1,C,R,rfl,cs⟩;rwa[⟨1212,Za4 2,λq nq=>?_⟩];let a:=aq.upd (o:=.tup [C,R]) nq;rcases cs with ⟨t,r,b,S,N,rfl,rfl,j,J,k,a2,G,I⟩|⟨x,d,b,S,rfl,rfl,j,U,l1,a0,k,a2⟩
  ·rwa[kq q t r b S N _ (m.trans (.same a)) (t1.same a) j J ah (a^k) (a2.same a) G (I.same a)]
  ·rwa[ke q x d b S _ (m.trans (.same a)) (t1.same a) j U l1 ah (a^a0) (a^k) (a2.same a)]
def Fz (K:Za1):Sp:=λe H Q _=>∃(a:Zs) (ns:Zg),e=[↑a]/\aH K H a (ao ns)/\⇑ns<=63/\∀(l f c d:Zs) (L x:Nat) (R P:Za3) b,aq H b->b l\.tup [.int L,↑f,↑c,↑d,.int x]->1<=L->L<=3->bX b c R->bX b d P->(∀u∈R++P,Fq L u)->⇑R<=23->⇑P<=3->Q ↑l b
inductive Dr (vs:Zb) (H:Hp) (Q:VK) (E_:XK):Prop
 |mk (z:Int) (L m:Nat):vs=[.int z,.int L,.int m]->1<=L->L<=3->m<=12->(∀l w H',aq H H'->H' l\.tup (ao w)->Fq L w->Q ↑l H')->Dr vs H Q E_
def VH (K:Za1):Sp:=Fz K
def fM (z:Int){n:Nat}(h:0<n):∃x:Nat,z % (n:Int)=(x:Int)/\x<n:=by
 let a:=ajc z (show (n:Int)≠0 by omega);let b:=ai1 z (show (0:Int)<(n:Int) by omega);rwa[(z % (n:Int)).toNat,33]
def pQ (T:Txt K mg A):T.kz.Ok P w base 2 Dr:=by
 rwa[T.kz.on dQ (λB Y f s H X Q E G h=>?_)]
 ·let⟨z,L,m,rfl,g,S,hm,k⟩:=h
  erw[_,{bC 3 dQ.nd (aK bP (pv 0) (aK cI (pv 2) au)),bC 0 dQ.nd (aK cX (pv 0) (aK cI (pv 2) au)),bC 4 dQ.nd (cy aj),cW ah7 rfl (ip rfl T.eU #[3]) (dW 5 dQ.nd)
    {bC 4 dQ.nd (aK AV (pv 4) (cy #[pc T.nX (sW T) G #[aK bP (pv 0) (aK ml au (pv 1)),1]])),bC 0 dQ.nd (aK cX (pv 0) (aK ml au (pv 1)))},bf (pv 4)}]
  rwa[p5 ?_];intro D C R x;let⟨n,I,F⟩:=fM z (n:=m+ 1) ∅;let N:z % ((m:Int)+ 1)=(n:Int):=I;erw[121211221122,(by show (0:Int)<(m:Int)+ 1;omega)];rw[N];erw[121211221122,⟨by show (0:Int)<(m:Int)+ 1;ext,3⟩];rwa[⟨ah2 _,λl J=>?_⟩];erw[12,(n:Int),233];rw[aic];rwa[iq (lo:=0) (n:=n) (λi p c=>∃(l:Zs) (y:Int) (w:Zg) (r:Zc),p=#v[.int y,.int L,.int m,.int n,↑l,r]/\aq H c/\c l\.tup (ao w)/\⇑w=i/\∀s∈w,s≠0/\s.natAbs<=L) ⟨l,_,[],none,2,aq.upd J,ah,2,λs o=>by ext o⟩ ?_ ?_]
  ·rintro i p c Z ⟨l,y,w,r,rfl,s2,d,a,j⟩;rwa[⟨1212121122,.inl ⟨44⟩,1122,(by show (0:Int)<2* (L:Int);omega),121,L,2,g,3,λs e o=>⟨Za4 1,λq u=>?_⟩⟩];rwa[⟨l,q,1122,(aq.upd u) _ _ d,ah,ahP (show ⇑(ao w)+ 1<=100 by rw[aO];omega) ⋯,λO U M v=>?_⟩];rw[show [V.int s]=ao [s] from rfl,<-ints_app]at v;erw[12121122,.inl ⟨44⟩,1122,⟨by show (0:Int)<2* (L:Int);ext,3⟩];rwa[⟨O,_,w++[s],12,s2.trans ((aq.upd u).trans M),v,by rw[ahA,a];rfl,λt b=>?_⟩];rcases ahL.mp b with b|b
   ·rwa[j t b]
   ·rw[ahH.mp b];rwa[e,o]
  ·rintro p c ⟨l,y,w,r,rfl,s2,d,a,j⟩;rwa[12,k l w c s2 d ⟨3,j⟩]
def uc (T:Txt K mg A):T.ki.Ok P w base 3 (VH K):=by
 rwa[T.ki.on dH (λcC AA O s H vs Q E j h=>?_) (len:=by rintro _ _ _ _ ⟨a,B,rfl,_⟩;rfl)]
 ·let⟨a,B,rfl,F,hlen,k⟩:=h
  erw[_,{bC 1 dH.nd (aK cI au (aK bP (aK cX (pc T.bz (bp T) j #[0,au]) au) au)),bC 2 dH.nd (bV aj),cW ah7 rfl (ip rfl T.eU #[aK bP (aK cX (pc T.bz (bp T) j #[0,au]) au) au]) (dW 3 dH.nd)
    {aV (cM ahM ahV ahW bH (pv 2) #[pc T.kz (pQ T) j #[pc T.bz (bp T) j #[0,aK cI au (pv 3)],1,au]])},bC 4 dH.nd (bV aj),cW ah7 rfl (ip rfl T.eU #[aK bP (pc T.bz (bp T) j #[0,au]) au]) (dW 3 dH.nd)
    {aV (cM ahM ahV ahW bH (pv 4) #[pc T.kz (pQ T) j #[pc T.bz (bp T) j #[0,aK cI au (pv 3)],1,au]])},bf (cy #[1,bV aj,2,4,au])}]
  rwa[mD ?_];intro oh lF ja fI fV;rwa[⟨12,a,B,(0),2,F,3,λz=>⟨1122,⟨44⟩,1122,(by show (0:Int)<3;decide),11225⟩⟩]
  obtain⟨L,hz,g,t⟩:∃L:Nat,1+ z / 12 % 3=(L:Int)/\1<=L/\L<=3:=by
   let⟨x,hx,Y9⟩:=fM (z / 12) (n:=3) ⋯;rwa[1+ x,by rw[show z / 12 % 3=(x:Int) from hx];ext,33]
  rw[hz];rwa[⟨ah2 _,λd D=>?_⟩];let X:jG H (upd H d (.lst [])) d L 0 1000 []:=⟨aq.upd D,D,⟨[],ah,2,λi p w h=>by simp at h⟩,(λu C=>by ext C),ahG _⟩;change upd H d (.lst [])=H1 at X ⊢;rwa[⟨12,a,B,(1),2,X.s.seq F,3,λz1=>?_⟩];let⟨n,hn,Fd⟩:=fM (z1 / 8) (n:=5) ⋯;erw[1122,⟨44⟩,1122,(by show (0:Int)<5;decide),(n:Int),aiN (λv=>[V.int v]) hn,33];rw[aic];rwa[iq (lo:=0) (n:=n) (λi m r=>∃G e,m=#v[↑a,.int L,↑d,e,none]/\jG H r d L i 1000 G) ⟨[],none,2,X⟩ ?_ ?_]
  ·rintro i m r hi ⟨G,e,rfl,c⟩;rwa[⟨12,c.ins,12121122,a,B,2+ i,5,c.s.seq F,3,λy=>⟨12,y,L,(12),2,g,t,4,λq w H3 s3 h3 hw=>?_⟩⟩]
   ·show [V.ref a,V.int (2+ (0+ (i:Int)))]=[V.ref a,V.int ((2+ i:Nat):Int)];rw[show (2:Int)+ (0+ (i:Int))=((2+ i:Nat):Int) by ext]
   let⟨S,U,g2,Z⟩:=(c.same s3).add h3 ⟨hw.2,hw.1⟩;rwa[d,1122,U,[ahE]▸ahK (show ⇑S<=100 by omega) ⋯,112,Z]
  rintro m r ⟨R,e,rfl,c⟩;rwa[⟨ah2 _,λf I=>?_⟩];let b:jG r (upd r f (.lst [])) f L 0 1000 []:=⟨aq.upd I,I,⟨[],ah,2,λi p w h=>by simp at h⟩,(λu C=>by ext C),ahG _⟩;change upd r f (.lst [])=H3 at b ⊢;rwa[⟨12,a,B,(6),2,(c.s.trans b.s).seq F,3,λz6=>?_⟩];let⟨n2,Y,agn⟩:=fM z6 (n:=3) ⋯;erw[1122,(by show (0:Int)<3;decide),(n2:Int),aiN (λv=>[V.int v]) Y,33];rw[aic];rwa[iq (lo:=0) (n:=n2) (λi m M=>∃G e,m=#v[↑a,.int L,↑d,e,↑f]/\jG r M f L i 1000 G) ⟨[],e,2,b⟩ ?_ ?_]
  ·clear b;rintro i m M hi ⟨G,e,rfl,b⟩;rwa[⟨12,b.ins,12121122,a,B,8+ i,5,(c.s.trans b.s).seq F,3,λy=>⟨12,y,L,(8),2,g,t,4,λq w H5 J h5 hw=>?_⟩⟩]
   ·show [V.ref a,V.int (8+ (0+ (i:Int)))]=[V.ref a,V.int ((8+ i:Nat):Int)];rw[show (8:Int)+ (0+ (i:Int))=((8+ i:Nat):Int) by ext]
   let⟨S,U,g2,Z⟩:=(b.same J).add h5 ⟨hw.2,hw.1⟩;rwa[f,1122,U,[ahE]▸ahK (show ⇑S<=100 by omega) ⋯,112,Z]
  clear b;rintro m M ⟨P,e,rfl,b⟩;rwa[⟨12,ah2 _,λlt N=>⟨1212,Za4 5,λl nl=>?_⟩⟩];let J:=(aq.upd (o:=.lst []) N).trans (aq.upd (o:=.tup [.int L,↑lt,↑d,↑f,.int 0]) nl);let c2:=c.c;let c3:=b.c;rwa[k l lt d f L 0 R P _ ((c.s.trans b.s).trans J) ah g t ((c.h.same b.s).same J) (b.h.same J) (λu C=>(ahL.mp C).elim (λh=>⟨(c.w u h).2,(c.w u h).1⟩) λh=>⟨(b.w u h).2,(b.w u h).1⟩) ∅ ∅]
theorem QX:∀j:Nat,j<4->∃L:Nat,([V.int 2,V.int 1,V.int 2,V.int 3])[j]?\V.int (L:Int)/\1<=L/\L<=3
 |0,_=>⟨(2),244⟩
 |1,_=>⟨(1),244⟩
 |2,_=>⟨(2),244⟩
 |3,_=>⟨(3),244⟩
theorem vE {ws:Za3}(h:cf H F ws)(k n:Nat):cf H ((F.drop k).take n) ((ws.drop k).take n):=by
 rwa[⟨by rw[aif,aif,aiC,aiC,h.1],λi p w a c=>?_⟩];rw[List.getElem?_take]at a c;split at a
 ·rename_i b;rw[ah4 b,akW]at c;rw[akW]at a;rwa[h.2 _ p w a c]
 ·ext a
theorem Ki {R:Za3}(f:H a\.lst (F.map V.ref))(c:cf H F R)(e:H b\.tup (ao []))(i:Nat)(g:i<=⇑F):bX (upd H a (.lst ((F.map V.ref).take i++[↑b]++(F.map V.ref).drop i))) a (R.take i++[[]]++R.drop i):=by
 let t1:cf H (F.take i) (R.take i):=by have:=vE c 0 i;rwa [List.drop_zero,List.drop_zero]at this
 let d:cf H (F.drop i) (R.drop i):=by
  have:=vE c i (⇑F - i)
  rwa [akf ([aiC]▸ahG _),akf ([aiC,c.1]▸ahG _)]at this
 rwa[⟨F.take i++[b]++F.drop i,by rw[ah,aid,aid,List.map_take,List.map_drop];rfl,vC (vD (t1.snoc e) d) f⟩]
def Ai (T:Txt K mg A):T.qm.Ok P w base 4 (Fz K):=by
 rwa[T.qm.on cE (λcC AA outer s H vs Q E v h=>?_) (len:=by rintro _ _ _ _ ⟨a,p,rfl,_⟩;rfl)]
 ·let⟨a,p,rfl,B,hlen,k⟩:=h
  erw[_,{bB (aZ dJ (aK bP (aK cX (pc T.bz (bp T) v #[0,au]) au) au) au (bh _))
   {bf (pc T.ki (uc T) v #[0])}
   bj,bC 1 cE.nd (tf dJ (aK bP (pc T.bz (bp T) v #[0,au]) au) au (bh _)),bC 2 cE.nd (aK cI au (aK bP (aK cX (pc T.bz (bp T) v #[0,au]) au) au)),bE (bB (dq (pv 1))
    {bC 2 cE.nd (aK cI au (aK bP (aK cX (pc T.bz (bp T) v #[0,au]) au) au))}
    bj),bC 3 cE.nd ((bV (ae au (ae au (ae au (ae au aj gY) gY) gY) gY))|||(aK bP (pc T.bz (bp T) v #[0,au]) au)),bC 4 cE.nd (bV aj),cW ah7 rfl (ip rfl T.eU #[3]) (dW 5 cE.nd)
    {aV (cM ahM ahV ahW bH (pv 4) #[pc T.mU (xM T) v #[aK bP (pc T.bz (bp T) v #[0,aK cI au (pv 5)]) au,2,1]])},bC 6 cE.nd (aK bP (pc T.bz (bp T) v #[0,au]) au),bE (bB (dq (pv 1))
    {bC 6 cE.nd au}
    bj),bC 7 cE.nd (aK bP (aK cX (pc T.bz (bp T) v #[0,au]) au) (pv 2)),bC 8 cE.nd (pc T.qk (Ah T) v #[4,3,6,au]),bE (bB (aZ dJ (aK bP (pc T.bz (bp T) v #[0,au]) au) au (bh _))
    {aV (cM ahM PySem.F.slot_list_insert PySem.F.type_list_insert yd (pv 8) #[aK bP (aK cX (pc T.bz (bp T) v #[0,au]) au) (aK cI (8<<<0) au),cy aj])}
    bj),bE (bB (PW.pt (Av (aZ dJ (aK bP (pc T.bz (bp T) v #[0,au]) au) au (bh _)) (xO (aZ pV (aK bP (pc T.bz (bp T) v #[0,au]) au) au (bh _)))))
    {bC 8 cE.nd (aK AK (pv 8) (pW Es (pv 8) xV (oJ au)))}
    bj),bf (cy #[3,4,8,pc T.sG (Dm T) v #[0,4,3,7],7])}]
  rwa[Ii ?_];intro ago agp agq abu u_9 XY Jt zC oh lF ja fI fV;rwa[⟨12,a,p,(1),2,B,3,λz=>⟨1122,⟨44⟩,1122,(by show (0:Int)<2;decide),212,bR (λ_=>⟨12,a,p,2,B,hlen,k⟩) λ_=>?_⟩⟩];rwa[⟨12,a,p,(0),2,B,3,λz0=>?_⟩];erw[1122,(by show (0:Int)<2;decide),2];rwa[⟨12,a,p,(0),2,B,3,λz1=>?_⟩];erw[1122,⟨44⟩,1122,(by show (0:Int)<4;decide),1122];let a1:=ajc (z1 / 2) (show (4:Int)≠0 by decide);let a2:=ai1 (z1 / 2) (show (0:Int)<4 by decide);erw[λ f t=>∃(m:Nat) (pl:Bool),f=#v[↑a,.bl pl,.int m,none,none,none,none,none,none]/\t=H/\1<=m/\m<=6,5]
  ·erw[1212];rwa[bR (λ_=>?_) (λ_=>?_)]
   ·rwa[⟨12,a,p,(0),2,B,3,λz2=>?_⟩];erw[1122,⟨44⟩,1122,(by show (0:Int)<6;decide),1122];let c1:=ajc (z2 / 2) (show (6:Int)≠0 by decide);let c2:=ai1 (z2 / 2) (show (0:Int)<6 by decide);rwa[⟨(1+ z2 / 2 % 6).toNat,decide (V.int (z0 % 2)=V.int 0),5233⟩];rw[show (((1+ z2 / 2 % 6).toNat:Nat):Int)=1+ z2 / 2 % 6 by ext];rfl
   ·rwa[⟨(2+ z1 / 2 % 4).toNat,decide (V.int (z0 % 2)=V.int 0),5233⟩];rw[show (((2+ z1 / 2 % 4).toNat:Nat):Int)=2+ z1 / 2 % 4 by ext];rfl
  rintro f t ⟨m,pl,rfl,rfl,Y3,CF⟩;rwa[⟨Za4 4,λq hq=>?_⟩];let sq:aq t (upd t q (.lst [V.int 2,V.int 1,V.int 2,V.int 3])):=aq.upd hq;let hqq:upd t q (.lst [V.int 2,V.int 1,V.int 2,V.int 3]) q\(.lst [V.int 2,V.int 1,V.int 2,V.int 3]):=ah;change upd t q (.lst [V.int 2,V.int 1,V.int 2,V.int 3])=H1 at sq hqq ⊢;rwa[⟨12,a,p,(1),2,sq.seq B,3,λz2=>?_⟩];let⟨j,hj,hjl⟩:=fM z2 (n:=4) ⋯;let⟨L,hL,S,U⟩:=QX j hjl;erw[1122,(by show (0:Int)<4;decide),q,11,.int (L:Int),22,aH.of hqq,(by show j0 _ (z2 % 4)=_;rw[show z2 % 4=(j:Int) from hj];rwa[dB hL])];rwa[⟨ah2 _,λlt j1=>?_⟩];let s2:aq H1 (upd H1 lt (.lst [])):=aq.upd j1;let h2:upd H1 lt (.lst []) lt\(.lst (([]:Zn).map V.ref)):=ah;let Vt:t lt=none:=sq.free j1;change upd H1 lt (.lst [])=H2 at s2 h2 ⊢;erw[12,(L:Int),233];rwa[iq (lo:=0) (n:=((L:Int)).toNat) (λi σ M=>∃(rs:Zn) (rows:Za3) (Z:Zc),σ=#v[↑a,.bl pl,.int m,.int L,↑lt,Z,none,none,none]/\aq t M/\M lt\.lst (rs.map V.ref)/\dO M rs rows/\⇑rows=i/\(∀r∈rows,M11.Pm m r)) ⟨[],[],none,2,sq.trans s2,h2,⟨2,λi r p h1=>by simp at h1⟩,2,by simp⟩ ?_ ?_]
  ·rintro i σ M hi ⟨rs,rows,Z,rfl,s3,h3,C,F,D⟩;let Vf:i<L:=∅
   rwa[⟨12,.inl ⟨21,aH.of h3⟩,12121122,a,p,2+ i,5,s3.seq B,3,λz3=>?_⟩]
   ·show [V.ref a,V.int (2+ (0+ (i:Int)))]=[V.ref a,V.int ((2+ i:Nat):Int)];rw[show (2:Int)+ (0+ (i:Int))=((2+ i:Nat):Int) by ext]
   let c1:=ajc z3 (show (720:Int)≠0 by decide);rwa[⟨1122,(by show (0:Int)<720;decide),1212,z3 % 720,m,pl,2,Y3,3,c1,λr row H4 J h4 hP=>?_⟩];let X:=J^h3;let uj:r≠lt:=Kd h4 (λz=>by have:=hP.len;rw[z]at this;simp at this;omega) X;erw[lt,1122,X,5]
   ·rw[ahE,C.1,F];rwa[ahK (show i<=3 by omega) ⋯]
   rwa[⟨rs++[r],rows++[row],12,λb o e=>[ak (ax e Vt)]▸J^s3^e,by rw[ah,aid];rfl,⟨(zI (C.same J) h4).1,λi' q' ms e1 e2=>?_⟩,by rw[ahA,F];rfl,λr' hr'=>?_⟩]
   ·let hq':=(zI (C.same J) h4).2 i' q' ms e1 e2
    let hnm:ms≠[]:=λz=>by
     let hmm:ms∈rows++[row]:=ahB e2
     let hPm:M11.Pm m ms:=by
      rcases ahL.mp hmm with y|y
      ·rwa[D ms y]
      ·rw[ahH.mp y];rwa[hP]
     have:=hPm.len;rw[z]at this;simp at this;ext
    rw[ak (Kd hq' hnm X)];rwa[hq']
   ·rcases ahL.mp hr' with y|y
    ·rwa[D r' y]
    ·rw[ahH.mp y];rwa[hP]
  rintro σ M ⟨rs,rows,Z,rfl,s3,h3,C,F,D⟩;rw[aic]at F;subst F;let hT:TabAt M lt rows:=⟨rs,h3,C⟩;rwa[⟨12,a,p,(5),2,s3.seq B,3,λz5=>⟨1122,(by show (0:Int)<531441;decide),5⟩⟩];erw[λ f t=>∃mk:Int,f=#v[↑a,.bl pl,.int m,.int ⇑rows,↑lt,Z,.int mk,none,none]/\t=M,5]
  ·erw[1212];rwa[bR (λ_=>⟨122⟩) (λ_=>⟨122⟩)]
  rintro f H3' ⟨mk,rfl,e3⟩;replace e3:=e3.symm;subst e3;rwa[⟨12,a,p,(6),2,s3.seq B,3,λz6=>?_⟩];let⟨x,hx,Y9⟩:=fM (z6 / 4) (n:=m) ∅;erw[1122,⟨44⟩,121122,(by show (0:Int)<(m:Int);omega)];rw[show V.int ((z6 / 4) % (m:Int))=V.int (x:Int) from aiN V.int hx];rwa[⟨121212,lt,rows,m,mk,(36),24,hT,S,U,D,CF,λG R H4 J O c I Vb=>?_⟩];erw[λ f t=>∃R,f=#v[↑a,.bl pl,.int m,.int ⇑rows,↑lt,Z,.int mk,.int x,↑G]/\aq M t/\bX t G R/\(∀u∈R,Kf rows m u)/\⇑R<=22,5]
  ·rwa[⟨12,a,p,(5),2,(s3.trans J).seq B,3,λz7=>⟨1122,(by show (0:Int)<4;decide),212,bR (λ_=>?_) (λ_=>⟨R,2,J,O,c,3⟩)⟩⟩];let⟨g,Y,g2⟩:=O;let CH:⇑g<=21:=by rw[g2.1];rwa[I]
   rwa[⟨12,.inl ⟨21,aH.of Y⟩,12,a,p,(6),2,(s3.trans J).seq B,3,λz8=>⟨1122,⟨44⟩,12,G,12,.inl (aH.of Y),11221122,(by show (0:Int)<(⇑(g.map V.ref):Int)+ 1;omega),ah2 _,λe0 JY=>?_⟩⟩];let⟨i,hi,Xn⟩:=fM (z8 / 24) (n:=⇑g+ 1) ∅;let se:=aq.upd (o:=.tup []) JY;erw[G,_,i,↑e0,25,se^Y,[ahE]▸ahK (show ⇑g<=100 by omega) ⋯,by rw[ahE];ext,3]
   ·show [V.int (z8 / 24 % ((⇑(g.map V.ref):Int)+ 1)),V.ref e0]=[V.int (i:Int),V.ref e0];rw[ahE,show ((⇑g:Int)+ 1)=((⇑g+ 1:Nat):Int) by ext,hi]
   rwa[⟨R.take i++[[]]++R.drop i,2,λb o e=>[ak (ax e Vb)]▸se^J^e,Ki (se^Y) (g2.same se) ah i ∅,λu d=>?_,by rw[ahA,ahA,aif,aiC];show _+ 1+ _<=_;ext⟩];rcases ahL.mp d with d|d
   ·rcases ahL.mp d with d|d
    ·rwa[c u (List.mem_of_mem_take d)]
    ·rw[ahH.mp d];rwa[(λs hs=>by ext hs),by show 0<=60;decide,λx _=>rfl]
   ·rwa[c u (List.mem_of_mem_drop d)]
  rintro f H5 ⟨R,rfl,s5,O,c,I⟩;erw[λ f t=>∃G R,f=#v[↑a,.bl pl,.int m,.int ⇑rows,↑lt,Z,.int mk,.int x,↑G]/\aq M t/\bX t G R/\(∀u∈R,Kf rows m u)/\⇑R<=23,5]
  ·rwa[⟨12,a,p,(5),2,(s3.trans s5).seq B,3,λz7=>⟨1122,(by show (0:Int)<4;decide),212,bR (λ_=>?_) (λ_=>dh ⟨G,R,2,s5,O,c,3⟩)⟩⟩];rwa[⟨12,a,p,(7),2,(s3.trans s5).seq B,3,λz7=>⟨1122,(by show (0:Int)<8;decide),212,bR (λ_=>?_) (λ_=>⟨G,R,2,s5,O,c,3⟩)⟩⟩];let⟨g,Y,g2⟩:=O;rwa[⟨121212,G,12,aH.of Y,λb nb=>?_⟩];let sb:=aq.upd (o:=.lst (gL (g.map V.ref) none (some 1))) nb
   obtain⟨i,n,e,hn⟩:∃i n:Nat,gL (g.map V.ref) none (some 1)=((g.drop i).take n).map V.ref/\n<=1:=by
    erw[11,by unfold gL;rw[List.map_take,List.map_drop]];have:=HT.xU ⇑(g.map V.ref) ⇑(g.map V.ref) 1;rw[show ((1:Nat):Int)=1 from rfl]at this;rw[this];ext
   let eb:upd H5 b (.lst (gL (g.map V.ref) none (some 1))) b\(.lst (((g.drop i).take n).map V.ref)):=by rw[ah,e]
   change upd H5 b (.lst (gL (g.map V.ref) none (some 1)))=H6 at sb eb ⊢;let g3:=g2.same sb;let CH:⇑g<=22:=by rw[g2.1];rwa[I]
   rwa[⟨G,b,1122,sb^Y,eb,5,λl9 n9=>?_⟩]
   ·rw[ahE,ahE,aif];rwa[ahP (show ⇑g+ min n _<=100 by omega) ⋯]
   let s9:=aq.upd (o:=.lst (g.map V.ref++((g.drop i).take n).map V.ref)) n9;rwa[⟨l9,R++(R.drop i).take n,2,(s5.trans sb).trans s9,⟨g++(g.drop i).take n,by rw[ah,aid],(vD g3 (vE g3 i n)).same s9⟩,λu d=>?_,by rw[ahA,aif];ext⟩];rcases ahL.mp d with d|d
   ·rwa[c u d]
   ·rwa[c u (List.mem_of_mem_drop (List.mem_of_mem_take d))]
  rintro f H6 ⟨lr',R,rfl,s6,O,c,I⟩;rwa[⟨12121212121212,a,lt,p,rows,m,x,2,(s3.trans s6).seq B,hlen,hT.same s6,S,U,D,CF,Y9,λpa P H7 s7 hP N hPl=>?_⟩];rwa[⟨12,Za4 5,λl nl=>?_⟩];rwa[k l lt lr' pa ⇑rows x R P _ (((s3.trans s6).trans s7).trans (aq.upd nl)) ah S U ((O.same s7).same (aq.upd nl)) (hP.same (aq.upd nl)) (λu d=>?_) I hPl];rcases ahL.mp d with d|d
  ·rwa[⟨ahP (c u d).2.1 (by decide),(c u d).1⟩]
  ·rwa[⟨(N u d).2.1,(N u d).1⟩]
def Aq (h:z∈bx (2* n)):M11.pl z<2* n/\M11.pl (-z)=M11.flip (M11.pl z)/\-z∈bx (2* n):=by
 let⟨a,b⟩:=fx.mp h;rwa[M11.WR ⟨a,b⟩,M11.Qy a,fx.mpr ⟨33⟩]
def Fl.cl {rs a:Za3}(h:Fl rs a n m i S):uW rs a S:=by cases h <;> assumption
def Fl.mL {rs d:Za3}(h:Fl rs d n m i S)(b:∀u∈rs++d,∀z∈u,z∈bx (2* n)/\-z∈bx (2* n))(q:1<=i):S.q<=i/\S.L=n:=by
 rwa[⟨5,by let⟨R,y⟩:=h.ys b;rwa[y.l]⟩]
 cases h with
 |start t _=>
  let⟨_,_,a,_⟩:=YS.new.tr t b;let a:S.q=1:=a;ext
 | @next g _ c z f p l t _=>
   let⟨R,y⟩:=f.ys b;let⟨o,j,e,k⟩:=l.1;let⟨_,_,a,_⟩:=(y.make o (jd j) k e (Aq e).2.2).tr t b;let a:S.q=g.q+ 1:=a;ext
def Ds {i h:Za3}{w:Nat}(f:Fl i h n w m S)(d:∀u∈i++h,∀z∈u,z∈bx (2* n)/\-z∈bx (2* n)):S.rows.countP isNew+ 1=S.q:=by
 induction f with
 |start t _=>
  let⟨_,_,a,_,k,e,_,_,_,_,g⟩:=YS.new.tr t d;rw[e,ajg,IX g,a];rfl
 | @next b _ c z f0 _ l t _ r=>
   let⟨R,y⟩:=f0.ys d;let⟨q,o,j,p⟩:=l.1;let⟨z1,z2⟩:=fx.mp j;let⟨_,_,a,_,k,e,_,_,_,_,g⟩:=(y.make q (jd o) p j (fx.mpr ⟨33⟩)).tr t d;rw[e,ajg,IX g,a];show (b.rows++[kK c z b.q]).countP isNew+ 0+ 1=b.q+ 1;rw[ajg,ajq,Qt,ah4 rfl,r]
def _root_.Lake.L2.Good.MQ (g:Good S [] R){a b:Nat}{z:Int}(r:R a z b):S.by (S.aw a) z=some (S.aw b):=g.rX.mpr ⟨a,b,r,22⟩
def _root_.Lake.L2.Later.r (l:Later S T)(g:Good S [] R){a b:Nat}{z:Int}(r:R a z b):T.by (T.aw a) z=some (T.aw b):=by
 let h:=l.by_ _ _ _ (g.MQ r);let⟨d,c,_⟩:=g.rl _ _ _ r;rw[l.el a d,l.el b c]at h;rwa[h]
theorem Du {rs i:Za3}{F:RS}{R1:Za2}(t:Tr (rs++i) ⇑rs S T)(r:∀w∈rs++i,∀z∈w,z∈l/\-z∈l)(g:Good S [] R1)(w:fD S)(k:∀a z b,R1 a z b->z∈l)(s:Good F [] R)(n:uW rs i F)(o:0<F.q)(v:S.q<=F.q)(h:∀a z b,R1 a z b->F.by (F.aw a) z=some (F.aw b)):Later T F:=by
 let j:=Tc s n o (λ_ h=>h) λ_ h=>h
 let⟨f,m,_,y,_,_,_,u⟩:=t.sound j r g w v k h;rwa[⟨λc x=>?_,λc z d e=>Ip m j.fn u e⟩];rwa[(Bn (U:=λp z q=>F.by p z=some q) j.fn u (m.cg c x)).symm]
def Kj (e:∀i z,dm S m i z↔dm T m i z)(h:ic n S m i z)(g:ic n T m j y):i=j/\z=y:=by
 let a:=h.2 j y ((e _ _).mpr g.1);let b:=g.2 i z ((e _ _).mp h.1);unfold rk at a b;split at a
 ·rename_i c;rw[ah4 c,ah4 c]at b;let⟨x,d⟩:=yL a b;rwa[3,(yJ d).symm]
 ·rename_i c;rw[ahY c,ahY c]at b;split at a
  ·rename_i f;rw[ah4 f,ah4 f]at b;let⟨x,d⟩:=yL a b;rwa[3,(yJ x).symm]
  ·rename_i f;rw[ahY f,ahY f]at b;let⟨x,d⟩:=yL a b;rwa[3,(yJ d).symm]
def Dv {i:Za2}(g:Good S [] R)(f:Good T [] i)(em:S.q=T.q)(l:Later S T)(j:Later T S):(∀c,c<S.q->S.aw c=T.aw c)/\∀c z,S.by c z=T.by c z:=by
 let half:∀{S T:RS} {R i:Za2},Good S [] R->Good T [] i->S.q=T.q->Later S T->∀c,c<S.q->T.aw c<=S.aw c:=λ{S T R i} g f e l c h=>by
  rw[<-l.el c h];rwa[(f.el _ (by rw[<-e];rwa[g.lt h])).1]
 let a:∀c,c<S.q->S.aw c=T.aw c:=λc h=>Nat.le_antisymm (half f g em.symm j c ∅) (half g f em l c h)
 let b:∀{S T:RS} {R:Za2},Good S [] R->Later S T->(∀c,c<S.q->S.aw c=T.aw c)->∀c z d,S.by c z=some d->T.by c z=some d:=λ{S T R} g l a c z d e=>by
  let⟨o,m,p,k⟩:=g.st _ _ _ e;have:=l.by_ _ _ _ e;rw[<-a c o,<-a d m,p,k]at this;rwa[this]
 rwa[⟨a,λc z=>?_⟩]
 cases e:S.by c z with
 |some d=>exact(b g l a c z d e).symm
 |none=>
  cases n:T.by c z with
  |none=>rfl
  |some d=>rw[b f j (λc h=>(a c ∅).symm) c z d n]at e;ext e
def Kk {k:Za2}(g:Good S [] R)(f:Good T [] k)(em:S.q=T.q)(h:(∀c,c<S.q->S.aw c=T.aw c)/\∀c z,S.by c z=T.by c z)(c:Nat)(z:Int):dm S n c z↔dm T n c z:=by
 let d:∀{S T:RS},S.Wf->T.Wf->S.q=T.q->(∀c,c<S.q->S.aw c=T.aw c)->(∀c z,S.by c z=T.by c z)->dm S n c z->dm T n c z:=λ{S T} w i e a b ζ=>by let⟨m,j,o,l⟩:=ζ;rwa[⟨3,by rw[pH (by rw[i.e];omega),<-a c m,jd j],o,by rw[<-b];rwa[l]⟩]
 rwa[d g.wf f.wf em h.1 h.2,d f.wf g.wf em.symm (λc p=>(h.1 c ∅).symm) λc z=>(h.2 c z).symm]
theorem Fl.later {rs I:Za3}(i:∀u∈rs++I,∀z∈u,z∈bx (2* n)/\-z∈bx (2* n)):∀(d:Nat) {C o:Nat} {S F:RS},Fl rs I n m C S->Fl rs I n m o F->S.q=d->F.q=d->Later S F:=by
 intro d
 induction d with
 |zero=>
  intro _ _ S F h _ e _;let⟨R,y⟩:=h.ys i;have:=y.m;ext
 |succ d U=>
  intro _ _ S F h J e eF;let⟨RF,s⟩:=J.ys i;let N:=J.cl
  cases h with
  |start t _=>exact Du (R1:=λ_ _ _=>False) t i (uT n _) YS.new.w (λ_ _ _ q=>q.elim) s.g N s.m s.m λ_ _ _ q=>q.elim
  | @next D _ c z f0 _ Q t _=>
    let⟨R0,k⟩:=f0.ys i;let⟨g1,Y,X,g4⟩:=Q.1;let x:=k.make g1 (jd Y) g4 X (Aq X).2.2;let⟨_,_,f,_⟩:=x.tr t i;let f:S.q=D.q+ 1:=f
    cases J with
    |start E _=>
     let⟨_,_,p,_⟩:=YS.new.tr E i;let p:F.q=1:=p;have:=k.m;ext
    | @next O _ c' z' j _ l E _=>
      let⟨Z,g⟩:=j.ys i;let⟨H,M,v,G⟩:=l.1;let⟨R2,B,p,sub,_⟩:=(g.make H (jd M) G v (Aq v).2.2).tr E i;let p:F.q=O.q+ 1:=p;let V:=U f0 j ∅ ∅;let l2:=U j f0 ∅ ∅;let⟨rfl,rfl⟩:=Kj (Kk k.g g.g ∅ (Dv k.g g.g ∅ V l2)) Q l;let L:=Later.of g.g B.g (λa z b r=>sub _ _ _ (iz a z b r)) ∅;rwa[Du t i x.g x.w x.k s.g N s.m (by show D.q+ 1<=_;omega) ?_];let T:D.q=O.q:=∅
      rintro a y b (r|⟨rfl,rfl,rfl⟩|⟨rfl,rfl,rfl⟩)
      ·let⟨h1,h2,_⟩:=k.g.rl _ _ _ r;have:=L.by_ _ _ _ (V.r k.g r);rw[L.el a ∅,L.el b ∅]at this;rwa[this]
      ·rw[T];rwa[B.g.MQ (sub _ _ _ kb)]
      ·rw[T];rwa[B.g.sy _ _ _ (B.g.MQ (sub _ _ _ kb))]
def Fl.one {rs b:Za3}(a:∀u∈rs++b,∀z∈u,z∈bx (2* n)/\-z∈bx (2* n))(h:Fl rs b n m i S)(d:Fl rs b n m j T)(em:S.q=T.q):(∀c z,dm S n c z↔dm T n c z)/\∀c z,S.by c z=T.by c z:=by
 let⟨R,y⟩:=h.ys a;let⟨g,f⟩:=d.ys a;let e:=Dv y.g f.g em (Fl.later a _ h d rfl em.symm) (Fl.later a _ d h rfl em);rwa[Kk y.g f.g em e,e.2]
def Fl.most {rs d:Za3}(b:∀u∈rs++d,∀z∈u,z∈bx (2* n)/\-z∈bx (2* n))(h:Fl rs d n m i S)(r:∀c z,¬dm S n c z)(l:Fl rs d n m j T):T.q<=S.q:=by
 induction l with
 |start t _=>
  let⟨_,_,a,_⟩:=YS.new.tr t b;let⟨R,y⟩:=h.ys b;rw[a];rwa[y.m]
 | @next e T c z f0 _ f t _ x=>
   let⟨v,s⟩:=f0.ys b;let⟨p,k,g,o⟩:=f.1;let⟨_,_,a,_⟩:=(s.make p (jd k) o g (Aq g).2.2).tr t b;let a:T.q=e.q+ 1:=a;rcases ajB e.q S.q with q|q
   ·ext
   ·rwa[absurd (((h.one b f0 (by omega)).1 c z).mpr f.1) (r c z)]
def QY (K:Za1):Sp:=λe H Q _=>∃(a:Zs) (f:Zg),e=[↑a]/\aH K H a (ao f)/\∀l c o b d,aq H d->d l\.tup [.int ((b:Nat):Int),.str (tx c)]->(c=dY o\/c=[]/\o=0)->o<3->1<=b->b<=24->Q ↑l d
seal L2.PE L2.PS L2.iS L2.PA L2.PT
def Aj (T:Txt K mg A):T.qo.Ok P w base 2 (QY K):=by
 rwa[T.qo.on ji (λC O r s H N Q E G h=>?_) (len:=by rintro _ _ _ _ ⟨a,u,rfl,_⟩;rfl)]
 ·let⟨a,u,rfl,L,k⟩:=h
  erw[_,{bC 1 ji.nd (pc T.bz (bp T) G #[0,au]),bC 2 ji.nd ((bV (ae au (ae au (ae au (ae au aj gY) gY) gY) gY))|||(aK bP (aK cX (pv 1) au) au)),bE (bB (aZ dJ (aK bP (pv 1) au) au (bh _))
    {bC 2 ji.nd (aK cI au (aK bP (aK cX (pv 1) au) au))}
    bj),bf (cy #[2,(bV (ae (cR (l:=[114,111,111,109,115]) rfl) (ae (cR (l:=[108,101,116,116,101,114,115]) rfl) (ae (cR (l:=[110,101,119,101,115,116]) rfl) (ae (cR (l:=[]) rfl) aj gY) gY) gY) gY))|||(aK bP (aK cX (pv 1) au) au)])}]
  rwa[iB ?_];intro D M B;rwa[⟨12,a,u,(7),2,L,4,λz=>?_⟩];rwa[⟨Za4 4,λq t=>⟨121122,⟨44⟩,1122,(by show (0:Int)<4;decide),5⟩⟩]
  obtain⟨b,c,j,d⟩:∃b:Nat,j0 [V.int 12,V.int 12,V.int 12,V.int 24] (z / 2 % 4)\.int (b:Int)/\1<=b/\b<=24:=by
   rcases (show z / 2 % 4=0\/z / 2 % 4=1\/z / 2 % 4=2\/z / 2 % 4=3 by omega) with e|e|e|e
   ·rwa[⟨(12),by rw[e];rfl,by decide,by decide⟩]
   ·rwa[⟨(12),by rw[e];rfl,by decide,by decide⟩]
   ·rwa[⟨(12),by rw[e];rfl,by decide,by decide⟩]
   ·rwa[⟨(24),by rw[e];rfl,by decide,by decide⟩]
  rwa[⟨q,_,_,_,rfl,rfl,aH.of ah,c,?_⟩];let s1:=aq.upd (o:=.lst [V.int 12,V.int 12,V.int 12,V.int 24]) t;change upd H q _=F at s1 ⊢;erw[λ g v=>∃b:Nat,g=#v[↑a,.int z,.int b]/\v=F/\1<=b/\b<=24,5]
  ·rwa[⟨121122,(by show (0:Int)<2;decide),212,bR (λ_=>?_) (λ_=>⟨b,22,j,d⟩)⟩];erw[121122,⟨44⟩,1122,(by show (0:Int)<12;decide),1122];let⟨x,I,y⟩:=fM (z / 2) (n:=12) ⋯;rw[show z / 2 % 12=(x:Int) from I,show (1:Int)+ (x:Int)=((1+ x:Nat):Int) by ext];rwa[1+ x,2233]
  clear j d c;rintro g v ⟨b,rfl,rfl,j,d⟩;rwa[⟨12,Za4 4,λq t=>⟨121122,⟨44⟩,1122,(by show (0:Int)<4;decide),5⟩⟩]
  obtain⟨i,f,c,p,m⟩:∃(i:Zh) (f:Nat),j0 [V.str (tx [114,111,111,109,115]),V.str (tx [108,101,116,116,101,114,115]),V.str (tx [110,101,119,101,115,116]),V.str (tx [])] (z / 48 % 4)\.str (tx i)/\(i=dY f\/i=[]/\f=0)/\f<3:=by
   rcases (show z / 48 % 4=0\/z / 48 % 4=1\/z / 48 % 4=2\/z / 48 % 4=3 by omega) with e|e|e|e
   ·rwa[⟨_,(0),by rw[e];rfl,.inl rfl,by decide⟩]
   ·rwa[⟨_,(1),by rw[e];rfl,.inl rfl,by decide⟩]
   ·rwa[⟨_,(2),by rw[e];rfl,.inl rfl,by decide⟩]
   ·rwa[⟨_,(0),by rw[e];rfl,.inr ⟨rfl,rfl⟩,by decide⟩]
  rwa[⟨q,_,_,_,rfl,rfl,aH.of ah,c,Za4 2,λl J=>?_⟩];rwa[k l i f b _ (s1.trans ((aq.upd t).trans (aq.upd J))) ah p m j d]
unseal L2.PE L2.PS L2.iS L2.PA L2.PT
def OX {f:Za3}{c:Zh}{W:Za2}{b:List Dt}(h:Go f n B W b c R):∀x∈b,∃l d,x=Dt.t (.s l::d):=by
 induction h with
 |nil=>cbv
 |cons o _ e=>
  intro x a;rcases ahR.mp a with rfl|a
  ·cases o <;> rwa[⟨_,_,rfl⟩]
  ·rwa[e x a]
def Hf {j i:Za3}{w:Nat}(f:Fl j i n w m S)(d:∀u∈j++i,∀z∈u,z∈bx (2* n)/\-z∈bx (2* n)):∀x∈S.rows,∃l r,x=Dt.t (.s l::r):=by
 induction f with
 |start t _=>
  let⟨_,_,a,_,o,e,_,_,_,_,g⟩:=YS.new.tr t d;rw[e];rwa[OX g]
 | @next h _ c z f0 _ l t _ B=>
   let⟨R,y⟩:=f0.ys d;let⟨v,q,k,s⟩:=l.1;let⟨z1,z2⟩:=fx.mp k;let⟨_,_,a,_,o,e,_,_,_,_,g⟩:=(y.make v (jd q) s k (fx.mpr ⟨33⟩)).tr t d;rw[e];intro x b;rcases ahL.mp b with b|b
   ·let b:x∈h.rows++[kK c z h.q]:=b;rcases ahL.mp b with p|p
    ·rwa[B x p]
    ·rw[ahH.mp p];rwa[112]
   ·rwa[OX g x b]
def MR {f:List Dt}(h:bQ H 4 ↑a (.t (.s B::f))):∃b,H a\(.tup (.str (tx B)::b)):=by
 cases h with
 | @t _ _ b _ d c e=>
   match b,c with
   |v::b,_=>
    let q:=e 0 v _ rfl rfl;ext q;rwa[b,d]
def VJ:Sp:=λb H Q _=>∃(l:Zs) (S:RS),b=[↑l]/\jX H l S/\(∀x∈S.rows,∃l c,x=Dt.t (.s l::c))/\⇑S.rows<=1000000/\∀a,aq H a->Q (.int (S.rows.countP isNew:Nat)) a
def m7 (T:Txt K mg A):T.kS.Ok P w base 1 VJ:=by
 rwa[T.kS.on Ct (λX AA t s H U Q E F h=>?_) (len:=by rintro _ _ _ _ ⟨l,S,rfl,_⟩;rfl)]
 ·let⟨l,S,rfl,⟨b,B,g,_⟩,o,hlen,k⟩:=h
  erw[_,{bB (l0 (dq (bq gM rfl T.bN ah1 #[0,gZ (v:=.ty "list") rfl T.iG aiQ rfl])))
   {bf (fe dN au)}
   bj,bf ((wj (fns:=[]) (ixs:=[]) (cl:=_) rfl (cO (pv 0)) (jJ ⋯ ⋯ rfl ⋯ rfl) (λC s H ex=>(aZ dJ (bF (EF (K:=K) rfl) (pv 0) au (λ_ _=>rfl)) (cR (l:=[110,101,119]) rfl) (bh _))) (λC s H ex=>(pv 0)))<<<0)}]
  rwa[iA ?_];intro N;rwa[⟨1211112,.lst B,uP _ _,true,2,dh ?_⟩];let G:⇑b=⇑S.rows:=g.1;erw[12,l,2,⟨_,aH.of B⟩];erw[λi m ys M=>m=⇑b - i/\i<=⇑b/\aq H M/\⇑ys=(S.rows.take i).countP isNew,⟨⇑b,by simp,ah2 _,λ_ _ e=>e,2⟩];rintro i m ys M ⟨rfl,hi,s2,n⟩;let c:=s2^B;let j:=ajO (p:=isNew) (l:=S.rows.take i);rw[aif]at j;cases a:i<⇑b
  ·rwa[.inr ⟨i3 (aH.of c) i ([ahE]▸a),ahK (show ⇑ys<=1000000 by omega) ⋯,λx R r=>?_⟩];let⟨rfl,L⟩:=g6 (aH.of c) i x R ([ahE]▸a) r;let q:=ahC a;let F:i<⇑S.rows:=∅
   let d:=ahC F;let⟨tl,u,Z⟩:=o _ (List.getElem_mem F);let y:=g.2 i _ _ q d;rw[Z]at y d;let⟨U,J⟩:=MR (y.same s2);change b[i]=p at q J y;rw[ahZ,q]at L;let ex:=Za0 L;subst ex;let I:S.rows.take (i+ 1)=S.rows.take i++[Dt.t (.s tl::u)]:=by rw[List.take_add_one,d];rfl
   erw[12,p,11,.str (tx tl),22,bG.of J,(show j0 _ ((0:Nat):Int)=_ from dB rfl),212];cases h:tl=[110,101,119]
   ·rw[ah9 (eV.mpr h)];erw[12,⇑b - (i+ 1),32,a,s2];rw[I,ajg,ajq,ahA,n];have:isNew (Dt.t (.s tl::u))=true:=ah9 h;rw[this];rfl
   ·rw[aik (λz=>h (eV.mp z))];erw[⇑b - (i+ 1),32,a,s2];rw[I,ajg,ajq,n];have:isNew (Dt.t (.s tl::u))=false:=aik h;rw[this];rfl
  ·let e:i=⇑b:=∅
   subst e;rw[G,ai3]at n;let j:=ajO (p:=isNew) (l:=S.rows);rwa[.inl ⟨by rw[<-ahE (f:=V.ref)];rwa[fL (aH.of c)],ahP (show ⇑ys<=1000000 by omega) ⋯,λD O=>?_⟩];erw[D,12,.inl (aH.of ah)];rw[n];rwa[k _ (s2.trans (aq.upd O))]
def m8 {t:TS}(h:t { G with nx:=λ c d=>c=D/\d=H } D H)(k:G.nx D H):KJ t G D H:=⟨_,h,λ_ _ ζ=>by let⟨a,b⟩:=ζ;rwa[[a,b]▸k]⟩
inductive zK (Pt:Zs) (vs:Zb) (H:Hp) (Q:VK) (E_:XK):Prop
 |mk (ru pa:Zs) (L lim:Nat) (nm:Zh):vs=[.int L,↑ru,↑pa,.int lim,.str (tx nm)]->(nm=[114,111,111,109]\/∃(w:Nat) (rs ps:Za3),nm=dY w/\w<3/\1<=L/\L<=40/\1<=lim/\lim<=300/\bX H ru rs/\bX H pa ps/\(∀u∈rs++ps,Fq L u)/\lim* ⇑rs+ ⇑ps<=700/\⇑rs<=400/\⇑ps<=400/\cH Pt cL eG H/\∀S,Fl rs ps L w lim S->(∀c z,¬dm S L c z)->False)->(∀H',Kp Pt H H'->(cH Pt cL eG H->cH Pt cL eG H')->Q (.bl true) H')->zK Pt vs H Q E_
def abv {w:Nat}:dY w≠[114,111,111,109]:=by
 unfold dY;split
 ·decide
 ·split <;> decide
def vF (T:Txt K mg A):A4 K A.aP:=⟨T.xc,T.xg,T.GQ,T.GR,T.i5,T.i6,T.GU,T.xh⟩
def abw (T:Txt K mg A):A4 K A.cq:=⟨T.GW,T.GX,T.GY,T.GZ,T.i5,T.i6,T.G0,T.G3⟩
def jY (T:Txt K mg A)(J:jO mg base):T.iE.Ok P w base 12 (zK A.di):=by
 rwa[T.iE.on ib (λcC AA outer s H vs Q E hr h=>?_)]
 ·let⟨ru,pa,L,a,nm,rfl,X,k⟩:=h
  erw[_,{bC 5 ib.nd dA,bE (EZ rfl rfl (LX (IZ (yN T J) hr.Za5 rfl T.fill.m T.fill.kp T.fill.bk #[0,1,2,3] (xT (pv 4) AF) (by decide) rfl rfl) rfl)
    (IV (i:=6) ib.nd rfl rfl rfl T.oB (λ_=>{bC 5 ib.nd (pv 6)})
    IW)),bB (aZ dJ (pv 4) (cR (l:=[114,111,111,109]) rfl) (bh _))
    {bf (bq gG rfl T.bN ah1 #[5,j5 (v:=↑A.cq) rfl T.sJ rfl])}
    bj,bE (bB (PW.pt (lH (l0 (dq (bq gG rfl T.bN ah1 #[5,j5 (v:=↑A.aP) rfl T.nY rfl]))) (lZ (l0 (dq (bq gG rfl T.bN ah1 #[5,gZ (v:=.ty "ValueError") rfl T.B6 Pz rfl]))))))
    {bf kr}
    bj),bE (bB (PW.pt (lH (dq (bq gG rfl T.bN ah1 #[5,j5 (v:=↑A.cq) rfl T.sJ rfl])) (lZ (dq (bq gG rfl T.bN ah1 #[5,j5 (v:=↑A.vn) rfl T.L3 rfl])))))
    {bf kr}
    bj),bE (bB (PW.pt (lH (dq (bq gG rfl T.bN ah1 #[5,j5 (v:=↑A.sF) rfl T.Jc rfl])) (lZ (dq (bq gG rfl T.bN ah1 #[5,j5 (v:=↑A.qg) rfl T.GC rfl])))))
    {bf kr}
    bj),bf (vG (pc T.lP (qZ T) hr #[lX (pv 5) rfl]) (vG (tf dJ (lX (pv 5) rfl) (pv 3) (bh _)) (Aw (tf dJ (pc T.kS (m7 T) hr #[lX (pv 5) rfl]) (aK gW (pv 3) au) (bh _)))))}]
  rwa[mE ?_];intro zC oh lF ja fI fV;erw[λ r f=>Kp A.di H f/\(cH A.di cL eG H->cH A.di cL eG f)/\∃x c G,r=#v[.int L,↑ru,↑pa,.int a,.str (tx nm),↑x,none]/\f x\XO x c G false/\((nm=[114,111,111,109]/\c=A.cq)\/nm≠[114,111,111,109]/\c=A.aP/\∃d b S,G\d/\f d\XD d (q9 S.q b)/\jX f b S/\S.q=a/\S.rows.countP isNew+ 1=a/\∀x∈S.rows,∃l ds,x=Dt.t (.s l::ds)),5]
  ·erw[121212121212,ru,pa,L,a,nm,2];rcases X with rfl|⟨w_,rs,ps,rfl,R,D,I,m,U,Y,uC,j,n,F,O,hT,nf⟩
   ·rwa[.inr ⟨rfl,_,rfl,true,T.G4,hV λx nx=>⟨_,rfl,?_⟩⟩];let g:=aq.upd (o:=XO x A.cq none false) nx;rwa[.same g,λt=>t.same g,x,112,ah,.inl ⟨22⟩]
   ·let p:∀u∈rs++ps,∀z∈u,z∈bx (2* L)/\-z∈bx (2* L):=λu hu z hz=>((pM ∅ (j u hu)).2 z hz).2
    rwa[.inl ⟨a,w_,rs,ps,2,R,D,I,m,m,U,λS c z _ h _=>h,Y,uC,j,n,F,O,hT,λt tb b S N f _ _ y g1 _ _ _ _=>(nf S y g1).elim,λd b S f B t1 y m1 l1 a1 a2=>?_⟩];rwa[⟨12,true,T.GV,hV λx nx=>⟨125⟩⟩];let g:=aq.upd (o:=XO x A.aP (some d) false) nx;rwa[B.trans (.same g),λ_=>t1.same g,x,112,ah,.inr ⟨abv,2,d,b,S,2,g^a1,a2.same g,m1,(Ds y p).trans m1,Hf y p⟩]
  rintro r H1 ⟨B,t1,x,c,G,rfl,e,X⟩;rcases X with ⟨rfl,rfl⟩|⟨C,rfl,d,b,S,rfl,Z,hp,hm,hn,M⟩
  ·rwa[⟨_,rfl,rfl,_,rfl,bR (λ_=>?_) λh=>absurd (ah9 rfl) h⟩];rwa[12,x,1111112,e,abw T,2,T.aa1,k H1 B t1]
  ·rwa[⟨12212,bR (λh=>absurd (eV.mp (aia h)) C) λ_=>?_⟩];rwa[m8 ⟨12,x,1111112,e,vF T,2,T.G5,true,2,dh ⟨12,x,1111112,e,vF T,2,T.aa0,true,2,dh ⟨22⟩⟩⟩ ?_];rwa[m8 ⟨12,x,1111112,e,vF T,2,T.G6,false,2,dh ⟨12,x,1111112,e,vF T,2,T.Jm,false,2,dh ⟨22⟩⟩⟩ ?_];rwa[m8 ⟨12,x,1111112,e,vF T,2,T.G7,false,2,dh ⟨12,x,1111112,e,vF T,2,T.DX,false,2,dh ⟨22⟩⟩⟩ ?_];rwa[⟨12,x,A.aP,d,false,q9 S.q b,12,e,Z,oq T,T.pC,212,true,2,hV ?_⟩];rwa[⟨12,x,A.aP,d,false,q9 S.q b,12,e,Z,oq T,T.pC,212212,bR (λ_=>?_) (λh=>absurd (ah9 (aiN (λq:Nat=>V.int (q:Int)) hm)) h)⟩];rwa[⟨12,x,A.aP,d,false,q9 S.q b,↑b,2,e,Z,oq T,T.yD,2,b,S,2,hp,M,(by let⟨_,_,_,h⟩:=hp;rwa[h]),λH5 s5=>?_⟩];erw[1211222];rw[ah9 (aiN V.int (show ((S.rows.countP isNew:Nat):Int)=(a:Int) - 1 by omega))];rwa[k _ (B.trans (.same s5)) λt=>(t1 t).same s5]
def VL:Sp:=λb H Q _=>∃n:Nat,b=[.int n]/\n<100000/\∀a,aq H a->Q (.bl true) a
def qB (T:Txt K mg A):T.iZ.Ok P w base 3 VL:=by
 rwa[T.iZ.on gP (λcC AA R s H vs Q E S h=>?_) (len:=by rintro _ _ _ _ ⟨n,rfl,_⟩;rfl)]
 ·let⟨n,rfl,hn,k⟩:=h;let V:=ahK (Nat.add_le_add_left (by decide:8<=64) _) S.units
  erw[_,{bC 1 gP.nd (bV #[cy #[cR (l:=[110,101,119]) rfl,au,au,au]]),bC 2 gP.nd (LY (j4 T) (S.mono ⋯) T.cJ.b rfl T.nY (yj T.qv T.cJ.m.at_) T.cJ.m.fn T.w9 #[0,1] rfl (by decide) (by decide) rfl rfl),aV (cM ahM ahV ahW bH (pv 1) #[cy #[cR (l:=[110,101,119]) rfl,au,fe dN au,au]]),bE (bB (PW.pt (lH (l0 (dq (bq gG rfl T.bN ah1 #[2,j5 (v:=↑A.eR) rfl T.oB rfl]))) (lH (l0 (dq (pc T.lP (qZ T) S #[lX (pv 2) rfl]))) (lZ (aZ pV (lX (pv 2) rfl) (pv 0) (bh _))))))
    {bf kr}
    bj),bf (tf (Qx V) (lX (pv 2) rfl) (bV #[cy #[cR (l:=[110,101,119]) rfl,au,au,au]]) (bh _))}]
  rwa[p5 ?_];intro lF ja fI fV;rwa[⟨Za4 4,λq Z=>⟨Za4 1,λl U=>?_⟩⟩];let s1:=(aq.upd (o:=.tup [.str (tx [110,101,119]),.int 0,.int 1,.int 1]) Z).trans (aq.upd (o:=.lst [↑q]) U);let m:=(aq.upd (o:=.lst [↑q]) U) q _ ah;let g:upd (upd H q (.tup [.str (tx [110,101,119]),.int 0,.int 1,.int 1])) l (.lst [↑q]) l\(.lst [↑q]):=ah;let J:=(aq.upd (o:=.tup [.str (tx [110,101,119]),.int 0,.int 1,.int 1]) Z).free U;change upd (upd H q (.tup [.str (tx [110,101,119]),.int 0,.int 1,.int 1])) l (.lst [↑q])=H1 at s1 m g ⊢;rwa[⟨1212,λx nx=>?_⟩];let F:=aq.upd (o:=XO x A.aP none true) nx;rwa[⟨x,l,n,[↑q],2,ah,hn,F^g,by show 1<=1000000;decide,λd B y nd X C8 f2 r j L Y1=>⟨25⟩⟩];let N:aq H1 y:=λb o e=>f2 b o (ax e nx) (F^e)
  let c:=N^g;let C:=N^m;replace s1:=s1.trans N;rwa[⟨12,.inl ⟨21,aH.of c⟩,12,Za4 4,λi O=>?_⟩];let Y:=aq.upd (o:=.tup [.str (tx [110,101,119]),.int 0,.int (-1),.int 2]) O;erw[l,1122,Y^c,by show 1<sizeLine;decide];let kp:∀{b o},b≠l->y b\o->upd (upd y i (.tup [.str (tx [110,101,119]),.int 0,.int (-1),.int 2])) l (.lst ([↑q]++[↑i])) b\o:=λn e=>by rw[ak n];rwa[Y^e]
  let s5:aq H (upd (upd y i (.tup [.str (tx [110,101,119]),.int 0,.int (-1),.int 2])) l (.lst ([↑q]++[↑i]))):=λb o e=>kp (ax e J) (s1^e)
  let a:=kp (bT r c f!"") r;let f:=kp (bT j c f!"") j;let t:=kp (ax (F^g) X).symm L;let u:=kp (bT C c f!"") C;change upd (upd y i (.tup [.str (tx [110,101,119]),.int 0,.int (-1),.int 2])) l (.lst ([↑q]++[↑i]))=H5 at s5 a f t u ⊢;rwa[m8 ?_ ?_]
  ·rwa[⟨12,x,1111112,a,vF T,2,T.Cp,true,2,dh ?_⟩];rwa[⟨12,x,A.aP,d,true,q9 n B,12,a,f,oq T,T.pC,212,true,2,dh ?_⟩];rwa[12,x,A.aP,d,true,q9 n B,12,a,f,oq T,T.pC,212212,nj rfl ⟨22⟩]
  rwa[⟨12,x,A.aP,d,true,q9 n B,↑B,2,a,f,oq T,T.yD,2,Za4 4,λD G=>⟨Za4 1,λl7 p=>?_⟩⟩];let M:=(aq.upd (o:=.tup [.str (tx [110,101,119]),.int 0,.int 1,.int 1]) G).trans (aq.upd (o:=.lst [↑D]) p);let I:=(aq.upd (o:=.lst [↑D]) p) D _ ah;rwa[B,l7,q,D,[110,101,119],[0,1,1],22,M^t,ah,M^u,I,k _ (s5.trans M)]
def Kp.words {pos:Pos}(k:Kp a H I)(t:cH a pos x H){l:Zs}{ws:Za3}(h:bX H l ws):bX I l ws:=by
 let⟨b,c,d⟩:=h;rwa[b,k.at t c s!"",d.keep λp f e=>k.at t e s!""]
def Kp.tabs {pos:Pos}(k:Kp a H I)(t:cH a pos x H){l:Zs}{T:Za3}(h:TabAt H l T):TabAt I l T:=by
 let⟨e,f,d⟩:=h;rwa[e,k.at t f s!"",d.1,λi r row c b=>k.at t (d.2 i r row c b) s!""]
theorem VM (T:Txt K mg A)(U:jO mg base):T.law.Ok P w base 13 (Ao K A.di):=by
 rwa[T.law.on dF (λcC AA outer s H vs Q E Y h=>?_) (len:=by rintro _ _ _ _ ⟨a,ns,rfl,_⟩;rfl)]
 ·let⟨a,ns,rfl,ha,Y8,hP,k⟩:=h;let qX:=iJ Y
  erw[_,{mh (pc T.qm (Ai T) Y #[0]) (oF rfl (dy (dW 1 dF.nd) (dy (dW 2 dF.nd) (dy (dW 3 dF.nd) (dy (dW 4 dF.nd) (dy (dW 5 dF.nd) lV)))))),mh (pc T.qo (Aj T) Y #[0]) (oF rfl (dy (dW 6 dF.nd) (dy (dW 7 dF.nd) lV))),bC 6 dF.nd (bq (yS rfl) rfl T.GA PyProof.Rows.boot_min #[6,au]),bE (bB (aZ dJ (pv 7) (cR (l:=[]) rfl) (bh _))
    {bC 7 dF.nd (cR (l:=[114,111,111,109,115]) rfl)}
    bj),mh (pc T.kA (pO T U) Y #[1,3,4,6,7]) (oF rfl (dy (dW 8 dF.nd) (dy (dW 9 dF.nd) lV))),bC 10 dF.nd (aK cI (pv 6) au),bE (bB (aZ oH (pv 9) dA (bh _))
    {bC 10 dF.nd (aK cI (pc T.kS (m7 T) Y #[8&&&au]) au),bE (bB (PW.pt (lH (aZ lI (pv 10) au (bh _)) (lZ (aZ vL (pv 10) (pv 6) (bh _)))))
     {bf kr}
     bj),cW ah7 rfl (cO (bV #[10,aK cI (pv 10) au,au])) (dW 11 dF.nd)
     {bC 12 dF.nd ((pc T.kA (pO T U) Y #[1,3,4,11,7])&&&au),bE (bB (PW.pt (lH (aZ oH (pv 12) dA (bh _)) (lH (aZ (PH qX) (12&&&au) (8&&&au) (bh _)) (lZ (aZ pV (pc T.kS (m7 T) Y #[12&&&au]) (aK gW (pv 10) au) (bh _))))))
      {bf kr}
      bj)}}
    {bB (l0 (dq (pc T.iE (jY T U) Y #[1,3,4,6,7])))
     {bf kr}
     bj}),bC 13 dF.nd (bV #[aK gW (pv 10) au,aK cX (pv 10) au,au]),qM (iy:=13) dF.nd rfl (Or.inl rfl) (fns:=["_law_made"]) (ixs:=[10]) (cl:=_) rfl (cO (pv 13)) (lK rfl rfl ⋯ rfl ⋯ rfl ⋯ ⋯ rfl rfl rfl rfl) (λC s H ex=>(Ks lI lI au (pv 0) (pv 1) (by with_unfolding_all rfl))) (λC s H ex=>(pv 0)),cW ah7 rfl (cO (pv 13)) (dW 14 dF.nd)
    {bB (l0 (dq (pc T.iE (jY T U) Y #[1,3,4,14,7])))
     {bf kr}
     bj},bf (vG (pc T.iE (jY T U) Y #[1,3,4,6,cR (l:=[114,111,111,109]) rfl]) (Aw (pc T.iZ (qB T) Y #[6])))}]
  rwa[Ih ?_];intro abu u_9 XY Jt zC oh lF ja fI fV;let ha:aH K H a (ao ns):=ha;rwa[⟨12,a,ns,2,ha,Y8,λq ta ra pa L x R P_ H1 s1 hq kX Y5 wR wP ok OW hPl=>?_⟩];erw[q,12,bG.of hq,21121121121121122];rwa[⟨12,a,ns,2,s1.seq ha,λq2 ot o G H2 s2 Fb hot Fy g agr=>?_⟩];erw[q2,12,bG.of Fb,21121122];replace wR:=wR.same s2;replace wP:=wP.same s2;replace s1:=s1.trans s2;let hT:cH A.di cL eG H2:=.inl (s1^hP);let d:∀u∈R++P_,∀z∈u,z∈bx (2* L)/\-z∈bx (2* L):=λu hu z hz=>((pM ∅ (ok u hu)).2 z hz).2
  let fit:∀n,n<=20->n* ⇑R+ ⇑P_<=700:=λn hn=>by have:=akA hn OW;ext
  erw[12,G,(12),2]
  obtain⟨b,JB,g,ags⟩:∃b:Nat,(if (12:Int)<(G:Int) then (12:Int) else G)=b/\1<=b/\b<=12:=by
   split
   ·rwa[(12),244]
   ·rwa[G,2,g,3]
  rw[JB];clear JB;erw[λ J X=>J=#v[↑a,.int L,↑ta,↑ra,↑pa,.int x,.int b,.str (tx (dY o)),none,none,none,none,none,none,none]/\X=H2,5]
  ·rwa[⟨12212,bR (λh=>?_) λh=>?_⟩]
   ·let e:ot=[]:=eV.mp (aia h)
    let eo:o=0:=by
     rcases hot with q|q
     ·rw[e]at q;rcases (show o=0\/o=1\/o=2 by omega) with rfl|rfl|rfl
      ·rfl
      ·rwa[absurd q (by decide)]
      ·rwa[absurd q (by decide)]
     ·rwa[q.2]
    subst eo;rwa[22]
   ·let e:ot=dY o:=hot.elim id λq=>absurd (ah9 (eV.mpr q.1)) h
    subst e;rwa[22]
  rintro J H3 ⟨rfl,e3⟩;subst e3
  let main:∀(J:St) (X:Hp),(∃(vf vr:V) (n:Nat) (p B:Zc),J=#v[↑a,.int L,↑ta,↑ra,↑pa,.int x,.int b,.str (tx (dY o)),some vf,some vr,.int n,p,B,none,none]/\Kp A.di H3 X/\cH A.di cL eG X/\n<=13/\∀s,1<=s->s<n->∀S,Fl R P_ L o s S->(∀c z,¬dm S L c z)->False)->Jt { nx:=λ_ X=>Q .non X,rt:=Q } J X:=by
   rintro J H4 ⟨vf,vr,n,p,B,rfl,k4,t4,hn,nf⟩;rwa[⟨121122121122,⟨44⟩,Za4 3,λlz nlz=>?_⟩];let I:=aq.upd (o:=.lst [V.int ((n:Int) - 1),V.int ((n:Int) / 2),V.int 1]) nlz;let M:upd H4 lz (.lst [V.int ((n:Int) - 1),V.int ((n:Int) / 2),V.int 1]) lz\(.lst (ao [(n:Int) - 1,(n:Int) / 2,1])):=ah;change upd H4 lz (.lst [V.int ((n:Int) - 1),V.int ((n:Int) / 2),V.int 1])=H5 at I M ⊢;replace k4:=k4.trans (.same I);replace t4:=t4.same I;erw[12,lz,2,⟨_,aH.of M⟩];erw[λi m ys H6=>m=3 - i/\i<=3/\H6=H5/\∃cs:Zh,ys=ao (nI cs)/\⇑cs<=i/\∀c∈cs,1<=c/\c<n,⟨(3),2,ah2 _,2,[],2,ah2 _,(λc hc=>by ext hc)⟩];rintro i m ys H6 ⟨rfl,hi,rfl,cs,rfl,nJ,C9⟩;let hlen:⇑(ao (nI cs))<=3:=by rw[aO,bZ];ext
   cases j1:i<3
   ·rwa[.inr ⟨i3 (aH.of M) i j1,ahK hlen ⋯,λv O hy=>?_⟩];let⟨rfl,hv⟩:=g6 (aH.of M) i v O j1 hy;let⟨z,rfl,hz⟩:=cD hv;let no:∃m',m'<3 - i/\m'=3 - (i+ 1)/\i+ 1<=3/\O=O/\∃VN:Zh,ao (nI cs)=ao (nI VN)/\⇑VN<=i+ 1/\∀c∈VN,1<=c/\c<n:=⟨3 - (i+ 1),32,j1,2,cs,23,C9⟩;rwa[⟨12112212,bR (λh1=>?_) λ_=>⟨12,no⟩⟩];erw[12112212];cases h2:z<(n:Int)
    ·rw[ah9 h2];let h1:0<z:=aia h1;obtain⟨m,rfl⟩:∃m:Nat,z=m:=⟨z.toNat,3⟩;rwa[12,3 - (i+ 1),32,j1,2,cs++[m],by rw[iu,ints_app];rfl,by rw[ahA];show _+ 1<=_;ext,λc hc=>(ahL.mp hc).elim (C9 c) λh=>[ahH.mp h]▸⟨33⟩]
    ·rw[aik h2];rwa[no]
   ·let e:i=3:=∅
    subst e;rwa[.inl ⟨fL (aH.of M),ahP hlen ⋯,λD nD=>?_⟩];let I:=aq.upd (o:=.lst (ao (nI cs))) nD;let hD:upd H6 D (.lst (ao (nI cs))) D\(.lst (ao (nI cs))):=ah;change upd H6 D (.lst (ao (nI cs)))=O at I hD ⊢;replace k4:=k4.trans (.same I);replace t4:=t4.same I;erw[12,D,2,⟨_,aH.of hD⟩];rwa[eY (K:=K) (a:=D) (xs:=ao (nI cs)) (λj σ H8=>∃VP:Zc,σ=#v[↑a,.int L,↑ta,↑ra,↑pa,.int x,.int b,.str (tx (dY o)),some vf,some vr,.int n,p,B,↑D,VP]/\Kp A.di O H8/\cH A.di cL eG H8) ⟨none,2,.refl,t4⟩ (λj σ H8 _ ζ=>by let⟨_,_,k8,_⟩:=ζ;rwa[aH.of (k8.at t4 hD s!"")]) ?_ ?_]
    ·rintro j v σ H8 hj ⟨VP,rfl,k8,t8⟩;let⟨z,rfl,hz⟩:=cD hj;let⟨c,hc,rfl⟩:=Kc hz;let⟨c1,c2⟩:=C9 c (ahB hc);let k48:=k4.trans k8;rwa[1212121212,ra,pa,L,c,dY o,2,.inr ⟨o,R,P_,2,Fy,kX,3,c1,3,k48.words hT wR,k48.words hT wP,ok,fit c ∅,33,t8,nf c c1 c2⟩,λH9 k9 t9=>⟨true,2,dh ⟨12,k8.trans k9,t9 t8⟩⟩]
    rintro σ H8 ⟨VP,rfl,k8,t8⟩;rwa[12121212,ra,pa,L,b,12,.inl rfl,λH9 _ _=>⟨true,2,hV ⟨12,b,23,λCy _=>k Cy⟩⟩]
  rwa[⟨1212121212,ra,pa,L,b,b,o,dY o,R,P_,2,.inl rfl,Fy,kX,3,g,g,3,λ_ _ _ _ h _=>h,wR,wP,ok,fit b ∅,33,hT,λq3 t tb pp S N X Z t1 f1 g1 a0 a1 a2 a3 a4=>?_,λq3 y dd pp S X Z t1 f1 m1 l1 a0 a1 a2 a3=>?_⟩]
  ·erw[q3,12,bG.of a0,21121122];erw[121122];rwa[⟨15,main⟩];rwa[⟨12212,bR (λ_=>?_) λh=>absurd rfl h⟩];let⟨hm,eL⟩:=f1.mL d g;rw[eL]at a2 a3;let nw:=Ds f1 d;rwa[⟨12,t,11122,bG.of a1,2,pp,S,2,a4,Hf f1 d,(by let⟨_,_,_,h⟩:=a4;rwa[h]),λH4 s4=>⟨11225⟩⟩];rw[show ((S.rows.countP isNew:Nat):Int)+ 1=(S.q:Int) by ext];rwa[m8 ?_ ?_]
   ·rwa[⟨12112212,bR (λh=>absurd (aia h) ∅) λ_=>?_⟩];rwa[1212112212,bR (λh=>absurd (aia h) ∅) λ_=>⟨22⟩]
   replace Z:=Z.trans (.same s4);replace t1:=t1.same s4;replace a1:=s4^a1;replace a2:=a2.same s4;clear a0 a4 s4;rwa[⟨12121122,Za4 3,λlq nlq=>⟨lq,2,⟨_,aH.of ah⟩,5⟩⟩];let I:=aq.upd (o:=.lst [V.int (S.q:Int),V.int ((S.q:Int)+ 1),V.int 1000]) nlq;let hlq:upd H4 lq (.lst [V.int (S.q:Int),V.int ((S.q:Int)+ 1),V.int 1000]) lq\(.lst [V.int (S.q:Int),V.int ((S.q:Int)+ 1),V.int 1000]):=ah;change upd H4 lq (.lst [V.int (S.q:Int),V.int ((S.q:Int)+ 1),V.int 1000])=H6 at I hlq ⊢;replace Z:=Z.trans (.same I);replace t1:=t1.same I;replace a1:=I^a1;replace a2:=a2.same I;generalize eT:M24.vd (bK S) (2* L) (M24.bM (bK S) (2* L) 0 N)=TT at a2;rwa[eY (K:=K) (a:=lq) (xs:=[V.int (S.q:Int),V.int ((S.q:Int)+ 1),V.int 1000]) (λj σ O=>∃p B:Zc,σ=#v[↑a,.int L,↑ta,↑ra,↑pa,.int x,.int b,.str (tx (dY o)),↑t,some .non,.int S.q,p,B,none,none]/\Kp A.di H6 O/\cH A.di cL eG O) ⟨none,none,2,.refl,t1⟩ (λj σ O _ ζ=>by let⟨_,_,_,k7,_⟩:=ζ;rwa[aH.of (k7.at t1 hlq s!"")]) ?_ ?_]
   ·rintro j v σ O hj ⟨p,B,rfl,k7,t7⟩
    obtain⟨m,rfl,hmm⟩:∃m:Nat,v=.int m/\S.q<=m:=by
     match j with
     |0=>rwa[S.q,(Za0 hj).symm,ahG _]
     |1=>rwa[S.q+ 1,(Za0 hj).symm,3]
     |2=>rwa[(1000),(Za0 hj).symm,3]
     |j+ 3=>ext hj
    let full:∀{l':Nat} {F:RS},Fl R P_ L o l' F->S.q<=F.q->(∀c z,¬dm F L c z)/\F.q=S.q:=λf h=>by
     let e:=f1.most d g1 f;rwa[λc z hg=>g1 c z (((f1.one d f ∅).1 c z).mpr hg),3]
    let k17:=Z.trans k7;rwa[⟨1212121212,ra,pa,L,m,S.q,o,dY o,R,P_,2,.inl rfl,Fy,kX,3333,λF c z f h hl=>?_,k17.words hT wR,k17.words hT wP,ok,fit S.q ∅,33,t7,λq' t' tb' pp' S' N' X k' t'' r g' b0 b1 b2 b3 b4=>?_,λq' y' dd' pp' S' X _ _ r m' l' _ _ _ _=>?_⟩]
    ·rcases ajB F.q S.q with q|q
     ·rwa[q]
     ·rwa[absurd hl.1 ((full f q).1 c z)]
    ·let h1:=r.most d g' f1;let⟨_,em⟩:=full r h1
     let eb:bK S'=bK S:=by
      funext kk c
      unfold bK;rw[(f1.one d r ∅).2]
     rw[(r.mL d ∅).2,eb]at b2 b3;let eN:=M24.QC b3 a3;rw[eN,eT]at b2;let nw':=Ds r d;erw[q',11122,bG.of b0,2];let VQ:=k7.trans k';rwa[⟨15,λ_ _ h=>h⟩];rwa[⟨12212,bR (λh=>by cases aia h) λ_=>?_⟩];rwa[⟨12,t',11122,bG.of b1,212,t,11122,bG.of (VQ.at t1 a1 s!""),2,tb',tb,TT,TT,22,b2,VQ.tabs t1 a2,12,nj rfl ?_⟩];rwa[⟨12,t',11122,bG.of b1,2,pp',S',2,b4,Hf r d,(by let⟨_,_,_,h⟩:=b4;rwa[h]),λH9 s9=>?_⟩];rwa[121122212,nj (aiN V.int ∅) ⟨112,VQ.trans (.same s9),t''.same s9⟩]
    ·exfalso
     let⟨c,z,hl⟩:=l';rwa[(full r ∅).1 c z hl.1]
   ·rintro σ O ⟨p,B,rfl,k7,t7⟩;rwa[⟨11,S.q,112,Z.trans k7,t7,3,λs Kh hs S' r g'=>?_⟩];let h1:=r.most d g' f1;let h2:=(r.mL d Kh).1;ext
  ·erw[q3,12,bG.of a0,21121122];erw[121122];rwa[⟨15,main⟩];rwa[⟨12212,bR (λh=>by cases aia h) λ_=>?_⟩]
   let nf:∀s,1<=s->s<b+ 1->∀S',Fl R P_ L o s S'->(∀c z,¬dm S' L c z)->False:=λs Kh hs S' r g'=>by
    let h1:=r.most d g' f1;let h2:=(r.mL d Kh).1;let⟨c,z,hg⟩:=l1;rwa[g' c z (((f1.one d r ∅).1 c z).mp hg.1)]
   rwa[⟨1212121212,ra,pa,L,b,dY o,2,.inr ⟨o,R,P_,2,Fy,kX,3,g,3,Z.words hT wR,Z.words hT wP,ok,fit b ∅,33,t1,nf b g ∅⟩,λH4 k4 t4=>⟨true,2,dh ?_⟩⟩];rwa[11,b+ 1,112,Z.trans k4,t4 t1,3,nf]
end
def all_mk {l:PySem.W.OpenLaw}(t:M "law"=some ↑a)
 {b h g k i f p d m n q j:Zs}
 {r o:Zs}
 {f1 f2 f3 f4 f5 f6 f7 f8 f9 Jv U H f13 f14 N4 A P f18 f19 f20 u f22 Y W f25 f26 I f28 X f30 f31 f32 f33 f34 f35 f36 E f38 J f40 f41 f42 f43 f44 f45 f46 f47 f48 L f50 N f52 f53 f54 D f56 Q:Zs} {d1 d2 d3 d4 d5 d6 d7 d8 d9 d10 G d12 y d14 d15 R d17 z B d20 d21 d22 d23 d24 d25 d26 d27 d28 d29 d30 d31 Z d33 d34 O C d37 d38 F d40 d41 V d43 d44 d45 d46 d47 d48 S d50 d51 d52 x d54 d55 d56 d57:FuncData}
 (T:Txt K M ⟨f1,d1,f2,d2,f3,d3,f4,d4,f5,d5,f6,d6,f7,d7,f8,d8,f9,d9,Jv,d10,U,G,H,d12,f13,y,f14,d14,N4,d15,A,R,P,d17,f18,z,f19,B,f20,d20,u,d21,f22,d22,Y,d23,W,d24,f25,d25,f26,d26,I,d27,f28,d28,X,d29,f30,d30,f31,d31,f32,Z,f33,d33,f34,d34,f35,O,f36,C,E,d37,f38,d38,J,F,f40,d40,f41,d41,f42,V,f43,d43,f44,d44,f45,d45,f46,d46,f47,d47,f48,d48,L,S,f50,d50,N,d51,f52,d52,f53,x,f54,d54,D,d55,f56,d56,Q,d57,b,h,g,k,i,f,p,d,m,n,q,j,r,o⟩)
 :∃fd:FuncData,(∃fd2 c,LamAt K fd2 c o)/\(∀(s:Zu) (v:Zt),BindsTo s fd ⟨[v],[]⟩ [("_law_script",v)])/\∀base:Heap,K.In base->base.Ns mainGlobals M->jO M base->du l.prog w K M base (cY l.prog w) 13 a fd ["_law_script"] (Ao K o):=by
 let e:=t.symm.trans T.law.m;ext e;let⟨kV,doc,pm,an,cC,ct,e⟩:=T.law.fd;rwa[_,⟨11,T.lam⟩,λs v=>[e]▸.of_eq rfl,λbase _ _ Ou=>VM T Ou]
def walk {l:PySem.W.OpenLaw}{loose:Zp}{XP:(Str->Zl)->Heap->Prop}{j:World->Heap->Prop}{d:DefRec}{K:Params->Za1}(r:l.most\63)(g:d.params.defaults=[])
 (p:∀(w:World) (h:Heap),j w h->(K w.params).In h/\h.get? a\(PySem.W.tabObj #[]))
 (F:∀(w:World) (e:Str->Zl) (i:Zs) (h:Heap),(K w.params).In h->h.Ns mainGlobals e->e d.name\↑i->
  ∃fd:FuncData,(∃fd2 c,LamAt (K w.params) fd2 c a)/\(∀(s:Zu) (u:Zt),BindsTo s fd ⟨[u],[]⟩ [("_law_script",u)])/\∀base:Heap,(K w.params).In base->base.Ns mainGlobals e->jO e base->du l.prog w (K w.params) e base (cY l.prog w) 13 i fd ["_law_script"] (Ao (K w.params) a)):
 PySem.W.WalkO P loose XP j l.row.toRowW d [] (λf o=>PySem.call f o):=
 L2.Ln (n:=63) (k:=13) (x:="_law_script") (CX:=λw=>(cY l.prog w)) (sp:=λw=>Ao (K w.params) a) r ⋯ g ⟨244⟩ p F (λ_ _ b m q t v=>⟨b,m,2,v,q,t,λ_=>rfl⟩) λ_ _ _ _ _ z=>Ge z
end K38
end Lake
open PySem PySem.W PyProof.Rows
namespace PySem.W.Fast
universe tw9936734907918047169 tw13057778709065608366 tw8545526053865871493 tw2591892693129293744 tw16322615576896808012 tw11309691412072299910 tw14563390221158476115 tw3745238285042374522 tw15322170893952862795 tw15873095530112047604 tw9368635055296184656 tw15998321134407130653 tw986839000173392358 tw13330203359259617717 tw10664118920850246478 tw13727958393832844680 tw18160199473442202808 tw18269211737644610943 tw16457099915721941195 tw10829404273888495047 tw7838860285146928461 tw14363619584371020767 tw15917216902664286447 tw13677265786142079898 tw17929181777247406889 tw10585421944977595220 tw9690561488909289400 tw13560355581282957810 tw14133271075828940399 tw3819242165117292648 tw5117036471678142211 tw6767555808840435076 tw7159048415130224977 tw11340491220575816264 tw17836366989189718750 tw15634116035578182085 tw7948098504720153987 tw1535829540540709689 tw6498323791855001406 tw10128119063084239418 tw18330394407031197517 tw4629682964056361931 tw13095881047624117966 tw8937412481974296041 tw11746440146050058330 tw16642926618924776170 tw5345196389938313315 tw14047088584146216070 tw14009395112038959932 tw1250748070690692260 tw11286154954222022578 tw17914808960294255463 tw6793411253315175543 tw18243087753335028929 tw5734857740962962356 tw2419118346755147547 tw7838501374570108227 tw1171700898654216795 tw1474458415830823906 tw9235793207996111007 tw5169085857826243543 tw13694546463867348864 tw14888550229073588432 tw14731885593760858405 tw10944975827922832344 tw12013766589894063993 tw15654903384684909842 tw10625077232869943170 tw13598477345297611153 tw5452465741204521362 tw3838722972107641460 tw3087800578571683327 tw9760598750261669576 tw9051416148239918268 tw1471500610244563914 tw4410888691754811086 tw2506809185370801177 tw16249482879104684656 tw1091166410597838965 tw14890474437347399687 tw4857189398854159443 tw17810108417950995269 tw10452962966144556227 tw12483219256437238333 tw2538240169053011296 tw12425298738094497904 tw1397525752178629067 tw11273415876029834597 tw5376395829620881972 tw16739444788336676523 tw17539630047680888785 tw3616882843335785774 tw16697150982872847173 tw11229082481559408559 tw212724427562257839 tw2203232634859370103 tw13570434277515314957 tw1257444036103129394 tw3088561517571188127 tw14612033073558071068 tw17519857345517456113 tw1914648391997552148 tw5555320996480389476 tw15786621940794986029 tw10819391396428765500 tw3444377953491425687 tw16057222624866248305 tw16271293394525130791 tw5385461139223040399 tw5789562526467921001 tw6269307025457871536 tw1892968009444264445 tw3463262261455975265 tw15290499325890258708 tw18296232897181120219 tw15133812105447211075 tw9977358825828913290 tw2627603111594219721 tw2423635820624563515 tw14977684957096588274 tw13916062081058034783 tw16847018499420638350 tw14410865180950716694 tw9643998351647763522 tw7850910100832225427 tw6465711169438283500 tw1280220761115701968 tw13492975673239731857 tw4162656061777966395 tw9423026362447971765 tw15123601121428906181 tw6384049336426701521 tw13320109277161583169 tw7437531107770613350 tw14069274627385574963 tw9428388383848750333 tw3315148962712309324 tw18426556424805615811 tw6782893844980189426 tw3803219764684406883 tw17602545433673981011 tw6942678975312261475 tw15542216845028497307 tw15005492459185062901 tw12423886808359203660 tw2586101259609039375 tw7746230069087122027 tw7787725154719690347 tw5897932664021675792 tw9135674886919871541 tw8082324162607741485 tw16477283111374837162 tw11701731864530623994 tw4187921443227209196 tw5267714133721467934 tw1797787658715838309 tw2516918079374809414 tw14431868271607218760 tw18249546789574096423 tw9591945407174532138 tw3844511449078583091 tw16266917899640832217 tw118565802950886339 tw11885677819815966849 tw13477685159927612605 tw17050733464035409194 tw892774701039937385 tw3860871131197617575 tw13275500089844394141 tw4593404100328064868 tw9765194397554443331 tw4982120397504437370 tw2616011781945933506 tw4510406852813144749 tw4168708059081214224 tw11719220110669314287 tw17333505009752895812 tw12800602873735313969 tw11527008679448477928 tw4900873727500920483 tw15217719984348269105 tw9663132536126856322 tw17757834139631631357 tw18234282342468055878 tw14779327738038701889 tw14534422335647800377 tw13458819876206894897 tw1079893859499637902 tw8518846885962419374 tw4150239973519340484 tw1935622812874821419 tw13292064330323101772 tw7947978125463233569 tw6635835889105555334 tw6722756655975896843 tw6332795313256602980 tw1571567712690583489 tw9644866384587508293 tw5716732825584858940 tw18334169465423345626 tw17527911143008737699 tw9957186281600180948 tw9379446879209785080 tw1622034847546499265 tw14668677702715869549 tw13275363738471567531 tw3766756309101859990 tw16802008390517669062 tw16113140505031150822 tw17267841657649925436 tw9900709868154915843 tw8303281770605857813 tw6587323661341779862 tw4249408451739137944 tw2679069103104032443 tw1905996660408138767 tw15339315007783374614 tw12678211782791263877 tw10561102707460041292 tw1147186090952653446 tw16418429294537841674 tw8197271620393562997 tw17257915028111442530 tw14657931585467280064 tw4656074417116428874 tw513612666821967698 tw1046746011200444527 tw18075239188746955908 tw10371222236891555417 tw9883878290741225026 tw9769448380246054122 tw9511380220610318075 tw7821795250912813236 tw6768447649802518034 tw5766416904558148048 tw4306533524389488691 tw4239710002478520140 tw3426008631378942730 tw3027959717822495139 tw2790225176647547964 tw2762873610086740526 tw2319029925188297814 tw2070878957841738646 tw17312349935711074165 tw17257358849993639358 tw17215706845565823069 tw1715360343293053510 tw16614882560479679104 tw16279569778195742851 tw16030321124388729783 tw15590259970322773123 tw15040336228472387596 tw14139198480414360096 tw12563687347217193278 tw11339154284700196354 tw11179992081613065291 tw10532462323611675754 tw17942403880389842834 tw2686989956350868049 tw9337068703768477892 tw1789894637136883501 tw15078482852329941255 tw11008922816282260918 tw9386035153063432886 tw1975743176118545206 tw11923657378177322572 tw11567545663545387677 tw11310063880782842051 tw10834575099288993879 tw10117823752285042536 tw17242961388169581335 tw406195510998650437 tw17360417844743774095 tw13442585374032197282 tw5704972855415550203 tw16663969155717673527 tw12032656901322223781 tw92680705408193920 tw8934053270177336972 tw10982345297167963197 tw10429468220585725247 tw9520188441655731443 tw8905116937607435998 tw7467122624638019589 tw6104647834418453628 tw5959510643427479632 tw5555946392946987631 tw2810616815382066 tw2631877519684461549 tw2207398745778531828 tw2105082976727148067 tw18408634094015216404 tw18224725982996545141 tw17948767204358786962 tw17746242815299354732 tw17304819099331288020 tw16712083321012427963 tw16310648708288756018 tw16162191424011152371 tw15851772268122048832 tw15212875101438463569 tw13978874641221533556 tw12272736527524051994 tw10831605221782945839 tw10714069138683074810 tw10443998568209919010 tw10248465823528244587 tw10132181201085516441 tw10084676599851217549 tw10079113070903806583 tw6834209783105406768 tw3365623229197230601 tw16540315243361398977 tw7349371343022169361 tw5511378919033679908 tw9752841639671339307 tw9375413731423719918 tw15400427568513623629 tw657584996172447034 tw2055425630636944442 tw17236912697495167107 tw16245561774352518570 tw15069748340643101358 tw14237410113714804982 tw8285441273022699576 tw6274718696284250408 tw4627044484320430870 tw1496046461940924426 tw4993641100337801808 tw2722227983785065992 tw17112835079046343449 tw10744492811451402843 tw10647000164618434991 tw13207791243917069998 tw7854353782360364456 tw5411004636712746819 tw2099013625122803721 tw11944683426357364604 tw9691633916159767221 tw1902931090271717864 tw16148920309747123806 tw15126807682892358584 tw14555059817679782991 tw13059491518549131054 tw11091093963255260571 tw6721196186161445965 tw16824099802419934889 tw13081977459663900831 tw16523984804115882000 tw6920758743061741246 tw5431065122897332848 tw5313181640424620171 tw4768924383058135166 tw156114187528949384 tw12262257892383034379 tw12241918177134492494 tw10741553113730040497 tw8488477062768220810 tw5169713350658865354 tw2221363223056391455 tw2009877586826700653 tw12314392215921927203 tw1159345690913801746 tw16110480027279753108 tw5681078302325032500 tw15350612683839643002 tw8000238890859468564 tw2372108192699144338 tw14705682688803988254 tw12983724222254336602 tw7366781073425039791 tw7237276483847061808 tw662031268660474250 tw6554338332734943151 tw4447019325676203410 tw3865230624809878552 tw13645098538253508336 tw13237703435459863970 tw5113067975931023865 tw4795760839201408347 tw7290004376343118457 tw4921930499474898953 tw351841140568254542 tw2858726053063835331 tw18000007075883163463 tw9809116626896602641 tw2409168153331018466 tw2360523334274986621 tw9813038848443795952 tw9798026467493085855 tw9612339992008707663 tw9579820466437838720 tw9558759451469468149 tw9525926181987750366 tw94218023618939933 tw9344907309601545676 tw9236916059228081532 tw9185793100301151475 tw9136477887323500949 tw9065993142696852021 tw8888887994963822488 tw8881352789705650762 tw8772012485085689182 tw8630557995351288864 tw8623712321092235310 tw8585730046043420695 tw8556760336126379046 tw8502901121587780039 tw8448986541976439257 tw8357736893694550073 tw8200919714884698361 tw757926923495208461 tw7552072044645099096 tw7551756360914412661 tw7484729784713251248 tw7434147680402079013 tw7240357135835963134 tw7156027196056719340 tw7046441565409652122 tw6963637496193699578 tw6948753279655899357 tw6825497567168358304 tw6763540058087254208 tw6726392099569735749 tw6721642484150626496 tw6638579112724619185 tw6493066480371545346 tw6450947953555970203 tw6097264801558529015 tw5853886473862825190 tw565363878773185717 tw5605527088940665829 tw5561392444705743264 tw4945689060401743576 tw483125299905663388 tw4819153558623815327 tw4700891025514462641 tw4509151181439770781 tw4482297895623298912 tw4430225921575828180 tw4402791051948759317 tw4070548377828677707 tw3969180429126797326 tw3939662283647704676 tw3748209331924066339 tw3713546898890492534 tw3526738571213979214 tw339601778515338779 tw3339720340593726709 tw3329322251361402382 tw3277159528852837432 tw3175802291802396878 tw3106101547707561516 tw2788827773652329344 tw2654134105770348574 tw2618897440089162765 tw2399857718923421507 tw2368217170955588977 tw216519075200863285 tw2141364284505859516 tw2137927776748223633 tw2051041986678440763 tw187362375028800339 tw18354406572967234441 tw18317572490581286374 tw18048301965075306042 tw17915914895524524043 tw17778252974242437442 tw17678333328180389813 tw1755737435558088751 tw17447376678039128459 tw17330731946523884641 tw17312037326234685364 tw17207117995901743533 tw17026001450544811374 tw16907741968414324815 tw16808056234939992118 tw16707347558830133579 tw16647717779560914661 tw1652974633163147886 tw16509973975223722200 tw15860498174520876175 tw15671345651406398491 tw15571586740698997895 tw15563852928362640947 tw15466362131907876381 tw1546594429267819557 tw15265472496862894298 tw14687844637827961440 tw14611075453581313363 tw14581385684438669154 tw14506215416032658069 tw14432002206325133841 tw14348913973386945563
end PySem.W.Fast
end
open Lake
set_option maxRecDepth 100000 in
set_option maxHeartbeats 0 in
theorem PySem.Challenge.cw_cosetyard_k38_whole_limits_holds : PySem.Challenge.rw_cosetyard_k38_whole_limits.Holds := by
  w_on; o_law; k_head;(case hw => w_witness2)
  k_fill
  refine K38.walk (l := PySem.Challenge.rw_cosetyard_k38_whole_limits) rfl rfl (fun w h Y => ⟨PySem.W.km_in_of Y, PySem.W.km_tabs_of Y _ (List.Mem.head _)⟩) ?F
  case F =>
    intro w mg fa h KX G hmg
    refine' K38.all_mk hmg ⟨?D1,?D2,?D3,?D4,?D5,?D6,?D7,?D8,?D9,?D10,?D11,?D12,?D13,?D14,?D15,?D16,?D17,?D18,?D19,?D20,?D21,?D22,?D23,?D24,?D25,?D26,?D27,?D28,?D29,?D30,?D31,?D32,?D33,?D34,?D35,?D36,?D37,?D38,?D39,?D40,?D41,?D42,?D43,?D44,?D45,?D46,?D47,?D48,?D49,?D50,?D51,?D52,?D53,?D54,?D55,?D56,?D57,?z1,?z2,?z3,?z4,?z5,?z6,?z7,?z8,?z9,?z10,?z11,?z12,?z13,?z14,?y_YardError,?y_NoOrder,?y_TooMany,?y_NoWord,?y_TooLong,?y_TooGreat,?y_Order,?y_ByLetters,?y_Newest,?y_Rooms,?y_Going,?y_Closing,_,_,_,_,_,_,_,_,_,_,_,_,_,_,_,_,_,_,_,_,_,_,_,_,_,_,_,_,_,_,_,_,_,_,_,_,_,_,_,_,_,_,_,_,_,_,_,_,_,_,_,_,_,_,_,_,_,_,_,_,_,_,_,_,_,_,_,_,_,_,_,_,_,_,_,_,_,_,_,_,_,_,_,_,_,_,_,_,_,_,_,_,_,_,_,_,_,_,_,_,_,_,?w_lam⟩
    all_goals try dsimp only
    (case y_YardError|y_NoOrder|y_TooMany|y_NoWord|y_TooLong|y_TooGreat|y_Order|y_ByLetters|y_Newest|y_Rooms|y_Going|y_Closing => refine' PySem.W.mg_of KX G ?a;(case a => k_is))
    (case D1|D14|D15|D16|D19 => refine' L2.Def.of KX G ?_ ?_ ?_ ?_ (fun _ _ _ _ _ _ _ hl => by obtain ⟨_, _, _, rfl⟩ := L2.args_is3 hl; rfl);all_goals try k_is)
    (case D2|D3|D4|D5|D6|D8|D9|D12|D20|D21|D23|D24|D26|D27 => refine' L2.Def.of KX G ?_ ?_ ?_ ?_ (fun _ _ _ _ _ _ _ hl => by obtain ⟨_, rfl⟩ := L2.args_is1 hl; rfl);all_goals try k_is)
    (case D7|D11|D13 => refine' L2.Def.of KX G ?_ ?_ ?_ ?_ (fun _ _ _ _ _ _ _ hl => by obtain ⟨_, _, rfl⟩ := L2.args_is2 hl; rfl);all_goals try k_is)
    (case D10 => refine' L2.DDefK.of KX G ?_ ?_ ?_ ?_ ?_ (fun _ _ _ _ _ _ _ hl => by obtain ⟨_, _, _, _, _, rfl⟩ := L2.args_is5 hl; exact ⟨_, rfl, rfl⟩) (fun _ _ _ _ _ _ _ hl => by obtain ⟨_, _, _, _, rfl⟩ := L2.args_is4 (Nat.succ.inj hl); exact ⟨_, rfl, rfl⟩) (fun _ _ _ _ _ _ _ _ hl => by obtain ⟨_, _, _, _, rfl⟩ := L2.args_is4 (Nat.succ.inj hl); exact ⟨_, rfl, rfl⟩);all_goals try k_is)
    (case D17|D18 => refine' L2.Def.of KX G ?_ ?_ ?_ ?_ (fun _ _ _ _ _ _ _ hl => by obtain ⟨_, _, _, _, rfl⟩ := L2.args_is4 hl; rfl);all_goals try k_is)
    (case D22|D25 => refine' L2.Def.of KX G ?_ ?_ ?_ ?_ (fun _ _ _ _ _ _ _ hl => by obtain ⟨_, _, _, _, _, rfl⟩ := L2.args_is5 hl; rfl);all_goals try k_is)
    (case D28|D31|D33|D37|D54 => refine' L2.MDef.of ?_ ?_ ?_ ?_ ?_ (fun _ _ _ _ _ _ _ hl => by obtain ⟨_, _, _, _, rfl⟩ := L2.args_is4 hl; rfl);all_goals try k_is)
    (case D29|D30|D32|D36|D38|D41|D43|D44|D45|D46|D50|D53 => refine' L2.MDef.of ?_ ?_ ?_ ?_ ?_ (fun _ _ _ _ _ _ _ hl => by obtain ⟨_, _, rfl⟩ := L2.args_is2 hl; rfl);all_goals try k_is)
    (case D34|D40|D51|D52 => refine' L2.MDef.of ?_ ?_ ?_ ?_ ?_ (fun _ _ _ _ _ _ _ hl => by obtain ⟨_, rfl⟩ := L2.args_is1 hl; rfl);all_goals try k_is)
    (case D35|D39|D42|D47|D49|D55|D57 => refine' L2.MDef.of ?_ ?_ ?_ ?_ ?_ (fun _ _ _ _ _ _ _ hl => by obtain ⟨_, _, _, rfl⟩ := L2.args_is3 hl; rfl);all_goals try k_is)
    (case D48 => refine' L2.MDef.of ?_ ?_ ?_ ?_ ?_ (fun _ _ _ _ _ _ _ hl => by obtain ⟨_, _, _, _, _, rfl⟩ := L2.args_is5 hl; rfl);all_goals try k_is)
    (case D56 => refine' L2.MDef.of ?_ ?_ ?_ ?_ ?_ (fun _ _ _ _ _ _ _ hl => by obtain ⟨_, _, _, _, _, _, rfl⟩ := L2.args_is6 hl; rfl);all_goals try k_is)
    (case z1|z2|z3|z4|z5|z6|z7|z8|z9|z10|z11|z12|z13|z14 => refine' PySem.W.mg_none_of KX G ?a;(case a => k_is))
    (case w_lam => refine' L2.LamAt.mk ?e ?h ?n;(case e => rfl);(case h => kernel_rfl);(case n => kernel_rfl))
    all_goals first|k_is|kit_is|kts_exm|kernel_rfl
