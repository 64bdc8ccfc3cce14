import PyProof.Rows.All
import Wide.All
import OpenK.AllK
import Wide.FinOn
import Lean
import PyProof.EqAt
import PyProof.EqKinds
import PyProof.TupleCall
import PyProof.FString
import OpenK.KOwn
import KE.KTryMore
import PyProof.NsDelKeeps
import PyProof.StrBlock2
import PyProof.AutoListH
import KE.KIntText
import PyProof.Rows.StrIntSpec
import KE.KRevIter
import PyProof.StrWalks
import PyProof.CompUse
import PyProof.NeKinds
import PyProof.Rows.Range3
import PyProof.Rows.EnumRows
import PyProof.ConsumeWalk
import PyProof.Rows.SeqGen
import PyProof.StrLawsRepr
import PyProof.ZipIter
import PyProof.Rows.FactsT2
import PyProof.EnumMake
import PyProof.DictWalks
import PyProof.DictTruth
import PyProof.ListRange
import PyProof.ListStr
import PyProof.TupleOfGen
import PyProof.TupleOfSeq
import PyProof.MinMaxWalk
import PyProof.WalkInts
import KE.KSortAsk
import PyProof.MeetsSeq3
import KE.KRevSl
import PyProof.Rows.SeqMore
import PyProof.ListMulRoad
import PyProof.Rows.SumAny
import PyProof.SeqI3
import PyProof.AttrMissSeq
import KE.KDictOf
import PyProof.Rows.StrCut
import PyProof.Rows.StrSplitCount
import PyProof.DictItems
import PyProof.Rows.SortWalk
import PySem.Challenge.RW_cosetyard_k64_whole_counts_multiply
set_option Elab.async false
set_option linter.all false
set_option maxRecDepth 100000
set_option compiler.extract_closed false
set_option compiler.small 0
set_option genSizeOfSpec false
set_option maxHeartbeats 4000000
noncomputable section
local macro_rules|`(tactic|decide)=>`(tactic|decide +kernel)
local macro_rules|`(⟨$x,*⟩)=>do
  let q:=#[←`(_),←`(rfl),←`(∅),←`(⋯),←`(?_)]
  let r:Array Lean.Term:=x.getElems.flatMap λe=>match e.raw.isNatLit? with|some n=>(toString n).toList.toArray.map λc=>q[c.toNat-49]!|_=>#[e]
  if x.getElems.any λe=>e.raw.isNatLit?.isSome then`(⟨$r,*⟩)else Lean.Macro.throwUnsupported
local macro_rules|`(tactic|erw[$r,*])=>do let a:=r.getElems.map λe=>(⟨e.raw[1]⟩:Lean.Term);`(tactic|refine⟨$a,*, ?_⟩)
local macro_rules|`(tactic|rwa[$r,*])=>do let a:=r.getElems.map λe=>(⟨e.raw[1]⟩:Lean.Term);if a.size=1&&(a[0]!).raw.isNatLit?.isNone then`(tactic|refine $(a[0]!))else`(tactic|exact⟨$a,*⟩)
local macro_rules|`([$x,*]▸$e)=>do let a←x.getElems.mapM λt=>do match(⟨t⟩:Lean.Term)with|`(-$s)=>`(Lean.Parser.Tactic.rwRule|←$s:term)|s=>`(Lean.Parser.Tactic.rwRule|$s:term)
                                   `(by rw[$a,*];exact $e)
def CVP:Nat→Lean.Term→Lean.MacroM (Lean.TSyntax `rcasesPat)
|0,_=>Lean.Macro.throwUnsupported
|n+1,t=>do match t with
  |`(⟨$x,*⟩)=>let a←x.getElems.mapM λt=>do`(Lean.Parser.Tactic.rcasesPatLo|$(←CVP n t):rcasesPat)
              `(rcasesPat|⟨$a,*⟩)
  |`($i:ident)=>`(rcasesPat|$i:ident)
  |`(_)=>`(rcasesPat|_)
  |_=>Lean.Macro.throwUnsupported
def RN(x:Lean.Syntax):Lean.Syntax:=if x.getId=`rfl then Lean.mkIdent (.num `r (x.getPos?.getD 0).byteIdx)else x
def HR:Nat→Lean.Syntax→Array Lean.Ident
|0,_=>#[]
|n+1,s=>if s.getId=`rfl then#[⟨RN s⟩]else s.getArgs.flatMap (HR n)
theorem GL {p:Prop}(h:let q:Prop:=p;q):p:=h
local macro_rules|`(tactic|let $d:letDecl)=>`(tactic|have $d:letDecl)
local macro_rules|`(tactic|let $p:term:=$e)=>do match p with|`(⟨$x,*⟩)=>if x.getElems.size<3 then`(tactic|obtain $(←CVP 9 p):rcasesPat:=$e)else let n:=HR 9 p;let o←n.mapM λn=>`(tactic|obtain $(Lean.mkIdent `rfl):ident:=$n);let o:=#[←`(tactic|refine GL ?_),←`(tactic|intro q),←`(tactic|obtain $(←CVP 9 ⟨p.raw.rewriteBottomUp RN⟩):rcasesPat:=$e),←`(tactic|subst q)]++o;`(tactic|($[$o]*))|_=>Lean.Macro.throwUnsupported
local macro_rules|`(∅)=>`(by omega)
local macro_rules|`(⋯)=>`(by decide)
local macro_rules|`(tactic|omega)=>`(tactic|lia)
local macro_rules|`($a\$b)=>`($a=some $b)
local macro_rules|`($a^$b)=>match b.raw.isNatLit? with|some _=>Lean.Macro.throwUnsupported|_=>`($a _ _ $b)
local macro_rules|`(↥$s)=>`(($s).heap.objs.size)
local macro_rules|`(#v[$x,*])=>do let a←x.getElems.mapM λe=>do if e.raw.isOfKind `coeNotation||e.raw.isOfKind ``Lean.Parser.Term.dotIdent||e.raw[0].isOfKind ``Lean.Parser.Term.dotIdent then`(some $e)else pure e
                                  `([$a,*])
local macro_rules|`(s!"")=>`(by intro _ z;cases z)
local macro_rules|`(f!"")=>`(by intro z;cases z)
local macro_rules|`($s<*$h)=>`({ $s with heap:=$h })
local macro_rules|`(⇑$s)=>`(($s).length)
local macro_rules|`(↑$s)=>`(.ref $s)
local macro_rules|`(tactic|trivial)=>`(tactic|first|exact .inl rfl|exact .inr rfl|exact .inr (.inl rfl)|exact .inr (.inr rfl)|assumption)
local macro_rules|`(tactic|cbv)=>`(tactic|grind -abstractProof)
local macro_rules|`(tactic|ext $p*)=>match p with|#[]=>`(tactic|omega)|_=>let i:Lean.Ident:=⟨p[0]!.raw[0][0]⟩;`(tactic|cases $i:ident)
local macro_rules|`($a:str>>>$b)=>`({ cls:=.type $a,data:=$b })
local macro_rules|`($x⁻¹)=>`(PySem.wpAny (PySem.model ($x).prog ($x).w))
local macro_rules|`($x<|>$y)=>`(PySem.wpAny (PySem.model $x $y))
local macro_rules|`(universe $x*)=>do return Lean.mkNullNode (←x.mapM λi=>do return(←`(command|def $i:ident:=Nat)).raw)
local macro_rules|`(tactic|cases $h:ident:$p)=>`(tactic|by_cases $h:ident:$p)
local macro_rules|`(tactic|change $t$[$l]?)=>match t with|`($e=$x:ident)=>`(tactic|generalize $e:term=$x:ident$[$l]?)|_=>Lean.Macro.throwUnsupported
local macro_rules|`($s•$b)=>`(($s).heap.get? $b)
local macro_rules|`(~~~$n)=>`(List.range $n)
local macro_rules(kind:=Lean.Parser.Command.declaration)|x=>do if x.getPos?.isNone then throw .unsupportedSyntax else let n←`(command|noncomputable def a:=0);return(if x[1].isOfKind ``Lean.Parser.Command.definition&&x[0].getArgs.all (·.isNone)then x.setArg 0 n.raw[0]else x).rewriteBottomUp λs=>if s.getId=`rfl then s else s.setInfo .none
abbrev Zg:=List Int
abbrev Zh:=List Nat
abbrev Zi:=Option Nat
abbrev Zj:=Option Int
abbrev Zk:=List PySem.Value
abbrev Zl:=Option PySem.Value
abbrev Zm:=Array PySem.Value
abbrev Zn:=List PySem.Addr
abbrev Zo:=Option PySem.Addr
abbrev Zp:=List PySem.Str
abbrev Zq:=List PySem.Env
abbrev Zr:=List PySem.Expr
abbrev Zs:=PySem.Addr
abbrev Zt:=PySem.Value
abbrev Zu:=PySem.Shared
abbrev Za0:=@Option.some.inj
abbrev Za1:=PySem.W.Frag
abbrev Za2:=Nat->Int->Nat->Prop
abbrev Za3:=List Zg
def Za4 (n:Nat)(h:n<=PySem.sizeLine:=by decide):n<=PySem.sizeLine:=h
abbrev ai1:=@List.getElem?_eq_getElem
abbrev ai2:=@PySem.wpAny_bind
abbrev ai3:=@List.length_append
abbrev ai4:=@List.getElem?_eq_some_iff
abbrev ai5:=@List.mem_of_getElem?
abbrev ai6:=@List.length_map
abbrev ai7:=@PySem.Heap.get?_push_of_some
abbrev ai8:=@List.getD_eq_getElem?_getD
abbrev ai9:=@List.mem_singleton
abbrev aja:=@Nat.le_refl
abbrev ajb:=@PySem.wpAny_pure
abbrev ajc:=@List.getElem?_map
abbrev ajd:=@List.getElem?_append_left
abbrev aje:=@Nat.lt_of_le_of_lt
abbrev ajf:=@List.mem_append_right
abbrev ajg:=@List.getElem?_append_right
abbrev ajh:=@List.mem_append
abbrev aji:=@List.mem_cons_self
abbrev ajj:=@PySem.F.plainAttrs_list
abbrev ajk:=@if_neg
abbrev ajl:=@Nat.le_trans
abbrev ajm:=@List.append_nil
abbrev ajn:=@if_pos
abbrev ajo:=@List.length_cons
abbrev ajp:=@List.size_toArray
abbrev ajq:=@PySem.F.slot_list_append
abbrev ajr:=@PySem.F.type_list_append
abbrev ajs:=@List.mem_cons
abbrev ajt:=@List.map_append
abbrev aju:=@List.length_set
abbrev ajv:=@PySem.Heap.get?_push_size
abbrev ajw:=@List.mem_cons_of_mem
abbrev ajx:=@List.mem_append_left
abbrev ajy:=@PySem.Heap.lt_size
abbrev ajz:=@PySem.PassesOwn.never
abbrev ajA:=@beq_eq_false_iff_ne
abbrev ajB:=@Nat.zero_le
abbrev ajC:=@List.getElem?_eq_none
abbrev ajD:=@List.length_take
abbrev ajE:=@List.getElem?_set_self
abbrev ajF:=@Nat.lt_of_lt_of_le
abbrev ajG:=@Int.toNat_natCast
abbrev ajH:=@Nat.ne_of_lt
abbrev ajI:=@decide_eq_true
abbrev ajJ:=@List.mem_range
abbrev ajK:=@List.append_assoc
abbrev ajL:=@PySem.boot_len
abbrev ajM:=@List.map_map
abbrev ajN:=@List.mem_map
abbrev ajO:=@List.nodup_cons
abbrev ajP:=@List.length_range
abbrev ajQ:=@List.length_nil
abbrev ajR:=@List.not_mem_nil
abbrev ajS:=@List.getElem?_set_ne
abbrev ajT:=@Bool.false_ne_true
abbrev ajU:=@PyProof.Rows.slot_tuple_getitem
abbrev ajV:=@decide_eq_false
abbrev ajW:=@PySem.wpAny_newObj_type
abbrev ajX:=@of_decide_eq_true
abbrev ajY:=@congrArg
abbrev ajZ:=@decide_eq_true_iff
abbrev aj0:=@List.nodup_append
abbrev aj1:=@List.getElem?_of_mem
abbrev aj2:=@List.length_singleton
abbrev aj3:=@List.range_succ
abbrev aj4:=@List.length_drop
abbrev aj5:=@List.map_congr_left
abbrev aj6:=@PySem.wpAny_field
abbrev aj7:=@PySem.Heap.get?_update_self
abbrev aj8:=@List.foldl_append
abbrev aj9:=@List.mem_flatMap
abbrev aka:=@PySem.Calls.spliced_cons
abbrev akb:=@PySem.Heap.get?_update_other
abbrev akc:=@PySem.Calls.callWith_builtin
abbrev akd:=@List.take_length
abbrev ake:=@PyProof.Rows.callWith_type1
abbrev akf:=@List.take_succ
abbrev akg:=@Ne.symm
abbrev akh:=@PySem.wpAny_callSpecial?_slot
abbrev aki:=@List.map_cons
abbrev akj:=@List.flatMap_append
abbrev akk:=@List.mem_filter
abbrev akl:=@Classical.byContradiction
abbrev akm:=@Nat.mul_le_mul_right
abbrev akn:=@Option.map_eq_some_iff
abbrev ako:=@Int.neg_neg
abbrev akp:=@PySem.wpAny_Call_Name_kw
abbrev akq:=@PySem.wpAny_setField_rec
abbrev akr:=@Bool.eq_iff_iff
abbrev aks:=@Nat.sub_self
abbrev akt:=@PySem.wpAny_call_entry
abbrev aku:=@PySem.wpAny_holding
abbrev akv:=@PySem.F.plainAttrs_dict
abbrev akw:=@PySem.wpAny_mono
abbrev akx:=@List.take_of_length_le
abbrev aky:=@PyProof.Rows.boot_list
abbrev akz:=@PySem.W.kia_one
abbrev akA:=@Nat.lt_succ_self
abbrev akB:=@Bool.and_eq_true
abbrev akC:=@PySem.Heap.SameBut.update
abbrev akD:=@List.getElem?_range
abbrev akE:=@Nat.ne_of_gt
abbrev akF:=@Nat.lt_succ_of_lt
abbrev akG:=@List.pairwise_map
abbrev akH:=@List.dropLast_concat_getLast
abbrev akI:=@PySem.Obj.data_mapFields
abbrev akJ:=@Int.emod_lt_of_pos
abbrev akK:=@PySem.Calls.evalArgs_plain
abbrev akL:=@Array.getElem?_eq_some_iff
abbrev akM:=@PySem.Calls.spliced_nil
abbrev akN:=@List.replicate_succ
abbrev akO:=@List.ext_getElem?
abbrev akP:=@Nat.lt_irrefl
abbrev akQ:=@List.nodup_nil
abbrev akR:=@Array.getElem?_toList
abbrev akS:=@Int.emod_nonneg
abbrev akT:=@PySem.F.slot_dict_get
abbrev akU:=@List.getElem?_take_of_lt
abbrev akV:=@List.mem_iff_getElem
abbrev akW:=@or_false
abbrev akX:=@PySem.F.slot_dict_setdefault
abbrev akY:=@PyProof.Rows.boot_tuple
abbrev akZ:=@Nat.le_of_lt
abbrev ak0:=@Nat.mul_comm
abbrev ak1:=@Nat.mul_le_mul
abbrev ak2:=@List.getElem?_inj
abbrev ak3:=@Array.length_toList
abbrev ak4:=@PySem.mem_of_lookup
abbrev ak5:=@List.mem_map_of_mem
abbrev ak6:=@List.filter_sublist
abbrev ak7:=@PySem.F.slot_tuple_iterator_next
abbrev ak8:=@PySem.F.excBase_ValueError
abbrev ak9:=@PySem.Obj.isFreed_of_fields
abbrev ala:=@List.length_replicate
abbrev alb:=@PySem.wpAny_typeOf
abbrev alc:=@List.length_filter_le
abbrev ald:=@PySem.tupleKind_room_in1
abbrev ale:=@PySem.wpAny_setField
abbrev alf:=@PySem.Heap.size_push
abbrev alg:=@List.mem_or_eq_of_mem_set
abbrev alh:=@PySem.codeAny_call_builtin
abbrev ali:=@List.dropLast_concat
abbrev alj:=@List.mem_of_mem_take
abbrev alk:=@PySem.wpAny_passesOwn
abbrev alm:=@List.flatten_cons
abbrev aln:=@List.foldl_cons
abbrev alp:=@List.nil_append
abbrev alq:=@PySem.wpAny_Call_method
abbrev alr:=@PySem.wpAny_loadPart'
abbrev als:=@not_false_eq_true
abbrev alu:=@List.length_erase_of_mem
abbrev alv:=@Nat.min_eq_left
abbrev alw:=@List.Pairwise.imp_of_mem
abbrev alx:=@PySem.call_meetsIn
abbrev aly:=@Nat.zero_add
abbrev alz:=@Nat.add_mul
abbrev alA:=@List.eq_nil_of_length_eq_zero
abbrev alB:=@List.cons_append
abbrev alC:=@PySem.F.slot_dict_itemiterator_next
abbrev alD:=@List.nodup_range
abbrev alE:=@PySem.call_meets
abbrev alF:=@PySem.F.entry_dict_get
abbrev alG:=@List.find?_cons_of_neg
abbrev alH:=@PySem.W.callWith_K
abbrev alI:=@PySem.F.slot_dict_keyiterator_next
abbrev alJ:=@PyProof.Rows.boot_isinstance
abbrev alK:=@PySem.wpAny_execs_nil
abbrev alL:=@PySem.codeAny_mono
abbrev alM:=@List.find?_cons
abbrev alN:=@PySem.F.slot_dict_pop
abbrev alO:=@PySem.wpAny_notOrdered_dict
abbrev alP:=@PySem.F.slot_list_pop
abbrev alQ:=@PySem.F.type_list_pop
abbrev alR:=@PySem.wpAny_truthy_bool
abbrev alS:=@PySem.wpAny_pyIter_list
abbrev alT:=@PySem.wpAny_dictEntries
abbrev alU:=@Decidable.not_not
abbrev alV:=@PySem.wpAny_loadPart_at
abbrev alW:=@Nat.lt_of_succ_lt
abbrev alX:=@List.nodup_iff_pairwise_ne
abbrev alY:=@List.drop_eq_getElem_cons
abbrev alZ:=@List.getElem?_eq_none_iff
abbrev al0:=@Nat.min_eq_right
abbrev al1:=@Nat.max_eq_right
abbrev al3:=@PySem.W.hideAll_get
abbrev al6:=@List.length_reverse
abbrev al7:=@beq_iff_eq
abbrev al8:=@Nat.le_of_eq
abbrev al9:=@Option.isSome_iff_exists
abbrev ama:=@PySem.F.args_tuple_add_2
abbrev amb:=@Nat.lt_trans
abbrev amc:=@Nat.lt_or_ge
abbrev amd:=@Nat.succ_mul
abbrev ame:=@PySem.wpAny_standAt
abbrev amf:=@PySem.F.entry_tuple_add
abbrev amg:=@Bool.or_eq_true
abbrev amh:=@PySem.wpAny_ite_split
abbrev ami:=@Nat.max_eq_left
abbrev amj:=@List.filter_cons_of_pos
abbrev amk:=@Nat.add_sub_cancel
abbrev aml:=@List.length_eq_zero_iff
abbrev amm:=@PySem.F.slot_tuple_add
abbrev amn:=@List.find?_cons_of_pos
abbrev amo:=@Option.map_eq_none_iff
abbrev amq:=@PySem.wpAny_call
abbrev amr:=@Nat.le_succ
abbrev ams:=@List.reverse_cons
abbrev amt:=@List.filter_congr
abbrev amu:=@List.flatMap_cons
abbrev amv:=@Nat.le_total
abbrev amw:=@Nat.zero_mul
abbrev amx:=@if_true
abbrev amy:=@List.lookup_cons
abbrev amA:=@Nat.div_eq_of_lt
abbrev amB:=@Nat.mod_eq_of_lt
abbrev amC:=@decide_eq_decide
abbrev amD:=@List.map_reverse
abbrev amE:=@if_false
abbrev amF:=@List.map_take
abbrev amG:=@List.map_drop
namespace Lake
open PySem PySem.Spec
open PyProof.Rows hiding St
open PySem.W (instObj methodObj hideAll lookIn plainGet hasDictIn findIn plainGet_of isFn plainOver takerIn makesIn emptyDict makes_of specialIn keepIn mroIn kitOne fnOf codeIn mg_of exmOne)
namespace L2
abbrev Key:=Sum Int Str
abbrev Zd:=List Key
def sX:Key->Zt->Bool
 |.inl k,v=>Value.isInt k v
 |.inr x,v=>Value.isStrOf x v
def abC (w:World):Key->Int
 |.inl k=>hashInt k
 |.inr x=>hashStr w x
theorem dY:∀{k:Key}{v:Zt},sX k v=true->(∃i t,k=Sum.inl i/\v=Value.int i t)\/(∃x t,k=Sum.inr x/\v=Value.str x t)
 |.inl i,v,h=>by let⟨t,e⟩:=Value.isInt_shape (k:=i) (v:=v) h;rwa[.inl ⟨i,t,2,e⟩]
 |.inr x,v,h=>by let⟨t,e⟩:=Value.isStrOf_shape (x:=x) (v:=v) h;rwa[.inr ⟨x,t,2,e⟩]
def Hl (i:Int)(t:Tok):sX (.inl i) (.int i t)=true:=by simp[sX,Value.isInt]
def Hm (x:Str)(t:Tok):sX (.inr x) (.str x t)=true:=by simp[sX,Value.isStrOf]
def RZ (a b:Int):decide ((Sum.inl a:Key)=Sum.inl b)=(a==b):=by cbv
def R6 (a b:Str):decide ((Sum.inr a:Key)=Sum.inr b)=decide (a=b):=by cbv
def R7 (a:Int)(b:Str):decide ((Sum.inl a:Key)=Sum.inr b)=false:=ajV (λq=>nomatch q)
def R8 (a:Str)(b:Int):decide ((Sum.inr a:Key)=Sum.inl b)=false:=ajV (λq=>nomatch q)
def bY (c:Program)(w:World):PySem.KeyKind c w Key where
 is:=sX
 hash:=abC w
 inj:=λv a b l f=>by
  rcases dY l with ⟨i,t,rfl,rfl⟩|⟨x,t,rfl,rfl⟩
  ·rcases dY f with ⟨j,u,rfl,e⟩|⟨y,u,rfl,e⟩
   ·cbv
   cbv
  ·rcases dY f with ⟨j,u,rfl,e⟩|⟨y,u,rfl,e⟩
   ·rwa[nomatch e]
   cbv
 byValue:=λk v h=>by rcases dY h with ⟨i,t,rfl,rfl⟩|⟨x,t,rfl,rfl⟩ <;> rfl
 pyHash:=λd h=>by
  rcases dY d with ⟨i,t,rfl,rfl⟩|⟨x,t,rfl,rfl⟩
  ·rwa[wpAny_pyHash_int h]
  ·rwa[wpAny_pyHash_str h]
 eqBool:=λm d h=>by
  rcases dY m with ⟨i,t,rfl,rfl⟩|⟨x,t,rfl,rfl⟩
  ·rcases dY d with ⟨j,u,rfl,rfl⟩|⟨y,u,rfl,rfl⟩
   ·rw[RZ]at h;rwa[wpAny_eqBool_int h]
   ·rw[R7]at h;rwa[SeqAt.EqAt.int_str i t y u _ _ _ _ h]
  ·rcases dY d with ⟨j,u,rfl,rfl⟩|⟨y,u,rfl,rfl⟩
   ·rw[R8]at h;rwa[SeqAt.EqAt.str_int x t j u _ _ _ _ h]
   ·rw[R6]at h;rwa[wpAny_eqBool_str h]
 «strs»:=λk x t v h=>by
  rcases dY h with ⟨i,u,rfl,e⟩|⟨y,u,rfl,e⟩
  ·rwa[nomatch e]
  ·injection e with g _
   subst g;cases v <;> rfl
def Dl (a:Program)(w:World)(i:Int)(t:Tok):(bY a w).is (.inl i) (.int i t)=true:=Hl i t
def Dm (a:Program)(w:World)(x:Str)(t:Tok):(bY a w).is (.inr x) (.str x t)=true:=Hm x t
end L2
variable {n m i j:Nat}{a b c d:PySem.Addr}{z y:Int}{v u:PySem.Value}{x f:PySem.Str}{e:PySem.Expr}{p:PySem.Pos}{K:Za1}{Q E:PySem.Value->PySem.Shared->Prop}{s:PySem.Shared}{P:PySem.Program}{w:PySem.World}{h g:PySem.Heap}{R:Za2}{A:PySem.Around}{o:List (PySem.Addr×PySem.Obj)}{M:PySem.Str->Option PySem.Value}{l:Zg}{N:List PySem.Value}{B:Zh}{W:Za3}{U:Unit->PySem.Shared->Prop}{C:List PySem.Expr}{F:List PySem.Addr}{Z:List PySem.Str}
namespace L2
inductive V where
 |non|bl (b:Bool)|int (i:Int)|str (x:Str)|mY (b:Array UInt8)|Ar (b:UInt64)|ref (a:Zs)|ty (n:String)
 deriving DecidableEq
abbrev Zc:=Option V
abbrev Zb:=List V
def RelV:V->Zt->Prop
 |.non,u=>u=Value.none
 |.bl b,u=>u=Value.bool b
 |.int i,u=>∃t,u=Value.int i t
 |.str x,u=>∃t,u=Value.str x t
 |.mY b,u=>∃t,u=Value.bytes b t
 |.Ar b,u=>∃t,u=Value.float b t
 |.ref a,u=>u=Value.ref a
 |.ty n,u=>u=Value.type n
abbrev Vals:Zb->Zk->Prop:=Paired RelV
def Vals.length {xs:Zb}{us:Zk}(r:Vals xs us):⇑xs=⇑us:=Paired.length r
theorem Vals.get:∀{b:Zb}{a:Zk}{i:Nat}{x:V},Vals b a->b[i]?\x->∃u,a[i]?\u/\RelV x u
 |_,_,_,_,.nil,e=>by simp at e
 |_,_,0,_,.cons r _,e=>by simp at e;subst e;rwa[12,r]
 |_,_,i+ 1,x,.cons _ t,e=>by let⟨u,d,c⟩:=Vals.get (i:=i) (x:=x) t (by simpa using e);rwa[u,by simpa using d,c]
theorem Vals.set {x:V}(r:RelV x u):∀{xs:Zb}{us:Zk}(i:Nat),Vals xs us->Vals (xs.set i x) (us.set i u)
 |_,_,_,.nil=>.nil
 |_,_,0,.cons _ t=>.cons r t
 |_,_,i+ 1,.cons q t=>.cons q (Vals.set r i t)
theorem Vals.append:∀{a ys:Zb}{b ws:Zk},Vals a b->Vals ys ws->Vals (a++ys) (b++ws)
 |_,_,_,_,.nil,s=>s
 |_,_,_,_,.cons r t,s=>.cons r (Vals.append t s)
theorem Vals.take:∀{xs:Zb}{us:Zk}(n:Nat),Vals xs us->Vals (xs.take n) (us.take n)
 |_,_,0,_=>.nil
 |_,_,_+ 1,.nil=>.nil
 |_,_,n+ 1,.cons r t=>.cons r (Vals.take n t)
theorem Vals.drop:∀{xs:Zb}{us:Zk}(n:Nat),Vals xs us->Vals (xs.drop n) (us.drop n)
 |_,_,0,r=>r
 |_,_,_+ 1,.nil=>.nil
 |_,_,n+ 1,.cons _ t=>Vals.drop n t
def eU:Zc->Zl->Prop
 |some v,some u=>RelV v u
 |none,none=>True
 |_,_=>False
def KV {a:Type}:List (a×V)->List (a×Zt)->Prop:=Paired λ(p:a×V)(q:a×Zt)=>p.1=q.1/\RelV p.2 q.2
def kV:Key->V
 |.inl i=>.int i
 |.inr x=>.str x
inductive HO where
 /-- a list -/
 |lst (xs:Zb)
 /-- a tuple (never changes) -/
 |tup (xs:Zb)
 /-- a dict whose keys are ints and texts;one whose keys are tuples of ints and texts (the empty one is both) -/
 |dK (kvs:List (Key×V))|dT (kvs:List (Zd×V))
 /-- a set of ints:its members,its size -/
 |set (S:Int->Bool) (n:Nat)
 /-- an instance of the class at C,its dict at dx,its attributes -/
 |ins (C dx:Zs) (fs:List (Str×V))
 /-- the dict of the instance at x -/
 |own (x:Zs)
 /-- the dict of an exception -/
 |xd (fs:List (Str×V))
 /-- a bound method,f of x -/
 |met (f x:Zs)
 /-- a range object lo,lo+ 1,.. below hi -/
 |fy (lo hi:Int)
 /-- a thing that is known to the object (the script;a dict while a loop walks it):read,never written while it is so -/
 |df (o:Obj) (u:HO)
 /-- a code object's table -/
 |mZ (ps:Zm)
 /-- any other thing,by what is true of its one object (a def of ahB own:ahL a S n:=HO.ext λh=>..) -/
 |ext (φ:Heap->Prop)
abbrev Hp:=Zs->Option HO
def upd (H:Hp)(a:Zs)(o:HO):Hp:=λb=>if b=a then some o else H b
def aj {H:Hp}{o:HO}:upd H a o a\o:=by unfold upd;cbv
def ak {H:Hp}{o:HO}(h:b≠a):upd H a o b=H b:=by unfold upd;rw[ajk h]
def Qh {H:Hp}{o u:HO}:upd (upd H a o) a u=upd H a u:=by funext b;unfold upd;cbv
def bS {H:Hp}{o u:HO}(h:H a\o)(c:H b\u)(d:o≠u):a≠b:=by cbv
def av {H:Hp}{o:HO}(h:H a\o)(c:H b=none):a≠b:=by cbv
section
variable (P:Program) (w:World)
def b6 (H:Hp)(h:Heap)(a:Zs):HO->Prop
 |.lst xs=>⇑xs<=sizeLine/\∃(c:Zk)(n:Nat),Vals xs c/\h.get? a\("list">>>.seq c.toArray n)
 |.tup xs=>⇑xs<=sizeLine/\∃c:Zk,Vals xs c/\IsTup h a c.toArray
 |.dK b=>⇑b<=sizeLine/\(a==sysModules)=false/\∃j,KV b j/\h.DictOf (bY P w) a j
 |.dT b=>⇑b<=sizeLine/\(a==sysModules)=false/\∃xs:List (Zd×Zs×Zt),
  Paired (λ(p:Zd×V)(q:Zd×Zs×Zt)=>p.1=q.1/\H q.2.1\.tup (p.1.map kV)/\RelV p.2 q.2.2) b xs/\∃o l s,h.get? a\o/\o.ExactDict/\o.data=.dict l s/\l.toList=xs.map (entryOfKey (tupleKind (bY P w)))/\(xs.map (·.1)).Nodup
 |.set S n=>h.SetOf (intKind P w) a S n
 |.ins C e fs=>H e\.own a/\⇑fs<=1000/\e≠a/\h.get? a\instObj C e/\∃d,h.Ns1 e d/\(∀f,eU (fs.lookup f) (d f))/\PySem.Within d (fs.map (·.1))
 |.own _=>∃o,h.get? a\o
 |.xd fs=>∃d,h.Ns1 a d/\∀f,eU (fs.lookup f) (d f)
 |.fy lo r=>∃t u v,h.get? a\("range">>>.fields #[.int lo t,.int r u,.int 1 v])
 |.df o u=>h.get? a\o/\b6 H h a u
 |.mZ m=>h.get? a\{ cls:=.none,data:=.fields m }
 |.met f x=>h.get? a\(methodObj ↑f ↑x)
 |.ext g=>g h/\(∃o,h.get? a\o)/\∀k i:Heap,g k->(∀o,k.get? a\o->i.get? a\o)->g i
def dy (H:Hp)(h:Heap):Prop:=∀a o,H a\o->b6 P w H h a o
end
section
variable {P:Program}{w:World}{H H':Hp}{h h':Heap}{a:Zs}{o:HO}
def b6.lt (x:b6 P w H h a o):a<h.objs.size:=by
 cases o with
 |lst c=>let⟨_,_,_,_,e⟩:=x;rwa[ajy e]
 |tup c=>let⟨_,_,_,p⟩:=x;rwa[p.lt]
 |dK b=>let⟨_,_,_,_,o,_,_,e,_⟩:=x;rwa[ajy e]
 |dT b=>let⟨_,_,_,_,o,_,_,e,_⟩:=x;rwa[ajy e]
 |set S n=>let⟨o,_,_,_,e,_⟩:=x;rwa[ajy e]
 |ins C dx fs=>let⟨_,_,_,e,_⟩:=x;rwa[ajy e]
 |own y=>let⟨_,e⟩:=x;rwa[ajy e]
 |xd fs=>let⟨_,⟨_,_,_,e,_⟩,_⟩:=x;rwa[ajy e]
 |fy lo i=>let⟨_,_,_,e⟩:=x;rwa[ajy e]
 |df ob u=>let⟨e,_⟩:=x;rwa[ajy e]
 |mZ d=>exact ajy (show h.get? a=some _ from x)
 |met f y=>exact ajy (show h.get? a=some _ from x)
 |ext g=>let⟨_,⟨_,e⟩,_⟩:=x;rwa[ajy e]
theorem Paired.KP {g e:Type}{F G:g->e->Prop}:∀{c:List g}{d:List e},Paired F c d->(∀a b,F a b->G a b)->Paired G c d
 |_,_,.nil,_=>.nil
 |_,_,.cons r t,f=>.cons (f^r) (Paired.KP t f)
def b6.gX (x:b6 P w H h a o)(k:∀b u,(b=a\/H b\.own a)->h.get? b\u->h'.get? b\u)(G:∀b,H b\.own a->H' b\.own a)(D:∀b l,H b\.tup l->H' b\.tup l):b6 P w H' h' a o:=by
 induction o with
 |lst l=>let⟨z,j,n,r,e⟩:=x;rwa[z,j,n,r,k _ _ (.inl rfl) e]
 |tup l=>let⟨z,j,r,ob,e,c⟩:=x;rwa[z,j,r,ob,k _ _ (.inl rfl) e,c]
 |dK m=>let⟨z,y,E,r,ob,g,i,e,c⟩:=x;rwa[z,y,E,r,ob,g,i,k _ _ (.inl rfl) e,c]
 |dT m=>let⟨z,y,l,r,ob,g,i,e,c⟩:=x;rwa[z,y,l,Paired.KP r λp q z=>⟨z.1,D^z.2.1,z.2.2⟩,ob,g,i,k _ _ (.inl rfl) e,c]
 |set S n=>let⟨ob,g,i,t,e,c⟩:=x;rwa[ob,g,i,t,k _ _ (.inl rfl) e,c]
 |ins C dx fs=>let⟨d,z,ne,e,s,⟨A,g,i,F,c⟩,r⟩:=x;rwa[G _ d,z,ne,k _ _ (.inl rfl) e,s,⟨A,g,i,k _ _ (.inr d) F,c⟩,r]
 |own y=>let⟨ob,e⟩:=x;rwa[ob,k _ _ (.inl rfl) e]
 |xd fs=>let⟨s,⟨A,g,i,e,c⟩,r⟩:=x;rwa[s,⟨A,g,i,k _ _ (.inl rfl) e,c⟩,r]
 |fy lo L=>let⟨t,u,v,e⟩:=x;rwa[t,u,v,k _ _ (.inl rfl) e]
 |df ob u I=>let⟨e,q⟩:=x;rwa[k _ _ (.inl rfl) e,I q]
 |mZ B=>let e:h.get? a\{ cls:=.none,data:=.fields B }:=x;show h'.get? a\{ cls:=.none,data:=.fields B };rwa[k a _ (.inl rfl) e]
 |met f y=>let e:h.get? a\(methodObj ↑f ↑y):=x;show h'.get? a\methodObj ↑f ↑y;rwa[k a _ (.inl rfl) e]
 |ext J=>let⟨p,⟨o,e⟩,st⟩:=x;rwa[st _ _ p λo q=>k _ _ (.inl rfl) q,⟨o,k _ _ (.inl rfl) e⟩,st]
def dy.lt (x:dy P w H h)(e:H a\o):a<h.objs.size:=(x a o e).lt
def dy.fresh (x:dy P w H h)(e:h.objs.size<=a):H a=none:=by
 cases q:H a with
 |none=>rfl
 |some u=>exact absurd (ajF (x.lt q) e) (akP _)
def dy.kept (x:dy P w H h)(k:∀b u,h.get? b\u->h'.get? b\u):dy P w H h':=λa o e=>(x a o e).gX (λb u _ q=>k b u q) (λ_ q=>q) λ_ _ q=>q
def dy.laid (x:dy P w H h)(k:∀b u,h.get? b\u->h'.get? b\u)(g:h.objs.size<=a)(new:b6 P w (upd H a o) h' a o):dy P w (upd H a o) h':=λb u e=>by
 let f:=x.fresh g;cases d:b=a
 ·subst d;rw[aj]at e;cbv
 ·rw[ak d]at e;rwa[(x b u e).gX (λc v _ q=>k c v q) (λc q=>[ak (av q f)]▸q) λc i q=>[ak (av q f)]▸q]
end
def Rd (H:Hp)(a:Zs)(u:HO):Prop:=H a\u\/∃o,H a\(.df o u)
def Rd.ok {H:Hp}{u:HO}(r:Rd H a u)(x:dy P w H h):b6 P w H h a u:=by
 rcases r with r|⟨o,r⟩
 ·rwa[x a u r]
 ·let⟨_,q⟩:=x a _ r;rwa[q]
def ui:Option HO->Prop
 |some (.lst _)=>True
 |some (.dK _)=>True
 |some (.dT _)=>True
 |some (.set _ _)=>True
 |some (.ins _ _ _)=>True
 |some (.ext _)=>True
 |_=>False
section
variable {P:Program}{w:World}{H:Hp}{h h':Heap}{x e:Zs}{o':HO}
def dy.write (ok:dy P w H h)(mu:ui (H x))(l:e=x\/H e\.own x)(k:∀b u,b≠e->h.get? b\u->h'.get? b\u)(g:∃u,h'.get? e\u)(new:b6 P w (upd H x o') h' x o'):dy P w (upd H x o') h':=λb u q=>by
 let a:∀c y,H c\.own y->c≠x:=λc y r z=>by subst z;rw[r]at mu;rwa[mu]
 let i6:∀c d,H c\.tup d->c≠x:=λc d r z=>by subst z;rw[r]at mu;rwa[mu]
 cases i:b=x
 ·subst i;rw[aj]at q;cbv
 ·rw[ak i]at q;cases f:b=e
  ·let j:H b\(.own x):=by
    rcases l with z|z
    ·cbv
    ·rw[f];rwa[z]
   rw[q]at j;ext j;let⟨v,m⟩:=g;rwa[v,by cbv]
  ·refine(ok b u q).gX (λc v hc r=>k c v ?_ r) (λc r=>[ak (a c b r)]▸r) λc d r=>by rw[ak (i6 c d r)];rwa[r]
   cbv
end
structure Un (fs ex:Zn)(H H':Hp)(h h':Heap):Prop where
 keep:∀b o,h.get? b\o->H b=none->b∉fs->b∉ex->h'.get? b\o
 slot:∀b o,h.get? b\o->H b=none->b∈fs->b∉ex->∃sl,h'.get? b\{ o with slots:=sl }
 free:∀b o,h.get? b\o->H b=none->b∉ex->H' b=none
 there:∀b o,h.get? b\o->b∉ex->∃o',h'.get? b\o'
 j2:∀b xs,H b\.tup xs->H' b\(.tup xs)
 i7:∀b o u,H b\.df o u->H' b\(.df o u)
 kX:∀b ps,H b\.mZ ps->∃more,H' b\(.mZ (ps++more))
section
variable {fs ex:Zn}{H H1:Hp}{h h1 h':Heap}{a x e:Zs}{o:HO}
def Un.any (u:Un fs ex H H1 h h1){b:Zs}{ob:Obj}(q:h.get? b\ob)(n:H b=none)(d:b∉ex):∃sl,h1.get? b\{ ob with slots:=sl }:=by
 cases c:b∈fs
 ·rwa[u.slot b ob q n c d]
 ·rwa[ob.slots,u.keep b ob q n c d]
def Un.kept (k:∀b u,h.get? b\u->h'.get? b\u):Un fs ex H H h h':=⟨λb ob q _ _ _=>k b ob q,λb ob q _ _ _=>⟨ob.slots,k b ob q⟩,λ_ _ _ n _=>n,λb ob q _=>⟨ob,k b ob q⟩,λ_ _ q=>q,λ_ _ _ q=>q,λ_ c q=>⟨#[],by rw[q];simp⟩⟩
def Un.refl:Un fs ex H H h h:=Un.kept λ_ _ q=>q
def Un.laid (k:∀b u,h.get? b\u->h'.get? b\u)(d:h.objs.size<=a)(c:H a=none):Un fs ex H (upd H a o) h h' where
 keep:=λb u q _ _ _=>k b u q
 slot:=λb u q _ _ _=>⟨u.slots,k b u q⟩
 free:=λb u q n _=>by rw[ak (ajH (ajF (ajy q) d))];rwa[n]
 there:=λb u q _=>⟨u,k b u q⟩
 j2:=λb f q=>by rw[ak (av q c)];rwa[q]
 i7:=λb u f q=>by rw[ak (av q c)];rwa[q]
 kX:=λb g q=>⟨#[],by rw[ak (av q c),q];simp⟩
def Un.write (mu:ui (H x))(l:e=x\/H e\.own x)(k:∀b u,b≠e->h.get? b\u->h'.get? b\u)(g:∃u,h'.get? e\u):Un fs ex H (upd H x o) h h':=by
 let i:∀b,H b=none->b≠x:=λb n z=>by subst z;rw[n]at mu;rwa[mu]
 let d:∀b,H b=none->b≠e:=λb n z=>by cbv
 let c:∀b u,H b\u->¬ui (some u)->b≠x:=λb u q nm z=>by cbv
 rwa[⟨λb u q n _ _=>k b u (d b n) q,λb u q n _ _=>⟨u.slots,k b u (d b n) q⟩,λb u q n _=>[ak (i b n)]▸n,λb u q _=>?_,λb f q=>[ak (c b _ q λz=>z)]▸q,λb u f q=>[ak (c b _ q λz=>z)]▸q,λb j q=>⟨#[],by rw[ak (c b _ q λz=>z),q];simp⟩⟩]
 cbv
end
def Nn (h:Heap)(H:Hp):Zn:=(~~~h.objs.size).filter λa=>(H a).isSome
def pO (h:Heap)(H:Hp):Heap:=hideAll h (Nn h H)
def Hn (h:Heap)(H:Hp):(pO h H).objs.size=h.objs.size:=PySem.W.hideAll_size _ _
def KQ {H:Hp}{o:Obj}(e:h.get? b\o)(n:H b=none):(pO h H).get? b\o:=
 al3 _ e λa=>by
  let q:(H b).isSome=true:=(akk.mp a).2
  cbv
def Qi {H:Hp}{o:Obj}(e:(pO h H).get? b\o):h.get? b\o/\H b=none:=by
 let a:h.get? b\o:=PySem.W.of_hideAll (Nn h H) e;erw[a]
 cases q:H b with
 |none=>rfl
 |some x=>
  let c:b∈Nn h H:=akk.mpr ⟨ajJ.mpr (ajy a),by simp[q]⟩;let z:(pO h H).get? b=none:=PySem.W.hideAll_none (Nn h H) c
  cbv
def Qj (g h:Heap)(L:Zs):List (Zs×Obj):=(~~~h.objs.size).filterMap λa=>if a=L\/(g.get? a).isSome=true then none else (h.get? a).map λo=>(a,o)
def rest (g h:Heap)(L d:Zs):List (Zs×Obj):=(Qj g h L).filter λp=>decide (p.1≠d)
end L2
variable {H I J:L2.Hp}{q:L2.V}{L:List L2.V}
namespace L2
structure Mod (K:Za1)(mg:Str->Zl)(base:Heap):Prop where
 vC:K.In base
 glob:base.Ns mainGlobals mg
 blt:∃mb,base.Ns builtinsNs mb/\∀x:Str,x≠"__name__"->mb x=bootBuiltins x
 nolimit:base.NoLimit
structure Cx where
 prog:Program
 w:World
 K:Za1
 mg:Str->Zl
 base:Heap
 A:Around
 N:Zp
 eM:Zu
 uG:Hp
 env:Env
 outer:Zq
 stack:Zq
 ex:Zn
 fn:Str->Bool
 calm:Bool
 pn:List (Zs×Obj)
 xe:Zt->Zu->Prop
def cY (l:Zq):Zn:=l.filterMap (·.frame)
abbrev Cx.fs (X:Cx):Zn:=cY X.outer
def Sb (sc:Scope)(x:Str):Prop:=sc.names.lookup x=some .local\/sc.names.lookup x=some .cell\/sc.names.lookup x=some .free
def Loc (sc:Scope)(x:Str):Prop:=sc.names.lookup x=some .local\/sc.names.lookup x=some .cell
def Look (env:Env)(h:Heap)(m:Str->Zl)(x:Str)(u:Zt):Prop:=(env.kindOf x=some .local/\m x\u)\/((env.kindOf x=some .cell\/env.kindOf x=some .free)/\∃c,env.cells.lookup x\c/\h.IsCell c (some u))
class eI (X:Cx)(K:outParam Za1):Prop where
 eq:X.K=K
instance (priority:=low) eI.any {X:Cx}:eI X X.K:=⟨2⟩
structure Cx.Ok (X:Cx):Prop where
 mod:Mod X.K X.mg X.base
 kind:X.env.scope.kind=.function
 glob:X.env.globals=mainGlobals
 blt:X.env.builtins=builtinsNs
 above:X.eM.heap.objs.size<=X.env.locals
 inj:∀x y c,X.env.cells.lookup x\c->X.env.cells.lookup y\c->x=y
 has:∀x,(X.env.kindOf x=some .cell\/X.env.kindOf x=some .free)->∃c,X.env.cells.lookup x\c
 As:∀x c,X.fn x=true->X.env.cells.lookup x\c->X.eM.heap.objs.size<=c
 hd:X.calm=true->X.A.handled=none
 frames:X.A.frames\X.stack
 DW:X.stack=X.outer\/(X.stack=X.env::X.outer/\X.env.frame\X.env.locals)
 Np:∀b∈X.ex,b≠X.env.locals/\∀x c,X.env.cells.lookup x\c->c≠b
 bs:∀b o,X.base.get? b\o->X.eM.heap.get? b\o/\X.uG b=none
 uj:X.base.objs.size<=X.eM.heap.objs.size
 uH:∀b o,X.base.get? b\o->b∉X.ex
 xI:∀b∈X.ex,b∉X.fs
 jD:X.eM.heap.FunFrames X.base X.outer
 vD:∀b∈X.fs,X.uG b=none
structure Inv (X:Cx)(pins:List (Zs×Obj))(σ:List Zc)(H:Hp)(s:Zu):Prop where
 ok:X.Ok
 os:s.os=X.eM.os
 bare:AllBare s.gens
 base:Un X.fs X.ex X.uG H X.eM.heap s.heap
 loc:∃m,s.heap.Ns X.env.locals m/\∀(i:Nat)(x:Str)(v:V),X.N[i]?\x->σ[i]?\some v->Sb X.env.scope x->∃u,RelV v u/\Look X.env s.heap m x u
 cell:∀x c,X.env.cells.lookup x\c->∃v,s.heap.IsCell c v
 free:H X.env.locals=none
 gY:∀x c,X.env.cells.lookup x\c->H c=none
 pin:∀p∈X.pn++pins,s•p.1\p.2/\H p.1=none/\p.1≠X.env.locals/\p.1∉X.fs/\∀v,p.2.data≠.cell v
 aU:dy X.prog X.w H s.heap
 len:⇑σ=⇑X.N
section
variable {X:Cx}{pins:List (Zs×Obj)}{σ:List Zc}{H H':Hp}{s:Zu}{h':Heap}
def Cx.Ok.abD (ok:X.Ok){b:Zs}{o:Obj}(e:X.base.get? b\o):b∉X.fs:=λa=>by
 have:=(ok.jD.mem a).1
 cbv
def Inv.bs (I:Inv X pins σ H s):∀b o,X.base.get? b\o->s•b\o/\H b=none:=λb o e=>⟨I.base.keep b o (I.ok.bs b o e).1 (I.ok.bs b o e).2 (I.ok.abD e) (I.ok.uH b o e),I.base.free b o (I.ok.bs b o e).1 (I.ok.bs b o e).2 (I.ok.uH b o e)⟩
def Inv.bk (I:Inv X pins σ H s):∀b o,X.base.get? b\o->s•b\o:=λb o e=>(I.bs b o e).1
def Inv.mod (I:Inv X pins σ H s):Mod X.K X.mg X.base:=I.ok.mod
def Inv.dE (I:Inv X pins σ H s):X.K.In s.heap:=I.ok.mod.vC.keeps I.bk
def Inv.lt (I:Inv X pins σ H s):X.env.locals<↥s:=let ⟨_,a,_⟩:=I.loc;a.lt
def Inv.sz (I:Inv X pins σ H s):X.eM.heap.objs.size<=↥s:=ajl I.ok.above (akZ I.lt)
def Inv.Sd (I:Inv X pins σ H s){a:Zs}(h:↥s<=a):a∉X.fs:=λc=>by let⟨_,o,b,_⟩:=I.ok.jD.mem c;rwa[absurd (ajF (ajy b) (ajl I.sz h)) (akP _)]
def Inv.rn (I:Inv X pins σ H s):∀x c,X.env.cells.lookup x\c->c≠X.env.locals:=λx c e z=>by
 let⟨v,o,f,hd⟩:=I.cell x c e;let⟨m,⟨h,g,d,b,a,_⟩,_⟩:=I.loc
 cbv
def Inv.jD (I:Inv X pins σ H s):s.heap.FunFrames X.base X.outer:=by
 let all:∀(l:Zq),(∀b∈cY l,b∈X.fs)->X.eM.heap.FunFrames X.base l->s.heap.FunFrames X.base l:=by
  intro l
  induction l with
  |nil=>intro _ _;trivial
  |cons env r i=>
   intro f j;let⟨g,⟨L,o,d,m,h,hd⟩,k⟩:=j;let a:L∈X.fs:=f L (by unfold cY;cbv);let⟨sl,e⟩:=I.base.slot L o h (I.ok.vD L a) a λz=>I.ok.xI L z a
   rwa[g,⟨L,_,d,m,e,hd⟩,i (λb c=>f b (by unfold cY;rw[List.filterMap_cons,d];rwa[ajw _ c])) k]
 rwa[all X.outer (λ_ c=>c) I.ok.jD]
def Inv.stack (I:Inv X pins σ H s):s.heap.FunFrames X.base X.stack:=by
 rcases I.ok.DW with e|⟨e,a⟩
 ·rw[e];rwa[I.jD]
 ·rw[e];let⟨m,b,_⟩:=I.loc;rwa[.cons (by rw[I.ok.kind];decide) a b ?_ I.jD];rwa[Heap.get?_none_of_le (ajl I.ok.uj I.ok.above)]
def Inv.Au (I:Inv X pins σ H s):∀b∈cY X.stack,b∈X.env.locals::X.fs:=λb a=>by
 rcases I.ok.DW with e|⟨e,c⟩
 ·cbv
 ·rw[e]at a;unfold cY at a;rw[List.filterMap_cons,c]at a;rwa[a]
def Inv.sY (I:Inv X pins σ H s):∀b∈cY X.stack,H b=none:=λb a=>by
 rcases ajs.mp (I.Au b a) with e|a
 ·rw[e];rwa[I.free]
 ·let⟨_,o,c,_⟩:=I.ok.jD.mem a;rwa[I.base.free b o c (I.ok.vD b a) λz=>I.ok.xI b z a]
def Inv.step {g':Array GenState}{d':Drawn}{ch:Zn}(I:Inv X pins σ H s)(h:∀b∈ch,(b∈X.ex\/X.eM.heap.objs.size<=b)/\b≠X.env.locals/\(∀x c,X.env.cells.lookup x\c->c≠b)/\∀p∈X.pn++pins,p.1≠b)(keep:∀b o,b≠X.env.locals->b∉X.fs->b∉ch->s•b\o->H b=none->h'.get? b\o)(slot:∀b o,b≠X.env.locals->b∈X.fs->b∉ch->s•b\o->H b=none->∃sl,h'.get? b\{ o with slots:=sl })(free:∀b o,b∉ch->s•b\o->H b=none->H' b=none)(there:∀b o,b∉ch->s•b\o->∃C,h'.get? b\C)(j2:∀b t,H b\.tup t->H' b\.tup t)(i7:∀b o u,H b\.df o u->H' b\.df o u)(kX:∀b D,H b\.mZ D->∃more,H' b\.mZ (D++more))(ns:∀m,s.heap.Ns X.env.locals m->h'.Ns X.env.locals m)(aU:dy X.prog X.w H' h')(L:AllBare g'):
 Inv X pins σ H' { s with heap:=h',gens:=g',drawn:=d',toks:=n }:=by
 let B:∀b o,X.eM.heap.get? b\o->b≠X.env.locals:=λb o e=>ajH (ajF (ajy e) I.ok.above)
 let j:∀b o,X.eM.heap.get? b\o->b∉X.ex->b∉ch:=λb o e f y=>by
  rcases (h b y).1 with z|z
  ·rwa[f z]
  ·rwa[absurd (ajF (ajy e) z) (akP _)]
 let cellK:∀x c,X.env.cells.lookup x\c->∀v,s.heap.IsCell c v->h'.IsCell c v:=λx c e v ζ=>by
  let⟨o,A,hd⟩:=ζ
  let g:c∉ch:=λz=>(h c z).2.2.1 x c e rfl
  cases hc:c∈X.fs
  ·let⟨sl,q⟩:=slot c o (I.rn x c e) hc g A (I.gY x c e);rwa[_,q,hd]
  ·rwa[o,keep c o (I.rn x c e) hc g A (I.gY x c e),hd]
 rwa[⟨I.ok,I.os,L,⟨λb o e a y f=>?_,λb o e a y f=>?_,λb o e a f=>?_,λb o e f=>?_,λb t e=>j2 b t (I.base.j2 b t e),λb o t e=>i7 b o t (I.base.i7 b o t e),λb D e=>?_⟩,5,λx c e=>?_,5,λx c e=>?_,λp G=>?_,aU,I.len⟩]
 ·rwa[keep b o (B b o e) y (j b o e f) (I.base.keep b o e a y f) (I.base.free b o e a f)]
 ·let⟨sl,w⟩:=I.base.slot b o e a y f;let⟨F,E⟩:=slot b _ (B b o e) y (j b o e f) w (I.base.free b o e a f);rwa[F,E]
 ·let⟨C,w⟩:=I.base.there b o e f;rwa[free b C (j b o e f) w (I.base.free b o e a f)]
 ·let⟨C,w⟩:=I.base.there b o e f;rwa[there b C (j b o e f) w]
 ·let⟨P,w⟩:=I.base.kX b D e
  cbv
 ·let⟨m,N,M⟩:=I.loc;rwa[⟨m,ns m N,λi x v w E O=>?_⟩];let⟨u,r,l⟩:=M i x v w E O;erw[u,r];rcases l with l|⟨k,c,e,z⟩
  ·rwa[.inl l]
  ·rwa[.inr ⟨k,c,e,cellK x c e _ z⟩]
 ·let⟨v,z⟩:=I.cell x c e;rwa[v,cellK x c e v z]
 ·let⟨m,⟨o,_,_,A,_⟩,_⟩:=I.loc;rwa[free _ o (λz=>(h _ z).2.1 rfl) A I.free]
 ·let⟨v,o,A,hd⟩:=I.cell x c e;rwa[free c o (λz=>(h c z).2.2.1 x c e rfl) A (I.gY x c e)]
 ·let⟨e,a,ne,J,d⟩:=I.pin p G;let g:p.1∉ch:=λz=>(h p.1 z).2.2.2 p G rfl
  rwa[keep p.1 p.2 ne J g e a,free p.1 p.2 g e a,ne,J,d]
def Inv.un {t':Nat}(I:Inv X pins σ H s)(u:Un X.fs [] H H' s.heap h')(aU:dy X.prog X.w H' h'):Inv X pins σ H' { s with heap:=h',toks:=t' }:=by
 let⟨m,⟨o,p,v,g,r⟩,_⟩:=id I.loc;let⟨sl,i⟩:=u.any g I.free (by simp)
 exact I.step (g':=s.gens) (d':=s.drawn) (ch:=[]) (λ_ z=>nomatch z) (λb o _ c _ e n=>u.keep b o e n c (by simp)) (λb o _ c _ e n=>u.slot b o e n c (by simp)) (λb o _ e n=>u.free b o e n (by simp)) (λb o _ e=>u.there b o e (by simp)) u.j2 u.i7 u.kX (λt j=>by let⟨q,f,d,a,h⟩:=j;rw[g]at a;ext a;rwa[_,f,d,i,h]) aU I.bare
def Inv.call {g':Array GenState}{t':Nat}{d':Drawn}{ch:Zn}(I:Inv X pins σ H s)(u:Un (cY X.stack) ch H H' s.heap h')(aU:dy X.prog X.w H' h')(l:AllBare g')(d:∀b∈ch,(b∈X.ex\/X.eM.heap.objs.size<=b)/\b≠X.env.locals/\(∀x c,X.env.cells.lookup x\c->c≠b)/\∀p∈X.pn++pins,p.1≠b):
 Inv X pins σ H' { s with heap:=h',gens:=g',drawn:=d',toks:=t' }:=by
 let⟨m,⟨o,t,y,i,r⟩,_⟩:=id I.loc;let⟨sl,g⟩:=u.any i I.free λz=>(d _ z).2.1 rfl
 exact I.step (ch:=ch) d (λb o g k hc e n=>u.keep b o e n (λz=>(ajs.mp (I.Au b z)).elim g k) hc) (λb o _ _ hc e n=>u.any e n hc) (λb o hc e n=>u.free b o e n hc) (λb o hc e=>u.there b o e hc) u.j2 u.i7 u.kX (λw q=>by let⟨v,h,f,a,j⟩:=q;rw[i]at a;ext a;rwa[_,h,f,g,j]) aU l
def Inv.turned {t':Nat}{it:Zs}(I:Inv X pins σ H s)(k:∀b o,b≠it->s•b\o->h'.get? b\o)(C:H it=none)(a:it≠X.env.locals)(g:it∈X.ex\/X.eM.heap.objs.size<=it)(d:∀x c,X.env.cells.lookup x\c->c≠it)(j:∀p∈X.pn++pins,p.1≠it):Inv X pins σ H { s with heap:=h',toks:=t' }:=by
 let l:∀b u,H b\u->b≠it:=λb u e z=>by cbv
 refine I.step (g':=s.gens) (d':=s.drawn) (ch:=[it]) (λb f=>?_) (λb o _ _ hc e _=>k b o (λz=>hc (by simp[z])) e) (λb o _ _ hc e _=>⟨o.slots,k b o (λz=>hc (by simp[z])) e⟩) (λ_ _ _ _ n=>n)
  (λb o hc e=>⟨o,k b o (λz=>hc (by simp[z])) e⟩) (λ_ _ e=>e) (λ_ _ _ e=>e) (λb y e=>⟨#[],by rw[e];simp⟩) (λm t=>?_) (λb u e=>?_) I.bare
 ·let e:b=it:=by simpa using f
  subst e;rwa[g,a,d,j]
 ·let⟨o,i,w,h,r⟩:=t;rwa[o,i,w,k _ o (akg a) h,r]
 ·rwa[(I.aU b u e).gX (λc v hc q=>k c v ?_ q) (λ_ q=>q) λ_ _ q=>q]
  cbv
def Inv.tok (I:Inv X pins σ H s)(t:Nat):Inv X pins σ H { s with toks:=t }:=I.un (h':=s.heap) (t':=t) Un.refl I.aU
def Inv.kept {t':Nat}(I:Inv X pins σ H s)(k:∀b u,s•b\u->h'.get? b\u):Inv X pins σ H { s with heap:=h',toks:=t' }:=I.un (Un.kept k) (I.aU.kept k)
def Inv.laid {o:HO}{t':Nat}(I:Inv X pins σ H s)(k:∀b u,s•b\u->h'.get? b\u)(c:↥s<=a)(new:b6 X.prog X.w (upd H a o) h' a o):
 Inv X pins σ (upd H a o) { s with heap:=h',toks:=t' }:=I.un (Un.laid k c (I.aU.fresh c)) (I.aU.laid k c new)
def Inv.write {x e:Zs}{o:HO}{t':Nat}(I:Inv X pins σ H s)(mu:ui (H x))(c:e=x\/H e\.own x)(k:∀b u,b≠e->s•b\u->h'.get? b\u)(a:∃u,h'.get? e\u)(new:b6 X.prog X.w (upd H x o) h' x o):Inv X pins σ (upd H x o) { s with heap:=h',toks:=t' }:=I.un (Un.write mu c k a) (I.aU.write mu c k a new)
def Inv.oC (I:Inv X pins σ H s)(h:∀p∈o,s•p.1\p.2/\H p.1=none/\p.1≠X.env.locals/\p.1∉X.fs/\∀v,p.2.data≠.cell v):Inv X o σ H s:=⟨I.ok,I.os,I.bare,I.base,I.loc,I.cell,I.free,I.gY,λp a=>(ajh.mp a).elim (λz=>I.pin p (ajx _ z)) (h p),I.aU,I.len⟩
def Av (d:Z.Nodup){i j:Nat}{x:Str}(a:Z[i]?\x)(b:Z[j]?\x):i=j:=by let⟨g,c⟩:=ai4.mp a;let⟨f,e⟩:=ai4.mp b;rwa[(List.getElem_inj d).mp (c.trans e.symm)]
def yL {M:Model}{v:V}(I:Inv X pins σ H s)(hN:X.N.Nodup)(L:X.N[i]?\x)(l:Loc X.env.scope x)(r:RelV v u)(h:∀O,Inv X pins (σ.set i (some v)) H O->(∃a,Heap.SameBut a s.heap O.heap/\(a=X.env.locals\/X.env.cells.lookup x\a))->U () O)(hf:X.fn x=true\/X.env.scope.names.lookup x=some .local:=by trivial):wpAny M A (storeName X.env x u) U E s:=by
 let⟨m,hn,hl⟩:=id I.loc;let J:(X.env.scope.kind==.class || (X.env.scope.kind==.module && X.env.locals !=X.env.globals))=false:=by rw[I.ok.kind];rfl
 let B:i < ⇑σ:=by rw[I.len];rwa[(ai4.mp L).1]
 let rn:=I.rn
 let tracked:∀{a:Zs}{h':Heap},(∃o,s•a\o/\H a=none)->Heap.SameBut a s.heap h'->dy X.prog X.w H h':=λ{a h'} ha f b ob e=>by
  let⟨_,_,T⟩:=ha;rwa[(I.aU b ob e).gX (λc Q t q=>(f.2 c ?_).trans q) (λ_ q=>q) λ_ _ q=>q]
  cbv
 rcases l with G|G
 ·rwa[wpAny_storeName_local G hn (λh' Ho f=>?_) J];let⟨oL,_,_,hoL,_⟩:=id hn;rwa[h _ ⟨I.ok,I.os,I.bare,⟨λb o e n C l=>?_,λb o e n C l=>?_,I.base.free,λb o e l=>?_,I.base.j2,I.base.i7,I.base.kX⟩,⟨_,Ho,λj y R g w e3=>?_⟩,λy c e=>?_,I.free,I.gY,λp hp=>?_,tracked ⟨oL,hoL,I.free⟩ f,by simpa using I.len⟩ ⟨_,f,.inl rfl⟩]
  ·rwa[(f.2 b (ajH (ajF (ajy e) I.ok.above))).trans (I.base.keep b o e n C l)]
  ·let⟨Y,g⟩:=I.base.slot b o e n C l;rwa[Y,(f.2 b (ajH (ajF (ajy e) I.ok.above))).trans g]
  ·let⟨o',g⟩:=I.base.there b o e l;rwa[o',(f.2 b (ajH (ajF (ajy e) I.ok.above))).trans g]
  ·cases D:j=i
   ·subst D;rw[L]at g;ext g;rw[ajE B]at w;ext w;rwa[u,r,.inl ⟨G,by simp⟩]
   ·rw[ajS (akg D)]at w;let⟨u',S,q⟩:=hl j y R g w e3;erw[u',S];rcases q with ⟨k,e⟩|⟨k,c,e,z⟩
    ·rwa[.inl ⟨k,?_⟩];have:y≠x:=λe=>D (Av hN g (e ▸ L))
     simp[this,e]
    ·rwa[.inr ⟨k,c,e,z.sameBut f (rn y c e)⟩]
  ·let⟨Q,z⟩:=I.cell y c e;rwa[Q,z.sameBut f (rn y c e)]
  ·let⟨e,n,ne,nf,d⟩:=I.pin p hp;rwa[(f.2 p.1 ne).trans e,n,ne,nf,d]
 ·let F:X.fn x=true:=by
   rcases hf with z|z
   ·rwa[z]
   ·cbv
  let⟨c,t⟩:=I.ok.has x (.inl G);let⟨Q,z⟩:=I.cell x c t;rwa[wpAny_storeName_cell I.ok.kind G t z (λh' Z f=>?_)];let⟨oc,P,ahM⟩:=id z;rwa[h (s<*h') ⟨I.ok,I.os,I.bare,⟨λb o e n C l=>?_,λb o e n C l=>?_,I.base.free,λb o e l=>?_,I.base.j2,I.base.i7,I.base.kX⟩,⟨m,hn.sameBut f (akg (rn x c t)),λj y R g w e3=>?_⟩,λy N e=>?_,I.free,I.gY,λp hp=>?_,tracked ⟨oc,P,I.gY x c t⟩ f,by simpa using I.len⟩ ⟨c,f,.inr t⟩]
  ·rwa[(f.2 b (ajH (ajF (ajy e) (I.ok.As x c F t)))).trans (I.base.keep b o e n C l)]
  ·let⟨Y,g⟩:=I.base.slot b o e n C l;rwa[Y,(f.2 b (ajH (ajF (ajy e) (I.ok.As x c F t)))).trans g]
  ·let⟨o',g⟩:=I.base.there b o e l;rwa[o',(f.2 b (ajH (ajF (ajy e) (I.ok.As x c F t)))).trans g]
  ·cases D:j=i
   ·subst D;rw[L]at g;ext g;rw[ajE B]at w;ext w;rwa[u,r,.inr ⟨.inl G,c,t,Z⟩]
   ·rw[ajS (akg D)]at w;let⟨u',S,q⟩:=hl j y R g w e3;erw[u',S];rcases q with q|⟨k,N,e,z'⟩
    ·rwa[.inl q]
    ·rwa[.inr ⟨k,N,e,z'.sameBut f ?_⟩];rintro rfl;rwa[D (Av hN g (I.ok.inj _ _ _ e t ▸ L))]
  ·cases W:N=c
   ·cbv
   ·let⟨w2,z2⟩:=I.cell y N e;rwa[w2,z2.sameBut f W]
  ·let⟨e,n,ne,nf,d⟩:=I.pin p hp;rwa[⟨(f.2 p.1 ?_).trans e,n,ne,nf,d⟩]
   cbv
def uI {M:Model}(I:Inv X pins σ H s)(d:X.N.Nodup)(e:X.N[i]?\x)(f:Loc X.env.scope x)(r:RelV q u)(h:∀a,Inv X pins (σ.set i (some q)) H a->U () a)(b:X.fn x=true\/X.env.scope.names.lookup x=some .local:=by trivial):wpAny M A (storeName X.env x u) U E s:=yL I d e f r (λa c _=>h a c) b
def Inv.Nq {s':Zu}{ch:Zn}(I:Inv X pins σ H s)(h:s'.os=s.os)(u:Un (cY X.stack) ch H H' s.heap s'.heap)(aU:dy X.prog X.w H' s'.heap)(i:AllBare s'.gens)(a:∀b∈ch,(b∈X.ex\/X.eM.heap.objs.size<=b)/\b≠X.env.locals/\(∀x c,X.env.cells.lookup x\c->c≠b)/\∀p∈X.pn++pins,p.1≠b):Inv X pins σ H' s':=by let⟨h',g,d,f,j⟩:=s';let e:j=s.os:=h;subst e;rwa[I.call (g':=g) (t':=f) (d':=d) u aU i a]
end
abbrev XK:=Zt->Zo->Hp->Prop
abbrev St:=List Zc
abbrev VK:=V->Hp->Prop
abbrev TE:=St->Hp->VK->Prop
abbrev TT:=St->Hp->(Bool->Hp->Prop)->Prop
abbrev TA:=St->Hp->(Zb->Hp->Prop)->Prop
structure Ends where
 nx:St->Hp->Prop
 rt:VK
 bk:St->Hp->Prop:=λ_ _=>False
 ct:St->Hp->Prop:=λ_ _=>False
abbrev TS:=Ends->St->Hp->Prop
def EP (X:Cx)(a:List (Zs×Obj))(d:St)(Q:VK)(u:Zt)(c:Zu):Prop:=∃v b,Inv X a d b c/\RelV v u/\Q v b
def TP (X:Cx)(a:List (Zs×Obj))(e:St)(Q:Bool->Hp->Prop)(b:Bool)(d:Zu):Prop:=∃c,Inv X a e c d/\Q b c
def AP (X:Cx)(a:List (Zs×Obj))(f:St)(Q:Zb->Hp->Prop)(e:Zk)(d:Zu):Prop:=∃b c,Inv X a f c d/\Vals b e/\Q b c
def SP (X:Cx)(b:List (Zs×Obj))(D:Ends)(f:Flow)(d:Zu):Prop:=
 match f with
 |.next=>∃ a c,Inv X b a c d/\D.nx a c
 |.brk=>∃ a c,Inv X b a c d/\D.bk a c
 |.cont=>∃ a c,Inv X b a c d/\D.ct a c
 |.ret u=>∃v a c,Inv X b a c d/\RelV v u/\D.rt v c
def PE (X:Cx)(e:Expr)(t:TE):Prop:=∀(a:List (Zs×Obj))(s:Zu)(b:St)(H:Hp)(Q:VK),Inv X a b H s->t b H Q->X⁻¹ X.A (eval e X.env) (EP X a b Q) X.xe s
def PT (X:Cx)(e:Expr)(t:TT):Prop:=∀(a:List (Zs×Obj))(s:Zu)(b:St)(H:Hp)(Q:Bool->Hp->Prop),Inv X a b H s->t b H Q->X⁻¹ X.A (isTrue e X.env (eval e X.env)) (TP X a b Q) X.xe s
def PW (X:Cx)(e:Expr)(t:TT):Prop:=∀(whole:Sem Zt)(a:List (Zs×Obj))(s:Zu)(b:St)(H:Hp)(Q:Bool->Hp->Prop),Inv X a b H s->t b H Q->X⁻¹ X.A (isTrue e X.env whole) (TP X a b Q) X.xe s
def PW.pt {X:Cx}{t:TT}(h:PW X e t):PT X e t:=h _
def PA (X:Cx)(c:Zr)(t:TA):Prop:=∀(pos:Pos)(a:List (Zs×Obj))(s:Zu)(b:St)(H:Hp)(Q:Zb->Hp->Prop),Inv X a b H s->t b H Q->X⁻¹ X.A (spliced (backTo pos (starEach c X.env))) (AP X a b Q) X.xe s
def PS (X:Cx)(st:Stmt)(t:TS):Prop:=∀(a:List (Zs×Obj))(s:Zu)(b:St)(H:Hp)(D:Ends),Inv X a b H s->t D b H->X⁻¹ X.A (exec st X.env) (SP X a D) X.xe s
def iO (X:Cx)(st:List Stmt)(t:TS):Prop:=∀(a:List (Zs×Obj))(s:Zu)(b:St)(H:Hp)(D:Ends),Inv X a b H s->t D b H->X⁻¹ X.A (execs st X.env) (SP X a D) X.xe s
def a9 {c:Type}{t:Sem c}{Q b:c->Zu->Prop}{M:Model}(h:wpAny M A t Q E s)(d:∀a s,Q a s->b a s):wpAny M A t b E s:=akw h d λ_ _ x=>x
end L2
variable {D:L2.St}{r:L2.TE}{G:L2.Ends}{X:L2.Cx}
namespace L2
section
variable {X:Cx}
def bin {b:Expr}{l:TE}(B:PE X e r)(o:PE X b l){a:List (Zs×Obj)}{s:Zu}{c:St}{H:Hp}{R:V->V->Hp->Prop}(I:Inv X a c H s)(h:r c H λx k=>l c k λy d=>R x y d){m:Type}{Q:m->Zu->Prop}{f:Zt->Zt->Sem m}(w:∀v u j x y d,Inv X a c d j->RelV x v->RelV y u->R x y d->X⁻¹ X.A (f v u) Q X.xe j):
 X⁻¹ X.A (eval e X.env) (λv i=>X⁻¹ X.A (eval b X.env) (λu g=>X⁻¹ X.A (f v u) Q X.xe g) X.xe i) X.xe s:=by
 rwa[a9 (B a s c H _ I h) λv z ζ=>?_];let⟨x,k,p,n,q⟩:=ζ
 rwa[a9 (o a z c k _ p q) λu j ζ=>?_];let⟨y,d,t,A,C⟩:=ζ
 rwa[w v u j x y d t n A C]
inductive Aw (i:Nat)(σ:St)(H:Hp)(Q:VK):Prop
 |mk (v:V):σ[i]?\some v->Q v H->Aw i σ H Q
def tC (v:V):TE:=λ_ H Q=>Q v H
def Se {pos:Pos}(o:X.N[i]?\x)(t:Sb X.env.scope x)(f:(x==("__debug__":Str))=false:=by decide)(g:(x==("__classdict__":Str))=false:=by decide):PE X (.Name x pos) (Aw i):=by
 intro d s n H Q I h;let⟨v,e,h⟩:=h;let⟨m,p,k⟩:=I.loc;let⟨u,r,l⟩:=k i x v o e t;let fin:EP X d n Q u s:=⟨v,H,I,r,h⟩;rcases l with ⟨b,q⟩|⟨b,c,j,a⟩
 ·rwa[wpAny_Name (wpAny_loadName_local I.ok.kind b p q fin) f]
 ·rcases b with b|b
  ·rwa[wpAny_Name (wpAny_loadName_cell I.ok.kind b j a fin) f]
  ·rwa[wpAny_Name (wpAny_loadName_free I.ok.kind b j a fin g) f]
def aw {i j pos}:PE X (.Constant (.int i) j pos) (tC (.int i)):=λ_ _ _ H _ I h=>wpAny_Constant_int ⟨.int i,H,I.tok _,⟨12⟩,h⟩
def sZ {b j pos}:PE X (.Constant (.bool b) j pos) (tC (.bl b)):=λ_ _ _ H _ I h=>Constant_bool ⟨.bl b,H,I,2,h⟩
def dm {j pos}:PE X (.Constant .none j pos) (tC .non):=λ_ _ _ H _ I h=>Constant_none ⟨.non,H,I,2,h⟩
def Sf {x j pos}:PE X (.Constant (.str x) j pos) (tC (.str x)):=λ_ _ _ H _ I h=>Calls.Constant_str ⟨.str x,H,I.tok _,⟨12⟩,h⟩
def Gl (X:Cx)(x:Str):Prop:=X.env.kindOf x=some .globalImplicit
def j3 {pos:Pos}(I:Inv X o D H s)(c:Gl X x)(b:X.mg x\u)(h:Q u s)(a:(x==("__debug__":Str))=false:=by decide):X⁻¹ X.A (eval (.Name x pos) X.env) Q E s:=Calls.Name_function_global I.ok.kind c (Calls.loadGlobal_global ([I.ok.glob]▸I.mod.glob.keeps I.bk) b h) a
def hH {pos:Pos}(I:Inv X o D H s)(f:Gl X x)(b:X.mg x=none)(c:bootBuiltins x\u)(h:Q u s)(g:x≠"__name__":=by decide)(a:(x==("__debug__":Str))=false:=by decide):X⁻¹ X.A (eval (.Name x pos) X.env) Q E s:=by let⟨i,e,d⟩:=I.mod.blt;rwa[Calls.Name_function_global I.ok.kind f (Calls.loadGlobal_builtin ([I.ok.glob]▸I.mod.glob.keeps I.bk) b ([I.ok.blt]▸e.keeps I.bk) ((d x g).trans c) h) a]
def xJ {v:V}{pos:Pos}(d:Gl X x)(b:X.mg x=none)(c:bootBuiltins x\u)(r:RelV v u)(e:x≠"__name__":=by decide)(a:(x==("__debug__":Str))=false:=by decide):PE X (.Name x pos) (tC v):=λ_ _ _ H _ I h=>hH I d b c ⟨v,H,I,r,h⟩ e a
variable {a b:Expr}{ta tb:TE}{pos:Pos}
def PC (X:Cx)(g:CmpOp)(a b:Expr)(t:TE):Prop:=
 ∀(c:List (Zs×Obj))(s:Zu)(f:St)(H:Hp)(Q:VK),Inv X c f H s->t f H Q->X⁻¹ X.A (eval a X.env) (λv e=>X⁻¹ X.A (eval b X.env) (λu d=>X⁻¹ X.A (compareOp g v u) (EP X c f Q) X.xe d) X.xe e) X.xe s
def KR (b:Expr){c:CmpOp}(h:c≠.In)(f:c≠.NotIn):behindInMarks c b=false:=by
 let d:(c==CmpOp.In)=false:=by cbv
 let e:(c==CmpOp.NotIn)=false:=by cbv
 cases b <;> simp[behindInMarks,d,e]
def tB (t:TE):TT:=λ e H Q=>t e H λx d=>∃c,x=.bl c/\Q c d
def Ax {g:CmpOp}{t:TE}(h:PC X g a b t)(f:behindInMarks g b=false:=by first|rwa[KR _ (by decide) (by decide)]|rfl):PT X (.Compare a [g] [b] pos) (tB t):=by intro e s o H Q I m;rwa[wpAny_isTrue_Compare1 (a9 (h e s o H _ I m) λv r f=>a9 f λu p i=>a9 i λc w ζ=>?_) f];let⟨x,n,k,j,l⟩:=ζ;let⟨d,rfl,q⟩:=l;ext j;rwa[alR ⟨n,k,q⟩]
def kA {t:TE}(h:PE X e t)(m:∀whole,isTrue e X.env whole=(do let v <-whole;standAt e.pos;holding [v] (truthy v)):=by intro _;rfl):PT X e (tB t):=by intro c s l H Q I j;rwa[isTrue_plain (a9 (h c s l H _ I j) λv n ζ=>?_) (m _)];let⟨x,k,g,f,i⟩:=ζ;let⟨d,rfl,q⟩:=i;ext f;rwa[alR ⟨k,g,q⟩]
variable {tA Nr:TT}{rest:Zr}
def abE (t u:TT):TT:=λ e H Q=>t e H λc d=>if c=true then u e d Q else Q false d
def tOr (t u:TT):TT:=λ e H Q=>t e H λc d=>if c=true then Q true d else u e d Q
def abF (t:TT):TT:=λ e H Q=>t e H λc d=>Q (!c) d
def tf (f:PT X a tA):PW X (.BoolOp .And [a] pos) tA:=by
 intro i d s g H Q I h;rwa[isTrue_and (a9 (f d s g H Q I h) λc j e=>?_)]
 cases c with
 |true=>exact isTrue_and_nil e
 |false=>exact e
def Hq (f:PT X a tA):PW X (.BoolOp .Or [a] pos) tA:=by
 intro i d s g H Q I h;rwa[isTrue_or (a9 (f d s g H Q I h) λc j e=>?_)]
 cases c with
 |false=>exact isTrue_or_nil e
 |true=>exact e
def vE (j:PT X a tA)(m:PW X (.BoolOp .And (b::rest) pos) Nr):PW X (.BoolOp .And (a::b::rest) pos) (abE tA Nr):=by
 intro k d s i H Q I h;rwa[isTrue_and (a9 (j d s i H _ I h) λc l ζ=>?_)];let⟨e,g,f⟩:=ζ
 cases c with
 |true=>exact m k d l i e Q g f
 |false=>rwa[e,g,f]
def Nt (j:PT X a tA)(m:PW X (.BoolOp .Or (b::rest) pos) Nr):PW X (.BoolOp .Or (a::b::rest) pos) (tOr tA Nr):=by
 intro k d s i H Q I h;rwa[isTrue_or (a9 (j d s i H _ I h) λc l ζ=>?_)];let⟨e,g,f⟩:=ζ
 cases c with
 |true=>rwa[e,g,f]
 |false=>exact m k d l i e Q g f
def Sg (f:PT X a tA):PT X (.UnaryOp .Not a pos) (abF tA):=by intro d s g H Q I h;rwa[isTrue_not (f d s g H (λc e=>Q (!c) e) I h)]
def abG (ta tb:TE):TE:=λ e H Q=>ta e H λx d=>∃c,x=.bl c/\if c=true then Q (.bl true) d else tb e d Q
def Sh {e}{t:TE}(h:PE X a t):PE X (.BoolOp e [a] pos) t:=λc s f H Q I d=>BoolOp_one (h c s f H Q I d)
def Xs (j:PE X a ta)(m:PE X (.BoolOp .Or (b::rest) pos) tb):PE X (.BoolOp .Or (a::b::rest) pos) (abG ta tb):=by
 intro d s i H Q I h;rwa[BoolOp_or (a9 (j d s i H _ I h) λv l ζ=>?_)];let⟨x,f,g,k,e⟩:=ζ;let⟨c,rfl,e⟩:=e;ext k;rwa[alR ?_]
 cases c with
 |false=>exact m d l i f Q g e
 |true=>rwa[.bl true,f,g,2,e]
end
def aB (K:Za1)(H:Hp)(a:Zs)(c:Zb):Prop:=
 Rd H a (.lst c)\/
  ∃(o:Obj)(b:Zm)(n:Nat),K.lookup a\o/\o.cls=.type "list"/\o.dict=none/\o.data=.seq b n/\b.size<=sizeLine/\Vals c b.toList
def bG (K:Za1)(H:Hp)(a:Zs)(c:Zb):Prop:=
 Rd H a (.tup c)\/
  ∃(o:Obj)(b:Zm)(n:Nat),K.lookup a\o/\o.cls=.type "tuple"/\o.data=.seq b n/\b.size<=sizeLine/\Vals c b.toList
def abH:Zt->Zc
 |.none=>some .non
 |.bool b=>some (.bl b)
 |.int i _=>some (.int i)
 |.str x _=>some (.str x)
 |.bytes b _=>some (.mY b)
 |.float b _=>some (.Ar b)
 |.ref a=>some ↑a
 |.type n=>some (.ty n)
 |_=>none
def RelV.abs {x:V}(r:RelV x u):abH u\x:=by
 cases x with
 |non=>ext r;rfl
 |bl _=>ext r;rfl
 |int _=>let⟨t,rfl⟩:=r;rfl
 |str _=>let⟨t,rfl⟩:=r;rfl
 |mY _=>let⟨t,rfl⟩:=r;rfl
 |Ar _=>let⟨t,rfl⟩:=r;rfl
 |ref _=>ext r;rfl
 |ty _=>ext r;rfl
def RelV.inj {x:V}(r:RelV x u)(a:RelV q u):x=q:=Za0 (r.abs.symm.trans a.abs)
theorem Vals.inj:∀{b ys:Zb}{a:Zk},Vals b a->Vals ys a->b=ys
 |_,_,_,.nil,.nil=>rfl
 |_,_,_,.cons r t,.cons c d=>by rw[r.inj c,Vals.inj t d]
section
variable {X:Cx}{pins:List (Zs×Obj)}{σ:St}{H:Hp}{s:Zu}{a:Zs}{xs ys:Zb}
def aB.of (h:H a\.lst xs):aB K H a xs:=.inl (.inl h)
def bG.of (h:H a\.tup xs):bG K H a xs:=.inl (.inl h)
def Inv.list (I:Inv X pins σ H s)(h:aB X.K H a xs):∃b:Zk,Vals xs b/\PlainL s.heap a b.toArray/\⇑xs<=sizeLine:=by
 rcases h with h|⟨o,b,n,c,hc,hd,d,hz,r⟩
 ·let⟨z,b,n,r,e⟩:=h.ok I.aU;rwa[b,r,⟨_,n,e,222⟩,z]
 ·erw[b.toList,r,⟨o,n,I.dE a o c,hc,hd,3⟩];let e:=⇑r;simp only[ak3]at e;ext
def Inv.tuple (I:Inv X pins σ H s)(h:bG X.K H a xs):∃b:Zk,Vals xs b/\IsTup s.heap a b.toArray/\⇑xs<=sizeLine:=by
 rcases h with h|⟨o,b,n,c,hc,d,hz,r⟩
 ·let⟨z,b,r,p⟩:=h.ok I.aU;rwa[b,r,p,z]
 ·erw[b.toList,r,⟨o,I.dE a o c,hc,n,3⟩];let e:=⇑r;simp only[ak3]at e;ext
def Inv.uJ (I:Inv X pins σ H s)(h:aB X.K H a xs)(i:aB X.K H a ys):xs=ys:=by
 let⟨c,r,⟨o,n,e,_,_,d⟩,_⟩:=I.list h;let⟨b,j,⟨l,k,g,_,_,f⟩,_⟩:=I.list i;rw[e]at g;ext g;rw[d]at f;injection f with d1 _
 have:c=b:=by simpa using ajY Array.toList d1
 subst this;rwa[r.inj j]
def Inv.Hr (I:Inv X pins σ H s)(h:bG X.K H a xs)(i:bG X.K H a ys):xs=ys:=by
 let⟨c,r,⟨o,e,_,n,d⟩,_⟩:=I.tuple h;let⟨b,j,⟨l,g,_,k,f⟩,_⟩:=I.tuple i;rw[e]at g;ext g;rw[d]at f;injection f with d1 _
 have:c=b:=by simpa using ajY Array.toList d1
 subst this;rwa[r.inj j]
end
abbrev Cx.wish (X:Cx) (E:Zt->Zu->Prop):Cx:={ X with xe:=E }
instance eI.wish {X:Cx}{K:Za1}{f:_}[h:eI X K]:eI (X.wish f) K:=⟨h.eq⟩
abbrev Cx.Ay (X:Cx):Cx:=X.wish λ_ _=>False
def Cx.Ok.wish (ok:X.Ok)(E:Zt->Zu->Prop):(X.wish E).Ok:=⟨ok.mod,ok.kind,ok.glob,ok.blt,ok.above,ok.inj,ok.has,ok.As,ok.hd,ok.frames,ok.DW,ok.Np,ok.bs,ok.uj,ok.uH,ok.xI,ok.jD,ok.vD⟩
def Cx.Ok.jE (ok:(X.wish E).Ok):X.Ok:=⟨ok.mod,ok.kind,ok.glob,ok.blt,ok.above,ok.inj,ok.has,ok.As,ok.hd,ok.frames,ok.DW,ok.Np,ok.bs,ok.uj,ok.uH,ok.xI,ok.jD,ok.vD⟩
section
variable {X:Cx}{pins:List (Zs×Obj)}{σ:St}{H:Hp}{s:Zu}{E:Zt->Zu->Prop}
def Inv.wish (I:Inv X pins σ H s)(E:Zt->Zu->Prop):Inv (X.wish E) pins σ H s:=⟨I.ok.wish E,I.os,I.bare,I.base,I.loc,I.cell,I.free,I.gY,I.pin,I.aU,I.len⟩
def Inv.jE (I:Inv (X.wish E) pins σ H s):Inv X pins σ H s:=⟨I.ok.jE,I.os,I.bare,I.base,I.loc,I.cell,I.free,I.gY,I.pin,I.aU,I.len⟩
def SP.jE {f:Flow}{c:Zu}(h:SP (X.wish E) pins G f c):SP X pins G f c:=by
 cases f with
 |next=>let⟨a,b,I,q⟩:=h;rwa[a,b,I.jE,q]
 |brk=>let⟨a,b,I,q⟩:=h;rwa[a,b,I.jE,q]
 |cont=>let⟨a,b,I,q⟩:=h;rwa[a,b,I.jE,q]
 |ret u=>let⟨v,a,b,I,r,q⟩:=h;rwa[v,a,b,I.jE,r,q]
def iO.Ay {st:List Stmt}{t:TS}(h:iO X.Ay st t):iO X st t:=λpins s σ H D I a=>akw (h pins s σ H D (I.wish _) a) (λ_ _ q=>q.jE) λ_ _ z=>False.elim z
end
section
variable {X:Cx}{st:Stmt}{rest:List Stmt}{t u:TS}{e:Expr}{te:TE}{pos:Pos}
def Xt:TS:=λD a H=>D.nx a H
def aX (t u:TS):TS:=λD a H=>t { D with nx:=u D } a H
def bC:iO X [] Xt:=λ_ _ a H _ I h=>alK ⟨a,H,I,h⟩
def ah (d:PS X st t)(c:iO X rest u):iO X (st::rest) (aX t u):=by
 intro a s k H D I h;rwa[wpAny_execs_cons (a9 (d a s k H { D with nx:=u D } I h) λf i q=>?_)]
 cases f with
 |next=>let⟨b,j,g,q⟩:=q;rwa[c a i b j D g q]
 |ret v=>exact q
 |brk=>exact q
 |cont=>exact q
def au (b:PS X st t):iO X [st] t:=by
 intro a s c H D I h;rwa[wpAny_execs_cons (a9 (b a s c H D I h) λf d q=>?_)]
 cases f with
 |next=>exact alK q
 |ret v=>exact q
 |brk=>exact q
 |cont=>exact q
def Si:TS:=λD a H=>D.bk a H
def uK:PS X (.Break pos) Si:=λ_ _ a H _ I h=>wpAny_Break ⟨a,H,I,h⟩
def Inv.quiet (I:Inv X o D H s):interactive X.env=false:=by simp[interactive,I.ok.kind]
def Xu (te:TE):TS:=λD a H=>te a H λ_ b=>D.nx a b
def aS (d:PE X e te)(g:swapsWith e none pos.line X.env=pure false:=by rfl):PS X (.Expr e pos) (Xu te):=by intro a s b H D I h;rwa[wpAny_Expr_any (a9 (d a s b H _ I h) λv k ζ=>?_) I.quiet g];let⟨x,c,i,j,f⟩:=ζ;rwa[⟨b,c,i,f⟩]
def abI (te:TE):TS:=λD a H=>te a H D.rt
def bu (d:PE X e te):PS X (.Return (some e) pos) (abI te):=by intro a s b H D I h;rwa[wpAny_Return_some (a9 (d a s b H _ I h) λv j ζ=>?_)];let⟨x,c,i,f,g⟩:=ζ;rwa[⟨x,b,c,i,f,g⟩]
def Xv:TS:=λD _ H=>D.rt .non H
def xK:PS X (.Return none pos) Xv:=λ_ _ a H _ I h=>wpAny_Return_none ⟨.non,a,H,I,2,h⟩
def abJ (c:TT)(t u:TS):TS:=λD a H=>c a H λb d=>if b=true then t D a d else u D a d
def bP {c:Expr}{a b:List Stmt}{j:TT}(p:PT X c j)(o:iO X a t)(n:iO X b u):PS X (.If c a b pos) (abJ j t u):=by
 intro f s g H D I h;rwa[wpAny_If (a9 (p f s g H _ I h) λd m ζ=>?_)];let⟨l,i,k⟩:=ζ
 cases d with
 |true=>exact o f m g l D i k
 |false=>exact n f m g l D i k
def Sj:TS:=λ_ _ _=>False
def lP:PS X st Sj:=λ_ _ _ _ _ _ h=>h.elim
end
abbrev TG:=V->St->Hp->(St->Hp->Prop)->Prop
abbrev DX:=Zb->St->Hp->(St->Hp->Prop)->Prop
def PG (X:Cx)(target:Expr)(t:TG):Prop:=
 ∀(a:List (Zs×Obj))(s:Zu)(d:St)(H:Hp)(v:V)(u:Zt)(Q:St->Hp->Prop),Inv X a d H s->RelV v u->t v d H Q->X⁻¹ X.A (assign target X.env u) (λ_ e=>∃ b c,Inv X a b c e/\Q b c) X.xe s
def Nu (X:Cx)(h:Zr)(t:DX):Prop:=
 ∀(a:List (Zs×Obj))(s:Zu)(f:St)(H:Hp)(d:Zb)(c:Zk)(Q:St->Hp->Prop),Inv X a f H s->Vals d c->t d f H Q->X⁻¹ X.A (assignInOrder ((assignEach h X.env).map (·.2)) c) (λ_ g=>∃ b e,Inv X a b e g/\Q b e) X.xe s
abbrev KS:=V->V->V->Hp->(Hp->Prop)->Prop
def Sl (X:Cx)(t:KS):Prop:=
 ∀(a:List (Zs×Obj))(s:Zu)(e:St)(H:Hp)(o i v:V)(d b u:Zt)(Q:Hp->Prop),Inv X a e H s->RelV o d->RelV i b->RelV v u->t o i v H Q->X⁻¹ X.A (setItem d b u) (λ_ f=>∃c,Inv X a e c f/\Q c) X.xe s
section
variable {X:Cx}{pos:Pos}
def dJ (i:Nat):TG:=λv a H Q=>Q (a.set i (some v)) H
def DY (d:X.N.Nodup)(e:X.N[i]?\x)(f:Loc X.env.scope x)(b:X.fn x=true\/X.env.scope.names.lookup x=some .local:=by trivial):PG X (.Name x pos) (dJ i):=by intro a s j H v u Q I r h;rwa[wpAny_assign_Name (uI I d e f r (λg c=>⟨_,H,c,h⟩) b)]
def abK:DX:=λb a H Q=>b=[]/\Q a H
inductive Nv (t:TG)(u:DX)(vs:Zb)(σ:St)(H:Hp)(Q:(St->Hp->Prop)):Prop
 |mk (v:V)(r:Zb):vs=v::r->(t v σ H λ eK H'=>u r eK H' Q)->Nv t u vs σ H Q
def ie:Nu X [] abK:=by intro a s b H d c Q I r h;let⟨e,h⟩:=h;subst e;rwa[assignInOrder_nil ⟨b,H,I,h⟩]
def cy {t:TG}{u:DX}(g:PG X e t)(c:Nu X C u)(l:(assignEach (e::C) X.env).map (·.2)=assign e X.env::(assignEach C X.env).map (·.2):=by rfl):Nu X (e::C) (Nv t u):=by
 intro a s m H o q Q I r h;let⟨v,p,n,h⟩:=h;subst n
 cases r with
 |cons r i=>rw[l];rwa[assignInOrder_cons (a9 (g a s m H _ _ _ I r h) λ_ k ζ=>?_)];let⟨b,j,d,f⟩:=ζ;rwa[c a k b j _ _ Q d i f]
inductive Sn (K:Za1)(n:Nat)(t:DX)(v:V)(σ:St)(H:Hp)(Q:(St->Hp->Prop)):Prop
 |mk (a:Zs)(xs:Zb):v=↑a->bG K H a xs->⇑xs=n->t xs σ H Q->Sn K n t v σ H Q
def jF [i:eI X K]{d:Zr}{k:Nat}{t:DX}{n:Nat}(D:X.calm=true)(h:Nu X d t)(A:⇑(assignEach d X.env)=n:=by rfl)(f:(assignEach d X.env).findIdx? (·.1)=none:=by rfl):PG X (.Tuple d k pos) (Sn K n t):=by
 cases i.eq;intro c s j H v u Q I r g;let⟨a,z,C,q,y,g⟩:=g;subst C;ext r;let⟨w,x,l,F⟩:=I.tuple q;rwa[assign_Tuple_tuple (I.ok.hd D) l (by simp[A,<-y,⇑x]) f λp B=>?_]
 let m:Inv X c j H (s<*p):=I.kept (t':=s.toks) λb o e=>B b o (ajH (ajy e)) e
 rwa[h c _ j H z _ Q m ∅ g]
def abL (to b:TE)(t:KS):TG:=λv a H Q=>to a H λo d=>b a d λi c=>t o i v c λe=>Q a e
def oD {i:Expr}{to:TE}{t:KS}(q:PE X e to)(B:PE X i r)(A:Sl X t)(G:∀v,assign (.Subscript e i pos) X.env v=(do
  let c <-holding [v] (eval e X.env)
  let d <-holding [v,c] (eval i X.env)
  standAt pos
  holding [v,c,d] (setItem c d v)
  release [v,c,d] []):=by intro _;rfl):PG X (.Subscript e i pos) (abL to r t):=by intro b s f H v u Q I a h;rwa[ai2 (aku (a9 (q b s f H _ I h) λc z ζ=>?_))];let⟨x,w,j,g,n⟩:=ζ;rwa[ai2 (aku (a9 (B b z f w _ j n) λd m ζ=>?_))];let⟨y,D,p,C,E⟩:=ζ;rwa[ai2 (ame (ai2 (aku (a9 (A b m f D x y v c d u _ p g C a E) λ_ F ζ=>?_))))];let⟨k,l,o⟩:=ζ;rwa[wpAny_release ⟨f,k,l,o⟩]
def Az (b:TE)(g:TG):TS:=λD a H=>b a H λx c=>g x a c D.nx
def lQ {a:Expr}{g:TG}(p:PE X a r)(f:PG X e g)(o:swapsWithSole [e] a pos.line X.env=pure false:=by rfl)(l:swappedStores [e] a X.env=pure none:=by rfl)(k:(assignEach [e] X.env).map (·.2)=[assign e X.env]:=by rfl):PS X (.Assign [e] a pos) (Az r g):=by intro b s c H D I h;rwa[wpAny_Assign_stores (a9 (p b s c H _ I h) λv n ζ=>?_) o l];let⟨x,m,i,d,j⟩:=ζ;rw[k];rwa[a9 (f b n c m x v _ i d j) λ_ t q=>q]
def Sq {pos':Pos}(o:X.N.Nodup)(l:X.N[i]?\x)(n:Loc X.env.scope x)(p:PE X e r)(k:swapsWith e (some (.Name x pos')) pos.line X.env=pure false:=by rfl)(g:X.fn x=true\/X.env.scope.names.lookup x=some .local:=by trivial):
 PS X (.Assign [.Name x pos'] e pos) (Az r (dJ i)):=by intro a s m H D I h;rwa[wpAny_Assign_Name (a9 (p a s m H _ I h) λv t ζ=>?_) k];let⟨y,j,c,b,d⟩:=ζ;rwa[uI c o l n b (λq f=>⟨_,j,f,d⟩) g]
inductive ipI (f:Int->Int->Int)(x y:V)(H:Hp)(Q:VK):Prop
 |mk (i j:Int):x=.int i->y=.int j->Q (.int (f i j)) H->ipI f x y H Q
end
section
variable {X:Cx}{pos:Pos}
def Sr (c:TT)(h:TS):TS:=λD a H=>∃W:Nat->St->Hp->Prop,(∃m,W m a H)/\∀m a H,W m a H->c a H λb e=>if b=true then ∃N:St->Hp->Prop,(∀ d g,N d g->∃f,f<m/\W f d g)/\h { D with nx:=N,ct:=N,bk:=D.nx } a e else D.nx a e
def fJ {body:List Stmt}{r:TT}{u:TS}(w:PassesOwn (model X.prog X.w) X.A X.env X.xe)(P:PT X e r)(E:iO X body u):PS X (.While e body [] pos) (Sr r u):=by
 intro c s O H D I h;let⟨W,⟨J,L⟩,turn⟩:=h;rwa[wpAny_While (codeAny_whileLoop (λn B=>∃ i z,Inv X c i z B/\W n i z) ?_ J ⟨O,H,I,L⟩)];rintro n M ⟨d,x,F,C⟩;rwa[alk w (a9 (P c M d x _ F (turn n d x C)) λb G ζ=>?_)];let⟨y,t,k⟩:=ζ
 cases b with
 |true=>
  let⟨N,A,k⟩:=k;rwa[alk w (a9 (E c G d y _ t k) λf Q j=>?_)]
  cases f with
  |next=>let⟨a,g,o,m⟩:=j;let⟨p,q,l⟩:=A a g m;rwa[p,q,a,g,o,l]
  |cont=>let⟨a,g,o,m⟩:=j;let⟨p,q,l⟩:=A a g m;rwa[p,q,a,g,o,l]
  |brk=>exact j
  |ret v=>exact j
 |false=>rwa[alK ⟨d,y,t,k⟩]
end
structure It where
 go:Nat->Hp->Prop
 ro:Nat->Hp->V->Hp->Prop
 stop:Nat->Hp->Prop
def pQ (X:Cx)(a:List (Zs×Obj))(H:Hp)(b:Zs):Prop:=H b=none/\b≠X.env.locals/\b∉X.fs/\(b∈X.ex\/X.eM.heap.objs.size<=b)/\(∀x c,X.env.cells.lookup x\c->c≠b)/\∀p∈X.pn++a,p.1≠b
def Inv.AB (a:Inv X o D H s)(d:↥s<=b)(g:I b=none):pQ X o I b:=by
 rwa[⟨g,akE (ajF a.lt d),a.Sd d,.inr (ajl a.sz d),λx c e z=>?_,λp f z=>?_⟩]
 ·let⟨v,q⟩:=a.cell x c e;rwa[absurd (ajF q.lt ([z]▸d)) (akP _)]
 ·rwa[absurd (ajF (ajy (a.pin p f).1) ([z]▸d)) (akP _)]
structure Turn (P:Program)(w:World)(K:Za1)(tg:Expr)(J:It)(fp:Zn)(it:Zs)(tn:Nat->Heap->Prop):Prop where
 mem:it∈fp
 obj:∀i h,tn i h->∀b∈fp,∃o,h.get? b\o/\∀v,o.data≠.cell v
 keep:∀i h h',tn i h->(∀b∈fp,∀o,h.get? b\o->h'.get? b\o)->tn i h'
 item:∀(X:Cx),X.prog=P->X.w=w->X.K=K->X.calm=true->∀(i:Nat)(pins:List (Zs×Obj))(s:Zu)(σ:St)(H:Hp)(E:Zt->Zu->Prop),Inv X pins σ H s->(∀b∈fp,pQ X pins H b)->tn i s.heap->J.go i H->
  (P<|>w) X.A (pyNext ↑it) (λr s1=>∃u,r\u/\(P<|>w) X.A (letOwnedTupleGo tg ↑it u) (λ_ s2=>∃x H',Inv X pins σ H' s2/\RelV x u/\J.ro i H x H'/\tn (i+ 1) s2.heap/\∀b∈fp,H' b=none) E s1) E s
 done:∀(X:Cx),X.prog=P->X.w=w->X.K=K->X.calm=true->∀(i:Nat)(pins:List (Zs×Obj))(s:Zu)(σ:St)(H:Hp)(E:Zt->Zu->Prop),Inv X pins σ H s->(∀b∈fp,pQ X pins H b)->tn i s.heap->J.stop i H->(P<|>w) X.A (pyNext ↑it) (λr s1=>r=none/\Inv X pins σ H s1) E s
 self:∀(A:Around)(i:Nat)(s:Zu)(Q E:Zt->Zu->Prop),tn i s.heap->Q ↑it s->(P<|>w) A (pyIter ↑it) Q E s
abbrev TI:=St->Hp->(It->Hp->Prop)->Prop
def Nw (X:Cx)(a:List (Zs×Obj))(h:St)(g:Expr)(R:It->Hp->Prop)(c:Zt)(s2:Zu):Prop:=∃(it:Zs)(f:Zn)(e:Nat->Heap->Prop)(J:It)(d:Hp),c=↑it/\Inv X a h d s2/\Turn X.prog X.w X.K g J f it e/\e 0 s2.heap/\(∀b∈f,pQ X a d b)/\R J d
def PI (X:Cx)(d iter:Expr)(c:TI):Prop:=
 ∀(a:List (Zs×Obj))(s:Zu)(b:St)(H:Hp)(R:It->Hp->Prop),Inv X a b H s->c b H R->X⁻¹ X.A (eval iter X.env) (λv e=>X⁻¹ X.A (pyIter v) (Nw X a b d R) X.xe e) X.xe s
abbrev Nx:List String:=["enumerate","zip","dict_itemiterator","dict_reverseitemiterator","odict_iterator","itertools.zip_longest","itertools.pairwise"]
def Ny {M:Model}{it:Zs}{o:Obj}{n:String}{b:Zm}(d:s•it\o)(f:o.cls=.type n)(c:o.data=.fields b)(g:Nx.contains n=false)(a:U () s):wpAny M A (letOwnedTupleGo e ↑it u) U E s:=by
 cases e <;> first
  |rwa[ajb a]
  |(cases u <;> first
   |rwa[ajb a]
   |(rwa[ai2 (wpAny_load d ?_)]
     rw[f,c];show wpAny M A (if (Nx.contains n && b[0]?==some (rawInt _))=true then _ else _) U E s;rw[ajk (by cbv)];rwa[ajb a]))
def DZ (Q:Hp->Zb->Prop):It:=⟨λi H=>∃xs x,Q H xs/\xs[i]?\x,λi H x a=>a=H/\∀xs,Q H xs->xs[i]?\x,λi H=>∃xs,Q H xs/\⇑xs=i⟩
abbrev AF (K:Za1) (a:Zs):It:=DZ (λH=>aB K H a)
abbrev Hs (K:Za1) (a:Zs):It:=DZ (λH=>bG K H a)
def yM (lo:Int)(n:Nat):It:=⟨λi _=>i<n,λi H x a=>a=H/\x=.int (lo+ i),λi _=>n<=i⟩
def Inv.j4 {fp:Zn}{t':Nat}(I:Inv X o D H s)(k:∀b u,b∉fp->s•b\u->h.get? b\u)(d:∀b∈fp,pQ X o H b):Inv X o D H { s with heap:=h,toks:=t' }:=by
 let g:∀b u,H b\u->b∉fp:=λb u e z=>by rw[(d b z).1]at e;ext e
 refine I.step (g':=s.gens) (d':=s.drawn) (ch:=fp) (λb f=>⟨(d b f).2.2.2.1,(d b f).2.1,(d b f).2.2.2.2.1,(d b f).2.2.2.2.2⟩) (λb a _ _ hc e _=>k b a hc e) (λb a _ _ hc e _=>⟨a.slots,k b a hc e⟩)
  (λb a _ e n=>n) (λb a hc e=>⟨a,k b a hc e⟩) (λb j e=>e) (λb a u e=>e) (λb w e=>⟨#[],by rw[e];simp⟩) (λm p=>?_) (λb u e=>?_) I.bare
 ·let⟨a,l,t,i,r⟩:=p;rwa[a,l,t,k _ a (λz=>(d _ z).2.1 rfl) i,r]
 ·rwa[(I.aU b u e).gX (λc v hc q=>k c v ?_ q) (λc q=>q) λc j q=>q]
  rcases hc with z|z
  ·rw[z];rwa[g b u e]
  ·rwa[g c _ z]
namespace Et
variable {prog:Program}{w:World}{A:Around}{E:Zt->Zu->Prop}{s:Zu}
theorem item {it t:Zs}{items:Zm}{x:Zt}(hit:s.heap.IsTupleIter it t i)(e:s.heap.IsTuple t items)(j:items[i]?\x)(f:∀g,g.IsTupleIter it t (i+ 1)->Heap.SameBut it s.heap g->Q x (s<*g)):(prog<|>w) A (Builtin.SmallTypes.nextOf ↑it) Q E s:=by let⟨o,b,h,a⟩:=id hit;let⟨l,d,_,k,c⟩:=e;rwa[ai2 (akh (name:=Str.ofString "__next__") hit.typeIs ak7 (akt ak7 hit.typeIs F.entry_tuple_iterator_next ?_ (F.args_tuple_iterator_next_1 _)))];show wpAny _ _ (field ↑it 0 >>=_) _ _ s;rwa[ai2 (aj6 b a (x:=↑t) rfl ?_)];rw[ajk (show ¬((Value.ref t==Value.none)=true) by cbv)];rwa[ai2 (aj6 b a (x:=.int i 0) rfl ?_)];rwa[ai2 (wpAny_seqItems d c ?_)];simp only[ajG,j];rwa[ai2 (ale b a (by simp) (ajb ⟨x,2,ajb (f _ ⟨_,aj7 _ b (ak9 (akI a _)),(Obj.cls_mapFields ..).trans h,by rw[akI a];simp[rawInt]⟩ (akC ..))⟩))]
theorem fin {it t:Zs}{items:Zm}(h:A.handled=none)(hit:s.heap.IsTupleIter it t i)(j:s.heap.IsTuple t items)(l:items[i]?=none)(k:∀g e,Heap.ExtBut it s.heap g->(∃o,g.get? e\o/\o.cls=.type "StopIteration")->E ↑e (s<*g)):(prog<|>w) A (Builtin.SmallTypes.nextOf ↑it) Q E s:=by
 let⟨o,d,p,b⟩:=id hit;let⟨q,c,_,n,f⟩:=j;rwa[ai2 (akh (name:=Str.ofString "__next__") hit.typeIs ak7 (akt ak7 hit.typeIs F.entry_tuple_iterator_next ?_ (F.args_tuple_iterator_next_1 _)))];show wpAny _ _ (field ↑it 0 >>=_) _ _ s;rwa[ai2 (aj6 d b (x:=↑t) rfl ?_)];rw[ajk (show ¬((Value.ref t==Value.none)=true) by cbv)];rwa[ai2 (aj6 d b (x:=.int i 0) rfl ?_)];rwa[ai2 (wpAny_seqItems c f ?_)];simp only[ajG,l];rwa[ai2 (wpAny_rule (ai2 (ale d b (by simp) ?_)))];rwa[ai2 ?_];rwa[ai2 (m:=firstArgMember _ _) (wpAny_of_eq (a:=Value.none) (by first|rfl|(simp only[firstArgMember];rfl)) ?_)];rwa[ajW ?_ (by size_fits)];rwa[ai2 (wpAny_handled ?_)];first|rw[show A.in1.handled=none from h]|rw[h]
 rwa[ai2 (ajb (wpAny_throw ?_))];rwa[k _ _ (((akC ..).extBut.push _).push _) ⟨_,ajv _ rfl,2⟩]
def draws (n:A.handled=none)(it l:Zs)(a:l≠it)(items:Zm):Draws prog w A it [it,l] items.size (λi v=>items[i]?\v) (λi h=>h.IsTupleIter it l i/\h.IsTuple l items) where
 live:=λ_ _ st=>let ⟨o,b,_⟩:=st.1;⟨o,b⟩
 frame:=λ_ _ _ st c=>⟨st.1.at λo e=>c it (by simp) o e,by let⟨o,b,r⟩:=st.2;rwa[o,c l (by simp) o b,r]⟩
 item:=λi s Q E d st j=>by
  rwa[item st.1 st.2 (x:=items[i]) (by simp[d]) λg k f=>?_]
  rwa[j _ g s.toks (by simp[d]) ⟨k,st.2.extBut f.extBut a⟩ f]
 done:=λs Q E st m=>fin n st.1 st.2 (by simp) m
end Et
def gN {o u:Obj}(c:h.get? a\o)(d:h.get? b\u)(e:o.cls≠u.cls):a≠b:=λz=>by cbv
structure Ht (K:Za1)(Q:Hp->Zb->Prop)(a it:Zs)(tn:Nat->Heap->Prop):Prop where
 ob:∀i h,tn i h->∃o n vs,h.get? it\o/\o.cls=.type n/\o.data=.fields vs/\Nx.contains n=false
 kp:∀i h h',tn i h->(∀o,h.get? it\o->h'.get? it\o)->tn i h'
 dr:∀{X:Cx}{pins:List (Zs×Obj)}{σ:St}{H:Hp}{s:Zu}{i:Nat}{xs:Zb},X.K=K->X.calm=true->Inv X pins σ H s->Q H xs->tn i s.heap->
  (∀ys,Q H ys->ys=xs)/\∃(its:Zk)(oa:Obj)(St:Nat->Heap->Prop),Vals xs its/\s•a\oa/\oa.cls≠.type "enumerate"/\Draws X.prog X.w X.A.in1 it [it,a] its.toArray.size (λi v=>its.toArray[i]?\v) St/\Walks X.prog X.w X.A it [it,a] [it] its.toArray.size (λi v=>its.toArray[i]?\v) St/\St i s.heap/\∀i h,St i h->tn i h
def pR (a it:Zs):Ht K (λH=>aB K H a) a it (λi h=>h.IsListIter it a i) where
 ob:=λi h ζ=>by let⟨o,e,c,d⟩:=ζ;rwa[⟨o,11,e,c,d,4⟩]
 kp:=λi h v st k=>st.at k
 dr:=λ{X g B H s i z} m j I q st=>by subst m;let⟨b,r,p,_⟩:=I.list q;let p:=p.isList;let⟨u,f,t,_⟩:=id p;let⟨w,l,x,_⟩:=id st;let n:=gN f l (by cbv);rwa[λys y=>I.uJ y q,b,u,_,r,f,by rw[t];decide,Draws.list (A:=X.A.in1) (I.ok.hd j) it a n _,.list (I.ok.hd j) it a n _,⟨st,p⟩,λ_ _ y=>y.1]
def Qk (a it:Zs):Ht K (λH=>bG K H a) a it (λi h=>h.IsTupleIter it a i) where
 ob:=λi h ζ=>by let⟨o,e,c,d⟩:=ζ;rwa[⟨o,11,e,c,d,4⟩]
 kp:=λi h v st k=>st.at k
 dr:=λ{X g B H s i z} m j I q st=>by subst m;let⟨b,r,p,_⟩:=I.tuple q;let⟨u,f,t,_⟩:=id p;let⟨w,l,x,_⟩:=id st;let n:=gN f l (by cbv);rwa[λys y=>I.Hr y q,b,u,_,r,f,by rw[t];decide,Et.draws (A:=X.A.in1) (I.ok.hd j) it a n _,.tuple (I.ok.hd j) it a n _,⟨st,p⟩,λ_ _ y=>y.1]
def Hu {J:It}{it:Zs}{j:Nat->Heap->Prop}(S:∀i h,j i h->∃o n F,h.get? it\o/\o.cls=.type n/\o.data=.fields F/\Nx.contains n=false)(kp:∀i h g,j i h->(∀o,h.get? it\o->g.get? it\o)->j i g)(wk:∀(X:Cx) (f:List (Zs×Obj)) (t:St) (H:Hp) (s:Zu) (i:Nat),X.K=K->X.calm=true->Inv X f t H s->j i s.heap->J.go i H\/J.stop i H->∃C n u St,Walks X.prog X.w X.A it C [it] n u St/\St i s.heap/\(∀i h,St i h->j i h)/\(J.go i H->i<n/\∀v,u i v->∃x,RelV x v/\J.ro i H x H)/\(J.stop i H->i=n))(sf:∀(A:Around) (i:Nat) (s:Zu) (Q:Zt->Zu->Prop) (E:Zt->Zu->Prop),j i s.heap->Q ↑it s->(P<|>w) A (pyIter ↑it) Q E s):Turn P w K e J [it] it j where
 mem:=by simp
 obj:=λi h st b D=>by let⟨o,n,F,a,_,d,_⟩:=S i h st;rw[ai9.mp D];rwa[o,a,by cbv]
 keep:=λi h g st k=>kp i h g st (k it (by simp))
 item:=by
  intro X N M G O i f s t H E I z st l;subst N M;let⟨C,n,u,St,W,L,B,q,_⟩:=wk X f t H s i G O I st (.inl l);let⟨T,q⟩:=q l;rwa[W.item i s _ _ T L λv g R V p k=>?_]
  let⟨o,m,F,a,c,d,U⟩:=S^B^p;let⟨x,r,y⟩:=q v V;rwa[v,2,Ny (s:={ s with heap:=g,toks:=R }) a c d U ⟨x,H,I.j4 k z,r,y,B^p,λb D=>(z b D).1⟩]
 done:=by intro X N M G O i f s t H E I z st l;subst N M;let⟨C,n,u,St,W,L,B,_,q⟩:=wk X f t H s i G O I st (.inr l);rwa[W.done s _ _ (q l ▸ L) λg R k=>⟨2,I.j4 k z⟩]
 self:=sf
def AG {Q:Hp->Zb->Prop}{it:Zs}{d:Nat->Heap->Prop}(S:Ht K Q a it d)(sf:∀(A:Around) (i:Nat) (s:Zu) (Q:Zt->Zu->Prop) (E:Zt->Zu->Prop),d i s.heap->Q ↑it s->(P<|>w) A (pyIter ↑it) Q E s):Turn P w K e (DZ Q) [it] it d:=
 Hu S.ob S.kp (λX j C H s i n r I st h=>by
  obtain⟨b,q⟩:∃b,Q H b:=by rcases h with ⟨b,_,q,_⟩|⟨b,q,_⟩ <;> rwa[⟨b,q⟩]
  let⟨inj,m,D,St,f,_,_,_,W,o,k⟩:=S.dr n r I q st;let t:=⇑f;rwa[⟨1111,W,o,k,λg=>?_,λg=>?_⟩]
  ·let⟨ys,x,y,c⟩:=g;rw[inj ys y]at c;let⟨u,B,F⟩:=f.get c;rwa[⟨by simp;cbv,λv p=>⟨x,52,λl z=>[inj l z]▸c⟩⟩];simp at p
   cbv
  ·let⟨ys,y,c⟩:=g;rw[inj ys y]at c;simp;omega) sf
def Hv (a it:Zs):Turn P w K e (AF K a) [it] it (λi h=>h.IsListIter it a i):=AG (pR a it) λ_ _ _ _ _ st h=>wpAny_pyIter_listiter st h
def FI (a it:Zs):Turn P w K e (Hs K a) [it] it (λi h=>h.IsTupleIter it a i):=AG (Qk a it) λ_ _ _ _ _ st h=>wpAny_pyIter_tupleiter st h
def FJ (it:Zs)(lo:Int)(n:Nat):Turn P w K e (yM lo n) [it] it (λi h=>IsRangeIter h it (lo+ (i:Nat)* 1) ((n:Int) - (i:Nat)) 1) where
 mem:=by simp
 obj:=λi h st b f=>by cbv
 keep:=λi h l st k=>k it (by simp) _ st
 item:=by
  intro X u q p m i d s A H E I g st j;subst u q p;let W:=Walks.range (prog:=X.prog) (w:=X.w) (I.ok.hd m) it lo 1 n;rwa[W.item i s _ _ j st λv l x B c y=>?_]
  let⟨t,rfl⟩:=B;rwa[⟨12,Ny (s:={ s with heap:=l,toks:=x }) (n:="range_iterator") c rfl rfl ⋯ ⟨.int (lo+ i),H,I.j4 y g,⟨t,5⟩,⟨22⟩,c,λb f=>(g b f).1⟩⟩]
  cbv
 done:=by intro X u q p m i d s A H E I g st j;rwa[wpAny_pyNext_range_end (I.ok.hd m) st (by have:n<=i:=j;omega) λl z=>⟨2,I.j4 (t':=s.toks) (λb o f a=>z b o (by simpa using f) a) g⟩]
 self:=λ_ _ _ _ _ st h=>wpAny_pyIter_rangeiter st h
section
variable {X:Cx}{tg:Expr}
def Xw (K:Za1)(tl:TE):TI:=λ d H R=>tl d H λx b=>∃a,x=↑a/\(∃c,aB K b a c)/\R (AF K a) b
def abM (K:Za1)(tl:TE):TI:=λ d H R=>tl d H λx b=>∃a,x=↑a/\(∃c,bG K b a c)/\R (Hs K a) b
def AH {R:It->Hp->Prop}{J:It}{c:Nat->Heap->Prop}{a:Obj}{t:Nat}(I:Inv X o D H s)(T:Turn X.prog X.w X.K tg J [↥s] ↥s c)(d:c 0 (s.heap.push a))(q:R J H):
 Nw X o D tg R ↑↥s { s with heap:=s.heap.push a,toks:=t }:=⟨1111,H,2,I.kept λb a e=>ai7 _ e,T,d,λb f=>by rw[ai9.mp f];rwa[I.AB (aja _) (I.aU.fresh (aja _))],q⟩
def cN [c:eI X K]{l:Expr}{tl:TE}(j:PE X l tl):PI X tg l (Xw K tl):=by
 cases c.eq;intro b s k H R I h;rwa[a9 (j b s k H _ I h) λv t ζ=>?_];let⟨x,o,d,f,a,e,⟨r,g⟩,q⟩:=ζ
 subst e;ext f;let⟨i,m,p,n⟩:=d.list g;rwa[alS p.isList (AH d (Hv a _) ⟨_,ajv _ rfl,22⟩ q)]
def oE [g:eI X K]{l:Expr}{tl:TE}(r:PE X l tl):PI X tg l (abM K tl):=by
 cases g.eq;intro c s t H R I h;rwa[a9 (r c s t H _ I h) λv s1 ζ=>?_];let⟨x,n,d,i,m⟩:=ζ
 let⟨a,e,⟨z,k⟩,q⟩:=m;subst e;ext i;let⟨f,w,p,y⟩:=d.tuple k;rwa[wpAny_pyIter_tuple (show s1.heap.IsTuple a f.toArray from p) ?_];rwa[⟨↥s1,[↥s1],11,n,2,d.kept (t':=s1.toks) λb o e=>ai7 _ e,FI a _,⟨_,ajv _ rfl,22⟩,λb j=>?_,q⟩];let e:b=↥s1:=by simpa using j
 subst e;rwa[d.AB (aja _) (d.aU.fresh (aja _))]
def AI {R:It->Hp->Prop}{lo:Int}{t u v:Tok}(I:Inv X o D H s)(f: -(2 ^ 62)<=lo)(c:lo<2 ^ 62)(h: -(2 ^ 62)<=z)(d:z<2 ^ 62)(q:R (yM lo (z - lo).toNat) H):X⁻¹ X.A (pyIter ↑↥s) (Nw X o D tg R) E { s with heap:=s.heap.push ("range">>>.fields #[.int lo t,.int z u,.int 1 v]),toks:=n }:=by
 rwa[wpAny_pyIter_range (IsRange.new ..) (small_one f c h d) (AH (s:={ s with heap:=s.heap.push _,toks:=n }) (I.kept λb a e=>ai7 _ e) (FJ _ lo (z - lo).toNat) ?_ q)];let i:lo+ ((0:Nat):Int)* 1=lo:=by simp
 let g:(((z - lo).toNat:Nat):Int) - ((0:Nat):Int)=Builtin.Range.rangeSize lo z 1:=by rw[rangeSize_one];split <;> ext
 rw[i,g];rwa[ajv _ rfl]
def Xx (c:TA):TI:=λ d H R=>c d H λa b=>∃j:Int,a=[.int j]/\-(2 ^ 62)<=j/\j<2 ^ 62/\R (yM 0 j.toNat) b
def Xy (c:TA):TI:=λ d H R=>c d H λa b=>∃i j:Int,a=[.int i,.int j]/\(-(2 ^ 62)<=i/\i<2 ^ 62/\-(2 ^ 62)<=j/\j<2 ^ 62)/\R (yM i (j - i).toNat) b
def jj {d:TA}{pos:Pos}(g:Gl X "range")(n:X.mg "range"=none)(o:PA X [e] d)(l:starEach [e] X.env=[(false,eval e X.env)]:=by rfl):PI X tg (.Call (.Name "range" p) [e] [] pos) (Xx d):=by
 intro a s m H R I h;rwa[Call_ (hH I g n boot_range (ake (a9 (o pos a s m H _ I h) λy x ζ=>?_) l rfl))];let⟨v,w,i,f,c⟩:=ζ;let⟨j,b,c,u,q⟩:=c;subst b
 cases f with
 |cons r k=>ext k;let⟨t,rfl⟩:=r;rwa[call_range_1 (AI i ∅ ∅ c u (by simpa using q))]
def kB {b:Expr}{k:TA}{pos:Pos}(n:Gl X "range")(y:X.mg "range"=none)(z:PA X [e,b] k)(w:starEach [e,b] X.env=[(false,eval e X.env),(false,eval b X.env)]:=by rfl)(d:starEach [b] X.env=[(false,eval b X.env)]:=by rfl):
 PI X tg (.Call (.Name "range" p) [e,b] [] pos) (Xy k):=by
 intro a s x H R I h;rwa[Call_ (hH I n y boot_range (ake (a9 (z pos a s x H _ I h) λF E ζ=>?_) (by rw[w,d]) (by rw[d];rfl)))];let⟨C,D,o,m,f⟩:=ζ;let⟨i,j,c,⟨f,A,u,v⟩,q⟩:=f;subst c
 cases m with
 |cons r g=>
  cases g with
  |cons l g=>ext g;let⟨t,rfl⟩:=r;let⟨B,rfl⟩:=l;rwa[call_range_2 (AI o f A u v q)]
abbrev rz (J:It) (g:TG) (tb:TS) (D:Ends) (σ:St) (H:Hp):Prop:=∃W:Nat->Nat->St->Hp->Prop,(∃m,W 0 m σ H)/\∀i m σ H,W i m σ H->
 (J.stop i H/\D.nx σ H)\/(J.go i H/\∃N:St->Hp->Prop,(∀ eK H',N eK H'->∃m',m'<m/\W (i+ 1) m' eK H')/\∀x H',J.ro i H x H'->g x σ H' λ σ2 H2=>tb { D with nx:=N,ct:=N,bk:=D.nx } σ2 H2)
def abN (c:TI)(g:TG)(b:TS):TS:=λD a H=>c a H λJ d=>rz J g b D a d
def vF (a:Zn)(h:Heap):List (Zs×Obj):=a.filterMap λb=>(h.get? b).map λo=>(b,o)
def ig {o:Obj}(a:b∈F)(e:h.get? b\o):(b,o)∈vF F h:=List.mem_filterMap.mpr ⟨b,a,by rw[e];rfl⟩
def Hw {p:Zs×Obj}(a:p∈vF F h):p.1∈F/\h.get? p.1\p.2:=by
 let⟨b,c,e⟩:=List.mem_filterMap.mp a
 cases q:h.get? b with
 |none=>rw[q]at e;ext e
 |some o=>cbv
def Inv.pinned (I:Inv X o D H s)(d:∀b∈F,pQ X o H b)(h:∀b∈F,∃a,s•b\a/\∀v,a.data≠.cell v):Inv X (o++vF F s.heap) D H s:=
 I.oC λp c=>(ajh.mp c).elim (λz=>I.pin p (ajf _ z)) λz=>by
  let⟨f,e⟩:=Hw z;let⟨i,f1,g,_⟩:=d p.1 f
  cbv
def Inv.uL {pl:List (Zs×Obj)}(I:Inv X (o++pl) D H s):Inv X o D H s:=I.oC λp a=>I.pin p (ajf _ (ajx _ a))
def b8 {iter:Expr}{body:List Stmt}{R:TI}{g:TG}{Y:TS}{pos:Pos}(E:PassesOwn (model X.prog X.w) X.A X.env X.xe)(V:X.calm=true)(hi:PI X tg iter R)(hg:PG X tg g)(k:iO X body Y)(hs:∀x,foldedSetIterable iter X.env x=pure x:=by intro _;rfl):PS X (.For tg iter body [] pos) (abN R g Y):=by
 intro c s σ H D I h;rwa[wpAny_For (a9 (hi c s σ H _ I h) λv s1 h1=>a9 h1 λitv s2 h2=>?_) hs];let⟨it,A,tn,J,H2,e,I2,T,O,U,W,⟨m0,w0⟩,turn⟩:=h2;subst e
 let stat:∀{t:Hp},(∀b∈A,t b=none)->∀b∈A,pQ X c t b:=λhn b k=>⟨hn b k,(U b k).2⟩
 rwa[codeAny_forLoop_any (λn s'=>∃i q t,Inv X c q t s'/\tn i s'.heap/\(∀b∈A,t b=none)/\W i n q t) ?_ m0 ⟨(0),σ,H2,I2,O,λb k=>(U b k).1,w0⟩];rintro n s3 ⟨i,j,F,Z,B,C,w3⟩;rcases turn i n j F w3 with ⟨stop,qn⟩|⟨go,N,hN,step⟩
 ·rwa[alk E (a9 (T.done X rfl rfl rfl V i c s3 j F X.xe Z (stat C) B stop) λr s4 ζ=>?_)];let⟨P,I4⟩:=ζ;subst P;rwa[alK ⟨j,F,I4,qn⟩]
 ·rwa[alk E (a9 (T.item X rfl rfl rfl V i c s3 j F X.xe Z (stat C) B go) λr s4 ζ=>?_)];let⟨u,P,h4⟩:=ζ;subst P;rwa[alk E (a9 h4 λ_ s5 ζ=>?_)];let⟨x,S,I5,r5,y5,y,L⟩:=ζ;let Q:=I5.pinned (stat L) (T.obj^y);rwa[alk E (a9 (hg _ s5 j S x u _ Q r5 (step x S y5)) λ_ s6 ζ=>?_)];let⟨M,H6,I6,q6⟩:=ζ;rwa[alk E (a9 (k _ s6 M H6 _ I6 q6) λf G w=>?_)]
  let again:∀{a:St}{l:Hp},Inv X (c++vF A s5.heap) a l G->N a l->∃m,m<n/\∃i q t,Inv X c q t G/\tn i G.heap/\(∀b∈A,t b=none)/\W i m q t:=λ{a l} p z=>by let⟨m',hm,w7⟩:=hN a l z;rwa[⟨m',hm,i+ 1,a,l,p.uL,T.keep _ _ _ y λb k o e=>(p.pin (b,o) (ajf _ (ajf _ (ig k e)))).1,λb k=>?_,w7⟩];let⟨o,e,d⟩:=T.obj _ _ y b k;rwa[(p.pin (b,o) (ajf _ (ajf _ (ig k e)))).2.1]
  cases f with
  |next=>let⟨a,l,p,z⟩:=w;rwa[again p z]
  |cont=>let⟨a,l,p,z⟩:=w;rwa[again p z]
  |brk=>let⟨a,l,p,w⟩:=w;rwa[a,l,p.uL,w]
  |ret v=>let⟨x7,a,l,p,r7,w⟩:=w;rwa[x7,a,l,p.uL,r7,w]
end
section
variable {g:TG}{tb:TS}{D:Ends}{σ:St}{H:Hp}{Pv:Nat->St->Hp->Prop}
def ti {J:It}(j:Pv 0 σ H)(d:∀i σ H,i<n->Pv i σ H->J.go i H/\∀x c,J.ro i H x c->g x σ c λ b e=>tb { D with nx:=Pv (i+ 1),ct:=Pv (i+ 1),bk:=D.nx } b e)(f:∀ σ H,Pv n σ H->J.stop n H/\D.nx σ H):rz J g tb D σ H:=by
 erw[λi m σ H=>m=n - i/\i<=n/\Pv i σ H,⟨n,2,ajB _,j⟩];rintro i m σ H ⟨rfl,o,p⟩;cases a:i<n
 ·rwa[.inr ⟨(d i σ H a p).1,Pv (i+ 1),λ k c h=>⟨n - (i+ 1),32,a,h⟩,(d i σ H a p).2⟩]
 ·obtain rfl:i=n:=∅
  rwa[.inl (f σ H p)]
def dC {Q:Hp->Zb->Prop}{xs:Zb}(Pv:Nat->St->Hp->Prop)(f:Pv 0 σ H)(b:∀i σ H,i<=⇑xs->Pv i σ H->Q H xs)(h:∀i x σ H,xs[i]?\x->Pv i σ H->g x σ H λ a e=>tb { D with nx:=Pv (i+ 1),ct:=Pv (i+ 1),bk:=D.nx } a e)(d:∀ σ H,Pv ⇑xs σ H->D.nx σ H):rz (DZ Q) g tb D σ H:=ti f (λi σ H c p=>⟨⟨xs,xs[i],b i σ H (akZ c) p,ai1 c⟩,λx j y=>by rw[y.1];rwa[h i x σ _ (y.2 xs (b i σ _ (akZ c) p)) p]⟩) λ σ H p=>⟨⟨xs,b _ σ H (aja _) p,2⟩,d σ H p⟩
def jk {lo:Int}(Pv:Nat->St->Hp->Prop)(e:Pv 0 σ H)(f:∀i σ H,i<n->Pv i σ H->g (.int (lo+ i)) σ H λ a d=>tb { D with nx:=Pv (i+ 1),ct:=Pv (i+ 1),bk:=D.nx } a d)(c:∀ σ H,Pv n σ H->D.nx σ H):rz (yM lo n) g tb D σ H:=ti e (λi σ H b p=>⟨b,λx h y=>by rw[y.1,y.2];rwa[f i σ _ b p]⟩) λ σ H p=>⟨aja n,c σ H p⟩
end
abbrev R2:=V->V->Hp->VK->Prop
def fX (X:Cx)(f:Zt->Zt->Sem Zt)(r:R2):Prop:=
 ∀(a:List (Zs×Obj))(s:Zu)(b:St)(H:Hp)(x y:V)(v u:Zt)(Q:VK),Inv X a b H s->RelV x v->RelV y u->r x y H Q->X⁻¹ X.A (f v u) (EP X a b Q) X.xe s
def Ss (X:Cx)(f:Zt->Sem Zt)(r:V->Hp->VK->Prop):Prop:=
 ∀(a:List (Zs×Obj))(s:Zu)(b:St)(H:Hp)(x:V)(v:Zt)(Q:VK),Inv X a b H s->RelV x v->r x H Q->X⁻¹ X.A (f v) (EP X a b Q) X.xe s
def gZ (X:Cx)(f:Zt)(r:Zb->Hp->VK->Prop):Prop:=
 ∀(a:List (Zs×Obj))(s:Zu)(d:St)(H:Hp)(c:Zb)(b:Zk)(Q:VK),Inv X a d H s->Vals c b->r c H Q->X⁻¹ X.A (call f b) (EP X a d Q) X.xe s
def abO (X:Cx)(r:V->Hp->(Bool->Hp->Prop)->Prop):Prop:=
 ∀(a:List (Zs×Obj))(s:Zu)(b:St)(H:Hp)(x:V)(v:Zt)(Q:Bool->Hp->Prop),Inv X a b H s->RelV x v->r x H Q->X⁻¹ X.A (truthy v) (TP X a b Q) X.xe s
def Nz (r:R2)(e b:TE):TE:=λ a H Q=>e a H λx d=>b a d λy c=>r x y c Q
def tUn (r:V->Hp->VK->Prop)(b:TE):TE:=λ c H Q=>b c H λx a=>r x a Q
inductive rI (C:Int->Int->Prop)(g:Int->Int->V)(x y:V)(H:Hp)(Q:VK):Prop
 |mk (i j:Int):x=.int i->y=.int j->C i j->Q (g i j) H->rI C g x y H Q
inductive vG (g:Int->Int->V)(x y:V)(H:Hp)(Q:VK):Prop
 |mk (i j:Int):x=.int i->y=.int j->Q (g i j) H->vG g x y H Q
inductive rU (g:Int->V)(x:V)(H:Hp)(Q:VK):Prop
 |mk (i:Int):x=.int i->Q (g i) H->rU g x H Q
section
variable {X:Cx}{a b:Expr}{ta tb:TE}{pos:Pos}
def KW (z:PE X a ta)(n:PE X b tb){d:List (Zs×Obj)}{s:Zu}{e:St}{H:Hp}{R:V->V->Hp->Prop}(I:Inv X d e H s)(h:ta e H λx l=>tb e l λy g=>R x y g){Q:Zt->Zu->Prop}{f:Zt->Zt->Sem Zt}(r:∀v u k x y g,Inv X d e g k->RelV x v->RelV y u->R x y g->X⁻¹ X.A (f v u) Q X.xe k):
 X⁻¹ X.A (eval a X.env) (λv j=>X⁻¹ X.A (eval b X.env) (λu i=>X⁻¹ X.A (f v u) Q X.xe i) X.xe j) X.xe s:=by
 rwa[a9 (z d s e H _ I h) λv t ζ=>?_];let⟨x,l,o,m,p⟩:=ζ
 rwa[a9 (n d t e l _ o p) λu k ζ=>?_];let⟨y,g,q,w,A⟩:=ζ
 rwa[r v u k x y g q m w A]
def aO {e:Operator}{r:R2}(j:fX X (binaryOp e) r)(o:PE X a ta)(f:PE X b tb):PE X (.BinOp a e b pos) (Nz r ta tb):=by intro d s m H Q I h;rwa[wpAny_BinOp (KW o f I h λv u g x y n i k l q=>j d g m n x y v u Q i k l q)]
def da {e:UnaryOp}{r:V->Hp->VK->Prop}(g:Ss X (unaryOp e) r)(i:PE X a ta):PE X (.UnaryOp e a pos) (tUn r ta):=by intro d s f H Q I h;rwa[UnaryOp_ (a9 (i d s f H _ I h) λv m ζ=>?_)];let⟨x,j,n,k,l⟩:=ζ;rwa[g d m f j x v Q n k l]
def Sv {f:Zt->Zt->Sem Zt}{C:Int->Int->Prop}{g:Int->Int->Int}(rule:∀(i j:Int) (t u:Tok) (s:Zu) (Q:Zt->Zu->Prop) (E:Zt->Zu->Prop),C i j->Q (.int (g i j) s.toks) { s with toks:=s.toks+ 1 }->X⁻¹ X.A (f (.int i t) (.int j u)) Q E s):
 fX X f (rI C λi j=>.int (g i j)):=by intro d s n H x y v u Q I k l h;let⟨i,j,rfl,rfl,m,q⟩:=h;let⟨t,rfl⟩:=k;let⟨e,rfl⟩:=l;rwa[rule i j t e s _ _ m ⟨.int (g i j),H,I.tok _,⟨12⟩,q⟩]
def Sw {f:Zt->Zt->Sem Zt}{g:Int->Int->Int}(rule:∀(i j:Int) (t u:Tok) (s:Zu) (Q:Zt->Zu->Prop) (E:Zt->Zu->Prop),Q (.int (g i j) s.toks) { s with toks:=s.toks+ 1 }->X⁻¹ X.A (f (.int i t) (.int j u)) Q E s):
 fX X f (vG λi j=>.int (g i j)):=by intro d s m H x y v u Q I k l h;let⟨i,j,rfl,rfl,q⟩:=h;let⟨t,rfl⟩:=k;let⟨e,rfl⟩:=l;rwa[rule i j t e s _ _ ⟨.int (g i j),H,I.tok _,⟨12⟩,q⟩]
def FK {f:Zt->Zt->Sem Zt}{g:Int->Int->Bool}(rule:∀(i j:Int) (t u:Tok) (s:Zu) (Q:Zt->Zu->Prop) (E:Zt->Zu->Prop),Q (.bool (g i j)) s->X⁻¹ X.A (f (.int i t) (.int j u)) Q E s):
 fX X f (vG λi j=>.bl (g i j)):=by intro d s m H x y v u Q I k l h;let⟨i,j,rfl,rfl,q⟩:=h;let⟨t,rfl⟩:=k;let⟨e,rfl⟩:=l;rwa[rule i j t e s _ _ ⟨.bl (g i j),H,I,2,q⟩]
def abP (i j:Int):Prop:=0<j/\j<1073741824
def KY (i j:Int):Prop:=(-(2 ^ 64)<i/\i<2 ^ 64)\/(-(2 ^ 64)<j/\j<2 ^ 64)
def KY.ok (h:KY z y):IntMulOk z y:=by
 rcases h with ⟨e,d⟩|⟨e,d⟩
 ·rwa[.of_left (intBits_le_64 e d)]
 ·rwa[.of_right (intBits_le_64 e d)]
def du:fX X (binaryOp .Add) (vG λi j=>.int (i+ j)):=Sw λ_ _ _ _ _ _ _ q=>add_int q
def hJ:fX X (binaryOp .Sub) (vG λi j=>.int (i - j)):=Sw λ_ _ _ _ _ _ _ q=>sub_int q
def jG:fX X (binaryOp .Mult) (rI KY λi j=>.int (i* j)):=Sv λ_ _ _ _ _ _ _ d q=>mul_int q d.ok
def ew:fX X (binaryOp .FloorDiv) (rI abP λi j=>.int (i / j)):=Sv λi j _ _ _ _ _ d q=>by let f:(0:Int)<j:=d.1;let e:j<1073741824:=d.2;rwa[floordiv_int ∅ ([Int.fdiv_eq_ediv_of_nonneg i ∅]▸q) (.inl (PyProof.noPylong_small ∅))]
def cK:fX X (binaryOp .Mod) (rI (λ_ j=>0<j) λi j=>.int (i % j)):=Sv λi j _ _ _ _ _ d q=>by rwa[mod_int' ∅ ([Int.fmod_eq_emod_of_nonneg i ∅]▸q)]
def unI {f:Zt->Sem Zt}{g:Int->Int}(rule:∀(i:Int) (t:Tok) (s:Zu) (Q:Zt->Zu->Prop) (E:Zt->Zu->Prop),Q (.int (g i) s.toks) { s with toks:=s.toks+ 1 }->X⁻¹ X.A (f (.int i t)) Q E s):
 Ss X f (rU λi=>.int (g i)):=by intro d s j H x v Q I e h;let⟨i,rfl,q⟩:=h;let⟨t,rfl⟩:=e;rwa[rule i t s _ _ ⟨.int (g i),H,I.tok _,⟨12⟩,q⟩]
def cL:Ss X (unaryOp .USub) (rU λi=>.int (-i)):=unI λ_ _ _ _ _ q=>neg_int q
end
def KZ:V->V->Bool
 |.non,.non=>true|.non,.int _=>true|.int _,.non=>true|.non,.bl _=>true|.bl _,.non=>true|.non,.str _=>true|.str _,.non=>true
 |.int _,.int _=>true|.bl _,.bl _=>true|.str _,.str _=>true|.mY _,.mY _=>true
 |.int _,.str _=>true|.str _,.int _=>true|.bl _,.str _=>true|.str _,.bl _=>true
 |_,_=>false
inductive YN (x y:V)(H:Hp)(Q:VK):Prop
 |mk:KZ x y=true->Q (.bl (decide (x=y))) H->YN x y H Q
inductive YP (x y:V)(H:Hp)(Q:VK):Prop
 |mk:KZ x y=true->Q (.bl (!decide (x=y))) H->YP x y H Q
def D0:decide (V.int z=V.int y)=(z==y):=by rw[akr];simp
def Hx {i j:Bool}:decide (V.bl i=V.bl j)=(i==j):=by rw[akr];simp
def Ea:decide (V.str x=V.str f)=(x==f):=by rw[akr];simp
def Eb {i j:Array UInt8}:decide (V.mY i=V.mY j)=(i.toList==j.toList):=by rw[akr];ext i;ext j;simp
section
variable {X:Cx}{a b:Expr}{ta tb:TE}{pos:Pos}
def bZ {Q:VK}{k d:Bool}(I:Inv X o D H s)(q:Q (.bl k) H)(e:k=d):EP X o D Q (.bool d) s:=by subst e;rwa[.bl k,H,I,2,q]
def fU:fX X (compareOp .Eq) YN:=by
 intro k s l H x y v u Q I g d h;let⟨f,q⟩:=h
 cases x with
 |non=>
  ext g
  cases y with
  |non=>ext d;rwa[PySem.EqNone.eq_none_none (bZ I q (by simp))]
  |bl j=>ext d;rwa[PySem.EqNone.eq_none_bool (bZ I q (by simp))]
  |int j=>let⟨e,rfl⟩:=d;rwa[PySem.EqNone.eq_none_int (bZ I q (by simp))]
  |str j=>let⟨e,rfl⟩:=d;rwa[PySem.EqNone.eq_none_str (bZ I q (by simp))]
  |_=>exact absurd (show false=true from f) ajT
 |bl i=>
  ext g
  cases y with
  |non=>ext d;rwa[PySem.EqNone.eq_bool_none (bZ I q (by simp))]
  |bl j=>ext d;rwa[eq_bool (bZ I q Hx)]
  |str j=>let⟨e,rfl⟩:=d;rwa[PySem.EqMixed.eq_bool_str (bZ I q (by simp))]
  |_=>exact absurd (show false=true from f) ajT
 |int i=>
  let⟨t,rfl⟩:=g
  cases y with
  |non=>ext d;rwa[PySem.EqNone.eq_int_none (bZ I q (by simp))]
  |int j=>let⟨e,rfl⟩:=d;rwa[eq_int (bZ I q D0)]
  |str j=>let⟨e,rfl⟩:=d;rwa[PySem.EqMixed.eq_int_str (bZ I q (by simp))]
  |_=>exact absurd (show false=true from f) ajT
 |str i=>
  let⟨t,rfl⟩:=g
  cases y with
  |non=>ext d;rwa[PySem.EqNone.eq_str_none (bZ I q (by simp))]
  |bl j=>ext d;rwa[PySem.EqMixed.eq_str_bool (bZ I q (by simp))]
  |int j=>let⟨e,rfl⟩:=d;rwa[PySem.EqMixed.eq_str_int (bZ I q (by simp))]
  |str j=>let⟨e,rfl⟩:=d;rwa[eq_str (bZ I q Ea)]
  |_=>exact absurd (show false=true from f) ajT
 |mY i=>
  let⟨t,rfl⟩:=g
  cases y with
  |mY j=>let⟨e,rfl⟩:=d;rwa[PySem.W.eq_bytes (bZ I q Eb)]
  |_=>exact absurd (show false=true from f) ajT
 |_=>cases y <;> rwa[absurd (show false=true from f) ajT]
def pS:fX X (compareOp .NotEq) YP:=by
 intro k s l H x y v u Q I g d h;let⟨f,q⟩:=h
 cases x with
 |non=>
  ext g
  cases y with
  |non=>ext d;rwa[PySem.EqNone.ne_none_none (bZ I q (by simp))]
  |bl j=>ext d;rwa[PySem.EqNone.ne_none_bool (bZ I q (by simp))]
  |int j=>let⟨e,rfl⟩:=d;rwa[PySem.EqNone.ne_none_int (bZ I q (by simp))]
  |str j=>let⟨e,rfl⟩:=d;rwa[PySem.EqNone.ne_none_str (bZ I q (by simp))]
  |_=>exact absurd (show false=true from f) ajT
 |bl i=>
  ext g
  cases y with
  |non=>ext d;rwa[PySem.EqNone.ne_bool_none (bZ I q (by simp))]
  |bl j=>ext d;rwa[ne_bool (bZ I q (ajY not Hx))]
  |str j=>let⟨e,rfl⟩:=d;rwa[PySem.EqMixed.ne_bool_str (bZ I q (by simp))]
  |_=>exact absurd (show false=true from f) ajT
 |int i=>
  let⟨t,rfl⟩:=g
  cases y with
  |non=>ext d;rwa[PySem.EqNone.ne_int_none (bZ I q (by simp))]
  |int j=>let⟨e,rfl⟩:=d;rwa[ne_int (bZ I q (ajY not D0))]
  |str j=>let⟨e,rfl⟩:=d;rwa[PySem.EqMixed.ne_int_str (bZ I q (by simp))]
  |_=>exact absurd (show false=true from f) ajT
 |str i=>
  let⟨t,rfl⟩:=g
  cases y with
  |non=>ext d;rwa[PySem.EqNone.ne_str_none (bZ I q (by simp))]
  |bl j=>ext d;rwa[PySem.EqMixed.ne_str_bool (bZ I q (by simp))]
  |int j=>let⟨e,rfl⟩:=d;rwa[PySem.EqMixed.ne_str_int (bZ I q (by simp))]
  |str j=>let⟨e,rfl⟩:=d;rwa[ne_str (bZ I q (ajY not Ea))]
  |_=>exact absurd (show false=true from f) ajT
 |mY i=>
  let⟨t,rfl⟩:=g
  cases y with
  |mY j=>let⟨e,rfl⟩:=d;rwa[PySem.W.ne_bytes (bZ I q (ajY not Eb))]
  |_=>exact absurd (show false=true from f) ajT
 |_=>cases y <;> rwa[absurd (show false=true from f) ajT]
def pT:fX X (compareOp .Lt) (vG λi j=>.bl (decide (i<j))):=FK λ_ _ _ _ _ _ _ q=>lt_int q
def Xz:fX X (compareOp .LtE) (vG λi j=>.bl (decide (i<=j))):=FK λ_ _ _ _ _ _ _ q=>le_int q
def tj:fX X (compareOp .Gt) (vG λi j=>.bl (decide (j<i))):=FK λ_ _ _ _ _ _ _ q=>gt_int q
def XA:fX X (compareOp .GtE) (vG λi j=>.bl (decide (j<=i))):=FK λ_ _ _ _ _ _ _ q=>ge_int q
def kD:fX X (compareOp .Is) (λx y H Q=>y=.non/\Q (.bl (decide (x=.non))) H):=by
 intro d s g H x y v u Q I e f h;let⟨rfl,q⟩:=h;ext f;rwa[is_none_gen (bZ I q ?_)]
 cases x <;> first
  |(ext e;rfl)
  |(let⟨t,rfl⟩:=e;rfl)
def xM:fX X (compareOp .IsNot) (λx y H Q=>y=.non/\Q (.bl (!decide (x=.non))) H):=by
 intro d s g H x y v u Q I e f h;let⟨rfl,q⟩:=h;ext f;rwa[isnot_none_gen (bZ I q ?_)]
 cases x <;> first
  |(ext e;rfl)
  |(let⟨t,rfl⟩:=e;rfl)
def bp (b:Expr){d:CmpOp}(h:d≠.In:=by decide)(g:d≠.NotIn:=by decide):behindInMarks d b=false:=by
 let e:(d==CmpOp.In)=false:=by cbv
 let f:(d==CmpOp.NotIn)=false:=by cbv
 cases b <;> simp[behindInMarks,e,f]
def j5 {e:CmpOp}{r:R2}(j:fX X (compareOp e) r)(p:PE X a ta)(f:PE X b tb)(n:behindInMarks e b=false):PE X (.Compare a [e] [b] pos) (Nz r ta tb):=by intro d s m H Q I h;rwa[wpAny_Compare1 (KW p f I h λv u g x y o i k l q=>j d g m o x y v u Q i k l q) n]
inductive Sx (x:V)(H:Hp)(Q:Bool->Hp->Prop):Prop
 |mk (k:Bool):x=.bl k->Q k H->Sx x H Q
def XB (t:TE):TT:=λ e H Q=>t e H λx d=>Sx x d Q
def bf {g:CmpOp}{r:R2}(A:fX X (compareOp g) r)(G:PE X a ta)(l:PE X b tb)(E:behindInMarks g b=false):PT X (.Compare a [g] [b] pos) (XB (Nz r ta tb)):=by
 intro d s f H Q I h
 rwa[wpAny_isTrue_Compare1 (a9 (G d s f H _ I h) λv C ζ=>?_) E];let⟨x,B,m,j,q⟩:=ζ;rwa[a9 (l d C f B _ m q) λu p ζ=>?_];let⟨y,F,w,D,J⟩:=ζ;rwa[ a9 (A d p f F x y v u _ w j D J) λc L ζ=>?_];let⟨z,n,o,i,k,e,t⟩:=ζ
 subst e;ext i;rwa[alR ⟨n,o,t⟩]
def Sy (K:Za1)(x:V)(H:Hp)(k:Bool):Prop:=
 match x with
 |.non=>k=false
 |.bl b=>k=b
 |.int i=>k=(i !=0)
 |.str y=>⇑y<=sizeLine/\k=((⇑y:Int) !=0)
 |.mY y=>y.size<=sizeLine/\k=((y.size:Int) !=0)
 |.ref p=>(∃xs,aB K H p xs/\k=!xs.isEmpty)\/(∃xs,bG K H p xs/\k=!xs.isEmpty)\/∃d,H p\.dK d/\k=!d.isEmpty
 |_=>False
def FL {f:Type}{d:List (f×V)}{e:List (f×Zt)}(r:KV d e):(!e.isEmpty)=!d.isEmpty:=by cases r <;> rfl
def vH {xs:Zb}(r:Vals xs N):(!N.toArray.isEmpty)=!xs.isEmpty:=by cases r <;> simp
def rA:(sizeLine:Nat)<2 ^ 63:=⋯
def Sz [o:eI X K]:abO X (λx H Q=>∃k,Sy K x H k/\Q k H):=by
 cases o.eq;intro w s D H x v Q I g h;let⟨k,e,q⟩:=h;let B:=rA;let C:sizeLine=16777216:=sizeLine_eq
 cases x with
 |non=>ext g;let d:k=false:=e;subst d;rwa[truthy_none ⟨H,I,q⟩]
 |bl b=>ext g;let d:k=b:=e;subst d;rwa[alR ⟨H,I,q⟩]
 |int i=>let⟨t,rfl⟩:=g;let d:k=(i !=0):=e;subst d;rwa[PySem.P.truthy_int ⟨H,I,q⟩]
 |str y=>let⟨t,rfl⟩:=g;obtain⟨z,d⟩:⇑y<=sizeLine/\k=((⇑y:Int) !=0):=e;subst d;rwa[PySem.P.truthy_str ∅ ⟨H,I.tok _,q⟩]
 |mY y=>let⟨t,rfl⟩:=g;obtain⟨z,d⟩:y.size<=sizeLine/\k=((y.size:Int) !=0):=e;subst d;rwa[PySem.W.truthy_bytes ∅ ⟨H,I.tok _,q⟩]
 |ref p=>
  ext g;let d:(∃xs,aB X.K H p xs/\k=!xs.isEmpty)\/(∃xs,bG X.K H p xs/\k=!xs.isEmpty)\/∃f,H p\.dK f/\k=!f.isEmpty:=e;rcases d with ⟨xs,j,d⟩|⟨xs,j,d⟩|⟨f,j,d⟩
  ·subst d;let⟨n,r,pl,u⟩:=I.list j;let hlen:=⇑r;rwa[wpAny_truthy_list pl.isList (by simp only[ajp];omega) ⟨H,I.tok _,[vH r]▸q⟩]
  ·subst d;let⟨n,r,pl,u⟩:=I.tuple j;let hlen:=⇑r;rwa[truthy_tuple pl (by simp only[ajp];omega) ⟨H,I.tok _,[vH r]▸q⟩]
  ·subst d;obtain⟨u,A,l,r,m⟩:⇑f<=sizeLine/\(p==sysModules)=false/\∃l,KV f l/\s.heap.DictOf (bY X.prog X.w) p l:=I.aU p _ j;let hlen:⇑f=⇑l:=Paired.length r;rwa[wpAny_truthy_dict A m ∅ ⟨H,I.tok _,[FL r]▸q⟩]
 |_=>exact(show False from e).elim
def uM [f:eI X K](l:PE X a ta)(j:∀whole,isTrue a X.env whole=(do let v <-whole;standAt a.pos;holding [v] (truthy v))):
 PT X a (λ e H Q=>ta e H λx g=>∃k,Sy K x g k/\Q k g):=by cases f.eq;intro d s e H Q I h;rwa[isTrue_plain (a9 (l d s e H _ I h) λv o ζ=>?_) (j _)];let⟨x,i,p,m,n⟩:=ζ;rwa[Sz d o e i x v Q p m n]
def vals1 {x:V}(r:Vals [x] N):∃u,N=[u]/\RelV x u:=by
 cases r with
 |cons e d=>ext d;rwa[12,e]
def vals2 {x:V}(r:Vals [x,q] N):∃u d,N=[u,d]/\RelV x u/\RelV q d:=by
 cases r with
 |cons h e=>
  cases e with
  |cons g f=>ext f;rwa[112,h,g]
def K0:gZ X (.builtin "abs") (λd H Q=>∃i,d=[.int i]/\Q (.int (if i<0 then -i else i)) H):=by intro e s j H d f Q I r h;let⟨i,rfl,q⟩:=h;let⟨u,rfl,t,rfl⟩:=vals1 r;rwa[call_abs_int λu g=>⟨.int (if i<0 then -i else i),H,I.tok _,⟨12⟩,q⟩]
def Hy (g:X.calm=true):gZ X (.builtin "max") (λe H Q=>∃i j,e=[.int i,.int j]/\Q (.int (if j > i then j else i)) H):=by
 intro f s p H e v Q I r h;let⟨i,j,rfl,q⟩:=h;let⟨u,l,rfl,⟨t,rfl⟩,⟨m,rfl⟩⟩:=vals2 r;rwa[max_two_ints (I.ok.hd g) λn o k=>⟨_,H,I.kept k,5,q⟩]
 cases d:j > i
 ·rw[ajn d,ajn d];rwa[12]
 ·rw[ajk d,ajk d];rwa[12]
def Hz (g:X.calm=true):gZ X (.builtin "min") (λe H Q=>∃i j,e=[.int i,.int j]/\Q (.int (if j<i then j else i)) H):=by
 intro f s p H e v Q I r h;let⟨i,j,rfl,q⟩:=h;let⟨u,l,rfl,⟨t,rfl⟩,⟨m,rfl⟩⟩:=vals2 r;rwa[min_two_ints (I.ok.hd g) λn o k=>⟨_,H,I.kept k,5,q⟩]
 cases d:j<i
 ·rw[ajn d,ajn d];rwa[12]
 ·rw[ajk d,ajk d];rwa[12]
end
structure uN (h:Heap)(x dx C:Zs)(mA:Str->Zl):Prop where
 obj:h.get? x\(instObj C dx)
 ns:h.Ns1 dx mA
 ne:dx≠x
def HB (n:h.Ns1 a M):∃d,h.get? a\d/\∀name,lookIn name d\(M name):=by
 let⟨o,k,m,i,f,g,_,l⟩:=n;rwa[⟨o,i,λname=>?_⟩];let e:=l name;unfold nsFind findBy at e;rw[<-Array.find?_toList]at e;unfold lookIn;rw[f];dsimp only;split
 ·cbv
 ·rename_i q;rw[q]at e
  let b:k.toList.any (·.refKey)=false:=by rw[List.any_eq_false];intro y j;let⟨z,t,c⟩:=g y (Array.mem_toList_iff.mp j);simp[DictEntry.refKey,c]
  cbv
def uN.look {x dx:Zs}(I:uN h x dx a M):∃b,PySem.W.InstAt h x (instObj a dx) a (some b)/\∀name,lookIn name b\(M name):=
 let ⟨b,c,d⟩:=HB I.ns
 ⟨b,⟨I.obj,22,c⟩,d⟩
section
variable {prog:Program}{w:World}{A:Around}{E:Zt->Zu->Prop}{s:Zu}{K:Za1}{x dx C f:Zs}{mA:Str->Zl}{name:Str}{v:Zt}
def get_map {expr:Bool}(X:K.In s.heap)(I:uN s.heap x dx C mA)(g:plainGet K C name=true)(d:hasDictIn K C=true)(c:findIn K ↑C name\none)(b:mA name\v)(a:PySem.W.handedIn v=true)(h:Q v { s with toks:=s.toks+ 1 }):
 (prog<|>w) A (getAttr ↑x name expr) Q E s:=by let⟨i,J,e⟩:=I.look;rwa[PySem.W.get_value X J (plainGet_of g).1 (PySem.W.findObj_own d c rfl (by rw[e,b])) a h]
def K1 {pl:Sem Bool}{Q:Zt×Zk->Zu->Prop}(X:K.In s.heap)(I:uN s.heap x dx C mA)(a:plainGet K C name=true)(b:findIn K ↑C name\some ↑f)(g:isFn K ↑f=true)(c:mA name=none)(h:Q (↑f,[↑x]) s):
 (prog<|>w) A (getMethod ↑x name pl) Q E s:=by let⟨d,J,e⟩:=I.look;rwa[PySem.W.method_fn X J (plainGet_of a).1 (plainGet_of a).2 b (al7.mp g) (by show (lookIn name d).map (·.isSome)\false;rw[e,c];rfl) h]
def Ql {ns:Zp}(X:K.In s.heap)(I:uN s.heap x dx C mA)(t:findIn K ↑C "__setattr__"=some (some (.builtin "object.__setattr__")))(o:plainOver K C=true)(l:takerIn K C name\none)(q:hasDictIn K C=true)(p:PySem.Within mA ns)(n:⇑ns<=sizeLine)(h:∀e,uN e x dx C (λy=>if y=name then some v else mA y)->Heap.SameBut dx s.heap e->U () { s with heap:=e,toks:=s.toks+ 2 }):
 (prog<|>w) A (setAttr ↑x name v) U E s:=by
 let⟨H,J,G⟩:=I.look;rwa[PySem.W.set_plain X J t (PySem.W.osa_open (s:={ s with toks:=s.toks+ 1 }) (r:=none) X J o l λb=>?_)];let⟨F,z,k⟩:=PySem.W.any_some q;let u:s•x\⟨↑C,some dx,.plain,#[]⟩:=I.obj;rwa[ai2 (ajb (ai2 (ai2 (wpAny_loadPart u (ai2 (PySem.W.Looks.here (s:={ s with toks:=s.toks+ 1 }) (PySem.W.looks_clsIn X z) ?_))))))];rw[k];rwa[ajb (a:=some dx) (ai2 (ajb (ai2 ?_)))];rwa[wpAny_nsSet1 (s:={ s with toks:=s.toks+ 1 }) I.ns λe d c=>?_]
 let⟨D,B,m,j,g,i⟩:=d.count (PySem.Within.cons name v p);rwa[ai2 (wpAny_lookBehind j ([g]▸pastItsLine_dict (ajl i (by rw[ajo];omega))) ?_)];rwa[ajb (h _ ⟨(c.2 _ (akg I.ne)).trans I.obj,d,I.ne⟩ c)]
def K2 {R:Result->Zu->Prop}{a:List (Str×Zt)}(X:K.In s.heap)(b:makesIn K C=true)(d:findIn K ↑C "__init__"=some (some ↑f))(c:PySem.W.typeIn K ↑f\(.type "function"))(h:codeAny (model prog w) (A.under (.builtin "type.__call__" ⟨↑C::N,a⟩)) (.call ↑f ⟨↑(↥s+ 1)::N,a⟩) (PySem.W.InitBack (↥s+ 1) R)
  { s with heap:=(s.heap.push emptyDict).push (instObj C ↥s) }):
 codeAny (model prog w) A (.call ↑C ⟨N,a⟩) R s:=by rwa[PySem.W.make_core (makes_of X b) (PySem.W.looks_findIn X d) (λself=>PySem.W.bind_fn X self c) (.inl rfl) h]
def HC {R:Result->Zu->Prop}(X:K.In s.heap)(a:makesIn K C=true)(c:findIn K ↑C "__init__"=some (some (.builtin "object.__init__")))(b:∀self,PySem.W.Looks (model prog w) s.heap (bindSpecial (.builtin "object.__init__") self) (.builtin "object.__init__",[self]))(h:codeAny (model prog w) (A.under (.builtin "type.__call__" ⟨[↑C],[]⟩)) (.call (.builtin "object.__init__") ⟨[↑(↥s+ 1)],[]⟩) (PySem.W.InitBack (↥s+ 1) R)
  { s with heap:=(s.heap.push emptyDict).push (instObj C ↥s) }):
 codeAny (model prog w) A (.call ↑C ⟨[],[]⟩) R s:=by rwa[PySem.W.make_core (makes_of X a) (PySem.W.looks_findIn X c) b (.inr ⟨22⟩) h]
end
def bO (f:Str)(v:V):List (Str×V)->List (Str×V)
 |[]=>[(f,v)]
 |(g,x)::r=>if g=f then (g,v)::r else (g,x)::bO f v r
theorem nZ (f g:Str)(v:V):∀fs:List (Str×V),(bO f v fs).lookup g=if g=f then some v else fs.lookup g
 |[]=>by
  show List.lookup g [(f,v)]=_
  cbv
 |(k,x)::r=>by
  let a:=nZ f g v r;rw[show bO f v ((k,x)::r)=(if k=f then (k,v)::r else (k,x)::bO f v r) from rfl]
  cbv
theorem kF (f:Str)(v:V):∀fs:List (Str×V),f∈(bO f v fs).map (·.1)/\∀g,g∈fs.map (·.1)->g∈(bO f v fs).map (·.1)
 |[]=>⟨by simp[bO],λg h=>by simp at h⟩
 |(k,x)::r=>by
  let⟨a,b⟩:=kF f v r;rw[show bO f v ((k,x)::r)=(if k=f then (k,v)::r else (k,x)::bO f v r) from rfl]
  cbv
theorem uk (f:Str)(v:V):∀fs:List (Str×V),⇑(bO f v fs)<=⇑fs+ 1
 |[]=>by simp[bO]
 |(k,x)::r=>by
  let a:=uk f v r;rw[show bO f v ((k,x)::r)=(if k=f then (k,v)::r else (k,x)::bO f v r) from rfl]
  cbv
def eU.some_of {v:V}{o:Zl}(r:eU (some v) o):∃u,o\u/\RelV v u:=by
 cases o with
 |none=>exact(show False from r).elim
 |some u=>rwa[u,2,r]
def eU.none_of {o:Zl}(r:eU none o):o=none:=by
 cases o with
 |none=>rfl
 |some u=>exact(show False from r).elim
def HD (r:RelV q u):PySem.W.handedIn u=true:=by
 cases q with
 |non=>cases (show u=Value.none from r);rfl
 |bl b=>cases (show u=Value.bool b from r);rfl
 |int i=>let⟨t,e⟩:=(show ∃t,u=Value.int i t from r);ext e;rfl
 |str x=>let⟨t,e⟩:=(show ∃t,u=Value.str x t from r);ext e;rfl
 |mY b=>let⟨t,e⟩:=(show ∃t,u=Value.bytes b t from r);ext e;rfl
 |Ar b=>let⟨t,e⟩:=(show ∃t,u=Value.float b t from r);ext e;rfl
 |ref a=>cases (show u=Value.ref a from r);rfl
 |ty n=>cases (show u=Value.type n from r);rfl
section
variable {P:Program}{w:World}{H:Hp}{h:Heap}{a C dx:Zs}{fs:List (Str×V)}
def tm (c:dy P w H h)(e:H a\.ins C dx fs):∃b,uN h a dx C b/\(∀f,eU (fs.lookup f) (b f))/\PySem.Within b (fs.map (·.1))/\⇑fs<=1000/\H dx\(.own a):=by let⟨d,z,ne,g,b,n,r,q⟩:=(show b6 P w H h a (.ins C dx fs) from c a _ e);rwa[b,⟨g,n,ne⟩,r,q,z,d]
end
structure lh (K:Za1)(C:Zs):Prop where
 pg:plainGet K C Str.empty=true
 hd:hasDictIn K C=true
 po:plainOver K C=true
 sa:findIn K ↑C "__setattr__"=some (some (.builtin "object.__setattr__"))
def lh.get (c:lh K a)(f:Str):plainGet K a f=true:=c.pg
def kH (K:Za1)(C:Zs)(f:Str):Prop:=findIn K ↑C f\none
def kH.FN (n:kH K a f):takerIn K a f\none:=by unfold takerIn;rw[show findIn K ↑a f=some none from n];rfl
structure Con (K:Za1)(C:Zs)(f:Str)(v:V)(u:Zt):Prop where
 at_:findIn K ↑C f\(some u)
 rel:RelV v u
 get:specialIn K u "__get__"=some none
 cp:PySem.W.copiedNames.contains f=false
structure Meth (K:Za1)(C:Zs)(m:Str)(f:Zs):Prop where
 at_:findIn K ↑C m\(some ↑f)
 fn:isFn K ↑f=true
 kp:keepIn K ↑f=true
section
variable {X:Cx}{pins:List (Zs×Obj)}{σ:St}{H:Hp}{s:Zu}{a C dx:Zs}{fs:List (Str×V)}{f:Str}{v:V}{A:Around}{E:Zt->Zu->Prop}
def FP {b:Bool}(I:Inv X pins σ H s)(e:H a\.ins C dx fs)(c:lh X.K C)(n:kH X.K C f)(l:fs.lookup f\v)(h:∀u d,Inv X pins σ H d->RelV v u->Q u d):X⁻¹ A (getAttr ↑a f b) Q E s:=by let⟨j,O,r,_,_,_⟩:=tm I.aU e;let⟨u,i,g⟩:=eU.some_of (v:=v) (o:=j f) (by rw[<-l];rwa[r f]);rwa[get_map I.dE O (c.get f) c.hd n i (HD g) (h u _ (I.tok _) g)]
def vI {pl:Sem Bool}{Q:Zt×Zk->Zu->Prop}(I:Inv X pins σ H s)(e:H a\.ins C dx fs)(c:lh X.K C)(k:Meth X.K C x b)(l:fs.lookup x=none)(h:Q (↑b,[↑a]) s):X⁻¹ A (getMethod ↑a x pl) Q E s:=by let⟨g,O,r,_,_,_⟩:=tm I.aU e;let d:g x=none:=eU.none_of (by cbv);rwa[K1 I.dE O (c.get x) k.at_ k.fn d h]
def FQ (I:Inv X pins σ H s)(e:H a\.ins C dx fs)(c:lh X.K C)(n:kH X.K C f)(J:⇑fs<1000)(D:RelV q u)(h:∀j,Inv X pins σ (upd H a (.ins C dx (bO f q fs))) j->U () j):X⁻¹ A (setAttr ↑a f u) U E s:=by
 let⟨F,O,r,k,_,l⟩:=tm I.aU e;let B:⇑(fs.map (·.1))<=sizeLine:=by rw[ai6,sizeLine_eq];ext
 rwa[Ql I.dE O c.sa c.po n.FN c.hd k B λw i G=>h _ ?_]
 let m:∃o,w.get? dx\o:=let ⟨o,_,_,y,_⟩:=i.ns;⟨o,y⟩
 rwa[I.write (x:=a) (e:=dx) ([e]▸True.intro) (.inr l) (λb d p z=>(G.2 b p).trans z) m ?_];rwa[⟨[ak O.ne]▸l,5,O.ne,i.obj,_,i.ns,λg=>?_,λg t=>?_⟩]
 ·have:=uk f q fs;ext
 ·show eU ((bO f q fs).lookup g) (if g=f then some u else F g);rw[nZ];cases d:g=f
  ·rw[ajn d,ajn d];rwa[D]
  cbv
 ·cases d:g=f
  ·rw[d];rwa[(kF f q fs).1]
  ·rwa[(kF f q fs).2 g (k g λz=>t ?_)]
   cbv
def Inv.made (I:Inv X pins σ H s):Inv X pins σ (upd (upd H ↥s (.own (↥s+ 1))) (↥s+ 1) (.ins C ↥s []))
 { s with heap:=(s.heap.push emptyDict).push (instObj C ↥s) }:=by
 let c:(s.heap.push emptyDict).get? ↥s\emptyDict:=ajv s.heap rfl
 let k:((s.heap.push emptyDict).push (instObj C ↥s)).get? (↥s+ 1)\(instObj C ↥s):=by
  have:=ajv (s.heap.push emptyDict) (o:=instObj C ↥s) rfl
  rwa [alf]at this
 let d:(s.heap.push emptyDict).Ns ↥s (λ_=>none):=⟨emptyDict,#[],_,c,2,(λe g=>absurd g (by simp)),λ_=>rfl⟩;let j:=I.laid (a:=↥s) (o:=.own (↥s+ 1)) (h':=s.heap.push emptyDict) (t':=s.toks) (λb u q=>ai7 _ q) (aja _) ⟨_,c⟩;rwa[j.laid (a:=↥s+ 1) (o:=.ins C ↥s []) (t':=s.toks) (λb u q=>ai7 _ q) (al8 (alf _ _)) ?_];let ne:↥s≠↥s+ 1:=ajH (akA _);rwa[⟨by rw[ak ne,aj],ajB _,ne,k,λ_=>none,(Heap.Ns1.of_empty d).at λo q=>ai7 _ q,λ_=>True.intro,λy h=>absurd rfl h⟩]
def Qm {env:Env}{f:Str}{pos:Pos}{s:Zu}(c:attributeBase e f env (eval e env)=eval e env)(h:(P<|>w) A (eval e env) (λo b=>(P<|>w) A (getAttr o f true) Q E b) E s):(P<|>w) A (eval (.Attribute e f pos) env) Q E s:=Attribute_any_ h (by rw[arm_eval_Attribute,c])
end
inductive SD (K:Za1)(f:Str)(x:V)(H:Hp)(Q:VK):Prop
 |mk (a C dx:Zs)(fs:List (Str×V))(v:V):x=↑a->H a\.ins C dx fs->lh K C->kH K C f->fs.lookup f\v->Q v H->SD K f x H Q
def SF (K:Za1)(b:TE)(f:Str):TE:=λ c H Q=>b c H λx a=>SD K f x a Q
inductive SG (K:Za1)(f:Str)(y x:V)(H:Hp)(N:Hp->Prop):Prop
 |mk (a C dx:Zs)(fs:List (Str×V)):x=↑a->H a\.ins C dx fs->lh K C->kH K C f->⇑fs<1000->N (upd H a (.ins C dx (bO f y fs)))->SG K f y x H N
def abQ (K:Za1)(e b:TE)(f:Str):TS:=λD a H=>b a H λy d=>e a d λx c=>SG K f y x c (D.nx a)
section
variable {X:Cx}{o e value:Expr}{f:Str}{pos pos':Pos}{ta tv:TE}
def aH [d:eI X K](r:PE X e ta)(g:attributeBase e f X.env (eval e X.env)=eval e X.env):PE X (.Attribute e f pos) (SF K ta f):=by cases d.eq;intro b s p H Q I h;rwa[Qm g (a9 (r b s p H _ I h) λu A ζ=>?_)];let⟨x,k,i,m,a,C,B,fs,v,ex,w,c,n,l,q⟩:=ζ;subst ex;obtain rfl:u=Value.ref a:=m;rwa[FP i w c n l λz y j t=>⟨v,k,j,t,q⟩]
def cq [d:eI X K](A:PE X o ta)(z:PE X value tv)(t:swapsWith value (some (.Attribute o f pos')) pos.line X.env=pure false):PS X (.Assign [.Attribute o f pos'] value pos) (abQ K ta tv f):=by cases d.eq;intro b s g H D I h;rwa[plainObj_wpAny_Assign_Attribute (a9 (z b s g H _ I h) λu p ζ=>?_) t];let⟨y,m,i,v,q⟩:=ζ;rwa[a9 (A b p g m _ i q) λr F ζ=>?_];let⟨x,G,k,w,a,C,L,fs,ex,B,c,n,l,E⟩:=ζ;subst ex;obtain rfl:r=Value.ref a:=w;rwa[FQ k B c n l v λJ j=>⟨g,_,j,E⟩]
inductive abS (x y:V)(H:Hp)(Q:VK):Prop
 |mk (i j:Int):x=.int i->y=.int j->Q (.int (i+ j)) H->abS x y H Q
inductive abT (x y:V)(H:Hp)(Q:VK):Prop
 |mk (i j:Int):x=.int i->y=.int j->Q (.int (i - j)) H->abT x y H Q
end
section
variable {X:Cx}{pins:List (Zs×Obj)}{σ:St}{H:Hp}{s:Zu}{A:Around}{E:Zt->Zu->Prop}{Q:Zt->Zu->Prop}{c:Zt}{b:Bool}
inductive jH (K:Za1)(H:Hp):V->Zt->Prop where
 |non:jH K H .non (.type "NoneType")
 |bl (x:Bool):jH K H (.bl x) (.type "bool")
 |int (i:Int):jH K H (.int i) (.type "int")
 |str (x:Str):jH K H (.str x) (.type "str")
 |Ar (x:UInt64):jH K H (.Ar x) (.type "float")
 |lst {a:Zs} {xs:Zb} (e:H a\.lst xs):jH K H ↑a (.type "list")
 |df {a:Zs} {o:Obj} {xs:Zb} (e:H a\.df o (.lst xs)):jH K H ↑a (.type "list")
 |tup {a:Zs} {xs:Zb} (e:H a\.tup xs):jH K H ↑a (.type "tuple")
 |dK {a:Zs} {kvs:List (Key×V)} (e:H a\.dK kvs):jH K H ↑a (.type "dict")
 |dT {a:Zs} {kvs:List (Zd×V)} (e:H a\.dT kvs):jH K H ↑a (.type "dict")
 |ins {a C dx:Zs} {fs:List (Str×V)} (e:H a\.ins C dx fs) (cl:lh K C) (ha:findIn K ↑C "__class__"=some (some (.builtin "object.__class__")))
  (hn:specialIn K (.builtin "object.__class__") "__get__"=some (some (.builtin "getset_descriptor.__get__"))) (htk:PySem.W.takesIn K (.builtin "object.__class__")\true)
  (hm:mroIn K C (.type "object")\true):jH K H ↑a ↑C
def HF {x:V}{t:Zt}(I:Inv X pins σ H s)(d:RelV x u)(B:jH X.K H x t)(e:kitOne X.K t c\b)(h:∀r,Q (.bool b) { s with toks:=r }):
 X⁻¹ A (call (.builtin "isinstance") [u,c]) Q E s:=by
 cases B with
 |non=>cases (show u=Value.none from d);rwa[akz PySem.W.kitx_none I.dE True.intro e (λz=>nomatch z) h]
 |bl y=>cases (show u=Value.bool y from d);rwa[akz PySem.W.kitx_bool I.dE True.intro e (λz=>nomatch z) h]
 |int i=>let⟨t,q⟩:=(show ∃t,u=Value.int i t from d);ext q;rwa[akz PySem.W.kitx_int I.dE True.intro e (λz=>nomatch z) h]
 |str y=>let⟨t,q⟩:=(show ∃t,u=Value.str y t from d);ext q;rwa[akz PySem.W.kitx_str I.dE True.intro e (λz=>nomatch z) h]
 |Ar y=>let⟨t,q⟩:=(show ∃t,u=Value.float y t from d);ext q;rwa[akz PySem.W.kitx_float I.dE True.intro e (λz=>nomatch z) h]
 | @lst a k f=>cases (show u=Value.ref a from d);let⟨_,_,n,_,g⟩:=(show b6 X.prog X.w H s.heap a (.lst k) from I.aU a _ f);rwa[akz PySem.W.kitx_list I.dE ⟨_,g,2⟩ e (λz=>nomatch z) h]
 | @df a v k f=>cases (show u=Value.ref a from d);let⟨_,_,_,n,_,g⟩:=(show b6 X.prog X.w H s.heap a (.df v (.lst k)) from I.aU a _ f);rwa[akz PySem.W.kitx_list I.dE ⟨_,g,2⟩ e (λz=>nomatch z) h]
 | @tup a k f=>cases (show u=Value.ref a from d);let⟨_,_,_,p⟩:=(show b6 X.prog X.w H s.heap a (.tup k) from I.aU a _ f);let⟨o,g,l,_⟩:=p;rwa[akz PySem.W.kitx_tuple I.dE ⟨o,g,l⟩ e (λz=>nomatch z) h]
 | @dK a j f=>cases (show u=Value.ref a from d);let⟨_,_,M,_,p⟩:=(show b6 X.prog X.w H s.heap a (.dK j) from I.aU a _ f);let⟨o,w,F,g,l,_⟩:=p;rwa[akz PySem.W.kitx_dict I.dE ⟨o,g,l.1⟩ e (λz=>nomatch z) h]
 | @dT a j f=>cases (show u=Value.ref a from d);let⟨_,_,k,_,o,w,F,g,l,_⟩:=(show b6 X.prog X.w H s.heap a (.dT j) from I.aU a _ f);rwa[akz PySem.W.kitx_dict I.dE ⟨o,g,l.1⟩ e (λz=>nomatch z) h]
 | @ins a C R fs f cl L D m G=>cases (show u=Value.ref a from d);let⟨N,O,_⟩:=tm I.aU f;let⟨P,J,_⟩:=O.look;rwa[akz (PySem.W.kitx_own (cl.get _) cl.hd L D m G) I.dE J e (λz=>nomatch z) h]
end
structure c9 (k:Nat)(A:Around):Prop where
 hd:A.handled=none
 dp:A.depth+ 3* k+ 5<recursionLimit
 un:A.units+ 16* k+ 200<cLine
def c9.mono {k:Nat}(r:c9 k A)(h:j<=k):c9 j A:=⟨r.hd,by have:=r.dp;ext,by have:=r.un;ext⟩
def c9.Za5 {j k:Nat}{A:Around}(r:c9 k A)(h:j<=k:=by decide):c9 j A:=r.mono h
def c9.deeper {k:Nat}(r:c9 (k+ 1) A)(env:Env):c9 k (A.deeper env):=⟨r.hd,by have:=r.dp;show A.depth+ 1+ 3* k+ 5<_;ext,by have:=r.un;show A.units+ 3+ 16* k+ 200<_;ext⟩
def FU {b:List (Str×Zt)}:(A.under (.builtin "type.__call__" ⟨↑a::N,b⟩)).depth=A.depth+ 1:=by first|rfl|simp[Around.under,Code.weight,Code.isCreation,Code.isGuard,Code.isCaller,Code.frames,Code.isFrame,guardIds]
def FV {b:List (Str×Zt)}:(A.under (.builtin "type.__call__" ⟨↑a::N,b⟩)).units=A.units+ 1:=by first|rfl|simp[Around.under,Code.cUnits,Code.frames,Code.isFrame]
def c9.make {k:Nat}(r:c9 (k+ 1) A)(C:Zs)(a:Zk)(b:List (Str×Zt)):c9 k (A.under (.builtin "type.__call__" ⟨↑C::a,b⟩)):=⟨r.hd,by have:=r.dp;rw[FU];ext,by have:=r.un;rw[FV];ext⟩
def c9.depth {k:Nat}(r:c9 k A):A.depth<recursionLimit:=by have:=r.dp;ext
def c9.units {k:Nat}(r:c9 k A):A.units+ 64<cLine:=by have:=r.un;ext
def rB:TA:=λ_ H Q=>Q [] H
def tq (e:TE)(tr:TA):TA:=λ a H Q=>e a H λx c=>tr a c λd b=>Q (x::d) b
section
variable {X:Cx}{e:Expr}{es:Zr}{te:TE}{t:TA}{pos:Pos}
def ai:PA X [] rB:=λ_ _ _ _ H Q I h=>akM ⟨[],H,I,.nil,h⟩
def ae (p:PE X e te)(j:PA X es t)(m:starEach (e::es) X.env=(false,eval e X.env)::starEach es X.env:=by rfl):PA X (e::es) (tq te t):=by intro pos a s b H Q I h;rw[m];rwa[aka (a9 (p a s b H _ I h) λu l ζ=>?_)];let⟨x,i,d,c,f⟩:=ζ;rwa[a9 (j pos a l b i _ d f) λv r ζ=>?_];let⟨k,o,g,n,q⟩:=ζ;rwa[⟨x::k,o,g,.cons c n,q⟩]
inductive SJ (xs:Zb)(H:Hp)(Q:VK):Prop
 |mk:⇑xs<=sizeLine->(∀p,H p=none->Q ↑p (upd H p (.tup xs)))->SJ xs H Q
def abU (t:TA):TE:=λ c H Q=>t c H λb a=>SJ b a Q
inductive SK (xs:Zb)(H:Hp)(Q:VK):Prop
 |mk:⇑xs<=sizeLine->(∀p,H p=none->Q ↑p (upd H p (.lst xs)))->SK xs H Q
def abV (t:TA):TE:=λ c H Q=>t c H λb a=>SK b a Q
def cC {l}(h:PA X es t):PE X (.Tuple es l pos) (abU t):=by intro a s j H Q I f;rwa[wpAny_Tuple_spliced (a9 (h pos a s j H _ I f) λk s1 ζ=>?_)];let⟨i,d,c,r,z,q⟩:=ζ;rwa[⟨by rw[<-⇑r];rwa[z],5⟩];let g:d ↥s1=none:=c.aU.fresh (aja _);rwa[⟨↑↥s1,upd d ↥s1 (.tup i),c.laid (t':=s1.toks) (λb u e=>ai7 _ e) (aja _) ?_,2,q _ g⟩];rwa[z,k,r,⟨_,ajv _ rfl,212⟩]
def b9 (h:PA X es t):PE X (.List es pos) (abV t):=by intro a s j H Q I f;rwa[wpAny_List_spliced (a9 (h pos a s j H _ I f) λk s1 ζ=>?_)];let⟨i,d,c,r,z,q⟩:=ζ;rwa[⟨by rw[<-⇑r];rwa[z],5⟩];let g:d ↥s1=none:=c.aU.fresh (aja _);rwa[⟨↑↥s1,upd d ↥s1 (.lst i),c.laid (t':=s1.toks) (λb u e=>ai7 _ e) (aja _) ?_,2,q _ g⟩];rwa[z,k,(0),r,ajv _ rfl]
end
abbrev Sp:=Zb->Hp->VK->XK->Prop
abbrev lS:=Zq->Hp->Zu->XK->Zt->Zu->Prop
structure uO (P:Program)(w:World)(K:Za1)(mg:Str->Zl)(base:Heap)(A:Around)(outer:Zq)(s:Zu)(H:Hp):Prop where
 frames:A.frames\outer
 mod:Mod K mg base
 bs:∀b o,base.get? b\o->s•b\o/\H b=none
 uj:base.objs.size<=↥s
 jD:s.heap.FunFrames base outer
 vD:∀b∈cY outer,H b=none
 aU:dy P w H s.heap
 bare:AllBare s.gens
def CE (a:Zq)(P:Program)(w:World)(H:Hp)(s:Zu)(Q:VK)(u:Zt)(b:Zu):Prop:=∃v c,b.os=s.os/\AllBare b.gens/\Un (cY a) [] H c s.heap b.heap/\dy P w c b.heap/\RelV v u/\Q v c
def CR (c:lS)(a:Zq)(P:Program)(w:World)(H:Hp)(s:Zu)(Q:VK)(E:XK)(r:Result)(b:Zu):Prop:=
 match r with
 |.ok (.ret u)=>CE a P w H s Q u b
 |.ok _=>False
 |.error e=>c a H s E e b
structure dZ (P:Program)(w:World)(K:Za1)(mg:Str->Zl)(base:Heap)(CX:lS)(k:Nat)(f:Zs)(fd:FuncData)(ps:Zp)(sp:Sp):Prop where
 len:∀vs H Q E,sp vs H Q E->⇑vs=⇑ps
 run:∀(A:Around)(outer:Zq)(s:Zu)(H:Hp)(args:Args)(us:Zk)(vs:Zb)(Q:VK)(E:XK),c9 k A->uO P w K mg base A outer s H->BindsTo s fd args (ps.zip us)->Vals vs us->sp vs H Q E->codeAny (model P w) A (.call ↑f args) (CR CX outer P w H s Q E) s
def uO.make {mg:Str->Zl}{base:Heap}{outer:Zq}(e:uO P w K mg base A outer s H)(C:Zs)(a:Zk)(b:List (Str×Zt)):
 uO P w K mg base (A.under (.builtin "type.__call__" ⟨↑C::a,b⟩)) outer s H:=⟨by first|rwa[e.frames]|(simpa [Around.under,Code.envs,Code.isFrame,pushEnvs] using e.frames),e.mod,e.bs,e.uj,e.jD,e.vD,e.aU,e.bare⟩
section
variable {X:Cx}{pins:List (Zs×Obj)}{σ:St}{H:Hp}{s s':Zu}
def Inv.FW (I:Inv X pins σ H s):uO X.prog X.w X.K X.mg X.base X.A X.stack s H:=⟨I.ok.frames,I.ok.mod,I.bs,ajl I.ok.uj I.sz,I.stack,I.sY,I.aU,I.bare⟩
def Inv.after {Q:VK}(I:Inv X pins σ H s)(h:CE X.stack X.prog X.w H s Q u s'):EP X pins σ Q u s':=by let⟨v,e,os,bare,un,aU,r,q⟩:=h;let⟨c,g,d,t,a⟩:=s';obtain rfl:a=s.os:=os;rwa[v,e,I.call (h':=c) (g':=g) (d':=d) (t':=t) (ch:=[]) un aU bare (λb z=>absurd z (by simp)),r,q]
end
def NB (b:Sp)(a:Zb)(E:XK)(t:TA):TE:=λ e H Q=>t e H λc d=>b (c++a) d Q E
inductive SM (C:Zs)(m:Str)(sp:Sp)(dvs:Zb)(E:XK)(t:TA)(σ:St)(x:V)(H:Hp)(Q:VK):Prop
 |mk (a dx:Zs)(fs:List (Str×V)):x=↑a->H a\.ins C dx fs->fs.lookup m=none->t σ H (λvs H2=>sp (x::(vs++dvs)) H2 Q E)->SM C m sp dvs E t σ x H Q
def vJ (C:Zs)(m:Str)(c:Sp)(a:Zb)(E:XK)(e:TE)(t:TA):TE:=λ b H Q=>e b H λx d=>SM C m c a E t b x d Q
def XC (C:Zs)(e:Sp)(c:Zb)(E:XK)(t:TA):TE:=λ g H Q=>t g H λf b=>∀x a,b x=none->b a=none->a≠x->e (↑x::(f++c)) (upd (upd b a (.own x)) x (.ins C a [])) (λv d=>v=.non/\Q ↑x d) E
def Binds (K:Za1)(fd:FuncData)(c:Zp)(b:Zk):Prop:=∀(s:Zu)(a:Zk),K.In s.heap->⇑(a++b)=⇑c->BindsTo s fd ⟨a,[]⟩ (c.zip (a++b))
def Binds.all {fd:FuncData}(h:∀us:Zk,⇑us=⇑Z->bindArgs fd ⟨us,[]⟩=pure (Z.zip us)):Binds K fd Z []:=λs us _ a=>by rw[ajm]at a ⊢;rwa[.of_eq (h us a)]
def Passes (c:lS)(X:Cx)(E:XK):Prop:=∀(a:List (Zs×Obj))(d:St)(H:Hp)(s:Zu)(e:Zt)(b:Zu),Inv X a d H s->c X.stack H s E e b->X.xe e b
section
variable {X:Cx}{CX:lS}{k:Nat}{f C:Zs}{fd:FuncData}{ps:Zp}{sp:Sp}{dvs:Zb}{ds:Zk}{E:XK}{x m:Str}{p pos apos:Pos}{e o:Expr}{es:Zr}{ta:TE}{t:TA}
theorem AJ {a:List (Zs×Obj)}{Q:VK}{us:Zk}{vs:Zb}(F:dZ X.prog X.w X.K X.mg X.base CX k f fd ps sp)(l:c9 k X.A)(i:Binds X.K fd ps ds)(d:Vals dvs ds)(q:Passes CX X E)(I:Inv X a D H s)(r:Vals vs us)(h:sp (vs++dvs) H Q E):X⁻¹ X.A (call ↑f us) (EP X a D Q) X.xe s:=by
 let c:Vals (vs++dvs) (us++ds):=r.append d;let j:⇑(us++ds)=⇑ps:=by rw[<-⇑c];rwa[F.len _ _ _ _ h]
 rwa[amq (alL (F.run X.A X.stack s H ⟨us,[]⟩ (us++ds) (vs++dvs) Q E l I.FW (i s us I.dE j) c h) λr g b=>?_)]
 cases r with
 |error e=>exact q a D H s e g I b
 |ok n=>
  cases n with
  |ret u=>exact I.after b
  |next=>exact False.elim b
  |brk=>exact False.elim b
  |cont=>exact False.elim b
def Qn (F:dZ X.prog X.w X.K X.mg X.base CX k f fd ps sp)(u:c9 k X.A)(l:Gl X x)(y:X.mg x\↑f)(n:keepIn X.K ↑f=true)(j:Binds X.K fd ps ds)(i:Vals dvs ds)(w:Passes CX X E)(A:PA X (e::es) t)(c:(x==("__debug__":Str))=false:=by decide)(z:starEach (e::es) X.env=(false,eval e X.env)::starEach es X.env:=by rfl)(b:(backTo pos (starEach es X.env)).any (·.1)=false:=by rfl):
 PE X (.Call (.Name x p) (e::es) [] pos) (NB sp dvs E t):=by intro a s v H Q I h;rwa[akp (j3 I l y ?_ c)];rwa[alH (h₀:=X.base) I.ok.mod.vC n (a9 (A pos a s v H _ I h) λJ G ζ=>?_) z b];let⟨B,D,d,r,q⟩:=ζ;rwa[⟨d.dE,5⟩];rwa[AJ F u j i w d r q]
def Qo {pl:Sem Bool}(O:PE X o ta)(c:lh X.K C)(hm:Meth X.K C m f)(F:dZ X.prog X.w X.K X.mg X.base CX k f fd ps sp)(J:c9 k X.A)(D:Binds X.K fd ps ds)(A:Vals dvs ds)(N:Passes CX X E)(P:PA X (e::es) t)(g:starEach (e::es) X.env=(false,eval e X.env)::starEach es X.env:=by rfl)(d:(backTo pos (starEach es X.env)).any (·.1)=false:=by rfl)(B:eval (.Call (.Attribute o m apos) (e::es) [] pos) X.env=(do
  let v <-eval o X.env
  standAt apos.atName
  let (f,first) <-holding [v] (getMethod v m pl)
  callWith pos f first (backTo pos (starEach (e::es) X.env)) (backToKw pos (keywordEach [] X.env))):=by rfl):
 PE X (.Call (.Attribute o m apos) (e::es) [] pos) (vJ C m sp dvs E ta t):=by intro b s w H Q I h;rwa[PySem.W.methodCall_KW (pl:=pl) (a9 (O b s w H _ I h) λu L ζ=>?_) B];let⟨x,G,i,M,a,W,fs,ex,R,l,q⟩:=ζ;subst ex;obtain rfl:u=Value.ref a:=M;rwa[vI i R c hm l ?_];rwa[alH (first:=[↑a]) (h₀:=X.base) I.ok.mod.vC hm.kp (a9 (P pos b L w G _ i q) λy T ζ=>?_) g d];let⟨j,U,n,r,S⟩:=ζ;rwa[⟨n.dE,5⟩];rwa[AJ (us:=↑a::y) (vs:=↑a::j) F J D A N n (.cons rfl r) S]
def K3 {pl:Sem Bool}(z:PE X o ta)(c:lh X.K C)(hm:Meth X.K C m f)(F:dZ X.prog X.w X.K X.mg X.base CX k f fd ps sp)(r:c9 k X.A)(n:Binds X.K fd ps ds)(i:Vals dvs ds)(y:Passes CX X E)(j:eval (.Call (.Attribute o m apos) [] [] pos) X.env=(do
  let g <-eval o X.env
  standAt apos.atName
  let (f,first) <-holding [g] (getMethod g m pl)
  callWith pos f first (backTo pos (starEach [] X.env)) (backToKw pos (keywordEach [] X.env))):=by rfl):
 PE X (.Call (.Attribute o m apos) [] [] pos) (vJ C m sp dvs E ta rB):=by intro b s w H Q I h;rwa[PySem.W.methodCall_KW (pl:=pl) (a9 (z b s w H _ I h) λu G ζ=>?_) j];let⟨x,D,d,v,a,L,fs,ex,A,l,q⟩:=ζ;subst ex;obtain rfl:u=Value.ref a:=v;rwa[vI d A c hm l ?_];rwa[PySem.W.callWith_K0 (first:=[↑a]) d.dE hm.kp (AJ (us:=[↑a]) (vs:=[↑a]) F r n i y d (.cons rfl .nil) q)]
structure Mk (K:Za1)(C f:Zs):Prop where
 makes:makesIn K C=true
 init:findIn K ↑C "__init__"=some (some ↑f)
 fn:isFn K ↑f=true
 kp:keepIn K ↑C=true
theorem K4 {a:List (Zs×Obj)}{Q:VK}(M:Mk X.K C f)(F:dZ X.prog X.w X.K X.mg X.base CX k f fd ps sp)(B:c9 (k+ 1) X.A)(n:Binds X.K fd ps ds)(j:Vals dvs ds)(J:Passes CX X E)(I:Inv X a D H s)(r:Vals L N)(h:∀x d,H x=none->H d=none->d≠x->sp (↑x::(L++dvs)) (upd (upd H d (.own x)) x (.ins C d [])) (λv O=>v=.non/\Q ↑x O) E):
 X⁻¹ X.A (call ↑C N) (EP X a D Q) X.xe s:=by
 let g:=h (↥s+ 1) ↥s (I.aU.fresh (amr _)) (I.aU.fresh (aja _)) (ajH (akA _));let c:=Inv.made (C:=C) I;let i:Vals (V.ref (↥s+ 1)::(L++dvs)) (Value.ref (↥s+ 1)::(N++ds)):=.cons rfl (r.append j)
 let A:⇑(Value.ref (↥s+ 1)::N++ds)=⇑ps:=by let e:=⇑i;rw[F.len _ _ _ _ g]at e;rwa[e.symm]
 refine amq (K2 (f:=f) I.dE M.makes M.init (al7.mp M.fn) (alL (F.run _ X.stack _ _ ⟨Value.ref (↥s+ 1)::N,[]⟩ (Value.ref (↥s+ 1)::(N++ds)) _ _ E (B.make C N [])
  (c.FW.make C N []) (n _ (Value.ref (↥s+ 1)::N) c.dE A) i g) λr l b=>?_))
 cases r with
 |error e=>exact J a D _ _ e l c b
 |ok G=>
  cases G with
  |ret u=>let⟨v,P,w,z,q,y⟩:=c.after b;subst q;rwa[z,⟨V.ref (↥s+ 1),P,w,2,y⟩]
  |next=>exact False.elim b
  |brk=>exact False.elim b
  |cont=>exact False.elim b
def xN (M:Mk X.K C f)(F:dZ X.prog X.w X.K X.mg X.base CX k f fd ps sp)(n:c9 (k+ 1) X.A)(l:Gl X x)(w:X.mg x\↑C)(j:Binds X.K fd ps ds)(i:Vals dvs ds)(v:Passes CX X E)(z:PA X (e::es) t)(c:(x==("__debug__":Str))=false:=by decide)(y:starEach (e::es) X.env=(false,eval e X.env)::starEach es X.env:=by rfl)(b:(backTo pos (starEach es X.env)).any (·.1)=false:=by rfl):
 PE X (.Call (.Name x p) (e::es) [] pos) (XC C sp dvs E t):=by intro a s u H Q I h;rwa[akp (j3 I l w ?_ c)];rwa[alH (h₀:=X.base) I.ok.mod.vC M.kp (a9 (z pos a s u H _ I h) λG D ζ=>?_) y b];let⟨A,B,d,r,q⟩:=ζ;rwa[⟨d.dE,5⟩];rwa[K4 M F n j i v d r q]
end
def PK (X:Cx)(kws:List Keyword)(t:TA):Prop:=∀(pos:Pos)(a:List (Zs×Obj))(s:Zu)(b:St)(H:Hp)(Q:Zb->Hp->Prop),Inv X a b H s->t b H Q->X⁻¹ X.A (evalAll ((backToKw pos (keywordEach kws X.env)).map (·.2))) (AP X a b Q) X.xe s
section
variable {X:Cx}{fd:FuncData}{ps ks:Zp}{x:Str}{pos abW:Pos}{e:Expr}{kws:List Keyword}{te:TE}{t:TA}{nm:Option Str}
def HG:PK X [] rB:=λ_ _ _ _ H Q I h=>wpAny_evalAll_nil ⟨[],H,I,.nil,h⟩
def Ec (w:PE X e te)(l:PK X kws t):PK X (⟨nm,e,abW⟩::kws) (tq te t):=by intro pos a s b H Q I h;rwa[wpAny_evalAll_cons (ai2 (a9 (w a s b H _ I h) λu q ζ=>?_))];let⟨x,j,d,c,g⟩:=ζ;rwa[ai2 (ame (ajb ?_))];rwa[a9 (l pos a q b j _ d g) λA z ζ=>?_];let⟨n,v,i,r,y⟩:=ζ;rwa[⟨x::n,v,i,.cons c r,y⟩]
structure ade (K:Za1)(fd:FuncData)(ps ks:Zp)(g:Zk->Zk->Zk)(gV:Zb->Zb->Zb):Prop where
 to:∀(s:Zu)(us ws:Zk),K.In s.heap->⇑(g us ws)=⇑ps->BindsTo s fd ⟨us,ks.zip ws⟩ (ps.zip (g us ws))
 rel:∀{vs:Zb}{us:Zk}{zs:Zb}{ws:Zk},Vals vs us->Vals zs ws->Vals (gV vs zs) (g us ws)
end
structure aM (N P:Zp)(sc:Scope):Prop where
 kind:sc.kind=.function
 co:sc.isCoroutine=false
 gen:sc.isGenerator=false
 nd:N.Nodup
 pre:N.take ⇑P=P
 par:∀x∈P,sc.names.lookup x=some .local\/sc.names.lookup x=some .cell
 SN:∀y∈sc.names,y.2≠.free
theorem yN {kindOf:Str->Option NameKind}:∀{binds:List (Str×Zt)}{m:Str->Zl},(∀v,(x,v)∉binds)->bindL kindOf binds m x=m x
 |[],_,_=>rfl
 |(n,v)::r,m,h=>by
  unfold bindL;rw[yN λw a=>h w (ajw _ a)];split
  ·cbv
  ·rfl
theorem yO {kindOf:Str->Option NameKind}:∀{binds:List (Str×Zt)}{m:Str->Zl},(∀v,(x,v)∉binds)->bindC kindOf binds m x=m x
 |[],_,_=>rfl
 |(n,v)::r,m,h=>by
  unfold bindC;rw[yO λw a=>h w (ajw _ a)];split
  ·rfl
  cbv
theorem yP {kindOf:Str->Option NameKind}{x:Str}{v:Zt}:∀{P:Zp}{a:Zk}{i:Nat}{m:Str->Zl},P.Nodup->P[i]?\x->a[i]?\v->kindOf x=some .local->
 bindL kindOf (P.zip a) m x=some v
 |[],_,_,_,_,h,_,_=>by simp at h
 |_::_,[],_,_,_,_,h,_=>by simp at h
 |p::P,w::a,0,m,d,c,b,e=>by simp at c b;subst c;subst b;show bindL kindOf ((p,w)::P.zip a) m p=_;unfold bindL;rw[yN λv f=>(ajO.mp d).1 (List.of_mem_zip f).1,ajn e];simp
 |p::P,w::a,i+ 1,m,d,c,b,e=>by unfold bindL;rwa[yP (i:=i) (ajO.mp d).2 (by simpa using c) (by simpa using b) e]
theorem yQ {kindOf:Str->Option NameKind}{x:Str}{v:Zt}:∀{P:Zp}{a:Zk}{i:Nat}{m:Str->Zl},P.Nodup->P[i]?\x->a[i]?\v->kindOf x≠some .local->
 bindC kindOf (P.zip a) m x=some v
 |[],_,_,_,_,h,_,_=>by simp at h
 |_::_,[],_,_,_,_,h,_=>by simp at h
 |p::P,w::a,0,m,d,c,b,e=>by simp at c b;subst c;subst b;show bindC kindOf ((p,w)::P.zip a) m p=_;unfold bindC;rw[yO λv f=>(ajO.mp d).1 (List.of_mem_zip f).1,ajk e];simp
 |p::P,w::a,i+ 1,m,d,c,b,e=>by unfold bindC;rwa[yQ (i:=i) (ajO.mp d).2 (by simpa using c) (by simpa using b) e]
def start (N:Zp)(a:Zb):St:=a.map some++List.replicate (⇑N - ⇑a) none
def dH (c:lS)(P:Program)(w:World)(K:Za1)(mg:Str->Zl)(base:Heap)(N:Zp)(qual:Str)(scope:Scope)(f:Zs)(b:Zt)(A:Around)(outer:Zq)(s:Zu)(H:Hp)(E:XK):Cx where
 prog:=P
 w:=w
 K:=K
 mg:=mg
 base:=base
 A:=A.deeper (envOfC qual scope ↥s f b)
 N:=N
 eM:=s
 uG:=H
 env:=envOfC qual scope ↥s f b
 outer:=outer
 stack:=envOfC qual scope ↥s f b::outer
 ex:=[]
 calm:=true
 fn:=λ_=>true
 pn:=[]
 xe:=λe d=>(P<|>w) (A.deeper (envOfC qual scope ↥s f b)) (leaving (envOfC qual scope ↥s f b) e) (λ_ a=>c outer H s E e a) (λg a=>c outer H s E g a) d
instance eI.cx {CX:lS}{P:Program}{w:World}{K:Za1}{mg:Str->Zl}{base:Heap}{N:Zp}{qual:Str}{scope:Scope}{f:Zs}{cd:Zt}{A:Around}{outer:Zq}{s:Zu}{H:Hp}{E:XK}:eI (dH CX P w K mg base N qual scope f cd A outer s H E) K:=⟨2⟩
def AK {sc:Scope}(h:sc.names.lookup x=some .cell):∃c,(cellsFrom n sc.names []).lookup x\c:=by let q:=PySem.W.cellsFrom_some sc.names n [] (.inl h);rwa[al9.mp q]
def HJ {O:lS}{base:Heap}{N:Zp}{qual:Str}{scope:Scope}{f:Zq}{J:Zu}{E:XK}{F:Zk}(S:aM N Z scope)(Q:A.handled=none)(j:uO P w K M base A f s H)(X:⇑L=⇑Z)(r:Vals L F)(x:InCallC s ↥s (bindL (envOfC qual scope ↥s a v).kindOf (Z.zip F) λ_=>none) (cellsFrom (↥s+ 1) scope.names []) (bindC (envOfC qual scope ↥s a v).kindOf (Z.zip F) λ_=>none) J):
 Inv (dH O P w K M base N qual scope a v A f s H E) [] (start N L) H J:=by
 let R:⇑Z<=⇑N:=by have:=ajY List.length S.pre;rw[ajD]at this;ext
 let⟨C,W,rfl,G⟩:=x.done;let m:∀b:Zs,b∉(dH O P w K M base N qual scope a v A f s H E).ex:=λb z=>absurd (show b∈([]:Zn) from z) (by simp)
 erw[⟨j.mod,S.kind,22,aja _,λy z c C l=>?_,λy t=>?_,λy c _ h=>?_,λ_=>Q,Around.frames_deeper j.frames,.inr ⟨22⟩,λb z=>absurd z (m b),j.bs,j.uj,λb _ _=>m b,λb z=>absurd z (m b),j.jD,j.vD⟩,2,j.bare,Un.kept G,⟨_,x.toInCall.ns,λi y g C l Y=>?_⟩,λy c h=>⟨_,x.cell y c h⟩,j.aU.fresh (aja _),λy c h=>?_,λp o=>absurd (show p∈([]:List (Zs×Obj)) from o) (by simp),j.aU.kept G]
 ·rwa[name_of_addr x.apart (ak4 C) (ak4 l)]
 ·rcases t with t|t
  ·rwa[AK t]
  ·rwa[absurd rfl (S.SN _ (ak4 t))]
 ·rwa[akZ (x.above y c (ak4 h))]
 ·let D:i<⇑L:=by
   unfold start at l;cases D:i<⇑L
   ·rwa[D]
   ·cbv
  let U:L[i]?\g:=by
   unfold start at l;rw[ajd (by simpa using D),ajc]at l
   cases e:L[i]? with
   |none=>rw[e]at l;ext l
   |some d=>cbv
  let⟨u,I,T⟩:=r.get U
  let o:Z[i]?\y:=by rw[<-S.pre,akU ∅];rwa[C]
  let B:Z.Nodup:=by rw[<-S.pre];rwa[S.nd.sublist (List.take_sublist _ _)]
  erw[u,T];rcases S.par y (ai5 o) with k|k
  ·rwa[.inl ⟨k,yP B o I k⟩]
  ·let⟨c,e⟩:=AK (n:=↥s+ 1) k;rwa[.inr ⟨.inl k,c,e,5⟩];let q:=x.cell y c e;rw[yQ B o I (by show scope.names.lookup y≠_;cbv)]at q;rwa[q]
 ·rwa[j.aU.fresh (akZ (x.above y c (ak4 h)))]
 ·unfold start;show _=⇑N;rw[ai3,ai6,ala];ext
def NC {B:lS}{base:Heap}{k:Nat}{name qual:Str}{params:Arguments}{body:List Stmt}{scope:Scope}{X kV doc pm d Y Z:Zt}{W od:Zo}{O:Array Zl}{N z:Zp}{C:Sp}(lk:K.lookup a\⟨Z,od,.func (fnOf name qual params body scope X kV doc pm W d Y),O⟩)(L:codeIn K d qual=true)(S:aM N z scope)(len:∀f H Q E,C f H Q E->⇑f=⇑z)(j:∀(A:Around) (c:Zq) (s:Zu) (H:Hp) (f:Zb) (Q:VK) (E:XK),c9 k (A.deeper (envOfC qual scope ↥s a d))->C f H Q E->∃t,iO (dH B P w K M base N qual scope a d A c s H E) body t/\t { nx:=λ_ h=>Q .non h,rt:=Q } (start N f) H):
 dZ P w K M base B (k+ 1) a (fnOf name qual params body scope X kV doc pm W d Y) z C:=by
 rwa[⟨len,λA c s H R us f Q E G m hb r p=>?_⟩];let hl:=len _ _ _ _ p;let T:K.In s.heap:=m.mod.vC.keeps λb o e=>(m.bs b o e).1
 let lim:s.heap.NoLimit:=m.mod.nolimit.keeps λb o e=>(m.bs b o e).1
 let i:∀y∈z.zip us,scope.names.lookup y.1=some .local\/(scope.names.lookup y.1=some .cell/\((cellsFrom (↥s+ 1) scope.names []).lookup y.1).isSome=true):=λζ hy=>by
  let⟨n,v⟩:=ζ
  rcases S.par n (List.of_mem_zip hy).1 with q|q
  ·rwa[.inl q]
  ·rwa[.inr ⟨q,PySem.W.cellsFrom_some _ _ _ (.inl q)⟩]
 rwa[codeAny_call_function G.depth (T^lk) rfl S.co S.gen rfl (PySem.W.codeRec_of T L) (hb _ _ _ _ ?_)];rwa[wpAny_newFunctionEnv_cells S.kind i λenv he U x=>?_]
 subst he;rwa[⟨lim.keeps x.toInCall.keep,codeAny_func ?_⟩];let⟨t,ht,hq⟩:=j A c s H f Q E (G.deeper _) p;let I:Inv (dH B P w K M base N qual scope a d A c s H E) [] (start N f) H U:=HJ S G.hd m hl r x;rwa[akw (ht [] U (start N f) H _ I hq) (λfl D l=>?_) λe D l=>l]
 let fin:∀{g:St}{h:Hp}{v:V}{u:Zt},Inv (dH B P w K M base N qual scope a d A c s H E) [] g h D->RelV v u->Q v h->CE c P w H s Q u D:=λ{g h v u} J F q=>⟨v,h,J.os,J.bare,J.base,J.aU,F,q⟩
 cases fl with
 |ret u=>let⟨v,g,h,J,F,q⟩:=l;rwa[fin J F q]
 |next=>let⟨g,h,J,q⟩:=l;rwa[fin (v:=V.non) (u:=Value.none) J rfl q]
 |brk=>let⟨_,_,_,q⟩:=l;rwa[False.elim q]
 |cont=>let⟨_,_,_,q⟩:=l;rwa[False.elim q]
variable {X:Cx}{x:Str}{p pos:Pos}{e:Expr}{es:Zr}{t:TA}{id T:String}{r:Zb->Hp->VK->Prop}
def YQ (r:Zb->Hp->VK->Prop)(t:TA):TE:=λ c H Q=>t c H λa b=>r a b Q
def bD (l:gZ X (.builtin id) r)(g:Gl X x)(q:X.mg x=none)(v:bootBuiltins x\.builtin id)(w:PA X (e::es) t)(o:x≠"__name__":=by decide)(c:(x==("__debug__":Str))=false:=by decide)(y:starEach (e::es) X.env=(false,eval e X.env)::starEach es X.env:=by rfl)(b:(backTo pos (starEach es X.env)).any (·.1)=false:=by rfl):PE X (.Call (.Name x p) (e::es) [] pos) (YQ r t):=by intro a s d H Q I h;rwa[akp (hH I g q v ?_ o c)];rwa[PyProof.Rows.callWith_builtin1 (a9 (w pos a s d H _ I h) λu n ζ=>?_) y b];let⟨j,m,i,f,k⟩:=ζ;rwa[l a n d m j u Q i f k]
def dF (l:gZ X (.type T) r)(g:Gl X x)(q:X.mg x=none)(v:bootBuiltins x\.type T)(w:PA X (e::es) t)(o:x≠"__name__":=by decide)(c:(x==("__debug__":Str))=false:=by decide)(y:starEach (e::es) X.env=(false,eval e X.env)::starEach es X.env:=by rfl)(b:(backTo pos (starEach es X.env)).any (·.1)=false:=by rfl):PE X (.Call (.Name x p) (e::es) [] pos) (YQ r t):=by intro a s d H Q I h;rwa[akp (hH I g q v ?_ o c)];rwa[ake (a9 (w pos a s d H _ I h) λu n ζ=>?_) y b];let⟨j,m,i,f,k⟩:=ζ;rwa[l a n d m j u Q i f k]
end L2
namespace HT
def lexLt:Zg->Zg->Bool
 |[],[]=>false
 |[],_::_=>true
 |_::_,[]=>false
 |x::a,y::ys=>if x=y then lexLt a ys else decide (x<y)
variable {prog:Program}{w:World}{A:Around}{E:Zt->Zu->Prop}{s:Zu}
def Qp {t:Zs}{ws:Zk}(r:IsTup s.heap t N.toArray)(u:IsTup s.heap b ws.toArray)(m:N≠[])(v:ws=[]->Q ↑t s)(q:ws≠[]->Q ↑↥s { s with heap:=s.heap.push ("tuple">>>.seq (N++ws).toArray) })(x:⇑N+ ⇑ws<=sizeLine):(prog<|>w) A (binaryOp .Add ↑t ↑b) Q E s:=by
 let⟨⟨cls,l,data,j⟩,g,y,n,p⟩:=id r;let⟨⟨k,c,data2,d⟩,a,i,o,h⟩:=id u;subst y p i h;let e:N.toArray++ws.toArray=(N++ws).toArray:=by simp
 cases f:ws=[]
 ·exact concat_meets ⟨_,g,2⟩ ⟨_,a,2⟩ noFill_tuple_add seq_tuple_add amm amf (ama _ _)
   (tuple_addW1 t b N.toArray ws.toArray n o l c j d (by simpa using m) (by simp[f])) ⟨g,a,v f⟩
 ·refine concat_meets ⟨_,g,2⟩ ⟨_,a,2⟩ noFill_tuple_add seq_tuple_add amm amf (ama _ _)
   (tuple_addW2 t b N.toArray ws.toArray n o l c j d (by simpa using m) (by simpa using f) ∅) ⟨g,a,5⟩
  rw[e];rwa[q f]
def bU (n d:Nat):Zj->Nat
 |none=>d
 |some v=>if v<0 then (v+ (n:Int)).toNat else min v.toNat n
def xO (n d k:Nat):bU n d (some (k:Int))=min k n:=by show (if (k:Int)<0 then ((k:Int)+ (n:Int)).toNat else min (k:Int).toNat n)=min k n;rw[ajk ∅,ajG]
def Ed (v:Int)(n d:Nat):(if v<0 then max (v+ (n:Int)) 0 else min v (n:Int))=((bU n d (some v):Nat):Int):=by
 show (if v<0 then max (v+ (n:Int)) 0 else min v (n:Int))=(((if v<0 then (v+ (n:Int)).toNat else min v.toNat n):Nat):Int);cases a:v<0
 ·cbv
 ·simp only[ajk a];ext
def FX (lo a:Zj)(n:Nat):Builtin.Slice.sliceAdjust lo a 1 (n:Int)=(((bU n 0 lo:Nat):Int),((bU n n a:Nat):Int)):=by
 let b:¬((1:Int)<0):=∅
 unfold Builtin.Slice.sliceAdjust;rwa[Prod.ext ?_ ?_]
 ·cases lo with
  |none=>rfl
  |some v=>exact Ed v n 0
 ·cases a with
  |none=>rfl
  |some v=>exact Ed v n n
def FY (i j:Nat):Builtin.Slice.slicePlaces (i:Int) (j:Int) 1=j - i:=by
 unfold Builtin.Slice.slicePlaces;let a:(1:Int) > 0:=∅
 split <;> ext
def vK {o:Zj}{Q:Zj->Zu->Prop}(p:IsPart v o)(h:Q o s):(prog<|>w) A (Builtin.Slice.slicePartIndex v) Q E s:=by
 cases p with
 |none=>exact slicePart_none h
 |int i t=>exact slicePart_int h
def lT {lo d:Zj}{Q:Int×Int×Nat->Zu->Prop}(g:s.heap.IsSliceOf a v u .none)(pl:IsPart v lo)(e:IsPart u d)(h:Q (((bU n 0 lo:Nat):Int),1,bU n n d - bU n 0 lo) s):(prog<|>w) A (Builtin.Slice.sliceApplied ↑a (pure (n:Int))) Q E s:=by let⟨os,b,f,c⟩:=id g;rwa[ai2 (ai2 (aj6 b c (x:=v) rfl (ai2 (aj6 b c (x:=u) rfl (ai2 (aj6 b c (x:=.none) rfl (ajb ?_)))))))];rwa[ai2 (slicePart_none ?_)];rwa[ai2 (vK pl (ai2 (vK e (ai2 (ajb ?_)))))];show wpAny _ _ (match Builtin.Slice.sliceAdjust lo d 1 (n:Int) with|(lo,d)=>pure (lo,(1:Int),Builtin.Slice.slicePlaces lo d 1)) _ _ s;rw[FX lo d n];show wpAny _ _ (pure (((bU n 0 lo:Nat):Int),(1:Int),Builtin.Slice.slicePlaces ((bU n 0 lo:Nat):Int) ((bU n n d:Nat):Int) 1)) _ _ s;rw[FY];rwa[ajb h]
def K5 (xs:Zm)(i k:Nat):((~~~k).filterMap λ(m:Nat)=>xs[((i:Int)+ (m:Int)* 1).toNat]?).toArray=((xs.toList.drop i).take k).toArray:=by
 let e:(λ(m:Nat)=>xs[((i:Int)+ (m:Int)* 1).toNat]?)=λm=>xs[i+ m]?:=by
  funext m
  have:((i:Int)+ (m:Int)* 1).toNat=i+ m:=∅
  rw[this]
 rw[e];have:=pick_run xs i k;rw[List.filterMap_map]at this;let a:((λx=>xs[x]?) ∘ λx=>i+ x)=λm=>xs[i+ m]?:=rfl
 cbv
def tY {t:Zs}{items:Zm}{lo c:Zj}(d:IsTup s.heap t items)(j:s.heap.IsSliceOf a v u .none)(pl:IsPart v lo)(o:IsPart u c)(n:¬(bU items.size 0 lo=0/\bU items.size items.size c=items.size))(h:Q ↑↥s { s with heap:=s.heap.push ("tuple">>>.seq ((items.toList.drop (bU items.size 0 lo)).take (bU items.size items.size c - bU items.size 0 lo)).toArray) })(l:items.size<=sizeLine):(prog<|>w) A (getItem ↑t ↑a) Q E s:=by
 let b:sizeOk (.seq ((items.toList.drop (bU items.size 0 lo)).take (bU items.size items.size c - bU items.size 0 lo)).toArray):=by show ((items.toList.drop (bU items.size 0 lo)).take (bU items.size items.size c - bU items.size 0 lo)).toArray.size<=sizeLine;rw[ajp,ajD,aj4,ak3];ext
 let⟨os,g,f,k⟩:=id j;let i:s.TypeIs ↑a "slice":=⟨os,g,f⟩;unfold getItem
 try with_reducible rwa[aku ?_]
 rwa[ai2 (wpAny_sequenceKey d.typeIs ⋯ ?_)]
 refine ai2 (akh (name:=Str.ofString "__getitem__") d.typeIs ajU
  (akt ajU d.typeIs entry_tuple_getitem ?_ (args_tuple_getitem _ _)))
 show wpAny _ _ (Builtin.Tuple.tupleItemsOf ↑t >>=_) _ _ s;rwa[ai2 (tupleItemsOf_ d ?_)];rwa[ai2 (alb i ?_)];rwa[ai2 (lT j pl o ?_)]
 let e:¬((((bU items.size 0 lo:Nat):Int)==0 && (1:Int)==1 && (bU items.size items.size c - bU items.size 0 lo)==items.size)=true):=by intro q;rw[akB,akB]at q;let p:((bU items.size 0 lo:Nat):Int)=0:=eq_of_beq q.1.1;let r:bU items.size items.size c - bU items.size 0 lo=items.size:=eq_of_beq q.2;rwa[n ⟨33⟩]
 show wpAny _ _ (if (((bU items.size 0 lo:Nat):Int)==0 && (1:Int)==1 && (bU items.size items.size c - bU items.size 0 lo)==items.size)=true then _ else _) _ _ s;rw[ajk e,K5]
 first
  |rwa[ai2 (m:=Builtin.Tuple.tupleExact _) (ajW (ajb ⟨_,rfl,ajb h⟩) b)]
  |rwa[ai2 (m:=Builtin.Tuple.tupleExact _) (ajW (ai2 (ajb (ajb ⟨_,rfl,ajb h⟩))) b)]
  |rwa[ai2 (ai2 (m:=Builtin.Tuple.tupleExact _) (ajW (ajb (ajb ⟨_,rfl,ajb h⟩)) b))]
  |rwa[ai2 (ai2 (m:=Builtin.Tuple.tupleExact _) (ajW (ajb ⟨_,rfl,ajb h⟩) b))]
end HT
namespace L2
abbrev TO:=St->Hp->(Zj->Hp->Prop)->Prop
def PO (X:Cx)(e:Option Expr)(t:TO):Prop:=
 ∀(a:List (Zs×Obj))(s:Zu)(b:St)(H:Hp)(Q:Zj->Hp->Prop),Inv X a b H s->t b H Q->X⁻¹ X.A (evalPart e X.env) (λu d=>∃o c,Inv X a b c d/\IsPart u o/\Q o c) X.xe s
def Qq:TO:=λ_ H Q=>Q none H
def XE (t:TE):TO:=λ b H Q=>t b H λx a=>∃i,x=.int i/\Q (some i) a
section
variable {X:Cx}{e:Expr}{te:TE}{lo hi:Option Expr}{tl th:TO}{pos p2:Pos}
def jl:PO X none Qq:=by intro a s b H Q I h;rwa[ajb ⟨none,H,I,.none,h⟩]
def ik (h:PE X e te):PO X (some e) (XE te):=by
 intro a s j H Q I b;rwa[a9 (h a s j H _ I b) λu k ζ=>?_];let⟨x,c,g,d,f⟩:=ζ
 let⟨i,rfl,q⟩:=f;let⟨t,rfl⟩:=d;rwa[some i,c,g,.int i t,q]
def ND (X:Cx)(r:V->Zj->Zj->Hp->VK->Prop):Prop:=
 ∀(a:List (Zs×Obj))(s:Zu)(f:St)(H:Hp)(x:V)(v d c:Zt)(lo hi:Zj)(b:Zs)(Q:VK),Inv X a f H s->RelV x v->s.heap.IsSliceOf b d c .none->IsPart d lo->IsPart c hi->r x lo hi H Q->∃T id,typeLookup (.type T) "__getitem__"=pure (some (.builtin id))/\s.TypeIs v T/\X⁻¹ X.A (getItem v ↑b) (EP X a f Q) X.xe s
def tSl (r:V->Zj->Zj->Hp->VK->Prop)(te:TE)(tl th:TO):TE:=λ a H Q=>te a H λx c=>tl a c λl b=>th a b λu d=>r x l u d Q
def i9 {r:V->Zj->Zj->Hp->VK->Prop}(C:ND X r)(J:PE X e te)(B:PO X lo tl)(E:PO X hi th):PE X (.Subscript e (.Slice lo hi none p2) pos) (tSl r te tl th):=by
 intro a s c H Q I h;rwa[Subscript_ (a9 (J a s c H _ I h) λv F ζ=>?_)];let⟨x,A,m,i,w⟩:=ζ;rwa[wpAny_Slice (a9 (B a F c A _ m w) λf p ζ=>?_)];let⟨l,G,z,pl,L⟩:=ζ;rwa[a9 (E a p c G _ z L) λd s3 ζ=>?_];let⟨u,g,o,D,y⟩:=ζ;rwa[ajb ?_];let j:Inv X a c g { s3 with heap:=s3.heap.push ("slice">>>.fields #[f,d,.none]) }:=o.kept (t':=s3.toks) λb N q=>ai7 _ q
 let⟨T,id,t,k,n⟩:=C a { s3 with heap:=s3.heap.push ("slice">>>.fields #[f,d,.none]) } c g x v f d l u ↥s3 Q j i (Heap.IsSliceOf.new ..) pl D y;rwa[tail_any (ops:=[↑↥s3,v]) k t n (by with_unfolding_all rfl)]
def fY (xs:Zb)(lo hi:Zj):Zb:=(xs.drop (HT.bU ⇑xs 0 lo)).take (HT.bU ⇑xs ⇑xs hi - HT.bU ⇑xs 0 lo)
def um (xs:Zb)(lo hi:Zj):⇑(fY xs lo hi)<=⇑xs:=by unfold fY;rw[ajD,aj4];ext
inductive SQ (K:Za1)(x:V)(lo hi:Zj)(H:Hp)(Q:VK):Prop
 |mk (a:Zs)(xs:Zb):x=↑a->bG K H a xs->¬(HT.bU ⇑xs 0 lo=0/\HT.bU ⇑xs ⇑xs hi=⇑xs)->(∀p,H p=none->Q ↑p (upd H p (.tup (fY xs lo hi))))->SQ K x lo hi H Q
def SR [d:eI X K]:ND X (SQ K):=by
 cases d.eq;intro i s z H x v y p lo hi u Q I l m pl k h;let⟨a,xs,rfl,n,j,q⟩:=h;ext l;let⟨c,r,f,g⟩:=I.tuple n;let hlen:c.toArray.size=⇑xs:=by rwa[r.length.symm]
 erw["tuple",_,ajU.lookup,f.typeIs];rwa[HT.tY f m pl k ([hlen]▸j) ?_ ([hlen]▸g)];rw[hlen];rwa[⟨↑↥s,_,I.laid (t':=s.toks) (o:=.tup (fY xs lo hi)) (λb w q=>ai7 _ q) (aja _) ?_,2,q _ (I.aU.fresh (aja _))⟩];rwa[ajl (um xs lo hi) g,_,(r.drop (HT.bU ⇑xs 0 lo)).take (HT.bU ⇑xs ⇑xs hi - HT.bU ⇑xs 0 lo),IsTup.new _ _]
inductive abX (K:Za1)(x y:V)(H:Hp)(Q:VK):Prop
 |mk (a b:Zs)(ns ms:Zg):x=↑a->y=↑b->bG K H a (ns.map V.int)->bG K H b (ms.map V.int)->Q (.bl (HT.lexLt ns ms)) H->abX K x y H Q
inductive NF (K:Za1)(x y:V)(H:Hp)(Q:VK):Prop
 |mk (a b:Zs)(xs ys:Zb):x=↑a->y=↑b->bG K H a xs->bG K H b ys->xs≠[]->⇑xs+ ⇑ys<=sizeLine->(ys=[]->Q ↑a H)->(ys≠[]->∀p,H p=none->Q ↑p (upd H p (.tup (xs++ys))))->NF K x y H Q
def Vals.tu (r:Vals L N):N=[]↔L=[]:=by
 cases r with
 |nil=>simp
 |cons _ _=>simp
def Qr [f:eI X K]:fX X (binaryOp .Add) (NF K):=by cases f.eq;intro i s F H x y v u Q I r t h;let⟨a,b,p,ys,rfl,rfl,B,k,A,g,m,C⟩:=h;ext r;ext t;let⟨l,d,n,_⟩:=I.tuple B;let⟨j,c,p2,_⟩:=I.tuple k;rwa[HT.Qp n p2 (λz=>A (d.tu.mp z)) (λz=>⟨↑a,H,I,2,m (c.tu.mp z)⟩) (λz=>?_) (by rw[<-⇑d,<-⇑c];rwa[g])];rwa[⟨↑↥s,_,I.laid (t':=s.toks) (o:=.tup (p++ys)) (λb E q=>ai7 _ q) (aja _) ?_,2,C (λw=>z (c.tu.mpr w)) _ (I.aU.fresh (aja _))⟩];rwa[[ai3]▸g,_,d.append c,IsTup.new _ _]
end
def rD (n:Nat)(i:Int):Zi:=if 0<=i then (if i<n then some i.toNat else none) else if -(n:Int)<=i then some (i+ n).toNat else none
def jI {a:Type}(xs:List a)(i:Int):Option a:=(rD ⇑xs i).bind λj=>xs[j]?
def xP (h:rD n z\j):seqIndex? z n\j/\j<n/\-(n:Int)<=z/\z<n:=by
 unfold rD at h;cases b:0<=z
 ·rw[ajn b]at h;cases a:z<n
  ·rw[ajn a]at h;let e:z.toNat=j:=Za0 h;rwa[by rw[seqIndex_of b a,e],33,a]
  ·rw[ajk a]at h;ext h
 ·rw[ajk b]at h;cases a: -(n:Int)<=z
  ·rw[ajn a]at h;let e:(z+ n).toNat=j:=Za0 h;rwa[by rw[seqIndex_neg ∅ a,e],3,a,3]
  ·rw[ajk a]at h;ext h
def Ee {a:Type}{xs:List a}{v:a}(h:jI xs z\v):∃j,seqIndex? z ⇑xs\j/\xs[j]?\v/\j<⇑xs/\-(⇑xs:Int)<=z/\z<⇑xs:=by
 unfold jI at h
 cases e:rD ⇑xs z with
 |none=>rw[e]at h;ext h
 |some j=>rw[e]at h;let⟨d,b,f,c⟩:=xP e;rwa[j,d,h,b,f,c]
def ck {a:Type}{xs:List a}{v:a}(h:xs[j]?\v):jI xs (j:Int)\v:=by
 let b:j<⇑xs:=(ai4.mp h).1
 let e:rD ⇑xs (j:Int)\j:=by unfold rD;rw[ajn ∅,ajn ∅];simp
 unfold jI;rw[e];rwa[h]
def K6 {a:Type}(xs:List a)(v:a):jI (xs++[v]) (-1)\v:=by
 let b:⇑(xs++[v])=⇑xs+ 1:=by simp
 let e:rD ⇑(xs++[v]) (-1)\⇑xs:=by
  unfold rD;rw[b,ajk ⋯,ajn ∅]
  congr 1
  ext
 unfold jI
 cbv
def Qs (b:Expr):Prop:=∀o i,subscripted b false o i=operate [o,i] (getItem o i)
def NK (X:Cx)(r:R2):Prop:=
 ∀(value slice:Expr)(a:List (Zs×Obj))(s:Zu)(b:St)(H:Hp)(x y:V)(v u:Zt)(Q:VK),Inv X a b H s->RelV x v->RelV y u->r x y H Q->subscripted slice false v u=operate [v,u] (getItem v u)->X⁻¹ X.A (subscriptTail value slice v u) (EP X a b Q) X.xe s
def SV (X:Cx)(id:String)(r:V->Zb->Hp->VK->Prop):Prop:=
 ∀(a:List (Zs×Obj))(s:Zu)(d:St)(H:Hp)(x:V)(c:Zb)(v:Zt)(b:Zk)(Q:VK),Inv X a d H s->RelV x v->Vals c b->r x c H Q->X⁻¹ X.A (call (.builtin id) (v::b)) (EP X a d Q) X.xe s
section
variable {X:Cx}{a b:Expr}{ta tb:TE}{pos:Pos}
def bx {r:R2}(g:NK X r)(n:PE X a ta)(d:PE X b tb)(j:Qs b):PE X (.Subscript a b pos) (Nz r ta tb):=by intro c s l H Q I h;rwa[Subscript_ (KW n d I h λv u e x y m f i k q=>g a b c e l m x y v u Q f i k q (j _ _))]
inductive K7 (K:Za1)(x y:V)(H:Hp)(Q:VK):Prop
 |mk (p:Zs)(xs:Zb)(i:Int)(v:V):x=↑p->y=.int i->aB K H p xs->jI xs i\v->Q v H->K7 K x y H Q
inductive SW (K:Za1)(x y:V)(H:Hp)(Q:VK):Prop
 |mk (p:Zs)(xs:Zb)(i:Int)(v:V):x=↑p->y=.int i->bG K H p xs->jI xs i\v->Q v H->SW K x y H Q
inductive abY (x y:V)(H:Hp)(Q:VK):Prop
 |mk (z:Str)(i:Int)(c:Nat):x=.str z->y=.int i->⇑z<=sizeLine->jI z.cps.toList i\c->Q (.str ⟨#[c]⟩) H->abY x y H Q
def bq [g:eI X K]:NK X (K7 K):=by
 cases g.eq;intro value slice c s o H x y v u Q I G J h n;let⟨p,N,i,z,rfl,rfl,C,L,q⟩:=h;ext G;let⟨t,rfl⟩:=J;let⟨f,r,pl,M⟩:=I.list C;let⟨j,d,B,O,D,E⟩:=Ee L;let⟨w,m,e⟩:=r.get B;let F:=⇑r;let P:=rA;let fin:EP X c o Q w s:=⟨z,H,I,e,q⟩;cases l:0<=i
 ·let k:i.toNat=j:=by rw[seqIndex_of l E]at d;rwa[Za0 d]
  rwa[item_listR pl.isList l ∅ (by rw[k];simpa using m) fin n]
 ·let k:(i+ (f.toArray.size:Int)).toNat=j:=by rw[seqIndex_neg ∅ D]at d;rw[ajp,<-F];rwa[Za0 d]
  exact subscriptTail_builtinR (x:=w) pl.isList.typeIs slot_list_getitem.lookup
   (wpAny_getItem_list_neg (Q:=λr A=>r=w/\EP X c o Q r A) pl.isList ∅ (by rw[ajp] <;> omega) ∅ (by rw[k];simpa using m) ⟨2,fin⟩) n
def fz [e:eI X K]:NK X (SW K):=by
 cases e.eq;intro value slice c s f H x y v u Q I o B h A;let⟨p,L,i,z,rfl,rfl,l,C,q⟩:=h;ext o;let⟨t,rfl⟩:=B;let⟨m,r,pl,G⟩:=I.tuple l;let⟨j,E,k,M,D,F⟩:=Ee C;let⟨w,n,d⟩:=r.get k;let J:=⇑r;let N:=rA;let fin:EP X c f Q w s:=⟨z,H,I,d,q⟩
 exact subscriptTail_builtinR (x:=w) pl.typeIs slot_tuple_getitem.lookup
  (getItem_tuple (j:=j) (Q:=λr g=>r=w/\EP X c f Q r g) pl ∅ ∅ (by cbv) (by simpa using n) ⟨2,fin⟩) A
def FZ (c:Zk)(n j:Nat)(u:Zt):Obj.mapSeq (·.setIfInBounds j u) ("list">>>.seq c.toArray n)=("list">>>.seq (c.set j u).toArray n):=by simp[Obj.mapSeq]
def Inv.lst {xs:Zb}(I:Inv X o D H s)(h:H c\.lst xs):
 ∃(d:Zk)(n:Nat),Vals xs d/\s•c\("list">>>.seq d.toArray n)/\⇑xs<=sizeLine:=by let⟨z,d,n,r,e⟩:=I.aU c _ h;rwa[d,n,r,e,z]
def Inv.SX {ys:Zb}{d:Zk}{f:Obj->Obj}(I:Inv X o D H s)(h:H c\.lst L)(j:s•c\("list">>>.seq N.toArray n))(g:f ("list">>>.seq N.toArray n)=("list">>>.seq d.toArray m))(r:Vals ys d)(hz:⇑ys<=sizeLine)(t:Nat):
 Inv X o D (upd H c (.lst ys)) { s with heap:=s.heap.update c f,toks:=t }:=by
 let e:(s.heap.update c f).get? c\("list">>>.seq d.toArray m):=by rw[aj7 f j (by rw[g] <;> rfl),g]
 rwa[I.write (x:=c) (e:=c) (by rw[h];trivial) (.inl rfl) (λb u i q=>(akb^akg i).trans q) ⟨_,e⟩ ?_];rwa[hz,d,m,r,e]
inductive NM (o i v:V)(H:Hp)(Q:(Hp->Prop)):Prop
 |mk (p:Zs)(xs:Zb)(k:Int)(j:Nat):o=↑p->i=.int k->H p\.lst xs->rD ⇑xs k\j->Q (upd H p (.lst (xs.set j v)))->NM o i v H Q
def set_list:Sl X NM:=by
 intro d s D H o i v J M u Q I A E B h;let⟨p,xs,k,j,rfl,rfl,y,F,q⟩:=h;ext A;let⟨t,rfl⟩:=E;let⟨c,n,r,g,C⟩:=I.lst y;let⟨e,G,z,w⟩:=xP F;let l:=⇑r;let L:=rA
 let x:Inv X d D (upd H p (.lst (xs.set j v))) { s with heap:=s.heap.update p (Obj.mapSeq (·.setIfInBounds j u)) }:=I.SX y g (FZ c n j u) (r.set B j) ([aju]▸C) s.toks
 cases m:0<=k
 ·let f:k.toNat=j:=by rw[seqIndex_of m w]at e;rwa[Za0 e]
  rwa[PySem.W.ki_setAt g m ∅ (by rw[ajp,<-l];rwa[w]) ([f]▸⟨_,x,q⟩)]
 ·let f:(k+ (c.toArray.size:Int)).toNat=j:=by rw[seqIndex_neg ∅ z]at e;rw[ajp,<-l];rwa[Za0 e]
  rwa[PySem.W.ki_setBack g ∅ (by rw[ajp,<-l];rwa[z]) ∅ ([f]▸⟨_,x,q⟩)]
def AO (lo c:Zj)(n:Nat):(sliceBounds lo c none n).1=((HT.bU n 0 lo:Nat):Int)/\(sliceBounds lo c none n).2.1=((HT.bU n n c:Nat):Int)/\(sliceBounds lo c none n).2.2=1:=by
 rwa[⟨552⟩]
 ·cases lo with
  |none=>simp[sliceBounds,HT.bU]
  |some i=>
   simp only[sliceBounds,HT.bU,Option.getD_none,show (1:Int) > 0 by decide,amx];cases h:i<0
   ·simp only[h,amx] <;> ext
   ·simp only[h,amE] <;> ext
 ·cases c with
  |none=>simp[sliceBounds,HT.bU]
  |some i=>
   simp only[sliceBounds,HT.bU,Option.getD_none,show (1:Int) > 0 by decide,amx];cases h:i<0
   ·simp only[h,amx] <;> ext
   ·simp only[h,amE] <;> ext
def zP (c:Zk)(lo d:Zj):slicePick c.toArray lo d none=((c.drop (HT.bU ⇑c 0 lo)).take (HT.bU ⇑c ⇑c d - HT.bU ⇑c 0 lo)).toArray:=by let⟨f,e,g⟩:=AO lo d c.toArray.size;unfold slicePick;rw[f,e,g];simp only[sliceRange_one,pick_run,ajp] <;> rfl
inductive SY (K:Za1)(x:V)(lo hi:Zj)(H:Hp)(Q:VK):Prop
 |mk (a:Zs)(xs:Zb):x=↑a->aB K H a xs->(∀p,H p=none->Q ↑p (upd H p (.lst (fY xs lo hi))))->SY K x lo hi H Q
def xQ [c:eI X K]:ND X (SY K):=by cases c.eq;intro f s y H x v w n lo d t Q I k l pl j h;let⟨a,xs,rfl,m,q⟩:=h;ext k;let⟨g,r,e,i⟩:=I.list m;let hlen:=⇑r;erw["list",_,slot_list_getitem.lookup,e.isList.typeIs];rwa[wpAny_getItem_list_slice e.isList l pl j .none (by simp) ?_ (by rw[ajp] <;> omega)];rw[zP,<-hlen];rwa[⟨↑↥s,_,I.laid (t':=s.toks) (o:=.lst (fY xs lo d)) (λb u q=>ai7 _ q) (aja _) ?_,2,q _ (I.aU.fresh (aja _))⟩];rwa[ajl (um xs lo d) i,_,(0),(r.drop (HT.bU ⇑xs 0 lo)).take (HT.bU ⇑xs ⇑xs d - HT.bU ⇑xs 0 lo),ajv _ rfl]
def NP:V->Bool
 |.non=>true
 |.bl _=>true
 |.int _=>true
 |.str _=>true
 |_=>false
def eqV:V->V->Bool
 |.non,.non=>true
 |.bl a,.bl b=>a==b
 |.bl a,.int b=>(if a then 1 else 0)==b
 |.int a,.bl b=>a==(if b then 1 else 0)
 |.int a,.int b=>a==b
 |.str a,.str b=>a==b
 |_,_=>false
def YR (x:V)(xs:Zb):Bool:=xs.any λy=>eqV y x
inductive rIn (K:Za1)(neg:Bool)(x y:V)(H:Hp)(Q:VK):Prop
 |mk (p:Zs)(xs:Zb):y=↑p->(aB K H p xs\/bG K H p xs)->NP x=true->xs.all NP=true->Q (.bl (if neg then !YR x xs else YR x xs)) H->rIn K neg x y H Q
inductive F0 (K:Za1)(xs:Zb)(H:Hp)(Q:VK):Prop
 |mk (p:Zs)(ys:Zb):xs=[↑p]->(aB K H p ys\/bG K H p ys)->Q (.int ⇑ys) H->F0 K xs H Q
def bh [f:eI X K]:gZ X (.builtin "len") (F0 K):=by
 cases f.eq;intro g s l H k n Q I r h;let⟨p,ys,rfl,c,q⟩:=h;let⟨u,rfl,j⟩:=vals1 r;ext j;let m:=rA;rcases c with c|c
 ·let⟨e,d,pl,i⟩:=I.list c;let hlen:=⇑d;rwa[Calls.call_len_list pl.isList (by simp only[ajp] <;> omega) ⟨.int ⇑ys,H,I.tok _,⟨s.toks+ 1,by cbv⟩,q⟩]
 ·let⟨e,d,pl,i⟩:=I.tuple c;let hlen:=⇑d;rwa[len_tuple pl (by simp only[ajp] <;> omega) ⟨.int ⇑ys,H,I.tok _,⟨s.toks+ 1,by cbv⟩,q⟩]
def AQ [v:eI X K]:gZ X (.type "list") (λx H Q=>∃p ys,x=[↑p]/\(aB K H p ys\/bG K H p ys)/\∀l,H l=none->Q ↑l (upd H l (.lst ys))):=by
 cases v.eq;intro k s A H x C Q I r h;let⟨p,ys,rfl,i,q⟩:=h;let⟨u,rfl,z⟩:=vals1 r;ext z
 let fin:∀(c:Zk),Vals ys c->⇑ys<=sizeLine->∀(d:Heap)(g:Nat),(∀b y,s•b\y->d.get? b\y)->
  d.get? ↥s=some { cls:=.type "list",dict:=none,data:=.seq c.toArray g,slots:=#[] }->EP X k A Q ↑↥s (s<*d):=λc f j d g kp e=>⟨↑↥s,_,I.laid (t':=s.toks) kp (aja _) (show b6 X.prog X.w _ d _ (.lst ys) from ⟨j,c,g,f,e⟩),2,q _ (I.aU.fresh (aja _))⟩
 rcases i with i|i
 ·let⟨c,f,pl,j⟩:=I.list i;let hlen:=⇑f;let⟨o,t,w,n,m⟩:=pl.isList;rwa[call_list_seq p (.inl rfl) t w m (λd g kp e=>fin c f j d g kp e) (by simp only[ajp] <;> omega)]
 ·let⟨c,f,pl,j⟩:=I.tuple i;let hlen:=⇑f;let⟨o,t,w,n,m⟩:=pl;rwa[call_list_seq p (.inr rfl) t w m (λd g kp e=>fin c f j d g kp e) (by simp only[ajp] <;> omega)]
def iW [j:eI X K]:gZ X (.type "tuple") (λn H Q=>∃p ys,n=[↑p]/\((aB K H p ys/\∀l,H l=none->Q ↑l (upd H l (.tup ys)))\/(bG K H p ys/\Q ↑p H))):=by
 cases j.eq;intro c s t H n y Q I r h;let⟨p,ys,rfl,h⟩:=h;let⟨u,rfl,x⟩:=vals1 r;ext x;rcases h with ⟨i,q⟩|⟨i,q⟩
 ·let⟨d,g,pl,m⟩:=I.list i;let hlen:=⇑g;rwa[call_tuple_list pl.isList (λf kp=>?_) (by simp only[ajp] <;> omega)];let k:Inv X c t H (s<*f):=I.kept (t':=s.toks) kp
  let w:Inv X c t (upd H f.objs.size (.tup ys)) { s with heap:=f.push ("tuple">>>.seq d.toArray) }:=k.laid (t':=s.toks) (λb o e=>ai7 _ e) (aja _) (show b6 X.prog X.w _ _ _ (.tup ys) from ⟨m,d,g,IsTup.new _ _⟩)
  rwa[↑f.objs.size,_,w,2,q _ (k.aU.fresh (aja _))]
 ·let⟨d,g,pl,m⟩:=I.tuple i;rwa[call_tuple_same pl ⟨↑p,H,I,2,q⟩]
def NQ (K:Za1)(T:String)(x:V)(H:Hp):Prop:=match x with
 |.str _=>T="str"
 |.int _=>T="int"
 |.ref p=>(T="list"/\∃d,aB K H p d)\/(T="tuple"/\∃o,K.lookup p\o/\o.cls=.type "tuple"/\o.dict=none)\/
  (T="dict"/\((∃c,H p\.dK c)\/∃c,H p\.dT c))\/(T="set"/\∃S n,H p\.set S n)
 |_=>False
def HK {T:String}{x:V}(I:Inv X o D H s)(r:RelV x v)(g:NQ X.K T x H):
 s.TypeIs v T/\∀a,v=↑a->∃l,s•a\l/\l.dict=none:=by
 cases x with
 |str z=>let⟨t,rfl⟩:=r;cases (show T="str" from g);rwa[typeIs_str s z t,λ_ e=>nomatch e]
 |int i=>let⟨t,rfl⟩:=r;cases (show T="int" from g);rwa[typeIs_int s i t,λ_ e=>nomatch e]
 |ref p=>
  ext r;rcases g with ⟨rfl,w,m⟩|⟨rfl,d,f,u,h⟩|⟨rfl,f⟩|⟨rfl,S,n,f⟩
  ·let⟨q,_,pl,_⟩:=I.list m;rwa[⟨pl.isList.typeIs,λa e=>?_⟩];ext e;let⟨d,n,e,c,h,_⟩:=pl;rwa[d,e,h]
  ·rwa[⟨⟨d,I.dE p d f,u⟩,λa e=>?_⟩];ext e;rwa[d,I.dE _ d f,h]
  ·let z:∃d,s•p\d/\d.ExactDict:=by
    rcases f with ⟨j,f⟩|⟨j,f⟩
    ·let⟨_,_,_,_,d,_,_,e,ex,_⟩:=I.aU p _ f;rwa[d,e,ex]
    ·let⟨_,_,_,_,d,_,_,e,ex,_⟩:=I.aU p _ f;rwa[d,e,ex]
   let⟨d,e,ex⟩:=z;rwa[⟨⟨d,e,ex.1⟩,λa k=>?_⟩];ext k;rwa[d,e,ex.2.1]
  ·let⟨d,_,_,_,e,ex,_⟩:=I.aU p _ f;rwa[⟨⟨d,e,ex.1⟩,λa k=>?_⟩];ext k;rwa[d,e,ex.2.1]
 |_=>exact False.elim g
def abZ (K:Za1)(T:String)(r:V->Zb->Hp->VK->Prop)(to:TE):TE:=λ d H Q=>to d H λx c=>NQ K T x c/\r x [] c Q
def tBM (K:Za1)(T:String)(r:V->Zb->Hp->VK->Prop)(to:TE)(t:TA):TE:=λ d H Q=>to d H λx c=>NQ K T x c/\t d c λf e=>r x f e Q
variable {o e:Expr}{es:Zr}{to:TE}{t:TA}{name:Str}{apos cJ:Pos}{T id:String}{r:V->Zb->Hp->VK->Prop}
def AU [f:eI X K](z:PlainAttrs T)(slot:Slot T name id)(g:typeOf (.builtin id)=pure (.type "method_descriptor"))(y:SV X id r)(p:PE X o to)(d:attributeBase o name X.env (eval o X.env)=eval o X.env:=by rfl)(hline:(apos.endLine==cJ.line)=true:=by rfl):PE X (.Call (.Attribute o name apos) [] [] cJ) (abZ K T r to):=by cases f.eq;intro c s k H Q I h;rwa[wpAny_Call_method0_late d hline (a9 (p c s k H _ I h) λv u ζ=>?_)];let⟨x,q,j,i,w,m⟩:=ζ;let⟨n,l⟩:=HK j i w;rwa[T,id,z,slot,g,n,l,akc rfl (PySem.evalArgs_none (y c u k q x [] v [] Q j i .nil m))]
def cO [i:eI X K](N:PlainAttrs T)(slot:Slot T name id)(j:typeOf (.builtin id)=pure (.type "method_descriptor"))(G:SV X id r)(A:PE X o to)(M:PA X (e::es) t)(f:attributeBase o name X.env (eval o X.env)=eval o X.env:=by rfl)(g:((backTo cJ (starEach (e::es) X.env)).all (λx=>!x.1) && (backToKw cJ (keywordEach [] X.env)).all (λx=>x.1.isSome)
  && decide (⇑(e::es)+ ⇑([]:List Keyword)+ (if ([]:List Keyword).isEmpty then 0 else 1)<30))=true:=by rfl)(hline:(apos.endLine==cJ.line)=true:=by rfl)(D:starEach (e::es) X.env=(false,eval e X.env)::starEach es X.env:=by rfl)(d:(backTo cJ (starEach es X.env)).any (·.1)=false:=by rfl):
 PE X (.Call (.Attribute o name apos) (e::es) [] cJ) (tBM K T r to t):=by cases i.eq;intro c s k H Q I h;rwa[wpAny_Call_method_late f g hline rfl (a9 (A c s k H _ I h) λv C ζ=>?_)];let⟨x,B,m,l,E,w⟩:=ζ;let⟨y,p⟩:=HK m l E;erw[T,id,N,slot,j,y,p];let n:=M cJ c C k B _ m w;rw[D]at n ⊢;rwa[akc (by show (false || (backTo cJ (starEach es X.env)).any (·.1))=false;rw[d] <;> rfl) (akK ?_)];rwa[a9 n λL u ζ=>?_];let⟨q,J,z,F,O⟩:=ζ;rwa[G c u k J x q v L Q z l F O]
/- xs.append(e),list.index on a module's tuple .. are SV facts of 06m -/
end
def Ef (X:Cx)(id:String)(r:V->Zb->Hp->VK->Prop):Prop:=
 ∀(a:List (Zs×Obj))(s:Zu)(d:St)(H:Hp)(x:V)(c:Zb)(v:Zt)(b:Zk)(Q:VK),Inv X a d H s->RelV x v->Vals c b->r x c H Q->X⁻¹ X.A (call (.builtin id) (v::b)) (EP X a d Q) X.xe s
theorem Vals.one:∀{x:V}{a:Zk},Vals [x] a->∃u,a=[u]/\RelV x u
 |_,_,.cons r .nil=>⟨12,r⟩
theorem Vals.zero:∀{a:Zk},Vals [] a->a=[]
 |_,.nil=>rfl
def Vals.dropLast {xs:Zb}{us:Zk}(h:Vals xs us):Vals xs.dropLast us.dropLast:=by
 induction h with
 |nil=>exact .nil
 |cons r t a=>
  cases t with
  |nil=>exact .nil
  |cons q b=>exact .cons r a
theorem Vals.eraseIdx:∀{xs:Zb}{us:Zk}(i:Nat),Vals xs us->Vals (xs.eraseIdx i) (us.eraseIdx i)
 |_,_,_,.nil=>.nil
 |_,_,0,.cons _ t=>t
 |_,_,i+ 1,.cons r t=>.cons r (Vals.eraseIdx i t)
def Vals.reverse {xs:Zb}{us:Zk}(h:Vals xs us):Vals xs.reverse us.reverse:=by
 induction h with
 |nil=>exact .nil
 |cons r t a=>rw[ams,ams];rwa[Vals.append a (.cons r .nil)]
theorem Vals.rep (h:Vals L N):∀k:Nat,Vals (List.replicate k L).flatten (List.replicate k N).flatten
 |0=>.nil
 |k+ 1=>by rwa[Vals.append h (Vals.rep h k)]
theorem yR {a:Type}:∀(l:List a)(i:Nat),⇑(l.eraseIdx i)<=⇑l
 |[],_=>aja _
 |_::_,0=>amr _
 |_::r,i+ 1=>Nat.succ_le_succ (yR r i)
theorem foldl_rep (a:Zk):∀(k:Nat)(acc:Zk),
 List.foldl (λc d=>c++d) acc.toArray (List.replicate k a.toArray)=(acc++(List.replicate k a).flatten).toArray
 |0,acc=>by simp
 |k+ 1,acc=>by
  let e:acc.toArray++a.toArray=(acc++a).toArray:=by simp
  let b:(acc++a)++(List.replicate k a).flatten=acc++(List.replicate (k+ 1) a).flatten:=by rw[akN,alm,ajK]
  rw[<-b,<-foldl_rep a k (acc++a),<-e,akN,aln]
section
variable {X:Cx}{pins:List (Zs×Obj)}{σ:St}{H:Hp}{s:Zu}{l:Zs}{xs ys:Zb}
def Inv.AV {K8:Zk}{f:Zm->Zm}{t':Nat}(I:Inv X pins σ H s)(d:H l\.lst xs)(e:s•l\("list">>>.seq N.toArray n))(a:f N.toArray=K8.toArray)(c:Vals ys K8)(hz:⇑ys<=sizeLine):
 Inv X pins σ (upd H l (.lst ys)) { s with heap:=s.heap.update l (Obj.mapSeq f),toks:=t' }:=by let q:=PySem.IsL.update e f;rw[a]at q;rwa[I.write (x:=l) (e:=l) ([d]▸trivial) (.inl rfl) (λi u h g=>(akb s.heap (Obj.mapSeq f) (akg h)).trans g) ⟨_,q⟩ ?_];rwa[hz,K8,_,c,q]
def Inv.S0 {t':Nat}(I:Inv X pins σ H s)(a:Vals ys N)(hz:⇑ys<=sizeLine):
 Inv X pins σ (upd H ↥s (.lst ys)) { s with heap:=s.heap.push ("list">>>.seq N.toArray),toks:=t' }:=I.laid (λ_ _ q=>ai7 _ q) (aja _) ⟨hz,N,(0),a,ajv _ rfl⟩
def Inv.fresh (I:Inv X pins σ H s):H ↥s=none:=I.aU.fresh (aja _)
def Inv.n5 (I:Inv X pins σ H s)(c:H l\.lst xs):⇑xs<=sizeLine/\∃(a:Zk)(n:Nat),Vals xs a/\⇑xs=⇑a/\s•l\("list">>>.seq a.toArray n):=by let⟨z,a,n,r,e⟩:=I.aU l _ c;rwa[z,a,n,r,⇑r,e]
def AW (h:n<=sizeLine):Builtin.List.listTooLong n=false:=by rwa[ajV ∅]
end
variable {X:Cx}
inductive Eg (x:V)(vs:Zb)(H:Hp)(Q:VK):Prop
 |mk (l:Zs)(xs:Zb)(y:V):x=↑l->vs=[y]->H l\.lst xs->⇑xs<sizeLine->Q .non (upd H l (.lst (xs++[y])))->Eg x vs H Q
theorem bJ:Ef X "list.append" Eg:=by intro d s p H x j v t Q I g f h;let⟨l,o,y,rfl,rfl,c,k,q⟩:=h;ext g;let⟨u,rfl,i⟩:=f.one;let⟨z,a,n,r,m,e⟩:=I.n5 c;rwa[alE F.slot_list_append ⟨_,e,2⟩ F.entry_list_append (F.args_list_append_2 _ _) (PySem.list_append l a.toArray n u (by rw[ajp];omega)) ⟨e,5⟩];rwa[⟨.non,_,I.AV (K8:=a++[u]) c e (by simp) (r.append (.cons i .nil)) ?_,2,q⟩];rw[ai3,aj2];ext
inductive xR (x:V)(vs:Zb)(H:Hp)(Q:VK):Prop
 |mk (l b:Zs)(xs zs:Zb):x=↑l->vs=[↑b]->H l\.lst xs->H b\.lst zs->⇑xs+ ⇑zs<=sizeLine->Q .non (upd H l (.lst (xs++zs)))->xR x vs H Q
theorem yS:Ef X "list.extend" xR:=by
 intro j s J H x C v L Q I p m h;let⟨l,b,G,B,rfl,rfl,i,y,D,q⟩:=h;ext p;let⟨u,rfl,w⟩:=m.one;ext w;let⟨z,c,n,r,E,e⟩:=I.n5 i;let⟨z2,a,A,t,k,o⟩:=I.n5 y;let f:c.toArray.size+ a.toArray.size<=sizeLine:=by rw[ajp,ajp];ext
 let d:¬(!c.toArray.isEmpty && Builtin.List.listTooLong (c.toArray.size+ a.toArray.size))=true:=by rw[AW f,Bool.and_false];rwa[ajT]
 refine alE F.slot_list_extend ⟨_,e,2⟩ F.entry_list_extend (F.args_list_extend_2 _ _)
  (AutoSeq1.list_extend_list_list_0 l c.toArray n b a.toArray A d ∅ ∅) ⟨e,o,5⟩
 rwa[⟨.non,_,I.AV (K8:=c++a) i e (by simp) (r.append t) ?_,2,q⟩];rw[ai3];ext
inductive S8 (x:V)(vs:Zb)(H:Hp)(Q:VK):Prop
 |mk (l:Zs)(xs:Zb)(y:V):x=↑l->vs=[]->H l\.lst xs->xs[⇑xs - 1]?\y->Q y (upd H l (.lst xs.dropLast))->S8 x vs H Q
theorem AX:Ef X "list.pop" S8:=by
 intro g s A H x t v B Q I o i h;let⟨l,w,y,rfl,rfl,f,k,q⟩:=h;ext o;let b:=i.zero;subst b;let⟨z,a,n,r,j,e⟩:=I.n5 f;let⟨u,m,p⟩:=r.get k
 let c:a.toArray[a.toArray.size - 1]?\u:=by
  show a.toArray[⇑a - 1]?\u
  rw[<-akR,<-j];rwa[m]
 rwa[alE F.slot_list_pop ⟨_,e,2⟩ F.entry_list_pop (F.args_list_pop_1 _) (MeetsSeq.list_pop_last l a.toArray n u c (by rw[ajp];omega)) ⟨e,5⟩];rwa[⟨y,_,I.AV (K8:=a.dropLast) f e ?_ r.dropLast ?_,p,q⟩]
 ·cbv
 ·rw[List.length_dropLast];ext
inductive HL (x:V)(vs:Zb)(H:Hp)(Q:VK):Prop
 |mk (l:Zs)(xs:Zb)(i:Int)(k:Nat)(y:V):x=↑l->vs=[.int i]->H l\.lst xs-> -(2 ^ 63)<=i->i<2 ^ 63->seqIndex? i ⇑xs\k->xs[k]?\y->Q y (upd H l (.lst (xs.eraseIdx k)))->HL x vs H Q
theorem K9:Ef X "list.pop" HL:=by
 intro f s J H x D v L Q I A m h;let⟨l,p,i,k,y,rfl,rfl,d,j,g,C,o,q⟩:=h;ext A;let⟨u,rfl,B⟩:=m.one;let⟨t,rfl⟩:=B;let⟨z,a,n,r,G,e⟩:=I.n5 d;let⟨w,E,b⟩:=r.get o
 refine alE F.slot_list_pop ⟨_,e,2⟩ F.entry_list_pop (F.args_list_pop_2 _ _)
  (MeetsSeq.list_pop_at l a.toArray n i t k w (fitsIndex_both j g) (by cbv) (by cbv) (by rw[ajp];omega)) ⟨e,5⟩
 rwa[⟨y,_,I.AV (K8:=a.eraseIdx k) d e ?_ (r.eraseIdx k) ?_,b,q⟩]
 ·cbv
 ·have:=yR p k;ext
inductive Ta (x:V)(vs:Zb)(H:Hp)(Q:VK):Prop
 |mk (l:Zs)(xs:Zb):x=↑l->vs=[]->H l\.lst xs->Q .non (upd H l (.lst []))->Ta x vs H Q
inductive Tc (x y:V)(H:Hp)(Q:VK):Prop
 |mk (l b:Zs)(xs zs:Zb):x=↑l->y=↑b->H l\.lst xs->H b\.lst zs->⇑xs+ ⇑zs<=sizeLine->(∀p,H p=none->Q ↑p (upd H p (.lst (xs++zs))))->Tc x y H Q
def AY:fX X (binaryOp .Add) Tc:=by
 intro d s D H x y v u Q I j k h;let⟨l,b,C,w,rfl,rfl,i,p,A,q⟩:=h;ext j;ext k;let⟨z,c,n,r,B,e⟩:=I.n5 i;let⟨z2,a,E,m,f,g⟩:=I.n5 p;rwa[PySem.P.add_list e g ?_ (by rw[ajp,ajp];omega)];let o:c.toArray++a.toArray=(c++a).toArray:=by simp
 rw[o];rwa[↑_,_,I.S0 (t':=s.toks) (r.append m) (by rw[ai3];omega),2,q _ I.fresh]
inductive Td (x y:V)(H:Hp)(Q:VK):Prop
 |mk (l:Zs)(k:Int)(xs:Zb):x=↑l->y=.int k->H l\.lst xs-> -(2 ^ 63)<=k->k<2 ^ 63->⇑xs* k.toNat<=sizeLine->(∀p,H p=none->Q ↑p (upd H p (.lst (List.replicate k.toNat xs).flatten)))->Td x y H Q
def len_rep {a:Type}(xs:List a)(k:Nat):(List.replicate k xs).flatten.length=k* ⇑xs:=by
 induction k with
 |zero=>simp
 |succ k b=>cbv
theorem Te:fX X (binaryOp .Mult) Td:=by
 intro p s O H x y v u Q I G J h;let⟨l,k,N,rfl,rfl,E,C,A,o,q⟩:=h;ext G;let⟨t,rfl⟩:=J;let⟨z,b,n,r,D,e⟩:=I.n5 E;let hlen:b.toArray.size* k.toNat<=sizeLine:=by rw[ajp,<-D];rwa[o]
 let d:¬b.toArray.size* k.toNat > (2 ^ 63 - 1) / 8:=by
  have:(sizeLine:Nat)<=(2 ^ 63 - 1) / 8:=⋯
  ext
 let g:¬(!Builtin.List.listFitsIndex k)=true:=by rw[fitsIndex_both C A];rwa[ajT]
 let c:¬Builtin.List.listTooLong (b.toArray.size* k.toNat)=true:=by rw[AW hlen];rwa[ajT]
 let f:List.foldl (λj i=>j++i) #[] (List.replicate (if b.toArray.isEmpty=true then 0 else k.toNat) b.toArray)=(List.replicate k.toNat b).flatten.toArray:=by
  let B:∀m:Nat,List.foldl (λj i=>j++i) #[] (List.replicate m b.toArray)=(List.replicate m b).flatten.toArray:=λm=>by
   have:=foldl_rep b m []
   cbv
  rw[B]
  cases b with
  |nil=>simp
  |cons a L=>rw[ajk (by simp)]
 refine wpAny_binaryOp_repeat_ref (T:="list") (U:="int") ⋯ ⟨_,e,2⟩ (λw=>typeIs_int w k t) noFill_list_mul F.fills_int_mul F.slot_int_rmul repeat_list F.slot_int_index.lookup
  (alE F.slot_int_rmul (typeIs_int s k t) F.entry_int_rmul (F.args_int_rmul_2 _ _) (int___rmul___int_list k t l b.toArray n)
   ⟨e,2,⟨_,e,2⟩,alE F.slot_list_mul ⟨_,e,2⟩ F.entry_list_mul (F.args_list_mul_2 _ _) (AutoListH.list___mul___list_int_3 l b.toArray n k t g d c) ⟨e,5⟩⟩)
 rw[f];rwa[↑_,_,I.S0 (t':=s.toks) (r.rep k.toNat) ([len_rep,ak0]▸o),2,q _ I.fresh]
end L2
namespace Att
open PySem PySem.W PySem.Calls PyProof.Rows
def vL {P:Params}:∀(ns:Zg)(c:Zk),WellAll P h c (ns.map WData.int)->IntsAre c ns:=by
 intro ns
 induction ns with
 |nil=>intro c w;ext w;rwa[.nil]
 |cons n ns d=>
  intro c w
  cases w with
  |cons a b=>ext a;rwa[.cons _ _ (d _ b)]
def HM {l:OpenLaw}(v:l.most\n){P:Params}{h:Heap}{b:List WData}{c:Zk}(e:l.row.toRowW.claim.pre b=true)(i:WellAll P h c b):
 ∃a m ns,c=[Value.ref a]/\b=[WData.list (ns.map WData.int)]/\h.get? a\("list">>>.seq m.toArray)/\IntsAre m ns/\⇑ns<=n:=by
 let k:WShape.hasAll [] b [.list .int]=true:=(pre_splitW e).1;let x:l.pre.holds [] { args:=b }=true:=(pre_splitW e).2;let⟨d,r,rfl,s,p⟩:=hasAllW_cons k;obtain rfl:=hasAllW_nil p;let⟨y,rfl,u⟩:=hasW_list s;let⟨ns,rfl⟩:=items_int u
 let hlen:⇑ns<=n:=by
  let g:(WTm.not (.lt (.lit (.int (n:Int))) (.len (.arg 0)))).holds [] { args:=[.list (ns.map .int)] }=true:=by let g:=(holds_andW x).1;rw[v]at g;rwa[g]
  let j:=condW_of g (w_not (w_lt w_lit (w_len_list (w_arg rfl))));rwa[Nat.le_of_not_lt λq=>?_]
  first
   |(rw[ajI z]at j;rwa[absurd j (by decide)])
   |(simp at j;omega)
 cases i with
 |cons o w=>
  ext w
  cases o with
  |list t f=>rwa[11,ns,22,t,vL ns _ f,hlen]
def HN (l:OpenLaw)(a:List WData):l.row.toRowW.claim.post a (.bool true) a=true:=
 postW_of (r:=l.row.toRowW) (X:=(true==true))
  (show WShape.has [] (.bool true) .bool=true by first|rfl|decide|simp[WShape.has,WShape.arms,WShape.armsAll])
  (show (WTm.eq .res (.lit (.bool true))).value [] { args:=a,res:=some (.bool true),after:=a }=some (.bool (true==true)) from w_eq_bool (w_res rfl) w_lit) rfl
def Dq {l:OpenLaw}{loose:Zp}{XP:(Str->Zl)->Heap->Prop}{z:World->Heap->Prop}{d:DefRec}(I:l.most\n)(q:d.params.defaults=[])(call:∀(w:World) (c b:Zu) (m s:Str->Zl) (h:Zs) (o:Obj) (pm k doc:Zt) (a:Zs) (e:Zk) (ns:Zg),
  Ground P loose [] XP w c m s b.heap->z w b.heap->
  b•h=some o->o.data=.func (docDef d.name d.params d.body d.scope pm k doc)->b.heap.CodeRec k d.name->m d.name\↑h->
  b•a=some ("list">>>.seq e.toArray)->IntsAre e ns->⇑ns<=n->b.gens=#[]->codeAny (model l.prog w) callerA (.call ↑h ⟨[↑a],[]⟩) (λr j=>r=.ok (.ret (.bool true))/\OldK b.heap j.heap/\j.os=b.os/\AllBare j.gens) b):
 WalkO P loose XP z l.row.toRowW d [] (λf e=>PySem.call f e):=by intro w c b m s G Y h o pm k doc M kV F A u y t C v x as i hlay N p L;obtain rfl:M=.none:=Dflts.none y q;obtain rfl:kV=.none:=Dflts.noKw y;let⟨a,e,ns,rfl,rfl,g,hints,hlen⟩:=HM I i p;rwa[enter_call (alL (call w c b m s h o pm k doc a e ns G Y F (fd_plain A) u t g hints hlen C) λr j D=>?_)];let⟨rfl,B,H,E⟩:=D;rwa[.inl ⟨.bool true,.bool true,[],2,λ_=>rfl,.bool true,HN l _,λ_=>⟨List.Pairwise.nil,λ_ J=>(nomatch J)⟩⟩,B,H,E]
end Att
namespace L2
theorem yT:∀{a:Zk}{ns:Zg},IntsAre a ns->Vals (ns.map V.int) a
 |_,_,.nil=>.nil
 |_,_,.cons n t h=>.cons ⟨t,2⟩ (yT h)
def Only (H:Hp):Prop:=∀b,H b=none\/∃o a,H b\(.df o (.lst a))
def La {L:Str->Zl}{CX:lS}{k:Nat}{fd:FuncData}{U:Sp}{ns:Zg}(W:K.In s.heap)(y:s.heap.Ns mainGlobals M)(p:s.heap.Ns builtinsNs L)(Q:∀x:Str,x≠"__name__"->L x=bootBuiltins x)(A:s.heap.NoLimit)(hg:s.gens=#[])(T:s•b\("list">>>.seq N.toArray))(Z:IntsAre N ns)(Y:⇑ns<=sizeLine)(hr:c9 k callerA)(F:∀base:Heap,K.In base->base.Ns mainGlobals M->dZ P w K M base CX k a fd [x] U)(l:∀(f:Zu) (u:Zt),BindsTo f fd ⟨[u],[]⟩ [(x,u)])(S:∀H:Hp,Only H->aB K H b (ns.map V.int)->U [↑b] H (λv _=>v=.bl true) λ_ _ _=>False)(O:∀H e i,CX [] H s (λ_ _ _=>False) e i->False):
 codeAny (model P w) callerA (.call ↑a ⟨[↑b],[]⟩) (λr i=>r=.ok (.ret (.bool true))/\OldK s.heap i.heap/\i.os=s.os/\AllBare i.gens) s:=by
 let rv:=yT Z;let B:=⇑Z
 let core:∀H:Hp,Only H->aB K H b (ns.map V.int)->dy P w H s.heap->(∀c,H c≠none->c=b)->(H b≠none->K.lookup b=none)->
  codeAny (model P w) callerA (.call ↑a ⟨[↑b],[]⟩) (λr i=>r=.ok (.ret (.bool true))/\OldK s.heap i.heap/\i.os=s.os/\AllBare i.gens) s:=by
  intro H X hS C hA hK;let g:∀{c:Zs}{o:Obj},s•c\o->H c=none->(pO s.heap H).get? c\o:=λe n=>KQ e n
  let R:∀{c:Zs}{o:Obj}{E:Array DictEntry}{G:Nat},s•c\o->o.data=.dict E G->H c=none:=λ{c o E G} e d=>by cbv
  let j:∀{c:Zs}{m:Str->Zl},s.heap.Ns c m->(pO s.heap H).Ns c m:=λ{c m} ζ=>by let⟨o,E,G,e,d,r⟩:=ζ;rwa[⟨o,E,G,g e (R e d),d,r⟩]
  let D:K.In (pO s.heap H):=λc o e=>g (W c o e) (by cbv)
  let hM:Mod K M (pO s.heap H):=⟨D,j y,⟨L,j p,Q⟩,let ⟨mc,h1,h2⟩:=A;⟨mc,j h1,h2⟩⟩;let e0:uO P w K M (pO s.heap H) callerA [] s H:=⟨2,hM,λc o e=>Qi e,al8 (Hn _ _),trivial,λc p=>absurd (show c∈([]:Zn) from p) (by simp),C,.of_eq hg⟩;rwa[alL ((F _ D (j y)).run callerA [] s H ⟨[↑b],[]⟩ [↑b] [↑b] _ _ hr e0 (l s ↑b) (.cons rfl .nil) (S H X hS)) λr i h=>?_]
  cases r with
  |error e=>exact(O H e i h).elim
  |ok fl=>
   cases fl with
   |next=>exact False.elim h
   |brk=>exact False.elim h
   |cont=>exact False.elim h
   |ret u=>
    let⟨v,H',os,bare,un,t,r',q⟩:=h;let q':v=.bl true:=q;subst q';obtain rfl:u=Value.bool true:=r';rwa[⟨2,OldK.of_keep λc o e=>?_,os,bare⟩]
    cases q:H c with
    |none=>exact un.keep c o e q (by intro z;rwa[absurd (show c∈([]:Zn) from z) (by simp)]) (by simp)
    |some u=>
     rcases X c with z|⟨ob,xs,z⟩
     ·cbv
     ·let z2:=un.i7 c ob _ z;let⟨e1,_⟩:=C c _ z;let⟨e2,_⟩:=t c _ z2
      cbv
 cases J:K.lookup b with
 |some o=>let e:=W b o J;rw[T]at e;ext e;rwa[core (λ_=>none) (λ_=>.inl rfl) (.inr ⟨_,N.toArray,_,J,222,[ajp,B]▸Y,3⟩) (λc u z=>by cbv) (λc z=>absurd rfl z) λz=>absurd rfl z]
 |none=>
  rwa[core (λc=>if c=b then some (.df ("list">>>.seq N.toArray) (.lst (ns.map V.int))) else none) (λc=>?_) (.inl (.inr ⟨("list">>>.seq N.toArray),ajn rfl⟩)) (λc u z=>?_) (λc z=>?_) λ_=>J]
  ·cbv
  ·cases p:c=b
   ·let z':=(ajn p).symm.trans z;ext z';subst p;rwa[T,[ai6]▸Y,N,_,rv,T]
   cbv
  cbv
def Qt {l:PySem.W.OpenLaw}{k:Nat}{loose:Zp}{XP:(Str->Zl)->Heap->Prop}{A:World->Heap->Prop}{d:DefRec}{K:Params->Za1}{CX:World->lS}{sp:World->Sp}(M:l.most\n)(q:n<=sizeLine)(m:d.params.defaults=[])(L:c9 k callerA)(J:∀(w:World) (h:Heap),A w h->(K w.params).In h)(F:∀(w:World) (b:Str->Zl) (i:Zs) (h:Heap),(K w.params).In h->h.Ns mainGlobals b->b d.name\↑i->
  ∃fd:FuncData,(∀(s:Zu) (u:Zt),BindsTo s fd ⟨[u],[]⟩ [(x,u)])/\∀base:Heap,(K w.params).In base->base.Ns mainGlobals b->dZ l.prog w (K w.params) b base (CX w) k i fd [x] (sp w))(t:∀(w:World) (H:Hp) (a:Zs) (ns:Zg),⇑ns<=n->Only H->aB (K w.params) H a (ns.map V.int)->sp w [↑a] H (λv _=>v=.bl true) λ_ _ _=>False)(p:∀(w:World) (H:Hp) (s:Zu) (e:Zt) (j:Zu),CX w [] H s (λ_ _ _=>False) e j->False):
 PySem.W.WalkO P loose XP A l.row.toRowW d [] (λf B=>PySem.call f B):=by
 rwa[Att.Dq M m λw z g b R i o pm T doc a B ns G Y S Q O r c hints hlen D=>?_]
 let y:=J w _ Y;let⟨fd,C,I⟩:=F w b i _ y G.T.g r;rwa[La y G.T.g G.T.b G.T.builtins G.T.nolimit D c hints (ajl hlen q) L I C (λH E N=>t w H a ns hlen E N) λH e j=>p w H g e j]
def inClass (s:Stmt)(j:Nat):Stmt:=match s with
 |.ClassDef _ _ _ body _ _ _ _ _ _ _=>body.getD j (.Pass ⟨(0),(0),(0),(0)⟩)
 |_=>.Pass ⟨(0),(0),(0),(0)⟩
def dD (s:Stmt):Arguments:=match s with
 |.FunctionDef _ a _ _ _ _ _ _ _ _=>a
 |_=>{ posonlyargs:=[],args:=[],vararg:=none,kwonlyargs:=[],kw_defaults:=[],kwarg:=none,defaults:=[] }
def cU (s:Stmt):List Stmt:=match s with
 |.FunctionDef _ _ b _ _ _ _ _ _ _=>b
 |_=>[]
def aD (s:Stmt):Scope:=match s with
 |.FunctionDef _ _ _ _ _ _ a _ _ _=>a
 |_=>{ kind:=.function,names:=[],isGenerator:=false,isCoroutine:=false }
abbrev CX0:lS:=λ_ _ _ _ _ _=>False
abbrev E0:XK:=λ_ _ _=>False
structure AZ (K:Za1)(x qual:Str)(st:Stmt)(f:Zs)(fd:FuncData):Prop where
 ex:∃(oc:Zt)(od:Zo)(kV doc pm:Zt)(an:Zo)(cw ct:Zt)(A0:Array Zl),fd=fnOf x qual (dD st) (cU st) (aD st) .none kV doc pm an cw ct/\K.lookup f\⟨oc,od,.func fd,A0⟩/\codeIn K cw qual=true
 kp:keepIn K ↑f=true
section
variable {K:Za1}
theorem AZ.binds {qual:Str}{st:Stmt}{fd:FuncData}{ps:Zp}(F:AZ K x qual st a fd)(h:∀(kV doc pm:Zt) (c:Zo) (b ct:Zt) (us:Zk),⇑us=⇑ps->bindArgs (fnOf x qual (dD st) (cU st) (aD st) .none kV doc pm c b ct) ⟨us,[]⟩=pure (ps.zip us)):Binds K fd ps []:=by let⟨g,f,kV,doc,pm,c,b,ct,e,rfl,lk,d⟩:=F.ex;rwa[.all (h kV doc pm c b ct)]
def HP {qual:Str}{st:Stmt}{f d:Zo}{b:Array Zl}{kV doc pm e:Zt}(l:K.lookup a\⟨v,f,.func (fnOf x qual (dD st) (cU st) (aD st) .none kV doc pm d u e),b⟩)(c:codeIn K u qual=true)(k:keepIn K ↑a=true):AZ K x qual st a (fnOf x qual (dD st) (cU st) (aD st) .none kV doc pm d u e):=⟨⟨v,f,kV,doc,pm,d,u,e,b,2,l,c⟩,k⟩
end
def fA {k:Nat}(a:c9 k A):A.units+ 1<cLine:=aje (Nat.add_le_add_left (by decide:1<=64) _) a.units
section
variable {X:Cx}
def pv (i:Nat){x:Str}{pos:Pos}(d:X.N[i]?\x:=by rfl)(c:Sb X.env.scope x:=by trivial)(b:(x==("__debug__":Str))=false:=by decide)(a:(x==("__classdict__":Str))=false:=by decide):PE X (.Name x pos) (Aw i):=Se d c b a
end
def dI {A B:Prop}(h:B):if false=true then A else B:=by cbv
def eV {A B:Prop}(h:A):if true=true then A else B:=by cbv
def cP {c A B:Prop} [Decidable c](b:c->A)(a:¬c->B):if c then A else B:=by cbv
def pU {c A B:Prop} [Decidable c](a:c)(h:B):if (!decide c)=true then A else B:=by cbv
def aq (H a:Hp):Prop:=∀b o,H b\o->a b\o
def aq.refl (H:Hp):aq H H:=λ_ _ h=>h
def aq.trans (a:aq H I)(b:aq I J):aq H J:=λc o h=>b c o (a c o h)
def aq.free (e:aq H I){l:Zs}(h:I l=Option.none):H l=Option.none:=by
 cases q:H l with
 |none=>rfl
 |some o=>rw[e l o q]at h;ext h
def aq.seq (e:aq H I)(h:aB K H a L):aB K I a L:=by
 rcases h with (h|⟨o,h⟩)|h
 ·rwa[.inl (.inl (e^h))]
 ·rwa[.inl (.inr ⟨o,e^h⟩)]
 ·rwa[.inr h]
def eh (X:Cx)(a:Zp)(scope:Scope)(cl:List (Str×Zs))(C:Zs)(s:Zu)(H:Hp)(ex:Zn):Cx where
 prog:=X.prog
 w:=X.w
 K:=X.K
 mg:=X.mg
 base:=X.base
 A:=X.A
 N:=a
 eM:=s
 uG:=H
 env:=compEnvC scope cl C X.env
 outer:=X.stack
 stack:=X.stack
 ex:=ex
 fn:=λ_=>false
 calm:=X.calm
 pn:=[]
 xe:=λ_ _=>False
def kI (d:TE)(g:St)(Q:VK)(J:It)(f:Hp):Prop:=∃W:Nat->Nat->Zb->Hp->Prop,(∃m,W 0 m [] f)/\∀i m ys a,W i m ys a->
 (J.stop i a/\⇑ys<=sizeLine/\∀D,a D=none->Q ↑D (upd a D (.lst ys)))\/
 (J.go i a/\⇑ys<sizeLine/\∀x c,J.ro i a x c->d (some x::g) c λy e=>∃b,b<m/\W (i+ 1) b (ys++[y]) e)
def NR (b:TI)(d:St->St)(c:TE):TE:=λ a H Q=>b a H (kI c (d a) Q)
structure hO (X:Cx)(x:Str)(fns:Zp)(ixs:Zh)(scope:Scope)(cl:List (Str×Zs)):Prop where
 ab0:closureFor scope X.env=pure cl
 sub:∀y c,cl.lookup y\c->X.env.cells.lookup y\c
 cell:∀y∈scope.names,y.2≠.cell
 kind:scope.kind=.function
 names:∀y∈scope.names,y.2=.local->scope.names.lookup y.1=some .local
 own:scope.names.lookup x=some .local
 has:∀y,((relabel scope X.env).names.lookup y=some .cell\/(relabel scope X.env).names.lookup y=some .free)->∃c,cl.lookup y\c
 nd:(x::fns).Nodup
 len:⇑ixs=⇑fns
 at_:∀(j:Nat)(y:Str),fns[j]?\y->∃i:Nat,ixs[j]?\i/\X.N[i]?\y/\(X.env.kindOf y=some .cell\/X.env.kindOf y=some .free)/\∃c,cl.lookup y\c/\((relabel scope X.env).names.lookup y=some .cell\/(relabel scope X.env).names.lookup y=some .free)
def ja (ixs:Zh):St->St:=λ a=>ixs.map λi=>(a[i]?).join
section
variable {X:Cx}{x:Str}{scope:Scope}
def uo (a:scope.names.lookup x=some .local):(relabel scope X.env).names.lookup x=some .local:=lookup_relabel_local a
end
def gy {J:It}{Q:VK}(xs:Zb)(g:V->V)(h:∀i:Nat,i<⇑xs->J.go i H)(p:∀(i:Nat) (x:V) (c:Hp),i<⇑xs->J.ro i H x c->c=H/\xs[i]?\x)(d:J.stop ⇑xs H)(j:⇑xs<=sizeLine)(s:∀(i:Nat) (x:V),xs[i]?\x->∀R:VK,R (g x) H->r (some x::D) H R)(n:∀a,H a=none->Q ↑a (upd H a (.lst (xs.map g)))):
 kI r D Q J H:=by
 erw[λi m ys l=>m=⇑xs - i/\i<=⇑xs/\ys=(xs.take i).map g/\l=H,⟨⇑xs,by simp,ajB _,by simp,2⟩];rintro i m ys l ⟨rfl,t,rfl,rfl⟩;cases b:i<⇑xs
 ·rwa[.inr ⟨h i b,by rw[ai6,ajD];ext,λx c f=>?_⟩];let⟨q,k⟩:=p i x c b f;subst q;rwa[s i x k _ ⟨⇑xs - (i+ 1),32,b,52⟩];rw[akf,k];simp
 ·let e:i=⇑xs:=∅
  subst e;rwa[.inl ⟨d,by rw[ai6,ajD];ext,λa o=>?_⟩];rw[akd];rwa[n a o]
def Lb:V->V
 |.int z=>.int (-z)
 |v=>v
def A1 {xs:Zb}(h:bG K H a xs):∀i,i<⇑xs->(Hs K a).go i H:=λi b=>⟨xs,xs[i],h,ai1 b⟩
def xS {xs:Zb}(h:bG K H a xs):∀i x b,i<⇑xs->(Hs K a).ro i H x b->b=H/\xs[i]?\x:=λi x b _ y=>⟨y.1,y.2 xs h⟩
def uP {xs:Zb}(h:bG K H a xs):(Hs K a).stop ⇑xs H:=⟨xs,h,2⟩
def jJ {xs:Zb}(h:aB K H a xs):∀i,i<⇑xs->(AF K a).go i H:=λi b=>⟨xs,xs[i],h,ai1 b⟩
def il {xs:Zb}(h:aB K H a xs):∀i x b,i<⇑xs->(AF K a).ro i H x b->b=H/\xs[i]?\x:=λi x b _ y=>⟨y.1,y.2 xs h⟩
def gF {xs:Zb}(h:aB K H a xs):(AF K a).stop ⇑xs H:=⟨xs,h,2⟩
inductive Tf (t:TS)(D:Ends)(σ:St)(H:Hp):Prop
 |mk (G:St->Hp->Prop):t { D with nx:=G } σ H->(∀ eK H',G eK H'->D.nx eK H')->Tf t D σ H
def bL {st:Stmt}{t:TS}(h:PS X st t):PS X st (Tf t):=by
 intro a s j H D I ⟨G,e,d⟩;rwa[a9 (h a s j H { D with nx:=G } I e) λf k q=>?_]
 cases f with
 |next=>let⟨b,c,i,g⟩:=q;rwa[b,c,i,d b c g]
 |_=>exact q
def uq {scope:Scope}{env:Env}{k:NameKind}(h:(relabel scope env).names.lookup x\k)(g:k=.cell\/k=.free)(i:∀z∈scope.names,z.2≠.cell):(x,NameKind.free)∈scope.names:=by
 let f:=ak4 h;unfold relabel at f;let⟨⟨n,c⟩,d,e⟩:=ajN.mp f;dsimp only at e;cases hf:(c==NameKind.free && env.scope.kind==.function && env.kindOf n==some .cell)=true
 ·rw[ajn hf]at e;let a:n=x:=ajY Prod.fst e;rw[akB,akB]at hf;let b:c=.free:=eq_of_beq hf.1.1;rw[<-a,<-b];rwa[d]
 ·rw[ajk hf]at e;let a:n=x:=ajY Prod.fst e;let b:c=k:=ajY Prod.snd e;subst a b;rcases g with rfl|rfl
  ·rwa[absurd rfl (i _ d)]
  ·rwa[d]
theorem j1 {env:Env}(a:env.scope.kind=.function){y:Str}(b:env.kindOf y=some .cell):∀{names:List (Str×NameKind)},names.lookup y=some .free->
 (names.map λ(n,k)=>if (k==NameKind.free && env.scope.kind==.function && env.kindOf n==some .cell) then (n,NameKind.cell) else (n,k)).lookup y=some .cell
 |[],h=>by simp at h
 |(n,k)::r,h=>by
  let c:=@j1 env a y b r
  cbv
def F1 (X:Cx)(scope:Scope):Zp->Zh->List (Str×Zs)->Prop
 |y::fs,i::is,p::cl=>p.1=y/\X.env.cells.lookup y\p.2/\X.N[i]?\y/\X.env.kindOf y=some .cell/\scope.names.lookup y=some .free/\F1 X scope fs is cl
 |[],[],[]=>True
 |_,_,_=>False
def F1.get {scope:Scope}{fns:Zp}{ixs:Zh}{cl:List (Str×Zs)}(h:F1 X scope fns ixs cl):⇑fns=⇑ixs/\(∀y c,cl.lookup y\c->X.env.cells.lookup y\c)/\∀(k:Nat)(y:Str),fns[k]?\y->∃i c,ixs[k]?\i/\X.N[i]?\y/\X.env.kindOf y=some .cell/\cl.lookup y\c/\scope.names.lookup y=some .free:=by
 induction fns generalizing ixs cl with
 |nil=>
  cases ixs with
  |nil=>
   cases cl with
   |nil=>simp
   |cons=>exact h.elim
  |cons=>exact h.elim
 |cons y fs t=>
  cases ixs with
  |nil=>exact h.elim
  |cons i is=>
   cases cl with
   |nil=>exact h.elim
   |cons p cl=>
    let⟨j,m,s,o,r,h⟩:=h;let⟨a,b,g⟩:=t h;rwa[⟨ajY _ a,λw d e=>?_,λk w e=>?_⟩]
    ·rw[amy]at e
     cases q:w==p.1 with
     |true=>rw[q]at e;rw[eq_of_beq q,j,m];rwa[e]
     |false=>rw[q]at e;rwa[b w d e]
    ·cases k with
     |zero=>obtain rfl:y=w:=Za0 e;rwa[i,p.2,2,s,o,by rw[amy,j,beq_self_eq_true],r]
     |succ k=>
      let⟨i,c,r1,r2,f,n,l⟩:=g k w e
      cases q:w==p.1 with
      |true=>rwa[i,p.2,r1,r2,f,by rw[amy,q],l]
      |false=>rwa[i,c,r1,r2,f,[amy,q]▸n,l]
def cu {fns:Zp}{ixs:Zh}{scope:Scope}(cl:List (Str×Zs))(d:closureFor scope X.env=pure cl)(y:F1 X scope fns ixs cl)(j:X.env.scope.kind=.function)(f:(∀z∈scope.names,z.2≠.cell)/\(∀z∈scope.names,z.2=.local->scope.names.lookup z.1=some .local)/\(∀z∈scope.names,z.2=.free->z.1∈fns)/\(x::fns).Nodup/\scope.names.lookup x=some .local/\scope.kind=.function:=by decide):hO X x fns ixs scope cl:=by
 let⟨a,b,g⟩:=y.get;let⟨f,w,u,m,v,p⟩:=f
 exact{ ab0:=d,sub:=b,cell:=f,kind:=p,names:=w,own:=v,nd:=m,len:=a.symm
        has:=λz h=>by have:=u (z,.free) (h.elim (λh=>uq h (.inl rfl) f) λh=>uq h (.inr rfl) f) rfl;let⟨k,e⟩:=List.mem_iff_getElem?.mp this;let⟨_,c,_,_,_,r,_⟩:=g k z e;rwa[c,r]
        at_:=λk z h=>by let⟨i,c,s,o,n,q,t⟩:=g k z h;rwa[⟨i,s,o,.inl n,c,q,.inl (j1 j n t)⟩ ]}
namespace Rv
def HQ:Slot "reversed" "__init__" "object.__init__":=
 .of (owner:="object") (n:="__init__") (by rw[typeLookup_type,builtinLookup_eq_fast];kernel_rfl) ⋯ ⋯ ⋯
  (by first|rwa[.inl (by decide)]|rwa[.inr (by decide)]) (by rw[isSubtype_type];kernel_rfl)
def called:TypeCalled "reversed" "reversed.__new__" "object.__init__":=⟨44,⟨11,PySem.F.mro_reversed⟩,PySem.F.made_reversed,4,by rw[isSubtype_type];kernel_rfl,HQ⟩
def ahN (h:Heap)(it t:Zs)(i:Int):Prop:=∃o,h.get? it\o/\o.cls=.type "reversed"/\o.data=.fields #[↑t,rawInt i]
end Rv
def ao (ns:Zg):Zb:=ns.map V.int
def bT (h:l[i]?\z):(ao l)[i]?\(V.int z):=by unfold ao;rw[ajc,h];rfl
def az (ns:Zg):⇑(ao ns)=⇑ns:=ai6 ..
def cf {ns:Zg}(h:(ao ns)[i]?\q):∃z,q=V.int z/\ns[i]?\z:=by
 unfold ao at h;rw[ajc]at h
 cases e:ns[i]? with
 |none=>rw[e]at h;ext h
 |some z=>rw[e]at h;rwa[z,(Za0 h).symm,2]
def ints_app (a b:Zg):ao (a++b)=ao a++ao b:=ajt ..
def all_eq (ns ms:Zg):((~~~(min ⇑ns ⇑ms)).all (λj=>decide (ns[j]?=ms[j]?)) && ⇑ns==⇑ms)=decide (ns=ms):=by
 rw[akr,akB,List.all_eq_true,ajZ,al7];constructor
 ·rintro ⟨b,a⟩;rwa[akO λi=>?_]
  cbv
 cbv
section
variable {X:Cx}
inductive NT (K:Za1)(x y:V)(H:Hp)(Q:VK):Prop
 |mk (a b:Zs)(ns ms:Zg):x=↑a->y=↑b->bG K H a (ao ns)->bG K H b (ao ms)->Q (.bl (decide (ns=ms))) H->NT K x y H Q
inductive NV (K:Za1)(x y:V)(H:Hp)(Q:VK):Prop
 |mk (a b:Zs)(ns ms:Zg):x=↑a->y=↑b->bG K H a (ao ns)->bG K H b (ao ms)->Q (.bl (!decide (ns=ms))) H->NV K x y H Q
def xT {b:Zg}{a:Zk}(c:Vals (ao l) N)(g:Vals (ao b) a)(j:Nat)(n:j<N.toArray.size)(i:j<a.toArray.size):
 SeqAt.EqAt A s N.toArray[j] a.toArray[j] (decide (l[j]?=b[j]?)):=by
 let w:=⇑c;let x:=⇑g;rw[az]at w x;let o:j<⇑N:=by simpa using n
 let k:j<⇑a:=by simpa using i
 let h:l[j]?=some l[j]:=ai1 ∅
 let f:b[j]?=some b[j]:=ai1 ∅
 let⟨u,p,t,rfl⟩:=c.get (bT h);let⟨v,r,d,rfl⟩:=g.get (bT f)
 let m:N.toArray[j]=Value.int l[j] t:=by rw[List.getElem_toArray];rwa[Za0 ((ai1 o).symm.trans p)]
 let q:a.toArray[j]=Value.int b[j] d:=by rw[List.getElem_toArray];rwa[Za0 ((ai1 k).symm.trans r)]
 rw[m,q,h,f];have:=SeqAt.EqAt.int_int (A:=A) (s:=s) l[j] t b[j] d
 let e:decide (some l[j]=some b[j])=(l[j]==b[j]):=by rw[akr,ajZ,al7];rwa[Za0,ajY some]
 rw[e];rwa[this]
def Eh [i:eI X K](A:X.A.units<cLine):fX X (compareOp .Eq) (NT K):=by cases i.eq;intro l s E H x y v u Q I B C h;let⟨a,b,f,d,rfl,rfl,D,t,q⟩:=h;ext B;ext C;let⟨g,k,z,_⟩:=I.tuple D;let⟨c,m,r,_⟩:=I.tuple t;rwa[SeqAt.eq_tupleAt (e:=λj=>decide (f[j]?=d[j]?)) (show s.heap.IsTuple a g.toArray from z) (show s.heap.IsTuple b c.toArray from r) A (λj w p=>xT k m j w p) ⟨.bl (decide (f=d)),H,I,5,q⟩];let n:=⇑k;let o:=⇑m;rw[az]at n o;show _=Value.bool (decide (f=d));rw[<-all_eq,ajp,ajp,<-n,<-o]
def Qu [i:eI X K](A:X.A.units<cLine):fX X (compareOp .NotEq) (NV K):=by cases i.eq;intro l s E H x y v u Q I B C h;let⟨a,b,f,d,rfl,rfl,D,t,q⟩:=h;ext B;ext C;let⟨g,k,z,_⟩:=I.tuple D;let⟨c,m,r,_⟩:=I.tuple t;rwa[SeqAt.RcNeAt.tuples (e:=λj=>decide (f[j]?=d[j]?)) (show s.heap.IsTuple a g.toArray from z) (show s.heap.IsTuple b c.toArray from r) A (λj w p=>xT k m j w p) X.prog X.w X.xe _ ⟨.bl (!decide (f=d)),H,I,5,q⟩];let n:=⇑k;let o:=⇑m;rw[az]at n o;show _=Value.bool (!decide (f=d));rw[<-all_eq,ajp,ajp,<-n,<-o]
inductive Tg (K:Za1)(xs:Zb)(H:Hp)(Q:VK):Prop
 |mk (x:V)(T:String)(t:Zt)(b:Bool):xs=[x,.ty T]->jH K H x t->kitOne K t (.type T)\b->Q (.bl b) H->Tg K xs H Q
def uQ [a:eI X K]:gZ X (.builtin "isinstance") (Tg K):=by cases a.eq;intro c s l H k m Q I r h;let⟨x,T,t,b,rfl,f,e,q⟩:=h;let⟨u,j,rfl,g,i⟩:=vals2 r;ext i;rwa[HF I g f e λd=>⟨.bl b,H,I.tok d,2,q⟩]
def Lc (K:Za1)(T:String):kitOne K (.type T) (.type T)\true:=by unfold kitOne;rw[ajn (beq_self_eq_true _)]
end
def aq.upd {o:HO}(h:H a=Option.none):aq H (upd H a o):=λb u e=>by rw[ak (av e h)];rwa[e]
variable {X:Cx}
inductive HR (x y:V)(H:Hp)(Q:VK):Prop
 |mk (a b:Zs)(xs ys:Zb):x=↑a->y=↑b->H a\.tup xs->H b\.tup ys->⇑xs+ ⇑ys<=sizeLine->(∀p H',aq H H'->H' p\.tup (xs++ys)->Q ↑p H')->HR x y H Q
def Ld {t:Zs}{ws:Zk}(l:IsTup s.heap t ([]:Zk).toArray)(m:IsTup s.heap b ws.toArray)(h:Q ↑b s):(P<|>w) A (binaryOp .Add ↑t ↑b) Q E s:=by
 let⟨⟨cls,p,data,o⟩,j,k,n,g⟩:=id l;let⟨⟨i,e,data2,f⟩,d,c,q,a⟩:=id m;simp only at k g c a;subst k g c a
 exact concat_meets ⟨_,j,2⟩ ⟨_,d,2⟩ noFill_tuple_add seq_tuple_add amm amf (ama _ _)
  (tuple_addW0 t b ([]:Zk).toArray ws.toArray n q p e o f rfl) ⟨j,d,h⟩
def lU:fX X (binaryOp .Add) HR:=by
 intro c s z H x y v u Q I j k h;let⟨a,b,i,ys,rfl,rfl,g,d,r,q⟩:=h;cases l:i=[]
 ·subst l;ext j;ext k;let⟨f,o,w,_⟩:=I.tuple (bG.of g);let⟨m,A,n,_⟩:=I.tuple (bG.of d);let e:f=[]:=o.tu.mpr rfl;subst e;rwa[Ld w n ⟨↑b,H,I,2,q b H (aq.refl H) d⟩]
 ·rwa[Qr c s z H ↑a ↑b v u Q I j k ⟨a,b,i,ys,22,bG.of g,bG.of d,l,r,λe=>?_,λ_ p t=>q p _ (aq.upd t) aj⟩];subst e;rwa[q a H (aq.refl H) ([ajm]▸g)]
inductive NW (x:V)(lo hi:Zj)(H:Hp)(Q:VK):Prop
 |mk (a:Zs)(xs:Zb):x=↑a->H a\.tup xs->(∀p H',aq H H'->H' p\.tup (fY xs lo hi)->Q ↑p H')->NW x lo hi H Q
end L2
namespace HT
section
variable {prog:Program}{w:World}{A:Around}{E:Zt->Zu->Prop}{s:Zu}
def qZ {t:Zs}{items:Zm}{lo i:Zj}(b:IsTup s.heap t items)(g:s.heap.IsSliceOf a v u .none)(pl:IsPart v lo)(l:IsPart u i)(hw:bU items.size 0 lo=0/\bU items.size items.size i=items.size)(h:Q ↑t s):(prog<|>w) A (getItem ↑t ↑a) Q E s:=by
 let⟨os,d,f,n⟩:=id g;let e:s.TypeIs ↑a "slice":=⟨os,d,f⟩;unfold getItem
 try with_reducible rwa[aku ?_]
 first|rwa[ai2 (ajb ?_)]|skip
 rwa[ai2 (wpAny_sequenceKey b.typeIs (by decide) ?_)]
 refine ai2 (akh (name:=Str.ofString "__getitem__") b.typeIs ajU
  (akt ajU b.typeIs entry_tuple_getitem ?_ (args_tuple_getitem _ _)))
 show wpAny _ _ (Builtin.Tuple.tupleItemsOf ↑t >>=_) _ _ s;rwa[ai2 (tupleItemsOf_ b ?_)];rwa[ai2 (alb e ?_)];rw[ajn ⋯];rwa[ai2 (lT g pl l ?_)];rw[hw.1,hw.2];let c:((((0:Nat):Int)==0 && (1:Int)==1 && (items.size - 0)==items.size)=true):=by simp
 show wpAny _ _ (if (((0:Nat):Int)==0 && (1:Int)==1 && (items.size - 0)==items.size)=true then _ else _) _ _ s;rw[ajn c];let⟨o,j,k,_⟩:=id b;rwa[ai2 (m:=Builtin.Tuple.tupleIsExact _) ?_];unfold Builtin.Tuple.tupleIsExact;rwa[ai2 (alb b.typeIs (ajb ?_))];show wpAny _ _ (if (Value.type "tuple"==Value.type "tuple")=true then _ else _) _ _ s;rw[ajn ⋯];rwa[ai2 (wpAny_rule (ajb ⟨12,ajb h⟩))]
def uR {t:Tok}{Q:Int×Int×Nat->Zu->Prop}(g:s.heap.IsSliceOf a .none .none (.int (-1) t))(h:Q ((n:Int) - 1,-1,n) s):(prog<|>w) A (Builtin.Slice.sliceApplied ↑a (pure (n:Int))) Q E s:=by
 let⟨os,b,f,c⟩:=id g;unfold Builtin.Slice.sliceApplied Builtin.Slice.sliceFields;rwa[ai2 (ai2 (aj6 b c (x:=.none) rfl (ai2 (aj6 b c (x:=.none) rfl (ai2 (aj6 b c (x:=.int (-1) t) rfl (ajb ?_)))))))];rwa[ai2 (slicePart_int ?_)];show wpAny _ _ (if ((-1:Int)==0)=true then _ else _) _ _ s;rw[ajk ⋯];rwa[ai2 (slicePart_none (ai2 (slicePart_none (ai2 (ajb ?_)))))];show wpAny _ _ (match Builtin.Slice.sliceAdjust none none (-1) (n:Int) with|(lo,i)=>pure (lo,(-1:Int),Builtin.Slice.slicePlaces lo i (-1))) _ _ s
 let d:Builtin.Slice.sliceAdjust none none (-1) (n:Int)=((n:Int) - 1,-1):=by unfold Builtin.Slice.sliceAdjust;simp
 rw[d];show wpAny _ _ (pure ((n:Int) - 1,(-1:Int),Builtin.Slice.slicePlaces ((n:Int) - 1) (-1) (-1))) _ _ s
 let e:Builtin.Slice.slicePlaces ((n:Int) - 1) (-1) (-1)=n:=by unfold Builtin.Slice.slicePlaces;simp;ext
 rw[e];rwa[ajb h]
def Le (xs:Zk):((List.range ⇑xs).filterMap λ(m:Nat)=>xs.toArray[((⇑xs:Int) - 1+ (m:Int)* (-1)).toNat]?).toArray=xs.reverse.toArray:=by
 congr 1
 rwa[akO λi=>?_]
 let e:(List.range ⇑xs).filterMap (λ(m:Nat)=>xs.toArray[((⇑xs:Int) - 1+ (m:Int)* (-1)).toNat]?)=(List.range ⇑xs).map λm=>xs.getD (⇑xs - 1 - m) .none:=by
  have:∀l:Zh,(∀m∈l,m<⇑xs)->l.filterMap (λ(m:Nat)=>xs.toArray[((⇑xs:Int) - 1+ (m:Int)* (-1)).toNat]?)=l.map λm=>xs.getD (⇑xs - 1 - m) .none:=by
   intro l
   induction l with
   |nil=>intro _;rfl
   |cons m l g=>
    intro b;let a:=b m (aji ..);let f:((⇑xs:Int) - 1+ (m:Int)* (-1)).toNat=⇑xs - 1 - m:=∅
    let h:xs.toArray[((⇑xs:Int) - 1+ (m:Int)* (-1)).toNat]?\(xs.getD (⇑xs - 1 - m) .none):=by rw[f,List.getElem?_toArray,ai8,ai1 ∅];rfl
    rw[List.filterMap_cons,h,aki,g λk d=>b k (ajw _ d)]
  rwa[this _ λm a=>ajJ.mp a]
 rw[e,ajc];cases c:i<⇑xs
 ·rw[List.getElem?_reverse c,akD c,ai1 ∅];simp[ai8,ai1 (show ⇑xs - 1 - i<⇑xs by omega)]
 ·rw[ajC (by simp;omega),ajC (by simp;omega)];rfl
def tZ {t:Zs}{l:Tok}(c:IsTup s.heap t N.toArray)(k:s.heap.IsSliceOf a .none .none (.int (-1) l))(h:Q ↑↥s { s with heap:=s.heap.push ("tuple">>>.seq N.reverse.toArray) })(j:⇑N<=sizeLine):(prog<|>w) A (getItem ↑t ↑a) Q E s:=by
 let b:sizeOk (.seq N.reverse.toArray):=by show N.reverse.toArray.size<=sizeLine;rw[ajp,al6];rwa[j]
 let⟨os,f,i,n⟩:=id k;let g:s.TypeIs ↑a "slice":=⟨os,f,i⟩;unfold getItem
 try with_reducible rwa[aku ?_]
 first|rwa[ai2 (ajb ?_)]|skip
 rwa[ai2 (wpAny_sequenceKey c.typeIs (by decide) ?_)]
 refine ai2 (akh (name:=Str.ofString "__getitem__") c.typeIs ajU
  (akt ajU c.typeIs entry_tuple_getitem ?_ (args_tuple_getitem _ _)))
 show wpAny _ _ (Builtin.Tuple.tupleItemsOf ↑t >>=_) _ _ s;rwa[ai2 (tupleItemsOf_ c ?_)];rwa[ai2 (alb g ?_)];rw[ajn ⋯];rwa[ai2 (uR k ?_)]
 let d:¬((((N.toArray.size:Int) - 1)==0 && (-1:Int)==1 && N.toArray.size==N.toArray.size)=true):=by intro q;rw[akB,akB]at q;rwa[absurd q.1.2 ⋯]
 show wpAny _ _ (if (((N.toArray.size:Int) - 1)==0 && (-1:Int)==1 && N.toArray.size==N.toArray.size)=true then _ else _) _ _ s;rw[ajk d];let e:=Le N;rw[show ⇑N=N.toArray.size from rfl]at e;rw[e]
 first
  |rwa[ai2 (m:=Builtin.Tuple.tupleExact _) (ajW (ajb ⟨_,rfl,ajb h⟩) b)]
  |rwa[ai2 (m:=Builtin.Tuple.tupleExact _) (ajW (ai2 (ajb (ajb ⟨_,rfl,ajb h⟩))) b)]
  |rwa[ai2 (ai2 (m:=Builtin.Tuple.tupleExact _) (ajW (ajb (ajb ⟨_,rfl,ajb h⟩)) b))]
  |rwa[ai2 (ai2 (m:=Builtin.Tuple.tupleExact _) (ajW (ajb ⟨_,rfl,ajb h⟩) b))]
end
def uS:fillsNumberSlot (.type "tuple") "mul"=pure false:=PySem.fillsNumberSlot_seq (id:="tuple.__mul__") (r:=some (.builtin "tuple.__rmul__")) PySem.F.slot_tuple_mul.lookup (by decide) PySem.F.slot_tuple_rmul.lookup (by decide)
def A2:seqRepeat? (.type "tuple")=pure (some (.builtin "tuple.__mul__")):=by unfold seqRepeat?;rw[PySem.seqSlot_of (T:="tuple") (name:="__mul__") (id:="tuple.__mul__") PySem.F.slot_tuple_mul.lookup ⋯,PySem.seqSlot_of (T:="tuple") (name:="__rmul__") (id:="tuple.__rmul__") PySem.F.slot_tuple_rmul.lookup ⋯];rfl
def xU (a:Int)(t:Tok)(l:Zs)(items:Zm)(n:Nat)(e:Zo)(c:Array Zl):
 Meets (Builtin.«int.__rmul__» ⟨[.int a t,↑l],[]⟩) (λ_ R s=>s•l\{ cls:=.type "tuple",dict:=e,data:=.seq items n,slots:=c }/\R (.ok (.ret Value.notImplemented)) s):=.of_wp λb w A R s h=>by let⟨f,g,d,i,os⟩:=s;let⟨j,h⟩:=h;wp_walk;rwa[12,h]
def xV (l:Zs)(items:Zm)(n:Nat)(j:Zo)(c:Array Zl)(x:Int)(u:Tok)(b:¬(decide (x < -(2 ^ 63)) || decide (x>=2 ^ 63))=true)(m:(items.isEmpty || x==1)=true):
 Meets (Builtin.«tuple.__mul__» ⟨[↑l,.int x u],[]⟩) (λ_ R s=>s•l\{ cls:=.type "tuple",dict:=j,data:=.seq items n,slots:=c }/\R (.ok (.ret ↑l)) s):=
 .of_wp λa w A R s h=>by
  let⟨f,g,d,e,os⟩:=s;let⟨i,h⟩:=h;let k:(⟨f,g,d,e,os⟩:Zu).TypeIs ↑l "tuple":=⟨_,i,2⟩
  wp_walk
  rwa[wpAny_ite_false (ajV b) ?_]
  wp_walk
  rwa[12,h]
def xW (l:Zs)(items:Zm)(n:Nat)(j:Zo)(c:Array Zl)(x:Int)(u:Tok)(b:¬(decide (x < -(2 ^ 63)) || decide (x>=2 ^ 63))=true)(o:¬(items.isEmpty || x==1)=true)(m:(decide (x<=0) || items.isEmpty)=true):
 Meets (Builtin.«tuple.__mul__» ⟨[↑l,.int x u],[]⟩) (λ_ R s=>s•l\{ cls:=.type "tuple",dict:=j,data:=.seq items n,slots:=c }/\R (.ok (.ret ↑↥s)) { s with heap:=s.heap.push ("tuple">>>.seq #[]) }):=
 .of_wp λa w A R s h=>by
  let⟨f,g,d,e,os⟩:=s;let⟨i,h⟩:=h;let k:(⟨f,g,d,e,os⟩:Zu).TypeIs ↑l "tuple":=⟨_,i,2⟩
  wp_walk
  rwa[wpAny_ite_false (ajV b) ?_]
  wp_walk
  rwa[12,h]
def xX (l:Zs)(items:Zm)(n:Nat)(o:Zo)(f:Array Zl)(x:Int)(u:Tok)(e:¬(decide (x < -(2 ^ 63)) || decide (x>=2 ^ 63))=true)(v:¬(items.isEmpty || x==1)=true)(t:¬(decide (x<=0) || items.isEmpty)=true)(j:¬((items.size:Int)* x > (2 ^ 63 - 1) / 8))(p:¬(Builtin.Tuple.tupleTooMany ((items.size:Int)* x))=true)(r:(List.foldl (λb a=>b++a) #[] (List.replicate x.toNat items)).size<=sizeLine):
 Meets (Builtin.«tuple.__mul__» ⟨[↑l,.int x u],[]⟩) (λ_ R s=>s•l\{ cls:=.type "tuple",dict:=o,data:=.seq items n,slots:=f }/\R (.ok (.ret ↑↥s)) { s with heap:=s.heap.push ("tuple">>>.seq (List.foldl (λb a=>b++a) #[] (List.replicate x.toNat items))) }):=
 .of_wp λc w A R s h=>by
  let⟨k,g,d,i,os⟩:=s;let⟨m,h⟩:=h;let q:(⟨k,g,d,i,os⟩:Zu).TypeIs ↑l "tuple":=⟨_,m,2⟩
  wp_walk
  rwa[wpAny_ite_false (ajV e) ?_]
  wp_walk
  rwa[wpAny_ite_false (ajV j) ?_]
  wp_walk
  rwa[12,h]
end HT
namespace L2
section
variable {X:Cx}{e:Expr}{te:TE}{lo hi:Option Expr}{st:Expr}{tl th ts:TO}{pos p2:Pos}
def pV:ND X NW:=by
 intro b s o H x v n k lo hi l Q I i j pl g h;let⟨a,xs,rfl,d,q⟩:=h;cases hw:HT.bU ⇑xs 0 lo=0/\HT.bU ⇑xs ⇑xs hi=⇑xs
 ·ext i;let⟨c,r,f,t⟩:=I.tuple (bG.of d);let hlen:c.toArray.size=⇑xs:=by rw[ajp];rwa[r.length.symm]
  erw["tuple",_,ajU.lookup,f.typeIs];rwa[HT.qZ f j pl g ([hlen]▸hw) ⟨↑a,H,I,2,q a H (aq.refl H) ?_⟩];unfold fY;rw[hw.1,hw.2,List.drop_zero,Nat.sub_zero,akd];rwa[d]
 ·rwa[SR b s o H ↑a v n k lo hi l Q I i j pl g ⟨a,xs,2,bG.of d,hw,λp m=>q p _ (aq.upd m) aj⟩]
def Ti (X:Cx)(r:V->Zj->Zj->Zj->Hp->VK->Prop):Prop:=
 ∀(a:List (Zs×Obj))(s:Zu)(g:St)(H:Hp)(x:V)(v f d c:Zt)(lo hi st:Zj)(b:Zs)(Q:VK),Inv X a g H s->RelV x v->s.heap.IsSliceOf b f d c->IsPart f lo->IsPart d hi->IsPart c st->r x lo hi st H Q->∃T id,typeLookup (.type T) "__getitem__"=pure (some (.builtin id))/\s.TypeIs v T/\X⁻¹ X.A (getItem v ↑b) (EP X a g Q) X.xe s
def ab1 (r:V->Zj->Zj->Zj->Hp->VK->Prop)(te:TE)(tl th ts:TO):TE:=λ a H Q=>te a H λx c=>tl a c λl b=>th a b λu f=>ts a f λk d=>r x l u k d Q
def HS {r:V->Zj->Zj->Zj->Hp->VK->Prop}(L:Ti X r)(S:PE X e te)(J:PO X lo tl)(N:PO X hi th)(i:PO X (some st) ts):PE X (.Subscript e (.Slice lo hi (some st) p2) pos) (ab1 r te tl th ts):=by
 intro a s c H Q I h;rwa[Subscript_ (a9 (S a s c H _ I h) λv O ζ=>?_)];let⟨x,G,p,m,C⟩:=ζ;rwa[wpAny_Slice (a9 (J a O c G _ p C) λg z ζ=>?_)];let⟨l,P,E,pl,W⟩:=ζ;rwa[a9 (N a z c P _ E W) λd R ζ=>?_];let⟨u,w,y,M,D⟩:=ζ;rwa[a9 (i a R c w _ y D) λf s4 ζ=>?_];let⟨k,j,n,U,F⟩:=ζ;let A:Inv X a c j { s4 with heap:=s4.heap.push ("slice">>>.fields #[g,d,f]) }:=n.kept (t':=s4.toks) λb Z q=>ai7 _ q
 let⟨T,id,B,o,t⟩:=L a { s4 with heap:=s4.heap.push ("slice">>>.fields #[g,d,f]) } c j x v g d f l u k ↥s4 Q A m (Heap.IsSliceOf.new ..) pl M U F;show X⁻¹ X.A (subscriptTail e (.Slice lo hi (some st) p2) v ↑↥s4) (EP X a c Q) X.xe { s4 with heap:=s4.heap.push ("slice">>>.fields #[g,d,f]) };rwa[tail_any (ops:=[v,↑↥s4]) o B t (by with_unfolding_all rfl)]
def XF:V->Zj->Zj->Zj->Hp->VK->Prop:=λx lo hi st H Q=>∃a xs,x=↑a/\H a\.tup xs/\lo=none/\hi=none/\st\(-1)/\∀p,H p=none->Q ↑p (upd H p (.tup xs.reverse))
def Qw:Ti X XF:=by
 intro f s D H x v C w g lo hi st z Q I m n pl l u h;let⟨a,xs,rfl,p,rfl,rfl,rfl,q⟩:=h;ext m;ext pl;ext l;obtain⟨d,rfl⟩:∃d,g=.int (-1) d:=by cases u with|int i t=>exact⟨t,rfl⟩
 let⟨j,r,c,k⟩:=I.tuple (bG.of p);let B:=⇑r;erw["tuple",_,ajU.lookup,c.typeIs];rwa[HT.tZ c n ?_ ∅];rwa[⟨↑↥s,_,I.laid (t':=s.toks) (o:=.tup xs.reverse) (λb A q=>ai7 _ q) (aja _) ?_,2,q _ (I.aU.fresh (aja _))⟩];rwa[[al6]▸k,_,r.reverse,IsTup.new _ _]
inductive NX (x y:V)(H:Hp)(Q:VK):Prop
 |mk (a:Zs)(k:Int)(xs:Zb):x=↑a->y=.int k->H a\.tup xs-> -(2 ^ 63)<=k->k<2 ^ 63->⇑xs* k.toNat<=sizeLine->(∀p H',aq H H'->H' p\.tup (List.replicate k.toNat xs).flatten->Q ↑p H')->NX x y H Q
theorem Ei:fX X (binaryOp .Mult) NX:=by
 intro d s L H x y v u Q I V Y h;let⟨l,k,xs,rfl,rfl,J,h1,h2,G,q⟩:=h;ext V;let⟨t,rfl⟩:=Y;let⟨a,r,P,W⟩:=I.tuple (bG.of J);let B:=⇑r;let⟨⟨cls,z,data,g⟩,j,hc,n,E⟩:=id P;simp only at hc E;subst hc E
 let A:¬(decide (k < -(2 ^ 63)) || decide (k>=2 ^ 63))=true:=by rw[amg,ajZ,ajZ];ext
 let go:∀{S:PySem.Spec},Meets (Builtin.«tuple.__mul__» ⟨[↑l,.int k t],[]⟩) (λO R c=>c•l\{ cls:=.type "tuple",dict:=z,data:=.seq a.toArray n,slots:=g }/\S O R c)->
  S X.A (wants (EP X d L Q) X.xe) s->X⁻¹ X.A (binaryOp .Mult ↑l (.int k t)) (EP X d L Q) X.xe s:=λ{S} m Z=>
  wpAny_binaryOp_repeat_ref (T:="tuple") (U:="int") ⋯ ⟨_,j,2⟩ (λc=>typeIs_int c k t) HT.uS F.fills_int_mul F.slot_int_rmul HT.A2 F.slot_int_index.lookup
   (alE F.slot_int_rmul (typeIs_int s k t) F.entry_int_rmul (F.args_int_rmul_2 _ _) (HT.xU k t l a.toArray n z g)
    ⟨j,2,⟨_,j,2⟩,alE F.slot_tuple_mul ⟨_,j,2⟩ F.entry_tuple_mul (F.args_tuple_mul_2 _ _) m ⟨j,Z⟩⟩)
 cases hc:(a.toArray.isEmpty || k==1)=true
 ·rwa[go (S:=λ_ R c=>R (.ok (.ret ↑l)) c) (HT.xV l a.toArray n z g k t A hc) ⟨↑l,H,I,2,q l H (aq.refl H) ?_⟩]
  let e:(List.replicate k.toNat xs).flatten=xs:=by
   rw[amg]at hc;rcases hc with hc|hc
   ·have:a=[]:=by simpa using hc
    have:xs=[]:=by let w:=B;rw[this]at w;rwa[alA w]
    subst this;simp
   ·have:k=1:=by simpa using hc
    subst this;simp
  rw[e];rwa[J]
 ·cases f:(decide (k<=0) || a.toArray.isEmpty)=true
  ·rwa[go (S:=λ_ R c=>R (.ok (.ret ↑↥c)) { c with heap:=c.heap.push ("tuple">>>.seq #[]) }) (HT.xW l a.toArray n z g k t A hc f) ?_];rwa[⟨↑↥s,_,I.laid (t':=s.toks) (o:=.tup []) (λb N q=>ai7 _ q) (aja _) ?_,2,q _ _ (aq.upd (I.aU.fresh (aja _))) ?_⟩]
   ·rwa[ajB _,[],.nil,IsTup.new _ _]
   ·let e:k.toNat=0:=by
     rw[amg,ajZ]at f;rcases f with f|f
     ·ext
     ·rwa[absurd (by rw[amg];rwa[.inl f]) hc]
    rw[e,aj];rfl
  ·let hk:0<k:=by rw[amg,ajZ]at f;ext
   let p:List.foldl (λD C=>D++C) #[] (List.replicate k.toNat a.toArray)=(List.replicate k.toNat a).flatten.toArray:=by have:=foldl_rep a k.toNat [];rw[alp]at this;rwa[this]
   let hlen:(List.replicate k.toNat a).flatten.length<=sizeLine:=by rw[len_rep,ak0,<-B];rwa[G]
   let i:((a.toArray.size:Int)* k)=((⇑xs* k.toNat:Nat):Int):=by rw[ajp,<-B,Int.natCast_mul,Int.toNat_of_nonneg ∅]
   let hline:(sizeLine:Nat)<=(2 ^ 63 - 1) / 8:=⋯
   refine go (S:=λ_ R c=>R (.ok (.ret ↑↥c)) { c with heap:=c.heap.push ("tuple">>>.seq (List.foldl (λD C=>D++C) #[] (List.replicate k.toNat a.toArray))) })
    (HT.xX l a.toArray n z g k t A hc f (by rw[i];omega) (by unfold Builtin.Tuple.tupleTooMany;rw[ajZ,i];omega) ([p,ajp]▸hlen)) ?_
   rw[p];rwa[⟨↑↥s,_,I.laid (t':=s.toks) (o:=.tup (List.replicate k.toNat xs).flatten) (λb N q=>ai7 _ q) (aja _) ?_,2,q _ _ (aq.upd (I.aU.fresh (aja _))) aj⟩];rwa[[len_rep,ak0]▸G,_,r.rep k.toNat,IsTup.new _ _]
end
def tx (l:Zh):Str:=⟨l.toArray⟩
def HV (l:Zh):⇑(tx l)=⇑l:=by show l.toArray.size=⇑l;simp
def Ej (h:x.cps.toList=f.cps.toList):x=f:=by let⟨a⟩:=x;let⟨b⟩:=f;have:a=b:=Array.toList_inj.mp h;rw[this]
def XG (x:Str):x=tx x.cps.toList:=Ej rfl
def HW (a b:Zh):tx a++tx b=tx (a++b):=by rwa[Ej ?_];show ((tx a).cps++(tx b).cps).toList=(a++b);rw[Array.toList_append];rfl
section
variable {X:Cx}{pos:Pos}
def oF {l:Zh}{j}(h:x=tx l):PE X (.Constant (.str x) j pos) (tC (.str (tx l))):=by rw[<-h];rwa[Sf]
def A3 (n:Int):Zh:=(toString n:Str).cps.toList
def HX (h:n<10000000000):n.log2<1920:=by
 rcases Nat.eq_zero_or_pos n with e|e
 ·subst e;decide
 ·let a:HPow.hPow 2 n.log2<=n:=Nat.log2_self_le ∅;let b:(10000000000:Nat)<2 ^ 1920:=⋯
  rwa[(Nat.pow_lt_pow_iff_right (by decide:1<2)).mp (aje a (amb h b))]
def Lf {n:Int}(a:0<=n)(h:n<10000000000):⇑(A3 n)<=10:=by have:=toString_length_le (v:=n) a (k:=10) ⋯ h;rwa[this]
end
structure Def (K:Za1)(mg:Str->Zl)(x:Str)(st:Stmt)(ps:Zp)(f:Zs)(fd:FuncData):Prop where
 F:AZ K x x st f fd
 m:mg x\↑f
 b:Binds K fd ps []
inductive XH (t:TE)(σ:St)(H:Hp)(Q:VK):Prop
 |mk (G:V->Hp->Prop):t σ H G->(∀v H',G v H'->Q v H')->XH t σ H Q
def pW (ns:Zg)(lo a:Zj):fY (ao ns) lo a=ao ((ns.drop (HT.bU ⇑ns 0 lo)).take (HT.bU ⇑ns ⇑ns a - HT.bU ⇑ns 0 lo)):=by unfold fY ao;rw[ai6,amF,amG]
def pX (r:Int){n:Nat}(h:0<n):∃j:Nat,r % (n:Int)=(j:Int)/\j<n:=by let b:=akS r (show (n:Int)≠0 by omega);let a:=akJ r (show (0:Int)<(n:Int) by omega);rwa[(r % (n:Int)).toNat,33]
section
variable {κ:Type} [DecidableEq κ]
def bz (a:List (κ×V))(k:κ):Zc:=(a.find? λb=>decide (b.1=k)).map (·.2)
def putK (a:List (κ×V))(k:κ)(v:V):List (κ×V):=if (a.any λb=>decide (b.1=k))=true then a.map (λb=>if b.1=k then (b.1,v) else b) else a++[(k,v)]
def fe (a:List (κ×V))(k:κ):List (κ×V):=a.filter λb=>decide (b.1≠k)
def cQ {p:κ×V}{r:List (κ×V)}{k:κ}(e:p.1=k):bz (p::r) k\p.2:=by simp[bz,alM,e]
def cI {p:κ×V}{r:List (κ×V)}{k:κ}(e:¬p.1=k):bz (p::r) k=bz r k:=by simp[bz,alM,e]
theorem j6 (k:κ):∀a:List (κ×V),(a.any λb=>decide (b.1=k))=(bz a k).isSome
 |[]=>rfl
 |p::r=>by
  rw[List.any_cons];cases e:p.1=k
  ·simp only[cQ e,ajI e,Bool.true_or,Option.isSome_some]
  ·rw[cI e,ajV e,Bool.false_or];rwa[j6 k r]
theorem A4 (k j:κ)(y:V):∀a:List (κ×V),bz (a.map λb=>if b.1=k then (b.1,y) else b) j=(bz a j).map λx=>if j=k then y else x
 |[]=>rfl
 |p::r=>by
  let c:=A4 k j y r;rw[aki];cases h:p.1=k
  ·rw[ajn h];cases e:p.1=j
   ·rw[cQ (p:=(p.1,y)) e,cQ e,Option.map_some,ajn (e.symm.trans h)]
   ·rw[cI (p:=(p.1,y)) e,cI e,c]
  ·rw[ajk h];cases e:p.1=j
   ·rw[cQ (p:=p) e,cQ e,Option.map_some,ajk (λz=>h (e.trans z))]
   ·rw[cI (p:=p) e,cI e,c]
theorem yU (k j:κ)(y:V):∀a:List (κ×V),bz a k=none->bz (a++[(k,y)]) j=if j=k then some y else bz a j
 |[],_=>by
  cases e:k=j
  ·rw[ajn e.symm];rwa[cQ (p:=(k,y)) e]
  ·rw[ajk (λz=>e z.symm)];rwa[cI (p:=(k,y)) e]
 |p::r,b=>by
  rw[alB];let c:¬p.1=k:=λz=>by rw[cQ z]at b;ext b
  rw[cI c]at b;let d:=yU k j y r b;cases e:p.1=j
  ·rw[cQ e,cQ e,ajk (λz=>c (e.trans z))]
  ·rw[cI e,cI e,d]
def lV (b:List (κ×V))(k j:κ)(y:V):bz (putK b k y) j=if j=k then some y else bz b j:=by
 unfold putK;cases a:(b.any λc=>decide (c.1=k))=true
 ·rw[ajn a,A4];rw[j6]at a;cases e:j=k
  ·let⟨x,d⟩:=al9.mp a
   cbv
  ·rw[ajk e]
   cases bz b j with
   |none=>rfl
   |some x=>cbv
 ·rw[ajk a];rwa[yU k j y b ?_];rw[j6]at a
  cases q:bz b k with
  |none=>rfl
  |some x=>rw[q]at a;rwa[(a rfl).elim]
def gO (a:List (κ×V))(k:κ)(v:V):⇑(putK a k v)<=⇑a+ 1:=by
 unfold putK;split
 ·rw[ai6];ext
 ·rw[ai3,ajo,ajQ];ext
def pY {a:List (κ×V)}{k:κ}(v:V)(h:bz a k=none):putK a k v=a++[(k,v)]:=by unfold putK;rw[j6,h];rwa[ajk ⋯]
def eU.rE {o:Zc}{u:Zl}(r:eU o u):o.isSome=u.isSome:=by
 cases o with
 |none=>cases u with
  |none=>rfl
  |some _=>exact(show False from r).elim
 |some _=>cases u with
  |none=>exact(show False from r).elim
  |some _=>rfl
def eU.getD {o:Zc}{u:Zl}(r:eU o u)(rd:RelV q v):RelV (o.getD q) (u.getD v):=by
 cases o with
 |none=>cases u with
  |none=>exact rd
  |some _=>exact(show False from r).elim
 |some _=>cases u with
  |none=>exact(show False from r).elim
  |some _=>exact r
def KV.val {a:List (κ×V)}{f:List (κ×Zt)}(r:KV a f)(k:κ):eU (bz a k) (valueAt f k):=by
 induction r with
 |nil=>exact True.intro
 | @cons p q l c h t i=>
   let⟨g,j⟩:=h;cases e:p.1=k
   ·let d:q.1=k:=g.symm.trans e;let b:valueAt (q::c) k\q.2:=by simp[valueAt,alM,d]
    rw[cQ e,b];rwa[j]
   ·let d:¬q.1=k:=λz=>e (g.trans z)
    let b:valueAt (q::c) k=valueAt c k:=by simp[valueAt,alM,d]
    rw[cI e,b];rwa[i]
def KV.any {a:List (κ×V)}{c:List (κ×Zt)}(r:KV a c)(k:κ):(a.any λb=>decide (b.1=k))=c.any λb=>decide (b.1=k):=by
 induction r with
 |nil=>rfl
 |cons h t d=>rw[List.any_cons,List.any_cons,d,h.1]
def KV.repl {b:List (κ×V)}{c:List (κ×Zt)}(r:KV b c)(k:κ){y:V}{u:Zt}(g:RelV y u):
 KV (b.map λa=>if a.1=k then (a.1,y) else a) (c.map λa=>if a.1=k then (a.1,u) else a):=by
 induction r with
 |nil=>exact .nil
 | @cons p q e f h t d=>
   rw[aki,aki];rwa[.cons ?_ d]
   cbv
def KV.put {a:List (κ×V)}{b:List (κ×Zt)}(r:KV a b)(k:κ){y:V}{u:Zt}(c:RelV y u):KV (putK a k y) (stored b k u):=by
 unfold putK stored;rw[r.any k];cases e:(b.any λd=>decide (d.1=k))=true
 ·rw[ajn e,ajn e];rwa[r.repl k c]
 ·rw[ajk e,ajk e];rwa[Paired.snoc r ⟨2,c⟩]
def KV.drop {c:List (κ×V)}{d:List (κ×Zt)}(r:KV c d)(k:κ):KV (fe c k) (without d k):=by
 unfold fe without
 induction r with
 |nil=>exact .nil
 | @cons p q l m h t g=>
   let⟨f,i⟩:=h;rw[List.filter_cons,List.filter_cons];cases e:p.1=k
   ·cbv
   ·let j:¬q.1=k:=λz=>e (f.trans z)
    let a:decide (p.1≠k)=true:=by simp[e]
    let b:decide (q.1≠k)=true:=by simp[j]
    rw[ajn a,ajn b];rwa[.cons ⟨f,i⟩ g]
def KV.length {a:List (κ×V)}{b:List (κ×Zt)}(r:KV a b):⇑a=⇑b:=Paired.length r
def Lg (a:List (κ×V))(k:κ):⇑(fe a k)<=⇑a:=alc _ _
end
def jK {k:Key}(r:RelV (kV k) u):(bY P w).is k u=true:=by
 cases k with
 |inl i=>let⟨t,e⟩:=(show ∃t,u=Value.int i t from r);subst e;rwa[Dl P w i t]
 |inr x=>let⟨t,e⟩:=(show ∃t,u=Value.str x t from r);subst e;rwa[Dm P w x t]
theorem yV:∀{a:Zd}{b:Zk},Vals (a.map kV) b->ItemsAre (bY P w) a b
 |[],_,r=>by ext r;rwa[.nil]
 |k::a,_,r=>by
  cases r with
  |cons h t=>exact .cons (jK h) (yV t)
abbrev KT (H:Hp):List (Zd×V)->List (Zd×Zs×Zt)->Prop:=Paired λp q=>p.1=q.1/\H q.2.1\.tup (p.1.map kV)/\RelV p.2 q.2.2
def KT.val {a:List (Zd×V)}{g:List (Zd×Zs×Zt)}(r:KT H a g)(k:Zd):eU (bz a k) ((atKey g k).map (·.2)):=by
 induction r with
 |nil=>exact True.intro
 | @cons p q l c h t i=>
   let⟨f,_,j⟩:=h;cases e:p.1=k
   ·let d:q.1=k:=f.symm.trans e;let b:atKey (q::c) k\q.2:=by simp[atKey,alM,d]
    rw[cQ e,b];rwa[j]
   ·let d:¬q.1=k:=λz=>e (f.trans z)
    let b:atKey (q::c) k=atKey c k:=by simp[atKey,alM,d]
    rw[cI e,b];rwa[i]
def KT.repl {a:List (Zd×V)}{xs:List (Zd×Zs×Zt)}(r:KT H a xs)(k:Zd){y:V}{u:Zt}(j:RelV y u):
 KT H (a.map λb=>if b.1=k then (b.1,y) else b) (xs.map (putAt k u)):=by
 induction r with
 |nil=>exact .nil
 | @cons p q d e h t c=>
   rw[aki,aki];rwa[.cons ?_ c];let⟨g,f,i⟩:=h;unfold putAt
   cbv
def KT.put {a:List (Zd×V)}{c:List (Zd×Zs×Zt)}(r:KT H a c)(k:Zd){b:Zs}{y:V}{u:Zt}(g:H b\.tup (k.map kV))(d:RelV y u):
 KT H (putK a k y) (storedH c k b u):=by
 let e:(a.any λf=>decide (f.1=k))=(atKey c k).isSome:=by rw[j6,(r.val k).rE,Option.isSome_map]
 unfold putK storedH;rw[e];cases q:(atKey c k).isSome=true
 ·rw[ajn q,ajn q];rwa[r.repl k d]
 ·rw[ajk q,ajk q];rwa[Paired.snoc r ⟨2,g,d⟩]
def KT.keeps {a:List (Zd×V)}{c:List (Zd×Zs×Zt)}(r:KT H a c)(d:∀b ys,H b\.tup ys->I b\.tup ys):KT I a c:=Paired.KP r λ_ _ z=>⟨z.1,d^z.2.1,z.2.2⟩
section
variable {P:Program}{w:World}{H:Hp}{h:Heap}{a:Zs}
def NZ {u:HO}(ok:dy P w H h)(e:Rd H a u):b6 P w H h a u:=e.ok ok
def pZ {b:List (Key×V)}(ok:dy P w H h)(e:Rd H a (.dK b)):⇑b<=sizeLine/\(a==sysModules)=false/\∃c,KV b c/\h.DictOf (bY P w) a c:=show b6 P w H h a (.dK b) from NZ ok e
def tD {b:List (Key×V)}(ok:dy P w H h)(e:H a\.dK b):⇑b<=sizeLine/\(a==sysModules)=false/\∃c,KV b c/\h.DictOf (bY P w) a c:=pZ ok (.inl e)
def lW {c:Zd}(ok:dy P w H h)(e:H a\.tup (c.map kV)):(tupleKind (bY P w)).is h c a:=by let⟨_,b,r,o,f,d,n,g⟩:=(show b6 P w H h a (.tup (c.map kV)) from ok a _ e);rwa[o,b.toArray,n,f,d,g,by simpa using yV r]
def p5 {b:List (Zd×V)}(ok:dy P w H h)(e:Rd H a (.dT b)):⇑b<=sizeLine/\(a==sysModules)=false/\
 ∃d,KT H b d/\h.DictOfH (tupleKind (bY P w)) a d:=by
 let⟨z,y,d,r,o,n,u,j,g,s,i,k⟩:=(show b6 P w H h a (.dT b) from NZ ok e);rwa[⟨z,y,d,r,o,n,u,j,g,s,i,λx c=>?_,k⟩]
 let all:∀{l:List (Zd×V)}{m:List (Zd×Zs×Zt)},KT H l m->∀x∈m,(tupleKind (bY P w)).is h x.1 x.2.1:=by
  intro l m q
  induction q with
  |nil=>intro x c;rwa[nomatch c]
  | @cons p q A B f t v=>
    intro x c;rcases ajs.mp c with e|c
    ·subst e;rwa[lW ok (by rw[<-f.1];rwa[f.2.1])]
    ·rwa[v x c]
 rwa[all r x c]
def F2 {b:List (Zd×V)}(ok:dy P w H h)(e:H a\.dT b):⇑b<=sizeLine/\(a==sysModules)=false/\∃c,KT H b c/\h.DictOfH (tupleKind (bY P w)) a c:=p5 ok (.inl e)
end
def eP (H:Hp)(a:Zs)(y:V)(r:Zc):Prop:=(∃c k,Rd H a (.dK c)/\y=kV k/\r=bz c k)\/∃c k b,Rd H a (.dT c)/\y=↑b/\H b\.tup (k.map kV)/\r=bz c k
def j7 (H:Hp)(a:Zs)(y v:V)(d:Hp):Prop:=
 (∃c k,H a\.dK c/\y=kV k/\⇑c<sizeLine/\d=upd H a (.dK (putK c k v)))\/
 ∃c k b,H a\.dT c/\y=↑b/\H b\.tup (k.map kV)/\⇑c<sizeLine/\d=upd H a (.dT (putK c k v))
def eP.k {b:List (Key×V)}{k:Key}(e:H a\.dK b):eP H a (kV k) (bz b k):=.inl ⟨b,k,.inl e,22⟩
def j7.k {b:List (Key×V)}{k:Key}(e:H a\.dK b)(c:⇑b<sizeLine):j7 H a (kV k) q (upd H a (.dK (putK b k q))):=.inl ⟨b,k,e,2,c,2⟩
def j7.t {c:List (Zd×V)}{k:Zd}(e:H a\.dT c)(f:H b\.tup (k.map kV))(d:⇑c<sizeLine):
 j7 H a ↑b q (upd H a (.dT (putK c k q))):=.inr ⟨c,k,b,e,2,f,d,2⟩
section
variable {X:Cx}{pins:List (Zs×Obj)}{σ:St}{H:Hp}{s:Zu}{a:Zs}{y v:V}{u r:Zt}{o:Zc}{A:Around}{E:Zt->Zu->Prop}
def Inv.big (I:Inv X pins σ H s):sysModules<↥s:=by let h:mainGlobals<↥s:=(I.mod.glob.keeps I.bk).lt;rwa[amb ⋯ h]
def HY (F:A.units+ 1<cLine)(I:Inv X pins σ H s)(g:eP H a y (some v))(t:RelV y u)(h:∀d q,Inv X pins σ H q->RelV v d->Q d q):
 X⁻¹ A (getItem ↑a u) Q E s:=by
 rcases g with ⟨f,k,e,n,l⟩|⟨f,k,b,e,n,B,l⟩
 ·subst n;let⟨z,w,x,rel,m⟩:=pZ I.aU e;let⟨d,j,c⟩:=eU.some_of (v:=v) (o:=valueAt x k) ([l]▸rel.val k);rwa[wpAny_getItem_of (jK t) m.mapOf j (h d _ (I.tok _) c)]
 ·subst n;cases (show u=Value.ref b from t);let⟨z,w,D,rel,m⟩:=p5 I.aU e;let⟨d,j,c⟩:=eU.some_of (v:=v) (o:=(atKey D k).map (·.2)) ([l]▸rel.val k);let⟨p,C,i⟩:=akn.mp j;rwa[wpAny_getItem_heap (ald F) (lW I.aU B) m C ?_];rw[i];rwa[h d _ (I.tok _) c]
def Qx (p:A.units+ 1<cLine)(I:Inv X pins σ H s)(g:eP H a y o)(m:RelV y u)(h:∀j,Inv X pins σ H j->Q (.bool (!o.isSome)) j):
 X⁻¹ A (compareOp .NotIn u ↑a) Q E s:=by
 rcases g with ⟨d,k,e,i,l⟩|⟨d,k,b,e,i,n,l⟩
 ·subst i;let⟨z,c,t,rel,f⟩:=pZ I.aU e;rwa[wpAny_notIn_of (jK m) c f.mapOf ?_];rw[<-(rel.val k).rE,<-l];rwa[h _ (I.tok _)]
 ·subst i;cases (show u=Value.ref b from m);let⟨z,c,w,rel,f⟩:=p5 I.aU e;rwa[wpAny_notIn_heap (ald p) (lW I.aU n) c f ?_];let q:=(rel.val k).rE;rw[Option.isSome_map]at q;rw[<-q,<-l];rwa[h _ (I.tok _)]
def j8 {t':Nat}{c:HO}(I:Inv X pins σ H s)(mu:ui (H a))(g:Heap.SameBut a s.heap h)(d:∃q,h.get? a\q)(new:b6 X.prog X.w (upd H a c) h a c):
 Inv X pins σ (upd H a c) { s with heap:=h,toks:=t' }:=I.write (x:=a) (e:=a) mu (.inl rfl) (λb q f z=>(g.2 b f).trans z) d new
def rF {b:List (Key×V)}{c:List (Key×Zt)}(z:⇑b<=sizeLine)(d:(a==sysModules)=false)(rel:KV b c)(e:h.DictOf (bY P w) a c):
 b6 P w I h a (.dK b):=⟨z,d,c,rel,e⟩
def HZ (S:A.units+ 1<cLine)(d:Inv X pins σ H s)(g:j7 H a y v I)(M:RelV y u)(L:RelV v r)(h:∀D,Inv X pins σ I D->U () D):
 X⁻¹ A (setItem ↑a u r) U E s:=by
 rcases g with ⟨f,k,e,C,l,n⟩|⟨f,k,b,e,C,J,l,n⟩
 ·subst C n;let⟨z,m,O,rel,B⟩:=tD d.aU e;let p:⇑O<=sizeLine:=by rw[<-⇑rel];rwa[z]
  let w:⇑(putK f k v)<=sizeLine:=by have:=gO f k v;ext
  rwa[wpAny_setItem_pairs (hsz:=p) (jK M) B λG i x=>h _ ?_]
  let Y:∃q,G.get? a\q:=let ⟨q,_,_,j,_⟩:=i;⟨q,j⟩
  rwa[j8 d ([e]▸True.intro) x Y (rF w m (rel.put k L) i)]
 ·subst C n;cases (show u=Value.ref b from M);let⟨z,m,xs,rel,B⟩:=F2 d.aU e;let p:⇑xs<=sizeLine:=by rw[<-Paired.length rel];rwa[z]
  let w:⇑(putK f k v)<=sizeLine:=by have:=gO f k v;ext
  rwa[wpAny_setItem_heap (hsz:=p) (ald S) (lW d.aU J) B λG i x=>h _ ?_]
  let⟨q,R,W,j,N,T,P,_,Q⟩:=i;rwa[j8 d ([e]▸True.intro) x ⟨q,j⟩ ⟨w,m,_,(rel.put k J L).keeps λc ys F=>?_,q,R,W,j,N,T,P,Q⟩];rw[ak (bS F e (λz=>nomatch z))];rwa[F]
end
section
variable {X:Cx}{pins:List (Zs×Obj)}{σ:St}{H:Hp}{s:Zu}{a:Zs}{kvs:List (Key×V)}{k:Key}{u:Zt}{A:Around}{E:Zt->Zu->Prop}
def N0 {more:Zk}(I:Inv X pins σ H s)(e:H a\.dK kvs)(g:RelV (kV k) u)(l:bz kvs k\q)(p:more=[]\/∃x,more=[x])(h:∀c j,Inv X pins σ (upd H a (.dK (fe kvs k))) j->RelV q c->Q c j):X⁻¹ A (call (.builtin "dict.pop") (↑a::u::more)) Q E s:=by
 let⟨z,r,m,rel,n⟩:=tD I.aU e;let⟨c,y,f⟩:=eU.some_of (v:=q) (o:=valueAt m k) (by rw[<-l];rwa[rel.val k])
 let B:(keyPart u).isSome=true:=by
  cases k with
  |inl i=>let⟨t,b⟩:=(show ∃t,u=Value.int i t from g);subst b;rfl
  |inr x=>let⟨t,b⟩:=(show ∃t,u=Value.str x t from g);subst b;rfl
 let D:argsOk "dict.pop" ⟨↑a::u::more,[]⟩:=by
  rcases p with b|⟨x,b⟩
  ·subst b;rwa[PySem.F.args_dict_pop_2 _ _]
  ·subst b;rwa[PySem.F.args_dict_pop_3^_]
 refine alx alN n.typeIs PySem.F.entry_dict_pop D (meets_dict_pop_there (bY X.prog X.w) a (jK g) more p B)
  ⟨m,c,n,by rw[<-⇑rel];rwa[z],y,λv d C=>h c _ ?_ f⟩
 let F:∃b,v.get? a\b:=let ⟨b,_,_,w,_⟩:=d;⟨b,w⟩
 rwa[j8 I ([e]▸True.intro) C F (rF (ajl (Lg kvs k) z) r (rel.drop k) d)]
def Tj (I:Inv X pins σ H s)(e:H a\.dK kvs)(b:RelV (kV k) u)(l:bz kvs k=none)(h:∀c,Inv X pins σ H c->Q v c):
 X⁻¹ A (call (.builtin "dict.pop") [↑a,u,v]) Q E s:=by
 let⟨z,g,d,rel,f⟩:=tD I.aU e;let m:valueAt d k=none:=eU.none_of (by rw[<-l];rwa[rel.val k])
 let j:(keyPart u).isSome=true:=by
  cases k with
  |inl i=>let⟨t,q⟩:=(show ∃t,u=Value.int i t from b);subst q;rfl
  |inr x=>let⟨t,q⟩:=(show ∃t,u=Value.str x t from b);subst q;rfl
 rwa[alx alN f.typeIs PySem.F.entry_dict_pop (PySem.F.args_dict_pop_3^_) (meets_dict_pop_default (bY X.prog X.w) a (jK b) g j v) ⟨d,f,m,h _ (I.tok _)⟩]
end
def Tn (i:Expr):Prop:=∀b a,subscripted i false b a=operate [b,a] (getItem b a)
def Qy {env:Env}{value slice:Expr}{pos:Pos}{T id:String}(j:typeLookup (.type T) "__getitem__"=pure (some (.builtin id)))(k:Tn slice)(h:(P<|>w) A (eval value env) (λo d=>(P<|>w) A (eval slice env) (λi a=>a.TypeIs o T/\(P<|>w) A (getItem o i) Q E a) E d) E s):
 (P<|>w) A (eval (.Subscript value slice pos) env) Q E s:=by
 rwa[Subscript_ (akw h (λo d e=>akw e (λi a b=>?_) λ_ _ x=>x) λ_ _ x=>x)];let⟨g,b⟩:=b;rwa[ai2 ?_];rwa[ai2 (wpAny_specialOf g j ?_)]
 let fin:(P<|>w) A (subscripted slice false o i) (λr c=>(P<|>w) A (letTemporaryGo value o r >>=λ_=>pure r) Q E c) E a:=by rw[k o i];rwa[wpAny_operating (akw b (λr c f=>ai2 (wpAny_letTemporaryGo (ajb f))) λ_ _ x=>x)]
 first
  |rwa[ajb (ai2 fin)]
  |rwa[ai2 (ajb (ai2 fin))]
  |rwa[ai2 fin]
def Dr {c:Zc}(I:Inv X o D H s)(g:eP H a q c):s.TypeIs ↑a "dict":=by
 rcases g with ⟨d,k,e,_,_⟩|⟨d,k,b,e,_,_,_⟩
 ·let⟨_,_,h,_,f⟩:=pZ I.aU e;rwa[f.typeIs]
 ·let⟨_,_,i,_,f⟩:=p5 I.aU e;rwa[f.typeIs]
inductive To (x y:V)(H:Hp)(Q:VK):Prop
 |mk (a:Zs)(v:V):x=↑a->eP H a y (some v)->Q v H->To x y H Q
def XI (td d:TE):TE:=λ a H Q=>td a H λx c=>d a c λy b=>To x y b Q
def Qz (e td:TE):TE:=λ c H Q=>e c H λy d=>td c d λx b=>∃a o,x=↑a/\eP b a y o/\Q (.bl (!o.isSome)) b
inductive Tp (x y v:V)(H:Hp)(N:Hp->Prop):Prop
 |mk (a:Zs)(H4:Hp):x=↑a->j7 H a y v H4->N H4->Tp x y v H N
def XJ (td e b:TE):TS:=λD a H=>b a H λv d=>td a d λx c=>e a c λy f=>Tp x y v f (D.nx a)
section
variable {X:Cx}{o i value:Expr}{pos pos':Pos}{td ty tv:TE}
def lK (p:X.A.units+ 1<cLine)(m:PE X o td)(z:PE X i ty)(t:Tn i):PE X (.Subscript o i pos) (XI td ty):=by intro b s f H Q I h;rwa[Qy PySem.F.slot_dict_getitem.lookup t (a9 (m b s f H _ I h) λu q ζ=>?_)];let⟨x,n,j,r,l⟩:=ζ;rwa[a9 (z b q f n _ j l) λF D ζ=>?_];let⟨y,A,d,w,a,v,ex,g,B⟩:=ζ;subst ex;obtain rfl:u=Value.ref a:=r;rwa[Dr d g,HY p d g w λC E k c=>⟨v,A,k,c,B⟩]
def rH (n:X.A.units+ 1<cLine)(v:PE X i ty)(l:PE X o td):PC X .NotIn i o (Qz ty td):=by
 intro b s c H Q I h;rwa[a9 (v b s c H _ I h) λC p ζ=>?_];let⟨y,m,d,t,j⟩:=ζ;rwa[a9 (l b p c m _ d j) λu A ζ=>?_];let⟨x,w,k,q,a,r,ex,g,z⟩:=ζ
 subst ex;obtain rfl:u=Value.ref a:=q;rwa[Qx n k g t λB f=>⟨.bl (!r.isSome),w,f,2,z⟩]
def j9 (z:X.A.units+ 1<cLine)(t:PE X o td)(F:PE X i ty)(J:PE X value tv)(C:swapsWith value (some (.Subscript o i pos')) pos.line X.env=pure false):
 PS X (.Assign [.Subscript o i pos'] value pos) (XJ td ty tv):=by intro b s c H D I h;rwa[wpAny_Assign_Subscript (a9 (J b s c H _ I h) λr A ζ=>?_) C];let⟨v,w,f,q,m⟩:=ζ;rwa[a9 (t b A c w _ f m) λu l ζ=>?_];let⟨x,G,p,B,L⟩:=ζ;rwa[a9 (F b l c G _ p L) λP O ζ=>?_];let⟨y,N,j,E,a,k,ex,g,n⟩:=ζ;subst ex;obtain rfl:u=Value.ref a:=B;rwa[HZ z j g E q λM d=>⟨c,k,d,n⟩]
end
def A5 (h:Heap)(a:sysModules<h.objs.size):b6 P w H (h.push ("dict">>>.dict #[])) h.objs.size (.dK []):=⟨ajB _,ajA.mpr (akg (ajH a)),[],.nil,Heap.DictOf.new h⟩
def Lh (h:Heap)(a:sysModules<h.objs.size):b6 P w H (h.push ("dict">>>.dict #[])) h.objs.size (.dT []):=⟨ajB _,ajA.mpr (akg (ajH a)),[],.nil,_,#[],(0),ajv _ rfl,⟨222⟩,22,akQ⟩
def Tq:TE:=λ_ H Q=>∀p,H p=none->Q ↑p (upd H p (.dK []))
def Ts:TE:=λ_ H Q=>∀p,H p=none->Q ↑p (upd H p (.dT []))
section
variable {X:Cx}{pos:Pos}
def fK:PE X (.Dict [] [] pos) Tq:=λb s d H Q I h=>wpAny_Dict_empty ⟨↑↥s,_,I.laid (a:=↥s) (o:=.dK []) (t':=s.toks) (λ_ _ q=>ai7 _ q) (aja _) (A5 s.heap I.big),2,h _ (I.aU.fresh (aja _))⟩
def A6:PE X (.Dict [] [] pos) Ts:=λb s d H Q I h=>wpAny_Dict_empty ⟨↑↥s,_,I.laid (a:=↥s) (o:=.dT []) (t':=s.toks) (λ_ _ q=>ai7 _ q) (aja _) (Lh s.heap I.big),2,h _ (I.aU.fresh (aja _))⟩
end
def A7:List (TE×TE)->St->Hp->(List (V×V)->Hp->Prop)->Prop
 |[],_,H,Q=>Q [] H
 |(e,b)::r,a,H,Q=>e a H λx f=>b a f λy c=>A7 r a c λd g=>Q ((x,y)::d) g
abbrev VV:List (V×V)->List (Zt×Zt)->Prop:=Paired λp q=>RelV p.1 q.1/\RelV p.2 q.2
def N4 (X:Cx)(pos:Pos)(keys:List (Option Expr))(values:Zr)(b:List (TE×TE)):Prop:=
 ∀(a:List (Zs×Obj))(s:Zu)(c:St)(H:Hp)(Q:List (V×V)->Hp->Prop),Inv X a c H s->A7 b c H Q->X⁻¹ X.A (evalPairs (pairTrees keys values X.env pos)) (λg f=>∃d e,Inv X a c e f/\VV d g/\Q d e) X.xe s
def xY {pos:Pos}:N4 X pos [] [] []:=λa s b H Q I h=>pairTrees_nil_walk ⟨[],H,I,.nil,h⟩
def uT {pos:Pos}{k:Expr}{d:List (Option Expr)}{f:TE}{b:List (TE×TE)}(j:PE X k r)(D:PE X e f)(v:N4 X pos d C b):
 N4 X pos (some k::d) (e::C) ((r,f)::b):=λa s c H Q I h=>
 pairTrees_cons_walk (a9 (j a s c H _ I h) λu w ⟨x,t,g,z,o⟩=>a9 (D a w c t _ g o) λJ m ⟨y,B,q,A,E⟩=>a9 (v a m c B _ q E) λF G ζ=>by let⟨l,i,n,rel,p⟩:=ζ;rwa[⟨(x,y)::l,i,n,.cons ⟨z,A⟩ rel,p⟩])
def iP (a more:List (Key×V)):List (Key×V):=more.foldl (λacc b=>putK acc b.1 b.2) a
def KV.merge:∀{more:List (Key×V)}{rs:List (Key×Zt)}{a:List (Key×V)}{b:List (Key×Zt)},KV more rs->KV a b->KV (iP a more) (merged b rs):=by
 intro more rs a b r
 induction r generalizing a b with
 |nil=>intro q;rwa[q]
 | @cons p q f g h t c=>
   intro d
   let e:KV (putK a p.1 p.2) (stored b q.1 q.2):=by have:=d.put p.1 h.2;rw[<-h.1];rwa[this]
   rwa[c e]
theorem kY:∀(more a:List (Key×V)),⇑(iP a more)<=⇑a+ ⇑more
 |[],a=>by show ⇑a<=⇑a+ 0;ext
 |p::r,a=>by let b:=kY r (putK a p.1 p.2);let c:=gO a p.1 p.2;show ⇑(iP (putK a p.1 p.2) r)<=_;rw[ajo];ext
theorem vM {P:Program}{w:World}:∀{d:List (Key×V)}{g:List (Zt×Zt)},VV (d.map λf=>(kV f.1,f.2)) g->∃e,Carries (bY P w) g e/\KV d e
 |[],_,r=>by ext r;rwa[[],True.intro,.nil]
 |p::d,_,r=>by
  cases r with
  | @cons a b as bs h t=>let⟨e,c,q⟩:=vM (P:=P) (w:=w) t;let⟨j,i⟩:=b;rwa[(p.1,i)::e,⟨jK h.1,2,c⟩,.cons ⟨2,h.2⟩ q]
def XM (b:List (TE×TE)):TE:=λ f H Q=>∀p,H p=none->A7 b f (upd H p (.dK [])) λe c=>c p\.dK []/\∃a:List (Key×V),e=a.map (λd=>(kV d.1,d.2))/\⇑a<=15/\Q ↑p (upd c p (.dK (iP [] a)))
def xZ {pos:Pos}{keys:List (Option Expr)}{values:Zr}{d:List (TE×TE)}(h:N4 X pos keys values d)(g:keys.all (·.isSome)=true)(B:⇑keys=⇑values)(n:keys≠[])(j:⇑keys<=15):PE X (.Dict keys values pos) (XM d):=by
 intro f s D H Q I q;let E:=I.aU.fresh (aja ↥s);let p:=I.laid (a:=↥s) (o:=.dK []) (h':=s.heap.push ("dict">>>.dict #[])) (t':=s.toks) (λ_ _ q=>ai7 _ q) (aja _) (A5 s.heap I.big);rwa[wpAny_Dict_walk (knd:=bY X.prog X.w) g B n j (a9 (h f _ D _ _ p (q _ E)) λS R ζ=>?_)];let⟨O,T,l,rel,e,b,G,lk,M⟩:=ζ;subst G;let⟨A,c,x⟩:=vM (P:=X.prog) (w:=X.w) rel;let⟨z,m,J,u,F⟩:=tD l.aU e;ext u;rwa[⟨A,c,F,λk i C=>⟨↑↥s,152,M⟩⟩]
 let y:⇑(iP [] b)<=sizeLine:=by let v:=kY b [];rw[ajQ]at v;rw[sizeLine_eq];ext
 let L:∃q,k.get? ↥s\q:=let ⟨q,_,_,t,_⟩:=i;⟨q,t⟩
 rwa[j8 l ([e]▸True.intro) C L (rF y m (x.merge .nil) i)]
structure M1 (X:Cx)(o:Expr)(m:Str)(apos:Pos)(e:Expr)(cJ:Pos):Prop where
 base:attributeBase o m X.env (eval o X.env)=eval o X.env
 few:((backTo cJ (starEach [e] X.env)).all (λx=>!x.1) && (backToKw cJ (keywordEach [] X.env)).all (λx=>x.1.isSome)
  && decide (⇑([e]:Zr)+ ⇑([]:List Keyword)+ (if ([]:List Keyword).isEmpty then 0 else 1)<30))=true
 line:(apos.endLine==cJ.line)=true
 trees:backTo cJ (starEach [e] X.env)=[(false,eval e X.env)]
structure M2 (X:Cx)(o:Expr)(m:Str)(apos:Pos)(e f:Expr)(cJ:Pos):Prop where
 base:attributeBase o m X.env (eval o X.env)=eval o X.env
 few:((backTo cJ (starEach [e,f] X.env)).all (λx=>!x.1) && (backToKw cJ (keywordEach [] X.env)).all (λx=>x.1.isSome)
  && decide (⇑([e,f]:Zr)+ ⇑([]:List Keyword)+ (if ([]:List Keyword).isEmpty then 0 else 1)<30))=true
 line:(apos.endLine==cJ.line)=true
 trees:backTo cJ (starEach [e,f] X.env)=[(false,eval e X.env),(false,eval f X.env)]
def Ek (H:Hp)(a:Zs):Prop:=(∃b,Rd H a (.dK b))\/∃b,Rd H a (.dT b)
def lX (I:Inv X o D H s)(d:Ek H a):
 s.TypeIs ↑a "dict"/\(∀b,Value.ref a=↑b->∃c,s•b\c/\c.dict=none)/\(a==sysModules)=false:=by
 rcases d with ⟨h,e⟩|⟨h,e⟩
 ·let⟨_,g,k,_,f⟩:=pZ I.aU e;rwa[⟨f.typeIs,λb q=>?_,g⟩];ext q;let⟨c,_,_,j,i,_⟩:=f;rwa[c,j,i.2.1]
 ·let⟨_,g,l,_,f⟩:=p5 I.aU e;rwa[⟨f.typeIs,λb q=>?_,g⟩];ext q;let⟨c,_,_,j,i,_⟩:=f;rwa[c,j,i.2.1]
section
variable {X:Cx}{pins:List (Zs×Obj)}{σ:St}{H:Hp}{s:Zu}{a:Zs}{y d:V}{u r:Zt}{o:Zc}{A:Around}{E:Zt->Zu->Prop}
def Tt (v:A.units+ 1<cLine)(I:Inv X pins σ H s)(g:eP H a y o)(p:RelV y u)(h:∀n m,Inv X pins σ H m->RelV (o.getD .non) n->Q n m):
 X⁻¹ A (call (.builtin "dict.get") [↑a,u]) Q E s:=by
 rcases g with ⟨i,k,e,j,l⟩|⟨i,k,b,e,j,q,l⟩
 ·subst j;let⟨z,f,w,rel,c⟩:=pZ I.aU e;rwa[alx akT c.typeIs alF (PySem.F.args_dict_get_2 _ _) (meets_dict_get (bY X.prog X.w) a (jK p) f) ⟨_,c.mapOf,h _ _ (I.tok _) ?_⟩];rw[l];rwa[(rel.val k).getD rfl]
 ·subst j;cases (show u=Value.ref b from p);let⟨z,f,t,rel,c⟩:=p5 I.aU e;rwa[alx akT c.typeIs alF (PySem.F.args_dict_get_2 _ _) (meetsH_dict_get (tupleKind (bY X.prog X.w)) a b f) ⟨ald v,k,t,lW I.aU q,c,h _ _ (I.tok _) ?_⟩];rw[l];rwa[(rel.val k).getD rfl]
def Tv (v:A.units+ 1<cLine)(I:Inv X pins σ H s)(g:eP H a y o)(p:RelV y u)(rd:RelV d r)(h:∀n m,Inv X pins σ H m->RelV (o.getD d) n->Q n m):
 X⁻¹ A (call (.builtin "dict.get") [↑a,u,r]) Q E s:=by
 rcases g with ⟨i,k,e,j,l⟩|⟨i,k,b,e,j,q,l⟩
 ·subst j;let⟨z,f,w,rel,c⟩:=pZ I.aU e;rwa[alx akT c.typeIs alF (PySem.F.args_dict_get_3^_) (meets_dict_get_default (bY X.prog X.w) a (jK p) f r) ⟨_,c.mapOf,h _ _ (I.tok _) ?_⟩];rw[l];rwa[(rel.val k).getD rd]
 ·subst j;cases (show u=Value.ref b from p);let⟨z,f,t,rel,c⟩:=p5 I.aU e;rwa[alx akT c.typeIs alF (PySem.F.args_dict_get_3^_) (meetsH_dict_get_default (tupleKind (bY X.prog X.w)) a b f r) ⟨ald v,k,t,lW I.aU q,c,h _ _ (I.tok _) ?_⟩];rw[l];rwa[(rel.val k).getD rd]
end
inductive El (x:V)(H:Hp)(G:Zs->Prop):Prop
 |mk (a:Zs):x=↑a->Ek H a->G a->El x H G
def Tw (td e:TE):TE:=λ d H Q=>td d H λx c=>El x c λa=>e d c λy b=>∃o,eP b a y o/\Q (o.getD .non) b
inductive Tx (ty tx:TE)(σ:St)(x:V)(H1:Hp)(Q:VK):Prop
 |mk (a:Zs):x=↑a->Ek H1 a->(ty σ H1 λy H2=>tx σ H2 λz H3=>∃o,eP H3 a y o/\Q (o.getD z) H3)->Tx ty tx σ x H1 Q
def Tz (td c tx:TE):TE:=λ a H Q=>td a H λx b=>Tx c tx a x b Q
inductive TB (a:Zs)(y:V)(H:Hp)(Q:VK):Prop
 |mk (kvs:List (Key×V))(k:Key)(v:V):H a\.dK kvs->y=kV k->bz kvs k\v->Q v (upd H a (.dK (fe kvs k)))->TB a y H Q
def TC (td e:TE):TE:=λ c H Q=>td c H λx b=>El x b λa=>e c b λy d=>TB a y d Q
inductive Li (a:Zs)(y z:V)(H:Hp)(Q:VK):Prop
 |mk (kvs:List (Key×V))(k:Key):H a\.dK kvs->y=kV k->(∀v,bz kvs k\v->Q v (upd H a (.dK (fe kvs k))))->(bz kvs k=none->Q z H)->Li a y z H Q
def TF (td e tx:TE):TE:=λ b H Q=>td b H λx c=>El x c λa=>e b c λy d=>tx b d λz f=>Li a y z f Q
section
variable {X:Cx}{o e f:Expr}{apos cJ:Pos}{td ty tx:TE}
def Lj (v:X.A.units+ 1<cLine)(q:PE X o td)(C:PE X e ty)(m:M1 X o "get" apos e cJ):PE X (.Call (.Attribute o "get" apos) [e] [] cJ) (Tw td ty):=by intro b s j H Q I h;rwa[alq m.base m.few m.line akv akT PySem.F.type_dict_get (a9 (q b s j H _ I h) λu w ζ=>?_)];let⟨x,t,i,z,a,ex,d,n⟩:=ζ;subst ex;obtain rfl:u=Value.ref a:=z;let⟨r,k,_⟩:=lX i d;erw[r,k];rw[m.trees];rwa[akc rfl (akK (aka (a9 (C b w j t _ i n) λL F ζ=>?_)))];let⟨y,B,p,A,G,g,D⟩:=ζ;rwa[akM ?_];rwa[Tt v p g A λE J l c=>⟨_,B,l,c,D⟩]
def lY (D:X.A.units+ 1<cLine)(A:PE X o td)(M:PE X e ty)(w:PE X f tx)(m:M2 X o "get" apos e f cJ):PE X (.Call (.Attribute o "get" apos) [e,f] [] cJ) (Tz td ty tx):=by
 intro b s i H Q I h;rwa[alq m.base m.few m.line akv akT PySem.F.type_dict_get (a9 (A b s i H _ I h) λu E ζ=>?_)];let⟨x,C,j,F,a,ex,d,r⟩:=ζ;subst ex;obtain rfl:u=Value.ref a:=F;let⟨B,k,_⟩:=lX j d;erw[B,k];rw[m.trees]
 rwa[akc rfl (akK (aka (a9 (M b E i C _ j r) λT q ζ=>?_)))];let⟨y,L,v,G,N⟩:=ζ;rwa[ aka (a9 (w b q i L _ v N) λU S ζ=>?_)];let⟨z,n,p,J,R,g,t⟩:=ζ;rwa[akM ?_]
 rwa[Tv D p g G J λP O l c=>⟨_,n,l,c,t⟩]
def Lk (t:PE X o td)(D:PE X e ty)(m:M1 X o "pop" apos e cJ):PE X (.Call (.Attribute o "pop" apos) [e] [] cJ) (TC td ty):=by intro b s i H Q I h;rwa[alq m.base m.few m.line akv alN PySem.F.type_dict_pop (a9 (t b s i H _ I h) λu A ζ=>?_)];let⟨x,z,g,B,a,ex,d,q⟩:=ζ;subst ex;obtain rfl:u=Value.ref a:=B;let⟨w,j,_⟩:=lX g d;erw[w,j];rw[m.trees];rwa[akc rfl (akK (aka (a9 (D b A i z _ g q) λO L ζ=>?_)))];let⟨y,M,r,C,n,k,v,F,E,l,G⟩:=ζ;rwa[akM ?_];subst E;rwa[N0 r F C l (.inl rfl) λJ N p c=>⟨v,_,p,c,G⟩]
def uU (G:PE X o td)(S:PE X e ty)(F:PE X f tx)(m:M2 X o "pop" apos e f cJ):PE X (.Call (.Attribute o "pop" apos) [e,f] [] cJ) (TF td ty tx):=by
 intro b s j H Q I h;rwa[alq m.base m.few m.line akv alN PySem.F.type_dict_pop (a9 (G b s j H _ I h) λu N ζ=>?_)];let⟨x,L,n,O,a,ex,d,C⟩:=ζ;subst ex;obtain rfl:u=Value.ref a:=O;let⟨J,t,_⟩:=lX n d;erw[J,t];rw[m.trees]
 rwa[akc rfl (akK (aka (a9 (S b N j L _ n C) λZ B ζ=>?_)))];let⟨y,R,E,q,V⟩:=ζ;rwa[ aka (a9 (F b B j R _ E V) λU Y ζ=>?_)];let⟨z,A,p,P,c,k,r,T,D,M⟩:=ζ;rwa[akM ?_]
 subst T
 cases l:bz c k with
 |some v=>exact N0 p r q l (.inr ⟨U,2⟩) λW w g i=>⟨v,_,g,i,D v l⟩
 |none=>exact Tj p r q l λw g=>⟨z,A,g,P,M l⟩
end
section
variable {X:Cx}{pins:List (Zs×Obj)}{σ:St}{H:Hp}{s:Zu}{h':Heap}
def Inv.uV {fp:Zn}{o:HO}{t':Nat}(I:Inv X pins σ H s)(k:∀b u,b∉fp->s•b\u->h'.get? b\u)(f:∀b∈fp,pQ X pins H b)(h:↥s<=a)(new:b6 X.prog X.w (upd H a o) h' a o):Inv X pins σ (upd H a o) { s with heap:=h',toks:=t' }:=by
 let g:=I.aU.fresh h;let i:∀b u,H b\u->b∉fp:=λb u e z=>by rw[(f b z).1]at e;ext e
 refine I.step (g':=s.gens) (d':=s.drawn) (ch:=fp) (λb d=>⟨(f b d).2.2.2.1,(f b d).2.1,(f b d).2.2.2.2.1,(f b d).2.2.2.2.2⟩) (λb o _ _ hc e _=>k b o hc e) (λb o _ _ hc e _=>⟨o.slots,k b o hc e⟩)
  (λb o _ e n=>[ak (ajH (ajF (ajy e) h))]▸n) (λb o hc e=>⟨o,k b o hc e⟩) (λb l e=>[ak (av e g)]▸e)
  (λb o u e=>[ak (av e g)]▸e) (λb x e=>⟨#[],by rw[ak (av e g),e];simp⟩) (λm t=>?_) (λb u e=>?_) I.bare
 ·let⟨o,p,w,j,r⟩:=t;rwa[o,p,w,k _ o (λz=>(f _ z).2.1 rfl) j,r]
 ·cases d:b=a
  ·subst d;rw[aj]at e;ext e;rwa[new]
  ·rw[ak d]at e;refine(I.aU b u e).gX (λc v hc q=>k c v ?_ q) (λc q=>[ak (av q g)]▸q) λc l q=>by rw[ak (av q g)];rwa[q]
   rcases hc with z|z
   ·rw[z];rwa[i b u e]
   ·rwa[i c _ z]
end
namespace En
variable {prog:Program}{w:World}{A:Around}{E:Zt->Zu->Prop}{s:Zu}
theorem Ia {it:Zs}{fp:Zn}{P:Nat->Zt->Prop}{St:Nat->Heap->Prop}{old:Zt}{Q:Zl->Zu->Prop}(D:Draws prog w A.in1 it fp n P St)(he:IsEnum s.heap a it z old)(Ib:St i s.heap)(m4:i<n)(N5:a≠it)(YT:a∉fp)(hQ:∀x h' H,P i x->IsEnumOut h' a it (z+ 1) x ↥s->St (i+ 1) h'->h'.get? ↥s\("tuple">>>.seq #[.int z H,x])->(∀b o,b≠a->b≠it->s•b\o->h'.get? b\o)->Q (some ↑↥s) { s with heap:=h',toks:=H+ 1 }):
 (prog<|>w) A (pyNext ↑a) Q E s:=by
 let hT:s.TypeIs ↑a "enumerate":=⟨_,he,2⟩;unfold pyNext;rwa[ai2 (wpAny_attempt (akh (name:=Str.ofString "__next__") hT F.slot_enumerate_next (akt F.slot_enumerate_next hT F.entry_enumerate_next ?_ (F.args_enumerate_next_1 _))))];let⟨T,g,d,ahC,os⟩:=s;show wpAny _ _ (field ↑a 2 >>=_) _ _ _;rwa[ai2 (aj6 he rfl (x:=↑it) rfl (ai2 (D.item i _ _ _ m4 Ib λx j H hPx M h=>?_)))];replace h:Heap.SameBut it T j:=h;let r:IsEnum j a it z old:=(h.2 a N5).trans he;show wpAny _ _ (field ↑a 3 >>=_) _ _ ⟨j,g,d,H,os⟩;rwa[ai2 (aj6 r rfl (x:=rawInt z) rfl ?_)];show wpAny _ _ (field ↑a 4 >>=_) _ _ ⟨j,g,d,H,os⟩;rwa[ai2 (aj6 r rfl (x:=.none) rfl ?_)];show wpAny _ _ (mkInt z >>=_) _ _ ⟨j,g,d,H,os⟩;rwa[ai2 (wpAny_mkInt ?_)];show wpAny _ _ (setField ↑a 3 (rawInt (z+ 1)) >>=_) _ _ ⟨j,g,d,H+ 1,os⟩;rwa[ai2 (akq r (by simp) λG t f=>?_)];replace f:Heap.SameBut a j G:=f;replace t:IsEnum G a it (z+ 1) old:=t;show wpAny _ _ (setField ↑a 4 .none >>=_) _ _ ⟨G,g,d,H+ 1,os⟩;rwa[ai2 (akq t (by simp) λl u e=>?_)];replace e:Heap.SameBut a G l:=e;replace u:IsEnum l a it (z+ 1) old:=u;show wpAny _ _ (newTuple [.int z H,x] >>=_) _ _ ⟨l,g,d,H+ 1,os⟩;rwa[ai2 (wpAny_newTuple ?_)];let v:IsEnum (l.push ("tuple">>>.seq #[.int z H,x])) a it (z+ 1) old:=ai7 _ u;generalize B:l.push ("tuple">>>.seq #[.int z H,x])=C at v;let Y:l.objs.size=T.objs.size:=by rw[e.1,f.1,h.1]
 let W:a<T.objs.size:=ajy he;let Z:C.get? T.objs.size\("tuple">>>.seq #[.int z H,x]):=by rw[<-B,<-Y];rwa[ajv _ rfl]
 let U:∀b o,b≠a->b≠it->T.get? b\o->C.get? b\o:=λb o c X V=>by rw[<-B];rwa[ai7 _ (e.extBut b o c (f.extBut b o c (h.extBut b o X V)))]
 let S:St (i+ 1) C:=D.frame _ _ _ M λb V o y=>by
  let c:b≠a:=λq=>YT (q ▸ V)
  rw[<-B];rwa[ai7 _ (e.extBut b o c (f.extBut b o c y))]
 show wpAny _ _ (Builtin.SmallTypes.ownedTupleIsFree ↑a >>=_) _ _ ⟨C,g,d,H+ 1,os⟩;rw[Y];clear B u e t f r h M Y l G j;rwa[ai2 ?_];unfold Builtin.SmallTypes.ownedTupleIsFree;rwa[ai2 (aj6 v rfl (x:=.none) rfl (ajb ?_))];simp only[amx];rwa[ai2 (wpAny_rule (ai2 (aj6 v rfl (x:=old) rfl (ai2 (akq v (by simp) λN L m=>?_)))))];replace m:Heap.SameBut a C N:=m;replace L:IsEnum N a it (z+ 1) x:=L;show wpAny _ _ (Builtin.SmallTypes.ownedTupleHandOut ↑a ↑T.objs.size >>=_) _ _ ⟨N,g,d,H+ 1,os⟩;rwa[ai2 ?_];unfold Builtin.SmallTypes.ownedTupleHandOut;rwa[ai2 (akq L (by simp) λO J p=>?_)];replace p:Heap.SameBut a N O:=p;replace J:IsEnumOut O a it (z+ 1) x T.objs.size:=J;rwa[akq J (by simp) λR I k=>?_]
 replace k:Heap.SameBut a O R:=k;replace I:IsEnumOut R a it (z+ 1) x T.objs.size:=I;rwa[ai2 (wpAny_letGo (ajb ⟨12,ajb (hQ x R H hPx I ?_ ?_ ?_)⟩))]
 ·exact D.frame _ _ _ S λb V o y=>by
   let c:b≠a:=λq=>YT (q ▸ V)
   rwa[k.extBut b o c (p.extBut b o c (m.extBut b o c y))]
 ·rwa[k.extBut _ _ (akE W) (p.extBut _ _ (akE W) (m.extBut _ _ (akE W) Z))]
 ·rwa[λb o c X V=>k.extBut b o c (p.extBut b o c (m.extBut b o c (U b o c X V)))]
def QB {T newId:String}{self a:Zt}{kw:List (Str×Zt)}(f:typeLookup (.type T) "__init__"=pure (some (.builtin "object.__init__")))(e:Bind.madeBy (.type T)=pure (some newId))(c:(some newId !=some "object.__new__")=true):
 Meets (Builtin.«object.__init__» ⟨[self,a],kw⟩) (λ_ R s=>s.TypeIs self T/\R (.ok (.ret .none)) s):=by
 rwa[Meets.of_wp λprog w A R s d=>?_]
 let⟨g,b⟩:=d
 repeat (any_goals (first|assumption|wp_step))
 rwa[12,b]
def XQ (a b:Zt):checkTypeCall "enumerate" ⟨[a],[("start",b)]⟩=pure ():=by kernel_rfl
def XS (a b:Zt):checkBuiltinCall "enumerate.__new__" ⟨[.type "enumerate",a],[("start",b)]⟩=pure ():=by kernel_rfl
theorem XT (a b c:Zt):argsOk "object.__init__" ⟨[a,b],[("start",c)]⟩:=by
 unfold argsOk;rw[signature?_of (id:="object.__init__") (n:=['_','_','t','i','n','i','_','_']) (o:=['t','c','e','j','b','o']) (by kernel_rfl) F.owner_object]
 kernel_rfl
end En
inductive XU (t:TT)(σ:St)(H:Hp)(Q:(Bool->Hp->Prop)):Prop
 |mk (G:Bool->Hp->Prop):t σ H G->(∀c H',G c H'->Q c H')->XU t σ H Q
def CXw (P:Program)(w:World):lS:=λa H s E e c=>∃(x C:Zs)(B:Heap)(d:Hp)(f:Zt),e=↑x/\c.os=s.os/\AllBare c.gens/\Heap.FlyingW B a x ↑C f c.heap/\Un (cY a) [] H d s.heap c.heap/\dy P w d B/\(∀b o,s•b\o->H b=none->b∉cY a->B.get? b\o)/\(∀b o,s•b\o->b∉cY a->∃g,B.get? b\g)/\E ↑C none d
section
variable {X:Cx}{pos:Pos}
abbrev TJ:=St->Hp->Zh->VK->Prop
def PJ (X:Cx)(c:Zr)(t:TJ):Prop:=∀(a:List (Zs×Obj))(s:Zu)(b:St)(H:Hp)(acc:Zh)(Q:VK),Inv X a b H s->t b H acc Q->X⁻¹ X.A (joinParts (tx acc) (evalEach c X.env)) (EP X a b Q) X.xe s
def TK:PJ X [] (λ b H acc Q=>⇑acc<=1000000/\Q (.str (tx acc)) H):=λa s b H acc Q I h=>joinParts_nil ⟨.str (tx acc),H,I.tok _,⟨12⟩,h.2⟩ ([HV]▸ajl h.1 ⋯)
def Em {t:TJ}(n:PE X e r)(i:PJ X C t)(k:evalEach (e::C) X.env=eval e X.env::evalEach C X.env:=by rfl):
 PJ X (e::C) (λ c H acc Q=>r c H λv d=>∃l,v=.str (tx l)/\⇑acc+ ⇑l<=1000000/\t c d (acc++l) Q):=by
 intro b s c H acc Q I h;rw[k];rwa[joinParts_cons (a9 (n b s c H _ I h) λv j ζ=>?_)];let⟨x,d,f,a,l,m,g,q⟩:=ζ;subst m;let⟨o,rfl⟩:=a;erw[5]
 ·rw[HW,HV,ai3];rwa[ajl g ⋯]
 ·rw[HW];rwa[i b j c d (acc++l) Q f q]
def Ic {b:Expr}{t:TJ}(h:PJ X (e::b::C) t)(d:evalEach (e::b::C) X.env=eval e X.env::eval b X.env::evalEach C X.env):PE X (.JoinedStr (e::b::C) pos) (λ c H Q=>t c H [] Q):=by intro a s c H Q I q;rwa[JoinedStr_many ?_];have:=h a s c H [] Q I q;rw[d]at this;rwa[this]
def QC (j:PE X e r):PE X (.FormattedValue e (-1) none pos) (λ d H Q=>r d H λv c=>∃n:Int,v=.int n/\n.natAbs<10000000000/\Q (.str (tx (A3 n))) c):=by intro b s d H Q I h;rwa[FormattedValue_plain (a9 (j b s d H _ I h) λv l ζ=>?_)];let⟨x,c,f,a,n,i,g,q⟩:=ζ;subst i;let⟨k,rfl⟩:=a;rwa[formatField_int_small (HX g) ?_];rwa[.str (tx (A3 n)),c,f.tok _,⟨_,by rw[XG (toString n:Str)];rfl⟩,q]
abbrev F3:Zk:=[.type "ValueError",.type "Exception",.type "BaseException",.type "object"]
end
def b6.get {o:HO}(x:b6 P w H h a o):∃u,h.get? a\u:=by
 cases o with
 |lst c=>let⟨_,_,_,_,e⟩:=x;rwa[_,e]
 |tup c=>let⟨_,_,_,ob,e,_⟩:=x;rwa[_,e]
 |dK b=>let⟨_,_,_,_,o,_,_,e,_⟩:=x;rwa[_,e]
 |dT b=>let⟨_,_,_,_,o,_,_,e,_⟩:=x;rwa[_,e]
 |set S n=>let⟨o,_,_,_,e,_⟩:=x;rwa[_,e]
 |ins C dx fs=>let⟨_,_,_,e,_⟩:=x;rwa[_,e]
 |own y=>exact x
 |xd fs=>let⟨_,⟨_,_,_,e,_⟩,_⟩:=x;rwa[_,e]
 |fy lo i=>let⟨_,_,_,e⟩:=x;rwa[_,e]
 |df ob u=>let⟨e,_⟩:=x;rwa[_,e]
 |mZ d=>rwa[_,show h.get? a=some _ from x]
 |met f y=>rwa[_,show h.get? a=some _ from x]
 |ext g=>let⟨_,e,_⟩:=x;rwa[e]
def Ln (x C:Zs)(h:Heap):Prop:=∃a b,h.get? x\a/\a.cls=↑C/\a.data=.fields b
def Thr (X:Cx)(a:List (Zs×Obj))(g:St)(d:Hp)(x C:Zs)(s:Zu):Prop:=
 ∃(B:Heap)(c:Hp)(s1:Zu)(e:Zt),Inv X a g c s1/\s.os=s1.os/\AllBare s.gens/\Heap.FlyingW B X.stack x ↑C e s.heap/\Un (cY X.stack) [] c d s1.heap s.heap/\dy X.prog X.w d B/\(∀b o,s1•b\o->c b=none->b∉cY X.stack->B.get? b\o)/\(∀b o,s1•b\o->b∉cY X.stack->∃f,B.get? b\f)
section
variable {X:Cx}{pins:List (Zs×Obj)}{σ:St}{x:Zs}{s:Zu}
def Inv.XW {s1:Zu}(I:Inv X pins σ H s1){b:Zs}(c:b∈cY X.stack):∃o,s1•b\o/\∀a,o.data≠.fields a:=by let⟨_,o,e,n⟩:=I.stack.mem c;rwa[o,e,n]
abbrev Cx.A8 (X:Cx) (x:Zs):Cx:={ X with A:=X.A.mark (some ↑x),calm:=false,xe:=λ_ _=>False }
def Inv.A8 (I:Inv X pins σ H s)(x:Zs):Inv (X.A8 x) pins σ H s:=⟨⟨I.ok.mod,I.ok.kind,I.ok.glob,I.ok.blt,I.ok.above,I.ok.inj,I.ok.has,I.ok.As,(λz=>by ext z),I.ok.frames,I.ok.DW,I.ok.Np,I.ok.bs,I.ok.uj,I.ok.uH,I.ok.xI,I.ok.jD,I.ok.vD⟩,I.os,I.bare,I.base,I.loc,I.cell,I.free,I.gY,I.pin,I.aU,I.len⟩
def Inv.An (ok:X.Ok)(I:Inv (X.A8 x) pins σ H s):Inv X pins σ H s:=⟨ok,I.os,I.bare,I.base,I.loc,I.cell,I.free,I.gY,I.pin,I.aU,I.len⟩
end
abbrev XR:=Zs->St->Hp->Prop
def XP (X:Cx)(a:List (Zs×Obj))(R:XR)(e:Zt)(s:Zu):Prop:=∃x C b H,e=↑x/\Thr X a b H x C s/\R C b H
abbrev TH:=Ends->Zs->St->Hp->Prop
def Ln.XX {M:Model}{x:Zs}(p:Ln x a h):PySem.W.Looks M h (typeOf ↑x) ↑a:=by let⟨o,_,c,b,_⟩:=p;rwa[b ▸ (PySem.W.Looks.ld c).andThen .now]
end L2
namespace L2
open PySem.Calls PySem.W Builtin Builtin.ObjectAttr Builtin.Getset_descriptor
structure ab2 (K:Za1)(C:Zs):Prop where
 ga:findIn K ↑C "__getattribute__"=some (some (.builtin "BaseException.__getattribute__"))
 gt:findIn K ↑C "__getattr__"=some none
 cl:isClsIn K C=true
 at_:findIn K ↑C "__class__"=some (some (.builtin "object.__class__"))
 gs:specialIn K (.builtin "object.__class__") "__get__"=some (some (.builtin "getset_descriptor.__get__"))
 tk:takesIn K (.builtin "object.__class__")\true
 mo:mroIn K C (.type "object")\true
 be:subIn K ↑C (.type "BaseException")\true
def vOf:V->Zl
 |.ref a=>some ↑a
 |.ty n=>some (.type n)
 |_=>none
end L2
namespace L2
section
variable {P:Program}{w:World}{K:Za1}{mg:Str->Zl}{base:Heap}
theorem AZ.okN {h:lS}{qual:Str}{st:Stmt}{fd:FuncData}{e:Zp}{k:Nat}{sp:Sp}(F:AZ K x qual st a fd)(S:aM Z e (aD st))(len:∀c H Q E,sp c H Q E->⇑c=⇑e)(d:∀(b:Zt) (A:Around) (outer:Zq) (s:Zu) (H:Hp) (c:Zb) (Q:VK) (E:XK),c9 k (A.deeper (envOfC qual (aD st) ↥s a b))->sp c H Q E->
  ∃t,iO (dH h P w K mg base Z qual (aD st) a b A outer s H E).Ay (cU st) t/\t { nx:=λ_ m=>Q .non m,rt:=Q } (start Z c) H):dZ P w K mg base h (k+ 1) a fd e sp:=by
 let⟨o,q,kV,doc,pm,p,b,ct,n,rfl,lk,g⟩:=F.ex;rwa[NC lk g S len λA outer s H c Q E l f=>?_]
 let⟨t,j,i⟩:=d b A outer s H c Q E l f;rwa[t,j.Ay,i]
end
def Lp (k:TT)(g:TE)(e:St)(Q:VK)(J:It)(h:Hp):Prop:=∃W:Nat->Nat->Zb->Hp->Prop,(∃m,W 0 m [] h)/\∀i m ys a,W i m ys a->
 (J.stop i a/\⇑ys<=sizeLine/\∀D,a D=none->Q ↑D (upd a D (.lst ys)))\/
 (J.go i a/\⇑ys<sizeLine/\∀x f,J.ro i a x f->k (some x::e) f λb d=>match b with
  |true=>g (some x::e) d λy j=>∃c,c<m/\W (i+ 1) c (ys++[y]) j
  |false=>∃c,c<m/\W (i+ 1) c ys d)
def tE (b:TI)(e:St->St)(d:TT)(c:TE):TE:=λ a H Q=>b a H (Lp d c (e a) Q)
def Lq {x:Int}(b:0<=x)(a:x<=100000):¬(!Builtin.List.listFitsIndex x)=true:=by
 have:Builtin.List.listFitsIndex x=true:=by unfold Builtin.List.listFitsIndex;simp;ext
 cbv
def TL (x:Int)(a:Zt):Zm->Zm:=λxs=>have k:=if x<0 then (x+ ((xs.size:Nat):Int)).toNat else min x.toNat xs.size;(xs.extract 0 k).push a++xs.extract k
def Ig (l:Zs)(a:Zk)(n:Nat)(x:Int)(t:Tok)(b:Zt)(e:0<=x)(d:x<=100000)(c:a.toArray.size<=sizeLine):
 Meets (Builtin.«list.insert» ⟨[↑l,.int x t,b],[]⟩) (λ_ R s=>s•l\{ cls:=.type "list",dict:=none,data:=.seq a.toArray n,slots:=#[] }/\R (.ok (.ret Value.none)) { s with heap:=s.heap.update l (Obj.mapSeq (TL x b)),toks:=s.toks }):=PySem.AutoListH.list_insert_list_int_val_1 l a.toArray n x t b (Lq e d) c
def QD {w':Zt}(b:i<=⇑N):TL (i:Int) w' N.toArray=(N.take i++[w']++N.drop i).toArray:=by
 let a:(if (i:Int)<0 then ((i:Int)+ ((N.toArray.size:Nat):Int)).toNat else min (i:Int).toNat N.toArray.size)=i:=by rw[ajk ∅,ajp,ajG];ext
 show (N.toArray.extract 0 (if (i:Int)<0 then ((i:Int)+ ((N.toArray.size:Nat):Int)).toNat else min (i:Int).toNat N.toArray.size)).push w'++N.toArray.extract (if (i:Int)<0 then ((i:Int)+ ((N.toArray.size:Nat):Int)).toNat else min (i:Int).toNat N.toArray.size)=_;rw[a];apply Array.ext';simp[List.extract_eq_take_drop];rwa[akx ([aj4]▸aja _)]
section
variable {X:Cx}
inductive Eo (x:V)(vs:Zb)(H:Hp)(Q:VK):Prop
 |mk (l:Zs)(xs:Zb)(i:Nat)(y:V):x=↑l->vs=[.int i,y]->H l\.lst xs->⇑xs<sizeLine->i<=⇑xs->i<=100000->Q .non (upd H l (.lst (xs.take i++[y]++xs.drop i)))->Eo x vs H Q
theorem x5:Ef X "list.insert" Eo:=by
 intro j s L H x D v N Q I w o h;let⟨l,xs,i,y,rfl,rfl,g,p,G,m,q⟩:=h;ext w;let⟨u,b,rfl,⟨t,rfl⟩,A⟩:=vals2 o;let⟨z,a,n,r,E,e⟩:=I.n5 g;let rl:=⇑r
 let c:a.toArray.size<=sizeLine:=by rw[ajp,<-rl];rwa[akZ p]
 let B:Vals (xs.take i++[y]++xs.drop i) (a.take i++[b]++a.drop i):=((r.take i).append (.cons A .nil)).append (r.drop i)
 let hlen:⇑(xs.take i++[y]++xs.drop i)<=sizeLine:=by simp only[ai3,ajD,aj4,ajo,ajQ];ext
 let J:=I.AV (t':=s.toks) g e (QD (w':=b) (show i<=⇑a by omega)) B hlen;let d:(0:Int)<=(i:Int):=Int.natCast_nonneg i;let f:(i:Int)<=100000:=∅
 change (i:Int)=k at d f J ⊢;let M:=Ig l a n k t b d f c;rwa[alE F.slot_list_insert ⟨_,e,2⟩ F.entry_list_insert (F.args_list_insert_3^_) M ⟨e,5⟩];rwa[.non,_,J,2,q]
end
def p6 (h:n∈B):∃i:Nat,B[i]?\n/\∀j,j<i->B[j]?≠some n:=by
 induction B with
 |nil=>ext h
 |cons a B b=>
  cases e:a=n
  ·rwa[(0),by rw[e];rfl,λj c=>∅]
  ·let⟨i,f,d⟩:=b ((ajs.mp h).resolve_left (akg e));rwa[⟨i+ 1,f,λj c=>?_⟩]
   cases j with
   |zero=>exact λz=>e (Za0 z)
   |succ j=>exact d j ∅
inductive XY (x y:V)(H:Hp)(Q:VK):Prop
 |mk (a b:Zs)(ns ms:Zg):x=↑a->y=↑b->H a\.lst (ao ns)->H b\.lst (ao ms)->Q (.bl (decide (ns=ms))) H->XY x y H Q
def fy (lo:Int)(n:Nat):Zg:=(~~~n).map λi:Nat=>lo+ (i:Int)
def oH (lo:Int)(n:Nat):⇑(fy lo n)=n:=by unfold fy;cbv
def TN {lo:Int}(h:i<n):(fy lo n)[i]?\(lo+ (i:Int)):=by unfold fy;rw[ajc,akD h];rfl
theorem A9:∀(zs:Zg)(us:Zk),⇑us=⇑zs->(∀(i:Nat)(z:Int)(u:Zt),zs[i]?\z->us[i]?\u->∃t,u=.int z t)->Vals (ao zs) us
 |[],[],_,_=>.nil
 |z::zs,u::us,a,h=>.cons (h 0 z u rfl rfl) (A9 zs us (by simpa using a) λi z u c b=>h (i+ 1) z u c b)
 |[],_::_,a,_=>by simp at a
 |_::_,[],a,_=>by simp at a
def F5 {lo:Int}{acc:Zm}(h:ItemsOf (λi v=>∃t,v=Value.int (lo + (i:Int)* 1) t) acc n):Vals (ao (fy lo n)) acc.toList:=by
 rwa[A9 _ _ ?_ λi z u a b=>?_]
 ·rw[oH,ak3];rwa[h.1]
 ·let c:i<n:=by have:=(ai4.mp a).1;rw[oH]at this;rwa[this]
  rw[TN c]at a;let⟨t,e⟩:=h.2 i u (by rw[<-akR];rwa[b]);rwa[t,by rw[e,<-Za0 a,Int.mul_one]]
section
variable {X:Cx}{a:Expr}{ta:TA}{p p2 pos F6:Pos}
def ab3 (ta:TA):TE:=λ e H Q=>ta e H λd c=>∃j:Nat,d=[.int j]/\j<=10000/\∀l,c l=none->Q ↑l (upd c l (.lst (ao (fy 0 j))))
def list_range {Q:VK}{lo:Int}{t u v:Tok}(k:X.calm=true)(I:Inv X o D H s)(A:0<=lo)(m:lo<=10000)(B:0<=z)(y:z<=10000)(q:∀l,H l=none->Q ↑l (upd H l (.lst (ao (fy lo (z - lo).toNat))))):X⁻¹ X.A (call (.type "list") [↑↥s]) (EP X o D Q) X.xe { s with heap:=s.heap.push ("range">>>.fields #[.int lo t,.int z u,.int 1 v]),toks:=n }:=by
 let i:Inv X o D H { s with heap:=s.heap.push ("range">>>.fields #[.int lo t,.int z u,.int 1 v]),toks:=n }:=I.kept λb c e=>ai7 _ e
 let g:Builtin.Range.rangeSize lo z 1=(((z - lo).toNat:Nat):Int):=by rw[rangeSize_one];split <;> ext
 rwa[call_list_range (n:=(z - lo).toNat) (I.ok.hd k) (IsRange.new ..) (small_one ∅ ∅ ∅ ∅) g ∅ λx h f j kp w hit=>?_]
 rwa[⟨↑_,_,i.laid (t':=h) (o:=.lst (ao (fy lo (z - lo).toNat))) kp (aja _) ⟨5,f.toList,j,F5 hit,5⟩,2,q _ (i.aU.fresh (aja _))⟩]
 ·rw[az,oH];rwa[ajl (show (z - lo).toNat<=10000 by omega) ⋯]
 ext
def qH (x:X.calm=true)(g:Gl X "list")(f:X.mg "list"=none)(k:Gl X "range")(v:X.mg "range"=none)(w:PA X [a] ta)(o:starEach [a] X.env=[(false,eval a X.env)]:=by rfl)(d:starEach [.Call (.Name "range" p) [a] [] pos] X.env=[(false,eval (.Call (.Name "range" p) [a] [] pos) X.env)]:=by rfl):PE X (.Call (.Name "list" p2) [.Call (.Name "range" p) [a] [] pos] [] F6) (ab3 ta):=by
 intro c s u H Q I h;rwa[akp (hH I g f boot_list ?_)];rwa[ake ?_ d rfl];rw[d];show wpAny _ _ (spliced ((false,eval (.Call (.Name "range" p) [a] [] pos) X.env)::backTo F6 [])) _ _ s;rwa[aka ?_];rwa[Call_ (hH I k v boot_range (ake (a9 (w pos c s u H _ I h) λB A ζ=>?_) o rfl))];let⟨y,z,l,i,m⟩:=ζ;let⟨j,e,C,q⟩:=m;subst e
 cases i with
 |cons r n=>ext n;let⟨t,rfl⟩:=r;rwa[call_range_1 (akM ?_)];rwa[list_range x l ∅ ∅ ∅ ∅ (by simpa using q)]
end
def cR (H:Hp)(rs:Zn)(rows:Za3):Prop:=⇑rs=⇑rows/\∀(i:Nat)(r:Zs)(a:Zg),rs[i]?\r->rows[i]?\a->H r\(.lst (ao a))
def TabAt (H:Hp)(a:Zs)(rows:Za3):Prop:=∃rs:Zn,H a\.lst (rs.map V.ref)/\cR H rs rows
def cR.same {rs:Zn}{rows:Za3}(h:cR H rs rows)(s:aq H I):cR I rs rows:=⟨h.1,λi r ns b a=>s^h.2 i r ns b a⟩
def TabAt.same {rows:Za3}(h:TabAt H a rows)(s:aq H I):TabAt I a rows:=by let⟨rs,c,b⟩:=h;rwa[rs,s^c,b.same s]
def Ih {rs:Zn}:∀{a:Zk},Vals (rs.map V.ref) a->a=rs.map Value.ref:=by
 induction rs with
 |nil=>intro a r;ext r;rfl
 |cons c rs b=>
  intro a r
  cases r with
  |cons e d=>ext e;rw[b d];rfl
def QF {a:Type} [DecidableEq a]{ns ms:List a}(h:⇑ns=⇑ms):(List.range ⇑ns).all (λj=>decide (ns[j]?=ms[j]?))=decide (ns=ms):=by
 rw[akr,List.all_eq_true,ajZ];constructor
 ·intro b;rwa[akO λi=>?_]
  cbv
 cbv
section
variable {X:Cx}
inductive XZ (x y:V)(H:Hp)(Q:VK):Prop
 |mk (a b:Zs)(ns ms:Za3):x=↑a->y=↑b->TabAt H a ns->TabAt H b ms->Q (.bl (decide (ns=ms))) H->XZ x y H Q
inductive X1 (x y:V)(H:Hp)(Q:VK):Prop
 |mk (a b:Zs)(ns ms:Za3):x=↑a->y=↑b->TabAt H a ns->TabAt H b ms->Q (.bl (!decide (ns=ms))) H->X1 x y H Q
inductive N6 (x y:V)(H:Hp)(Q:VK):Prop
 |mk (a b:Zs)(ns ms:Zg):x=↑a->y=↑b->H a\.lst (ao ns)->H b\.lst (ao ms)->Q (.bl (!decide (ns=ms))) H->N6 x y H Q
def Ep (i:X.A.units<cLine):fX X (compareOp .NotEq) N6:=by
 intro k s D H x y v u Q I w A h;let⟨a,b,ns,ms,rfl,rfl,B,p,q⟩:=h;ext w;ext A;let⟨r,d,f,_⟩:=I.list (aB.of B);let⟨m,l,c,_⟩:=I.list (aB.of p);let n:=⇑d;let C:=⇑l;rw[az]at n C;cases g:⇑ns=⇑ms
 ·rwa[SeqAt.RcNeAt.lists (e:=λj=>decide (ns[j]?=ms[j]?)) f.isList c.isList (by cbv) i (λj t o=>xT d l j t o) X.prog X.w X.xe _ ⟨.bl (!decide (ns=ms)),H,I,5,q⟩];show _=Value.bool (!decide (ns=ms));rw[ajp,<-n,QF g]
 ·let e:decide (ns=ms)=false:=ajV (λz=>g (by rw[z]));rw[e]at q;rwa[SeqAt.RcNeAt.lists_lengths f.isList c.isList ?_ i X.prog X.w X.xe _ ⟨.bl true,H,I,2,q⟩]
  cbv
inductive N7 (xs:Zb)(H:Hp)(Q:VK):Prop
 |mk (b:Bool):xs=[.bl b]->Q (.int (if b=true then 1 else 0)) H->N7 xs H Q
def Ii:gZ X (.type "int") N7:=by intro a s f H e d Q I r h;let⟨b,rfl,q⟩:=h;let⟨u,rfl,c⟩:=vals1 r;ext c;rwa[call_int_bool ⟨.int _,H,I.tok _,⟨12⟩,q⟩]
def Ba (h:X.K=K):NK X (K7 K):=by subst h;rwa[bq]
def qI (h:X.K=K):gZ X (.builtin "len") (F0 K):=by subst h;rwa[bh]
end
def bR (H:Hp)(a:Zn)(ws:Za3):Prop:=⇑a=⇑ws/\∀(i:Nat)(p:Zs)(w:Zg),a[i]?\p->ws[i]?\w->H p\(.tup (ao w))
def bN (H:Hp)(a:Zs)(c:Za3):Prop:=∃b:Zn,H a\.lst (b.map V.ref)/\bR H b c
def bR.keep {ws:Za3}(h:bR H F ws)(s:∀p a,H p\.tup a->I p\.tup a):bR I F ws:=⟨h.1,λi p w c b=>s^h.2 i p w c b⟩
def bR.same {ws:Za3}(h:bR H F ws)(s:aq H I):bR I F ws:=h.keep λp a e=>s^e
def bN.same {ws:Za3}(h:bN H a ws)(s:aq H I):bN I a ws:=by let⟨b,d,c⟩:=h;rwa[b,s^d,c.same s]
def bR.snoc {ps:Zn}{ws:Za3}(h:bR H ps ws)(e:H a\.tup (ao l)):bR H (ps++[a]) (ws++[l]):=by
 rwa[⟨by rw[ai3,ai3,h.1];rfl,λi q u c b=>?_⟩];cases d:i<⇑ps
 ·rw[ajd d]at c;rw[ajd (by rw[<-h.1];rwa[d])]at b;rwa[h.2 i q u c b]
 ·rw[ajg ∅]at c;rw[ajg (by rw[<-h.1];omega)]at b;rw[ai9.mp (ai5 c),ai9.mp (ai5 b)];rwa[e]
inductive X2 (x y:V)(H:Hp)(Q:VK):Prop
 |mk (a b:Zs)(ns ms:Za3):x=↑a->y=↑b->bN H a ns->bN H b ms->Q (.bl (decide (ns=ms))) H->X2 x y H Q
section
variable {X:Cx}
inductive X3 (x y:V)(H:Hp)(Q:VK):Prop
 |mk (k:Int)(a:Zs)(ns:Zg):x=.int k->y=↑a->H a\.lst (ao ns)->Q (.bl (decide (k∈ns))) H->X3 x y H Q
inductive Ls (x y:V)(H:Hp)(Q:VK):Prop
 |mk (k:Int)(a:Zs)(ns:Zg):x=.int k->y=↑a->H a\.lst (ao ns)->Q (.bl (!decide (k∈ns))) H->Ls x y H Q
def isInt (k:Int):Zt->Bool
 |.int z _=>z==k
 |_=>false
inductive Er (x:V)(vs:Zb)(H:Hp)(Q:VK):Prop
 |mk (a:Zs)(ns:Zg)(k:Int):x=↑a->vs=[.int k]->H a\.lst (ao ns)->k∈ns->(∀i:Nat,ns[i]?\k->(∀j,j<i->ns[j]?≠some k)->Q (.int i) H)->Er x vs H Q
def Ij (h:z∈l):∃i:Nat,l[i]?\z/\∀j,j<i->l[j]?≠some z:=by
 induction l with
 |nil=>ext h
 |cons a l c=>
  cases e:a=z
  ·rwa[(0),by rw[e];rfl,λj d=>∅]
  ·let⟨i,g,f⟩:=c ((ajs.mp h).resolve_left (akg e));rwa[⟨i+ 1,g,λj d=>?_⟩]
   cases j with
   |zero=>exact λb=>e (Za0 b)
   |succ j=>exact f j ∅
theorem zQ:Ef X "list.index" Er:=by
 intro B s R H x O v S Q I L C h;let⟨a,ns,k,rfl,rfl,J,d,q⟩:=h;ext L;let⟨u,rfl,M⟩:=C.one;let⟨t,rfl⟩:=M;let⟨z,b,n,r,E,e⟩:=I.n5 J;rw[az]at z E;let⟨i,o,A⟩:=Ij d;let P:i<⇑ns:=(ai4.mp o).1
 let at_:∀(m:Nat)(d:m<b.toArray.size),isInt k b.toArray[m]=decide (ns[m]?\k):=λm d=>by
  let c:m<⇑b:=by simpa using d
  let g:ns[m]?\(ns[m]'∅):=ai1 ∅
  let⟨w,p,f,rfl⟩:=r.get (bT g)
  let l:b.toArray[m]=Value.int (ns[m]'∅) f:=by rw[List.getElem_toArray];rwa[Za0 ((ai1 c).symm.trans p)]
  rw[l,g];show (ns[m]'∅==k)=_;rw[akr,al7,ajZ];rwa[λz=>by rw[z],λz=>Za0 z]
 let D:(sizeLine:Nat)<2 ^ 62:=⋯
 refine alE F.slot_list_index ⟨_,e,2⟩ F.entry_list_index (F.args_list_index_2 _ _)
  (SeqAt.list_indexAt a b.toArray n none #[] (.int k t) (isInt k) i (by rw[ajp];omega) ∅ ([at_]▸ajI o) (λm d j=>[at_]▸ajV (A m j))) ⟨e,λy G=>?_,5⟩
 ·let⟨m,d,N⟩:=akV.mp (Array.mem_toList_iff.mpr G);let c:m<⇑b:=by simpa using d
  let g:ns[m]?\(ns[m]'∅):=ai1 ∅
  let⟨w,p,f,rfl⟩:=r.get (bT g)
  let l:y=Value.int (ns[m]'∅) f:=by rw[<-N];rwa[Za0 ((ai1 c).symm.trans p)]
  rw[l];rwa[SeqAt.EqAt.int_int _ f k t]
 ·rwa[.int i,H,I.tok _,⟨12⟩,q i o A]
end
def Ik (Q:Hp->Zb->Prop)(f:Nat->Int):It:=⟨(DZ Q).go,λi H x a=>∃p v,H p=none/\(∀ys,Q H ys->ys[i]?\v)/\x=↑p/\a=upd H p (.tup [.int (f i),v]),(DZ Q).stop⟩
abbrev ab4 (K:Za1) (a:Zs):It:=Ik (λH=>aB K H a) Nat.cast
theorem QG {elts:Zr}{x1:Nat}{tp:Pos}{Q:Hp->Zb->Prop}{f:Nat->Int}{it:Zs}{tn:Nat->Heap->Prop}(S:Ht K Q b it tn)(hei:a≠it)(Y:∀i,f (i+ 1)=f i+ 1):
 Turn P w K (.Tuple elts x1 tp) (Ik Q f) [a,it] a (λi h=>(∃old,IsEnum h a it (f i) old)/\tn i h) where
 mem:=by simp
 obj:=λi h st c e=>by
  let⟨⟨old,g⟩,st⟩:=st;let⟨o,n,vs,_,_,_,_⟩:=S.ob i h st
  cbv
 keep:=λi h J st k=>by let⟨⟨old,g⟩,hl⟩:=st;rwa[⟨old,k a (by simp) _ g⟩,S.kp _ _ _ hl λo a=>k it (by simp) o a]
 item:=by
  intro X Z U N hc i p s σ H E I r st C;subst Z U;let⟨⟨old,g⟩,j⟩:=st;let⟨xs,x,L,t⟩:=C;let⟨inj,l,oa,St,R,ha,B,D,_,O,h2⟩:=S.dr N hc I L j;let⟨u,hu,ru⟩:=R.get t;let hea:a≠b:=gN g ha (akg B);let M:a<↥s:=ajy g;let N8:i<⇑l:=(ai4.mp hu).1;rwa[En.Ia D g O (by simp;omega) hei (by cbv) λy J tk W ho v m hk=>?_]
  obtain rfl:u=y:=by
   simp at W
   cbv
  rwa[⟨12,wpAny_letOwnedTupleGo_enum ho λG T d=>?_⟩]
  rwa[⟨↑↥s,_,I.uV (fp:=[a,it]) (a:=↥s) (o:=.tup [.int (f i),x]) (h':=G) (t':=tk+ 1) (λc ob e q=>?_) r (aja _) ⟨Za4 2,[.int (f i) tk,u],.cons ⟨12⟩ (.cons ru .nil),_,(d.2 _ (akE M)).trans m,212⟩,2,⟨_,x,I.aU.fresh (aja _),λys hy=>[inj ys hy]▸t,22⟩,⟨⟨u,[Y]▸T⟩,h2^(D.frame _ _ _ v λc e o q=>(d.2 c (by cbv)).trans q)⟩,λc e=>?_⟩]
  ·simp at e;rwa[(d.2 c e.1).trans (hk c ob e.1 e.2 q)]
  ·let⟨o2,_,_,h3,_⟩:=S.ob^j;have:=ajy h3;rw[ak (by cbv)];rwa[(r c e).1]
 done:=by intro X Z U N hc i p s σ H E I r st C;subst Z U;let⟨⟨old,g⟩,j⟩:=st;let⟨xs,L,t⟩:=C;let⟨_,l,_,_,R,_,_,D,_,O,_⟩:=S.dr N hc I L j;rwa[wpAny_pyNext_enum_endD D g (by rw[ajp,<-⇑R,t];rwa[O]) λJ eb=>⟨2,I.j4 (fp:=[a,it]) (t':=s.toks) (λc o e q=>eb c o (λz=>e (by simp[z])) q) r⟩]
 self:=λA i s Q E st h=>by let⟨⟨old,g⟩,_⟩:=st;let m:s.TypeIs ↑a "enumerate":=⟨_,g,2⟩;rwa[wpAny_pyIter_slot m F.slot_enumerate_iter (akt F.slot_enumerate_iter m F.entry_enumerate_iter (ajb ⟨12,"enumerate",_,m,F.slot_enumerate_next.lookup,h⟩) (F.args_enumerate_iter_1 _))]
section
variable {X:Cx}
def x6 {R:It->Hp->Prop}{elts:Zr}{Q:Hp->Zb->Prop}{f:Nat->Int}{e:Nat->Heap->Prop}{old:Zt}(I:Inv X o D H s)(S:Ht X.K Q a ↥s e)(k:∀i,f (i+ 1)=f i+ 1)(g:IsEnum h (↥s+ 1) ↥s (f 0) old)(d:e 0 h)(j:∀b c,s•b\c->h.get? b\c)(q:R (Ik Q f) H):X⁻¹ X.A (pyIter ↑(↥s+ 1)) (Nw X o D (.Tuple elts n p) R) X.xe (s<*h):=by
 let T:=QG (P:=X.prog) (w:=X.w) (elts:=elts) (x1:=n) (tp:=p) S (Nat.succ_ne_self _) k;rwa[T.self _ 0 _ _ _ ⟨⟨_,g⟩,d⟩ ⟨1111,H,2,I.kept (t':=s.toks) j,T,⟨⟨_,g⟩,d⟩,λb m=>?_,q⟩];have:↥s<=b:=by cbv
 rwa[I.AB this (I.aU.fresh this)]
def TQ (K:Za1)(e:TA):TI:=λ f H R=>e f H λc b=>∃a,c=[↑a]/\(∃d,aB K b a d)/\R (ab4 K a) b
def p7 [d:eI X K]{a:Expr}{g:TE}{elts:Zr}{z:Nat}{t p pos:Pos}(k:Gl X "enumerate")(w:X.mg "enumerate"=none)(x:PE X a g)(i:starEach [a] X.env=[(false,eval a X.env)]:=by rfl):
 PI X (.Tuple elts z t) (.Call (.Name "enumerate" p) [a] [] pos) (TQ K (tq g rB)):=by cases d.eq;intro b s v H R I h;rwa[Call_ (hH I k w boot_enumerate (ake (a9 ((ae x ai i) pos b s v H _ I h) λJ G ζ=>?_) i rfl))];let⟨B,E,f,j,l,e,⟨F,n⟩,q⟩:=ζ;subst e;let⟨u,rfl,y⟩:=vals1 j;ext y;let⟨o,C,pl,D⟩:=f.list n;rwa[call_enumerate_list pl.isList λA c hit r m=>x6 f (pR l _) (λ_=>rfl) c hit m q]
end
def oJ {g:TG}{e:TS}{Q:Hp->Zb->Prop}{f:Nat->Int}{xs:Zb}(a:Nat->St->Hp->Prop)(j:a 0 D H)(b:∀i D H,i<=⇑xs->a i D H->Q H xs)(l:∀i v D H p,xs[i]?\v->H p=none->a i D H->g ↑p D (upd H p (.tup [.int (f i),v])) λ d m=>e { G with nx:=a (i+ 1),ct:=a (i+ 1),bk:=G.nx } d m)(h:∀ D H,a ⇑xs D H->G.nx D H):rz (Ik Q f) g e G D H:=ti j (λi D H c p=>⟨⟨xs,xs[i],b i D H (akZ c) p,ai1 c⟩,λx o y=>by let⟨r,v,k,n,rfl,rfl⟩:=y;rwa[l i v D H r (n xs (b i D _ (akZ c) p)) k p]⟩) λ D H p=>⟨⟨xs,b _ D H (aja _) p,2⟩,h D H p⟩
def Il (K:Za1)(a b:Zs):It:=⟨λi H=>∃xs x ys y,aB K H a xs/\xs[i]?\x/\aB K H b ys/\ys[i]?\y,λi H x c=>∃p v u,H p=none/\(∀ys,aB K H a ys->ys[i]?\v)/\(∀ys,aB K H b ys->ys[i]?\u)/\x=↑p/\c=upd H p (.tup [v,u]),λi H=>∃xs ys,aB K H a xs/\aB K H b ys/\(⇑xs<=i\/⇑ys<=i)⟩
def F7 (z TI TO c d e f:Zs)(i:Nat)(h:Heap):Prop:=IsZip h z TI TO .none/\IsPair h TI ↑c ↑d/\(∃a b,IsPair h TO a b)/\h.IsListIter c e i/\h.IsListIter d f i
def yW {o m:Obj}(j:h.get? b\o)(s:o.cls=.type "list")(g:h.get? c\m)(r:m.cls=.type "list")(st:F7 (a+ 4) (a+ 2) (a+ 3) a (a+ 1) b c i h):ZipApart (a+ 4) (a+ 2) (a+ 3) a (a+ 1) b c:=by
 let⟨n,q,⟨d,e,k⟩,⟨v,p,t,_⟩,⟨u,l,w,_⟩⟩:=st
 rwa[(λf=>by cbv),(λf=>by cbv),(λf=>by cbv),(λf=>by cbv),(λf=>by cbv),(λf=>by cbv),(λf=>by cbv),(λf=>by cbv),(λf=>by cbv),(λf=>by cbv),gN j n (by cbv),gN j k (by cbv),gN j p (by cbv),gN j l (by cbv),gN g n (by cbv),gN g k (by cbv),gN g p (by cbv),gN g l (by cbv)]
def Lv {elts:Zr}{x1:Nat}{tp:Pos}(n a b:Zs):
 Turn P w K (.Tuple elts x1 tp) (Il K a b) [n+ 4,n+ 2,n+ 3,n,n+ 1] (n+ 4) (F7 (n+ 4) (n+ 2) (n+ 3) n (n+ 1) a b) where
 mem:=by simp
 obj:=λi h st c L=>by
  let⟨r,f,⟨V,W,g⟩,⟨p1,g1,k1,d1⟩,⟨G,g2,k2,d2⟩⟩:=st
  cbv
 keep:=λi h h' st k=>by let⟨r,f,⟨V,W,g⟩,R,O⟩:=st;rwa[k _ (by simp) _ r,k _ (by simp) _ f,⟨V,W,k _ (by simp) _ g⟩,R.at λo e=>k _ (by simp) o e,O.at λo e=>k _ (by simp) o e]
 item:=by
  intro X hP hw hK L i S s σ H E I Y st hg;subst hP hw hK;let⟨xs,x,ys,y,hq,hx,l,Z⟩:=hg;let⟨its,rv,p,hz1⟩:=I.list hq;let⟨u,hu,ru⟩:=rv.get hx;let⟨T,t,G,hz2⟩:=I.list l;let⟨u2,m5,ru2⟩:=t.get Z;let⟨o1,B,F,TR⟩:=id p.isList;let⟨o2,z,v,hd2⟩:=id G.isList;let D:=yW B F z v st;let⟨r,f,⟨V,W,g⟩,R,O⟩:=st;rwa[wpAny_pyNext_zip_item D r f g R O p.isList G.isList (x:=u) (y:=u2) (by simpa using hu) (by simpa using m5) λh' hz' M TV N9 hT' hsz hk=>?_]
  erw[12];rwa[wpAny_letOwnedTupleGo_zip hz' λj N d=>?_]
  let hnz:n+ 4<↥s:=ajy r;let TX:j.get? ↥s\("tuple">>>.seq #[u,u2]):=(d.2 _ (akE hnz)).trans hT'
  let TY:∀b U,b∉[n+ 4,n+ 2,n+ 3,n,n+ 1]->s•b\U->j.get? b\U:=λb U m q=>by simp only[ajs,ajR,akW,not_or]at m;rwa[(d.2 b m.1).trans (hk b U m.1 m.2.2.1 m.2.2.2.1 m.2.2.2.2 q)]
  let hfr:=I.aU.fresh (aja ↥s);let J:j.get? (n+ 2)\("tuple">>>.seq #[↑n,↑(n+ 1)]):=(d.2 _ (λC=>by cbv)).trans (hk _ _ (λC=>by cbv) (λC=>by cbv) (λC=>by cbv) (λC=>by cbv) f);rwa[⟨↑↥s,_,I.uV (fp:=[n+ 4,n+ 2,n+ 3,n,n+ 1]) (a:=↥s) (o:=.tup [x,y]) (h':=j) (t':=s.toks) TY Y (aja _) ?_,2,⟨_,x,y,hfr,λys Z=>[I.uJ Z hq]▸hx,λzs Ob=>[I.uJ Ob l]▸Z,22⟩,⟨N,J,⟨11,(d.2 _ (λC=>by cbv)).trans M⟩,TV.at λo e=>(d.2 _ (λC=>by cbv)).trans e,N9.at λo e=>(d.2 _ (λC=>by cbv)).trans e⟩,λc L=>?_⟩]
  ·rwa[Za4 2,[u,u2],.cons ru (.cons ru2 .nil),_,TX,212]
  ·rw[ak]
   ·rwa[(Y c L).1]
   cbv
 done:=by
  intro X hP hw hK L i S s σ H E I Y st hg;subst hP hw hK;let⟨xs,ys,hq,l,ahO⟩:=hg;let⟨its,rv,p,hz1⟩:=I.list hq;let⟨T,t,G,hz2⟩:=I.list l;let⟨o1,B,F,TR⟩:=id p.isList;let⟨o2,z,v,hd2⟩:=id G.isList;let D:=yW B F z v st;let⟨r,f,⟨V,W,g⟩,R,O⟩:=st;let T4:=⇑rv;let vN:=⇑t;rwa[wpAny_pyNext_zip_end (I.ok.hd L) D r f g R O p.isList G.isList ?_ λh' hk=>⟨2,I.j4 (fp:=[n+ 4,n+ 2,n+ 3,n,n+ 1]) (t':=s.toks) (λb o m q=>?_) Y⟩]
  ·cbv
  cbv
 self:=λA i s Q E st h=>wpAny_pyIter_zip st.1 h
section
variable {X:Cx}
def ab5 (K:Za1)(f:TA):TI:=λ g H R=>f g H λe c=>∃a b,e=[↑a,↑b]/\(∃d,aB K c a d)/\(∃d,aB K c b d)/\R (Il K a b) c
def T5 {B:Za1}[o:eI X B]{a b:Expr}{A:TA}{elts:Zr}{y:Nat}{u p pos:Pos}(N:Gl X "zip")(hm:X.mg "zip"=none)(ha:PA X [a,b] A)(hs:starEach [a,b] X.env=(false,eval a X.env)::starEach [b] X.env)(v:((backTo pos (starEach [b] X.env)).any (·.1))=false):PI X (.Tuple elts y u) (.Call (.Name "zip" p) [a,b] [] pos) (ab5 B A):=by
 cases o.eq;intro d s D H R I h;rwa[Call_ (hH I N hm boot_zip (ake (a9 (ha pos d s D H _ I h) λus s1 ζ=>?_) hs v))];let⟨vs,C,f,M,V⟩:=ζ;let⟨E,F,e,⟨xs,S⟩,⟨ys,z⟩,q⟩:=V;subst e
 cases M with
 |cons r n=>
  cases n with
  |cons L n=>
   ext n;ext r;ext L;let⟨U,rv,pl,hz⟩:=f.list S;let⟨G,Z,j,W⟩:=f.list z;rwa[call_zip_2 pl.isList j.isList λl x k t i m Y O=>?_]
   let Q:Inv X d D C (s1<*l):=f.kept (t':=s1.toks) O;let T:=Lv (P:=X.prog) (w:=X.w) (K:=X.K) (elts:=elts) (x1:=y) (tp:=u) ↥s1 E F;let st:F7 (↥s1+ 4) (↥s1+ 2) (↥s1+ 3) ↥s1 (↥s1+ 1) E F 0 l:=⟨x,k,⟨11,t⟩,i,m⟩;rwa[T.self _ 0 (s1<*l) _ _ st ⟨1111,C,2,Q,T,st,λc J=>?_,q⟩];simp only[ajs,ajR,akW]at J;let g:↥s1<=c:=by rcases J with rfl|rfl|rfl|rfl|rfl <;> first|rwa[Nat.le_add_right _ _]|rwa[aja _]
   rwa[f.AB g (f.aU.fresh g)]
end
def QH {xs ys:Zb}{g:TG}{n:TS}(c:Nat->St->Hp->Prop)(w:⇑xs=⇑ys)(t:c 0 D H)(z:∀i D H,i<=⇑xs->c i D H->aB K H a xs/\aB K H b ys)(C:∀i v u D H p,xs[i]?\v->ys[i]?\u->H p=none->c i D H->g ↑p D (upd H p (.tup [v,u])) λ f k=>n { G with nx:=c (i+ 1),ct:=c (i+ 1),bk:=G.nx } f k)(s:∀ D H,c ⇑xs D H->G.nx D H):
 ∃W:Nat->Nat->St->Hp->Prop,(∃m,W 0 m D H)/\∀i m D H,W i m D H->
  ((Il K a b).stop i H/\G.nx D H)\/((Il K a b).go i H/\∃N:St->Hp->Prop,(∀ d h,N d h->∃o,o<m/\W (i+ 1) o d h)/\∀x h,(Il K a b).ro i H x h->g x D h λ f k=>n { G with nx:=N,ct:=N,bk:=G.nx } f k):=by
 rwa[⟨λi m D H=>m=⇑xs - i/\i<=⇑xs/\c i D H,⟨⇑xs,by simp,ajB _,t⟩,?_⟩];rintro i m D H ⟨rfl,E,p⟩;let⟨q,l⟩:=z i D H E p;cases j:i<⇑xs
 ·rwa[.inr ⟨⟨xs,_,ys,_,q,ai1 j,l,ai1 (show i<⇑ys by omega)⟩,c (i+ 1),λ d h I=>⟨⇑xs - (i+ 1),32,j,I⟩,λx h y=>?_⟩];let⟨r,v,u,A,F,B,rfl,rfl⟩:=y;rwa[C i v u D H r (F xs q) (B ys l) A p]
 ·let e:i=⇑xs:=∅
  subst e;rwa[.inl ⟨⟨xs,ys,q,l,.inl (aja _)⟩,s D H p⟩]
namespace En
open AutoSeq1 (wpAny_loadPart')
def F8 (l:Zs)(items:Zm)(n:Nat)(dct:Zo)(m:Array Zl)(k:Int)(u:Tok)(q:0<=k)(j:k<1000):
 Meets (Builtin.«enumerate.__new__» ⟨[.type "enumerate",↑l],[("start",.int k u)]⟩) (λ_ R s=>s•l\{ cls:=.type "list",dict:=dct,data:=.seq items n,slots:=m }/\
  R (.ok (.ret (↑(s.heap.push ("list_iterator">>>.fields #[↑l,.int 0 0])).objs.size)))
    { s with heap:=(s.heap.push ("list_iterator">>>.fields #[↑l,.int 0 0])).push ("enumerate">>>.fields #[.none,.bool false,↑↥s,rawInt k,.none,.none]) }):=
 .of_wp λf w A R s h=>by
  let⟨p,g,d,o,os⟩:=s;let⟨a,h⟩:=h;let i:=sub_enumerate;let r:=AutoSeq1.idx_int;let b:Heap.IsList (Shared.heap ⟨p,g,d,o,os⟩) l items:=⟨_,a,2,n,2⟩
  let e:(!Builtin.SmallTypes.fitsIndex k)=false:=by unfold Builtin.SmallTypes.fitsIndex;simp;ext
  wp_walk using alr a
  rwa[wpAny_stack_any λst=>ajb ?_]
  split
  ·rename_i c _ _ _ _ _;cases (c==Value.type "enumerate")
   ·wp_walk using alr a,alS b
    rwa[12,h]
   ·wp_walk using alr a,alS b
    rwa[12,h]
  ·wp_walk using alr a,alS b
   rwa[12,h]
variable {prog:Program}{w:World}{A:Around}{E:Zt->Zu->Prop}{s:Zu}
theorem ur {items:Zm}{k:Int}{u:Tok}(U:s.heap.IsList a items)(N:0<=k)(v:k<1000)(h:∀p,IsEnum p (↥s+ 1) ↥s k .none->p.IsListIter ↥s a 0->(∀b o,s•b\o->p.get? b\o)->Q ↑(↥s+ 1) (s<*p)):
 (prog<|>w) A (call (.type "enumerate") [↑a] [("start",.int k u)]) Q E s:=by
 let⟨⟨Z,dct,V,O⟩,W,j,n,t⟩:=U;replace j:Z=.type "list":=j;replace t:V=.seq items n:=t;subst j t;let ft:=F.called_enumerate;let⟨c,tl,M⟩:=ft.mro;let z:=ft.made;let J:=ft.sub;let S:=XQ ↑a (.int k u);let x:=XS ↑a (.int k u);rwa[amq (codeAny_of_tree ?_)];show wpAny _ _ (callAny (.type "enumerate") _) _ _ _;rwa[ajb ⟨Code.quiet_builtin _ ⋯,codeAny_builtin F.entry_type_call ?_⟩];rw[Around.under_plain (weight_type_call_type "enumerate" [↑a] [("start",.int k u)]) (units_type_call_type "enumerate" [↑a] [("start",.int k u)])];let h1:=ft.notType;let h2:=ft.canCreate
 repeat (any_goals (first|assumption|wp_step))
 rwa[alL (alh ft.plain F.entry_enumerate_new (wpAny_of_eq x (F8 a items n dct O k u N v prog w A.in1 (wants (λobj f=>f.TypeIs obj "enumerate"/\Q obj f) E) s ⟨W,5⟩))) λr f C=>?_]
 ·let I:(s.heap.push ("list_iterator">>>.fields #[↑a,.int 0 0])).objs.size=↥s+ 1:=alf ..;show _/\_;rw[I]
  let L:IsEnum ((s.heap.push ("list_iterator">>>.fields #[↑a,.int 0 0])).push ("enumerate">>>.fields #[.none,.bool false,↑↥s,rawInt k,.none,.none])) (↥s+ 1) ↥s k .none:=by let q:=ajv (s.heap.push ("list_iterator">>>.fields #[↑a,.int 0 0])) (o:=("enumerate">>>.fields #[.none,.bool false,↑↥s,rawInt k,.none,.none])) rfl;rw[I]at q;rwa[q]
  rwa[⟨_,L,2⟩,h _ L ⟨_,ai7 _ (ajv _ rfl),22⟩ λb o y=>ai7 _ (ai7 _ y)]
 cases r with
 |error e=>exact C
 |ok X=>
  cases X with
  |ret obj=>
   let⟨H,G⟩:=C;let Y:=ft.init.lookup;let P:=ft.init.bind obj;let D:=XT obj ↑a (.int k u);let B:(λ(_:Around)(R:Result->Zu->Prop)(s:Zu)=>s.TypeIs obj "enumerate"/\R (.ok (.ret .none)) s) A.in1 (wants (λr i=>r=.none/\Q obj i) E) f:=⟨H,2,G⟩;let gi:=QB (T:="enumerate") (self:=obj) (a:=↑a) (kw:=[("start",.int k u)]) ft.init.lookup ft.made ⋯
   repeat (any_goals (first|assumption|wp_step))
   rwa[alL (alh ft.init.plain F.entry_object_init (ft.init.check _ _ _ _ _ _ _ _ H D (gi prog w A.in1 _ f B))) λm i g=>?_]
   cases m with
   |error e=>exact g
   |ok l=>
    cases l with
    |ret r=>
     let⟨rfl,G⟩:=g
     repeat (any_goals (first|assumption|wp_step))
    |_=>exact g.elim
  |_=>exact C.elim
end En
abbrev F9 (K:Za1) (a:Zs) (n:Int):It:=Ik (λH=>aB K H a) λi=>n+ i
section
variable {X:Cx}
def QI (K:Za1)(n:Int)(e:TA):TI:=λ f H R=>e f H λc b=>∃a,c=[↑a]/\0<=n/\n<1000/\(∃d,aB K b a d)/\R (F9 K a n) b
def Io [f:eI X K]{a:Expr}{o:TE}{elts:Zr}{S:Nat}{G p pos kp i:Pos}{n:Int}{j:Nat}(z:Gl X "enumerate")(M:X.mg "enumerate"=none)(O:PE X a o)(v:starEach [a] X.env=(false,eval a X.env)::starEach [] X.env)(c:((backTo pos (starEach [a] X.env)).any (·.1) || (backToKw pos (keywordEach [⟨some "start",.Constant (.int n) j i,kp⟩] X.env)).any (·.1.isNone))=false):
 PI X (.Tuple elts S G) (.Call (.Name "enumerate" p) [a] [⟨some "start",.Constant (.int n) j i,kp⟩] pos) (QI K n (tq o rB)):=by
 cases f.eq;intro b s w H R I h;rwa[akp (hH I z M boot_enumerate ?_)];rwa[PySem.W.callWith_of (P:=λ_=>True) c (λ_ _=>⟨.machine,.inr (.inl rfl),λ_ _ _ _ _ q=>ajb q⟩) (evalArgs_kw2 rfl (a9 ((ae O ai v) pos b s w H _ I h) λus J ζ=>?_) v)];let⟨U,t,A,r,q⟩:=ζ;rwa[a9 ((Ec aw HG:PK X [⟨some "start",.Constant (.int n) j i,kp⟩] _) pos b J w t (λk x=>k=[.int n]/\x=t) A ⟨22⟩) λW D ζ=>?_];let⟨k,x,m,L,N,F⟩:=ζ;rwa[⟨True.intro,5⟩]
 subst N F;let⟨l,rfl,d,g,⟨xs,C⟩,q⟩:=q;let⟨u,rfl,Q⟩:=vals1 r;ext Q;let⟨V,rfl,y,rfl⟩:=vals1 L;let⟨E,Y,pl,Z⟩:=m.list C;show wpAny _ _ (call (.type "enumerate") [↑l] [("start",.int n y)]) _ _ D;rwa[En.ur pl.isList d g λT e hit B=>x6 m (pR l _) (λ_=>∅) ([show n+ ((0:Nat):Int)=n by ext]▸e) hit B q]
end
def eF (h:Heap)(d:Zs)(b:Array DictEntry)(a:Nat):Prop:=∃o,h.get? d\o/\o.ExactDict/\o.data=.dict b a
namespace Dk
variable {prog:Program}{w:World}{A:Around}{E:Zt->Zu->Prop}{s:Zu}{d:Zs}{es:Array DictEntry}{ep:Nat}
def typ (b:eF s.heap d es ep):s.TypeIs ↑d "dict":=let ⟨o,a,c,_⟩:=b;⟨o,a,c.1⟩
theorem iter (f:(d==sysModules)=false)(c:eF s.heap d es ep)(g:Q ↑↥s { s with heap:=s.heap.push ("dict_keyiterator">>>.fields #[↑d,.int 0 0,.int es.size 0,.int ep 0]) }):(prog<|>w) A (pyIter ↑d) Q E s:=by let b:=typ c;let⟨o,e,h,a⟩:=c;rwa[wpAny_pyIter_slot b F.slot_dict_iter (akt F.slot_dict_iter b F.entry_dict_iter ?_ (F.args_dict_iter_1 _))];unfold Builtin.«dict.__iter__»;rwa[ai2 ?_];unfold Builtin.Dict.dictSlotNone;rwa[ai2 (alO b ?_)];show wpAny _ _ (pure (Value.ref d)) _ _ s;rwa[ajb ?_];show wpAny _ _ (Builtin.Dict.showsAll d >>=_) _ _ s;unfold Builtin.Dict.showsAll;rw[ajk ([f]▸ajT)];rwa[ai2 (ajb (ai2 (alT e a (ai2 (wpAny_dictEpoch e a ?_)))))];rwa[ai2 (ajW (ajb ⟨12,"dict_keyiterator",_,⟨_,ajv _ rfl,2⟩,alI.lookup,by simpa [rawInt] using g⟩))]
theorem next {it:Zs}{Q:Zl->Zu->Prop}(n:A.handled=none)(hit:s.heap.IsKeyIter it d i es.size ep)(p:eF s.heap d es ep)(l:∀en g,es[i]?\en->g.IsKeyIter it d (i+ 1) es.size ep->Heap.SameBut it s.heap g->Q (some en.key) (s<*g))(r:∀g,es[i]?=none->Heap.ExtBut it s.heap g->Q none (s<*g)):(prog<|>w) A (pyNext ↑it) Q E s:=by
 let⟨o,h,t,c⟩:=id hit;let⟨u,f,q,e⟩:=id p;unfold pyNext;rwa[ai2 (wpAny_attempt (akh (name:=Str.ofString "__next__") hit.typeIs alI (akt alI hit.typeIs F.entry_dict_keyiterator_next ?_ (F.args_dict_keyiterator_next_1 _))))];rwa[ai2 (ajb (ai2 (ai2 ?_)))]
 first|rwa[ai2 (wpAny_typeNameOfWhole_keyiter hit.typeIs (ajb ?_))]|rwa[ai2 (wpAny_typeNameOf_keyiter hit.typeIs (ajb ?_))]
 rwa[ai2 (wpAny_fieldsOf h c ?_)];let own:Builtin.Dict_items.ownsTuple "dict_keyiterator"=false:=⋯
 simp only[own,Bool.false_eq_true,amE];show wpAny _ _ (if (Value.ref d==Value.none)=true then _ else _) _ _ s;rw[ajk (show ¬((Value.ref d==Value.none)=true) from ajT)];rwa[ai2 (ajb (ai2 (alT f e ?_)))];rw[ajk (by simp)];rwa[ai2 (ajb (ai2 (wpAny_dictEpoch f e ?_)))];rw[ajk (by simp)];rwa[ajb ?_];rcases j:es[i]? with _|en <;> simp only[show ¬((i:Int)<0) from by ext,amE,ajG,j]
 all_goals
  rwa[ai2 ?_]
  first|rwa[ai2 (wpAny_typeNameOfWhole_keyiter hit.typeIs (ajb ?_))]|rwa[ai2 (wpAny_typeNameOf_keyiter hit.typeIs (ajb ?_))]
 ·show wpAny _ _ (setField ↑it 0 .none >>=_) _ _ s;rwa[ai2 (ale h c (by simp) ?_)];show wpAny _ _ (newExc (.type "StopIteration") [] >>=_) _ _ _;rwa[ai2 ?_];simp only[newExc,newTuple];rwa[ai2 (ajW ?_ (by size_fits))];rwa[ai2 (m:=firstArgMember _ _) (wpAny_of_eq (a:=Value.none) (by first|rfl|(simp only[firstArgMember];rfl)) ?_)];rwa[ajW ?_ (by size_fits)];simp only[raiseNew];rwa[ai2 (wpAny_handled ?_)];rw[show A.in1.handled=none from n];rwa[ai2 (ajb (wpAny_throw ?_))];rwa[ai2 (wpAny_isInstance (T:="StopIteration") (b:=true) ⟨_,ajv _ rfl,2⟩ isSubtype_stop ?_)];rwa[ajb (r _ j (((akC ..).extBut.push _).push _))]
 ·rwa[ai2 (wpAny_isOneOf_keyiter hit.typeIs ?_)];show wpAny _ _ (setField ↑it 1 (rawInt ((i:Int)+ 1)) >>=_) _ _ s;rwa[ai2 (ale h c (by simp) ?_)]
  let k:(s.heap.update it (Obj.mapFields (·.setIfInBounds 1 (rawInt ((i:Int)+ 1))))).IsKeyIter it d (i+ 1) es.size ep:=⟨_,aj7 _ h (ak9 (akI c _)),(Obj.cls_mapFields ..).trans t,by rw[akI c];simp[rawInt]⟩
  rwa[ai2 (aku ?_)];rwa[ai2 (wpAny_isOneOf_keyiter (s:={ s with heap:=s.heap.update it (Obj.mapFields (·.setIfInBounds 1 (rawInt ((i:Int)+ 1)))) }) k.typeIs ?_)];show wpAny _ _ (pure (DictEntry.key _)) _ _ _;rwa[ajb (ajb ⟨12,ajb (l _ _ j k (akC ..))⟩)]
def eF.at (x:eF h d es ep)(e:∀o,h.get? d\o->g.get? d\o):eF g d es ep:=let ⟨o,a,r⟩:=x;⟨o,e _ a,r⟩
def walks (m:A.handled=none)(I:Zs)(k:d≠I):Walks prog w A I [I,d] [I] es.size (λi v=>∃c,es[i]?\c/\v=c.key) (λi h=>h.IsKeyIter I d i es.size ep/\eF h d es ep) where
 sub:=λb j=>by cbv
 frame:=λ_ _ _ st l=>⟨st.1.at λo e=>l I (by simp) o e,eF.at st.2 λo e=>l d (by simp) o e⟩
 item:=λi s Q E q st a=>next m st.1 st.2 (λc g e n f=>a _ g s.toks ⟨c,e,2⟩ ⟨n,eF.at st.2 λo e=>f.extBut _ _ k e⟩ λb o j e=>f.extBut b o (λh=>j (by simp[h])) e) λg e=>by simp[q]at e
 done:=λs Q E st a=>next m st.1 st.2 (λc g e=>by simp at e) λp _ f=>a p s.toks λb o j e=>f b o (λh=>j (by simp[h])) e
 self:=λ_ _ _ _ st a=>wpAny_pyIter_keyiter st.1 a
theorem hint {Q:Bool->Zu->Prop}(e:eF s.heap d es ep)(h:Q false s):(prog<|>w) A (Builtin.List.listLengthHint ↑d) Q E s:=by
 unfold Builtin.List.listLengthHint;rwa[ai2 (wpAny_specialOf (typ e) F.slot_dict_len.lookup ?_)];generalize c:("dict.__len__":String)=f
 wp_delta
 rw[show splitId f=some ("dict","__len__") from by subst c;decide];subst c;rwa[ai2 (wpAny_isInstance (T:="dict") (b:=true) (typ e) (by rw[isSubtype_type];kernel_rfl) ?_)];rwa[amh (λa=>absurd a ⋯) (λ_=>?_)];rwa[amh (λ_=>?_) (λa=>absurd ⋯ a)];rwa[ai2 (alb (T:="dict") (typ e) (ajb h))]
theorem extend {R:Result->Zu->Prop}(X:A.handled=none)(O:(d==sysModules)=false)(y:eF s.heap d es ep)(hlen:es.size<=sizeLine)(S:Zs)(res:Zt)(n:Nat)(N:s•S\("list">>>.seq #[] n))(Z:∀g1 Q c m,(∀b o,b≠S->s•b\o->g1.get? b\o)->g1.get? S\{ cls:=.type "list",dict:=none,data:=.seq c m,slots:=#[] }->ItemsOf (λi v=>∃M,es[i]?\M/\v=M.key) c es.size->R (.ok (.ret res)) { s with heap:=g1,toks:=Q }):
 (prog<|>w) A.in1 (Builtin.List.listExtendWith ↑S ↑d res)
  (λfin g=>match fin with|.done f=>R (.ok f) g|.again m=>m.quiet=true/\codeAny (model prog w) A m R g) (λe g=>R (.error e) g) s:=by
 let l:S≠d:=λe=>by
  let⟨o,L,hc,J⟩:=y
  cbv
 let H:d<↥s:=by let⟨o,L,_⟩:=y;rwa[ajy L]
 let z:S≠↥s:=ajH (ajy N);let I:d≠↥s:=ajH H;unfold Builtin.List.listExtendWith;rwa[ai2 (alb (T:="dict") (typ y) ?_)];let U:Builtin.List.listSameRef ↑S ↑d=false:=by simp[Builtin.List.listSameRef,l]
 let P:(Value.type "dict"==Value.type "list")=false:=⋯
 let Y:(Value.type "dict"==Value.type "tuple")=false:=⋯
 simp only[U,P,Y,Bool.or_false,Bool.false_eq_true,amE];rwa[ai2 (iter O y ?_)];let j:eF (s.heap.push ("dict_keyiterator">>>.fields #[↑d,.int 0 0,.int es.size 0,.int ep 0])) d es ep:=eF.at y λo e=>ai7 _ e
 rwa[ai2 (aku (hint (s:={ s with heap:=s.heap.push ("dict_keyiterator">>>.fields #[↑d,.int 0 0,.int es.size 0,.int ep 0]) }) j ?_))];let k:=ai7 ("dict_keyiterator">>>.fields #[↑d,.int 0 0,.int es.size 0,.int ep 0]) N;let r:(s.heap.push ("dict_keyiterator">>>.fields #[↑d,.int 0 0,.int es.size 0,.int ep 0])).IsKeyIter ↥s d 0 es.size ep:=⟨_,ajv _ rfl,22⟩;let kp:∀b o,s•b\o->(s.heap.push ("dict_keyiterator">>>.fields #[↑d,.int 0 0,.int es.size 0,.int ep 0])).get? b\o:=λb o e=>ai7 _ e
 change s.heap.push ("dict_keyiterator">>>.fields #[↑d,.int 0 0,.int es.size 0,.int ep 0])=x at k r kp j ⊢;rwa[amh (λ_=>?_) (λB=>absurd ⋯ B)];rwa[ai2 (wpAny_rule ?_)];rwa[ai2 ?_];show wpAny _ _ (updateSeq S (·.push .none) >>=λ_=>updateSeq S (·.pop)) _ _ _;rwa[ai2 (wpAny_updateSeq k rfl ?_)];let t:=aj7 (Obj.mapSeq (·.push Value.none)) k rfl;rwa[wpAny_updateSeq (hz:=by seq_fits) t rfl ?_];let G:=aj7 (Obj.mapSeq (·.pop)) t rfl;let h:∀b o,b≠S->x.get? b\o->((x.update S (Obj.mapSeq (·.push Value.none))).update S (Obj.mapSeq (·.pop))).get? b\o:=λb o p e=>(akb^akg p).trans ((akb^akg p).trans e)
 let W:=(walks (prog:=prog) (w:=w) (A:=A.in1) (d:=d) (es:=es) (ep:=ep) X ↥s I).toS
 let C:S∉[↥s,d]:=λa=>by
  rcases ajs.mp a with e|a
  ·rwa[z e]
  ·rwa[l (ai9.mp a)]
 rwa[ajb ⟨plainId_quiet F.plain_extend_loop _,?_⟩];rwa[codeAny_extend_loopS W hlen S C res es.size 0 _ #[] _ rfl (ajB _) ⟨r.at λo e=>h _ o (akg z) e,eF.at j λo e=>h _ o (akg l) e⟩ G (ItemsOf.nil _) λg c m q D u=>?_]
 rw[Moved.eq_with q];rwa[Z g.heap g.toks c m (λb o p e=>q.heap b o (λa=>?_) (h b o p (kp b o e))) D u];rcases ajs.mp a with V|a
 ·rwa[p V]
 ·rwa[absurd (ajy e) (by rw[ai9.mp a];rwa[akP _])]
def yX {Q:Fin->Zu->Prop}(g:s•a\("list">>>.seq #[]))(h:∀f c,f.get? a\("list">>>.seq #[] c)->(∀b o,b≠a->s•b\o->f.get? b\o)->(prog<|>w) A (Builtin.List.listExtendWith ↑a v .none) Q E (s<*f)):(prog<|>w) A (Builtin.«list.__init__» ⟨[↑a,v],[]⟩) Q E s:=by show wpAny _ _ (do let old <-Builtin.List.listItems ↑a;Builtin.List.listUpdate ↑a (λ_=>#[]);letGo old.toList.reverse;Builtin.List.listExtendWith ↑a v .none) _ _ s;rwa[ai2 ?_];unfold Builtin.List.listItems;rwa[ai2 (wpAny_seqItems g rfl (ajb ?_))];show wpAny _ _ (updateSeq a (λ_=>#[]) >>=λ_=>letGo (#[]:Zm).toList.reverse >>=λ_=>Builtin.List.listExtendWith ↑a v .none) _ _ s;rwa[ai2 (wpAny_updateSeq g rfl (ai2 (wpAny_letGo (h _ _ (aj7 (Obj.mapSeq (λ_=>(#[]:Zm))) g rfl) λb o i e=>(akb^akg i).trans e))))]
def init {R:Result->Zu->Prop}(B:A.handled=none)(x:(d==sysModules)=false)(u:eF s.heap d es ep)(hlen:es.size<=sizeLine)(S:Zs)(C:s•S\("list">>>.seq #[]))(D:∀g1 l a g,(∀b o,b≠S->s•b\o->g1.get? b\o)->g1.get? S\{ cls:=.type "list",dict:=none,data:=.seq a g,slots:=#[] }->ItemsOf (λi v=>∃t,es[i]?\t/\v=t.key) a es.size->R (.ok (.ret .none)) { s with heap:=g1,toks:=l }):
 (prog<|>w) A.in1 (Builtin.«list.__init__» ⟨[↑S,↑d],[]⟩)
  (λfin k=>match fin with|.done f=>R (.ok f) k|.again g=>g.quiet=true/\codeAny (model prog w) A g R k) (λe k=>R (.error e) k) s:=by
 let p:d≠S:=λe=>by
  let⟨o,F,G,q⟩:=u
  cbv
 rwa[yX C λz c m h=>extend (s:=(s<*z)) B x (eF.at u λo e=>h _ o p e) hlen S .none _ m λg1 l a g y n j=>D g1 l a g (λb o r e=>y b o r (h b o r e)) n j]
theorem yZ (t:A.handled=none)(p:(d==sysModules)=false)(u:eF s.heap d es ep)(hlen:es.size<=sizeLine)(q:∀g1 j a h,(∀b o,s•b\o->g1.get? b\o)->g1.get? ↥s\{ cls:=.type "list",dict:=none,data:=.seq a h,slots:=#[] }->ItemsOf (λi v=>∃l,es[i]?\l/\v=l.key) a es.size->Q ↑↥s { s with heap:=g1,toks:=j }):
 (prog<|>w) A (call (.type "list") [↑d]) Q E s:=by
 rwa[callType_codes (Q₁:=λobj c=>obj=↑↥s/\c={ s with heap:=s.heap.push ("list">>>.seq #[]) }) F.called_list (F.typeCall_list_1 _) F.entry_list_init (code_list_new _ ⟨22⟩) λobj c f=>?_]
 let⟨rfl,rfl⟩:=f;let n:(s.heap.push ("list">>>.seq #[])).get? ↥s\("list">>>.seq #[]):=ajv _ rfl;rwa[⟨⟨_,n,2⟩,F.args_list_init_2 _ _,init (A:=A.in1) (s:={ s with heap:=s.heap.push ("list">>>.seq #[]) }) t p (eF.at u λo e=>ai7 _ e) hlen _ n λg1 j a h r k g=>?_⟩];rwa[2,q g1 j a h (λb o e=>r b o (ajH (ajy e)) (ai7 _ e)) k g]
end Dk
theorem rJ:∀a:Zn,Vals (a.map V.ref) (a.map Value.ref)
 |[]=>.nil
 |p::a=>.cons rfl (rJ a)
theorem kt_at:∀{a:List (Zd×V)}{ys:List (Zd×Zs×Zt)},KT H a ys->∀{i:Nat}{c:Zd×V}{y:Zd×Zs×Zt},a[i]?\c->ys[i]?\y->H y.2.1\(.tup (c.1.map kV))
 |[],_,h,i,c,y,b,_=>by simp at b
 |k::a,_,h,i,c,y,b,d=>by
  cases h with
  |cons h0 e=>
   cases i with
   |zero=>rw[<-Za0 b,<-Za0 d];rwa[h0.2.1]
   |succ i=>exact kt_at e b d
variable {X:Cx}
def T6:Zb->Hp->VK->Prop:=λe H Q=>∃(d:Zs)(a:List (Zd×V)),e=[↑d]/\H d\.dT a/\∀(l:Zs)(b:Zn),H l=none->⇑b=⇑a->(∀(i:Nat)(p:Zs)(c:Zd×V),b[i]?\p->a[i]?\c->H p\.tup (c.1.map kV))->Q ↑l (upd H l (.lst (b.map V.ref)))
def Bb (P:X.calm=true):gZ X (.type "list") T6:=by
 intro w s Y H T us Q I r h;let⟨d,l,rfl,z,q⟩:=h;let⟨u,rfl,M⟩:=vals1 r;ext M;let⟨S,n,ys,t,o,L,Z,G,m,f,j,_,_⟩:=F2 I.aU z;let hlen:⇑ys=⇑l:=(Paired.length t).symm;let F:L.size=⇑ys:=size_of_entries j;rwa[Dk.yZ (I.ok.hd P) n ⟨o,G,m,f⟩ ∅ λJ D a B C g b=>?_]
 let O:a.toList=(ys.map (·.2.1)).map Value.ref:=by
  rwa[akO λi=>?_]
  rw[akR,ajc,ajc]
  cases x:a[i]? with
  |none=>
   let N:⇑ys<=i:=by let c:a.size<=i:=Array.getElem?_eq_none_iff.mp x;rw[b.1]at c;ext
   rw[ajC N];rfl
  |some v=>
   let⟨U,k,rfl⟩:=b.2 i v x;rw[entry_at j]at k
   cases e:ys[i]? with
   |none=>rw[e]at k;ext k
   |some y=>rw[e]at k;rw[<-Za0 k];rfl
 let E:a=((ys.map (·.2.1)).map Value.ref).toArray:=by rw[<-O]
 rw[E]at g;rwa[⟨↑↥s,_,I.laid (t':=D) C (aja _) (show b6 X.prog X.w _ J _ (.lst ((ys.map (·.2.1)).map V.ref)) from ⟨by rw[ai6,ai6];ext,_,B,rJ _,g⟩),2,q _ _ (I.aU.fresh (aja _)) (by cbv) λi p W c A=>?_⟩];rw[ajc]at c
 cases e:ys[i]? with
 |none=>rw[e]at c;ext c
 |some y=>rw[e]at c;rw[<-Za0 c];rwa[kt_at t A e]
structure MDef (K:Za1)(C:Zs)(x q:Str)(st:Stmt)(ps:Zp)(f:Zs)(fd:FuncData):Prop where
 F:AZ K x q st f fd
 m:Meth K C x f
 b:Binds K fd ps []
open PySem.W (KasT kas_rev kas_asc kas_desc kas_tail3 kas_descPart kas_count kas_place kas_bin kas_sort kas_ask kas_ask_eq kas_runs kas_st kas_range kas_item kas_item_eq)
namespace Srt
def Gd {b:Type}(P:Nat->Nat->Prop)(f:Nat->Nat->Bool):KasT b->(b->Prop)->Prop
 |.ret a,Q=>Q a
 |.ask i j k,Q=>P i j/\Gd P f (k (f i j)) Q
variable {n:Nat}{key:Nat->Int}
structure Pr (n:Nat)(p:Array Nat):Prop where
 sz:p.size=n
 lt:∀i,i<n->p.getD i 0<n
 inj:∀i j,i<n->j<n->p.getD i 0=p.getD j 0->i=j
def Up (key:Nat->Int)(p:Array Nat)(m:Nat):Prop:=∀i j,i<j->j<m->key (p.getD i 0)<key (p.getD j 0)
def Dn (key:Nat->Int)(p:Array Nat)(m:Nat):Prop:=∀i j,i<j->j<m->key (p.getD j 0)<key (p.getD i 0)
def Ok (n:Nat)(key:Nat->Int)(i j:Nat):Prop:=i<n/\j<n/\key i≠key j
def Inj (n:Nat)(key:Nat->Int):Prop:=∀i j,i<n->j<n->key i=key j->i=j
abbrev ask (key:Nat->Int) (i j:Nat):Bool:=decide (key i<key j)
end Srt
end L2
namespace L2
def Ip:typeLookup (.type "list") "keys"=pure none:=by rw[typeLookup_type,builtinLookup_eq_fast];kernel_rfl
theorem Lx {m:Zm}{k:Nat}{Q:Zl->Zu->Prop}(n:s•a\("list">>>.seq m k))(p:A.handled=none)(h:∀i j,(∀b o,s•b\o->i.get? b\o)->Q none { s with heap:=i,toks:=j }):
 (P<|>w) A (getAttr? ↑a "keys") Q E s:=by
 let⟨q,g,d,j,os⟩:=s;let l:∀f,(⟨q,g,d,f,os⟩:Zu).TypeIs ↑a "list":=λ_=>⟨_,n,2⟩
 let t:=sub_AttributeError;let z:=F.slot_list_getattribute.lookup;let x:=F.slot_list_getattribute.bind ↑a;let v:=am_list_getattr_none;unfold getAttr? getAttrBy? getAttrBy
 repeat (any_goals (first|assumption|rwa[l _]|((with_reducible show wpAny _ _ (call (Value.builtin "list.__getattribute__") _ _) _ _ _);rwa[alE F.slot_list_getattribute (l _) am_entry_list_getattribute (F.args_list_getattribute_2 _ _) (meets_getattribute_miss_list a m k #[] "keys" _ Ip (by decide) (by decide)) ⟨n,p,λi f e c=>?_⟩])|wp_step))
 let⟨r,u,y⟩:=c.there;show wpAny _ _ (getattributeRaised _ _ _ _ _ _ _) _ _ _;unfold getattributeRaised
 repeat (any_goals (first|assumption|wp_step))
 rwa[h^c.keeps]
def oK:entryFor table "dict.update.loop"=some Builtin.«dict.update.loop»:=entryFor_of_fast (by kernel_rfl)
def iq:plainId "dict.update.loop"=true:=⋯
section
variable {prog:Program} {w:World} {K:Type} [DecidableEq K] {knd:KeyKind prog w K} {A:Around} {E:Zt->Zu->Prop}
def Ga {R:Result->Zu->Prop}{it l:Zs}{its:Zk}{rs:List (K×Zt)}(hh:A.in1.handled=none)(N:l≠it)(t:d≠it)(O:d≠l)(hlen:⇑its=⇑rs)(hsz:⇑rs<=sizeLine):
 ∀(k i:Nat)(s:Zu),⇑its - i=k->i<=⇑its->s.heap.IsListIter it l i->s.heap.IsList l its.toArray->s.heap.DictOf knd d (merged [] (rs.take i))->
 (∀(j:Nat)(u:Zt)(m:K×Zt),its[j]?\u->rs[j]?\m->∃p a,u=↑p/\p≠d/\p≠it/\knd.is m.1 a=true/\IsTup s.heap p #[a,m.2])->
 (∀h J,h.DictOf knd d (merged [] rs)->(∀b o,b≠d->b≠it->s•b\o->h.get? b\o)->R (.ok (.ret .none)) { s with heap:=h,toks:=J })->
 codeAny (model prog w) A (.builtin "dict.update.loop" ⟨[↑d,↑it,rawInt (i:Int),.none],[]⟩) R s:=by
 let W:=Walks.list (prog:=prog) (w:=w) (A:=A.in1) hh it l N its.toArray;let c:∀b:Zs,b≠it->b∉[it]:=λb f z=>f (ai9.mp z)
 intro k
 induction k with
 |zero=>
  intro i s hk L hit hl H Y hR;let ei:i=⇑its:=∅
  rwa[codeAny_builtin oK ?_];rw[Around.under_plainId iq _];show wpAny _ A.in1 (pyNext ↑it >>=_) _ _ s;rwa[ai2 (W.done s _ _ ⟨by cbv,hl⟩ λh J kp=>?_)];show wpAny _ A.in1 (Builtin.Dict.addKeywords d [] >>=_) _ _ _;rwa[ai2 (ajb (ajb ?_))];rw[akx ∅]at H;let⟨od,x1,x2,D,q⟩:=id H;rwa[hR h J ⟨od,x1,x2,kp _ _ (c _ t) D,q⟩ λb o _ f e=>kp b o (c _ f) e]
 |succ k ih=>
  intro i s hk L hit hl H Y hR;let m4:i<⇑its:=∅
  rwa[codeAny_builtin oK ?_];rw[Around.under_plainId iq _];show wpAny _ A.in1 (pyNext ↑it >>=_) _ _ s;rwa[ai2 (W.item i s _ _ ∅ ⟨hit,hl⟩ λv h J hP P kp=>?_)];let⟨B,Q⟩:=P;let Z:its[i]?\v:=by simpa using hP
  let x:rs[i]?\(rs[i]'∅):=ai1 ∅
  change rs[i]'∅=m at x;let⟨p,a,rfl,pd,pi,C,o,ho,hc,n,y⟩:=Y i v m Z x;let F:=kp _ _ (c _ pi) ho;let V:rs.take (i+ 1)=rs.take i++[m]:=by rw[akf,x];rfl
  let M:h.DictOf knd d (merged [] (rs.take i)):=by let⟨od,x1,x2,D,q⟩:=id H;rwa[od,x1,x2,kp _ _ (c _ t) D,q]
  let hml:=merged_length_le ([]:List (K×Zt)) (rs.take i)
  let G:⇑(merged [] (rs.take i))<=sizeLine:=by rw[ajD,ajQ]at hml;ext
  show wpAny _ A.in1 (holding [Value.ref p] _ >>=_) _ _ _;rwa[ai2 (aku ?_)];rwa[ai2 (wpAny_tryCatch ?_)];show wpAny _ A.in1 (typeOf (Value.ref p) >>=_) _ _ _;rwa[ai2 (alb (T:="tuple") ⟨o,F,hc⟩ ?_)];rw[ajn ⋯];rwa[ai2 (wpAny_seqItems F y ?_)];rwa[ajb ?_];show wpAny _ A.in1 (holding [a,m.2] (dictSet d a m.2)) _ _ _;rwa[aku (wpAny_dictSet_pairs C M (λg S sb=>?_) G)];let I:∀b o,b≠d->h.get? b\o->g.get? b\o:=λb o f e=>(sb.2 b f).trans e
  rwa[ajb ⟨plainId_quiet iq _,5⟩];let r:rawInt ((i:Int)+ 1)=rawInt (((i+ 1:Nat)):Int):=rfl;rw[r];rwa[ih (i+ 1) _ ∅ ∅ (B.at λo e=>I _ _ (akg t) e) (Q.at λo e=>I _ _ (akg O) e) ?_ ?_ ?_]
  ·rw[V,merged,aj8];rwa[S]
  ·intro j u kv2 D q;let⟨p,a,rfl,a1,a2,a3,o,b1,b2⟩:=Y j u kv2 D q;rwa[p,a,2,a1,a2,a3,o,I _ _ a1 (kp _ _ (c _ a2) b1),b2]
  ·intro q U Oc X;rwa[hR q U Oc λb o f L e=>X b o f L (I _ _ f (kp _ _ (c _ L) e))]
theorem x8 {rs:List (K×Zt)}(J:A.handled=none)(hlen:⇑N=⇑rs)(B:⇑rs<=sizeLine)(I:s•a\("list">>>.seq N.toArray n))(S:∀(j:Nat) (u:Zt) (r:K×Zt),N[j]?\u->rs[j]?\r->∃p d,u=↑p/\knd.is r.1 d=true/\IsTup s.heap p #[d,r.2])(P:∀m H,m.DictOf knd ↥s (merged [] rs)->(∀b o,s•b\o->m.get? b\o)->Q ↑↥s { s with heap:=m,toks:=H }):
 (prog<|>w) A (call (.type "dict") [↑a]) Q E s:=by
 rwa[callType_codes (Q₁:=λobj f=>obj=↑↥s/\f={ s with heap:=s.heap.push ("dict">>>.dict #[]) }) F.kt_called_dict (F.kt_typeCall_dict_1 _) F.entry_dict_init (kt_code_dict_new _ ⟨22⟩) ?_];rintro obj f ⟨rfl,rfl⟩;let c:(s.heap.push ("dict">>>.dict #[])).DictOf knd ↥s []:=Heap.DictOf.new s.heap;let h:(s.heap.push ("dict">>>.dict #[])).get? a\("list">>>.seq N.toArray n):=ai7 _ I;let t:=ajy I;erw[c.typeIs,F.args_dict_init_2 _ _];unfold Builtin.«dict.__init__»;rwa[ai2 ?_];unfold Builtin.Dict.selfAndRest;rwa[ai2 (alO c.typeIs ?_)];show wpAny _ _ (pure (↥s,[Value.ref a])) _ _ _;rwa[ajb ?_];show wpAny _ _ (Builtin.Dict.updateFrom "dict.__init__" ↥s ↑a [] .none) _ _ _;unfold Builtin.Dict.updateFrom;rwa[ai2 (alb (T:="list") ⟨_,h,2⟩ ?_)];rw[ajn ⋯];rwa[ai2 (Lx h J λg H kp=>?_)];rw[ajn ⋯];rwa[ai2 (wpAny_rule ?_)];let i:=kp^h;rwa[ai2 (alS (items:=N.toArray) ⟨_,i,2,n,2⟩ ?_)]
 let k:↥s<g.objs.size:=by let⟨O,_,_,q,_⟩:=id c;rwa[ajy (kp^q)]
 let z:=ajy i;let M:∀b o,s•b\o->(g.push ("list_iterator">>>.fields #[↑a,.int 0 0])).get? b\o:=λb o e=>ai7 _ (kp^ai7 _ e)
 rwa[ajb ⟨plainId_quiet iq _,Ga (knd:=knd) (A:=A.in1) (rs:=rs) (its:=N) (l:=a) (it:=g.objs.size) J (ajH z) (ajH k) (akE t) hlen B ⇑N 0 _ rfl (ajB _) ?_ ⟨_,ai7 _ i,2,n,2⟩ ?_ ?_ ?_⟩]
 ·rwa[_,ajv _ rfl,22]
 ·let⟨O,W,V,q,v⟩:=id c;rwa[O,W,V,ai7 _ (kp^q),v]
 ·intro j u r q v;let⟨p,d,rfl,R,o,D,U⟩:=S j u r q v;let l:=ajy D;rwa[p,d,2,ajH l,ajH (amb l k),R,o,M^D,U]
 ·intro m x C y;rwa[⟨2,P m x C λb o e=>?_⟩];let G:=ajy e;rwa[y b o (ajH G) (ajH (amb G k)) (M^e)]
end
section
variable {X:Cx}
inductive Iq (xs:Zb)(H:Hp)(Q:VK):Prop
 |mk (l:Zs)(ps:Zn)(kvs:List (Key×V)):xs=[↑l]->H l\.lst (ps.map V.ref)->⇑ps=⇑kvs->(∀(i:Nat)(p:Zs)(kv:Key×V),ps[i]?\p->kvs[i]?\kv->H p\.tup [kV kv.1,kv.2])->(∀d,H d=none->Q ↑d (upd H d (.dK (iP [] kvs))))->Iq xs H Q
def Ly (ok:dy P w H h):∀(c:Zn)(a:List (Key×V)),⇑c=⇑a->(∀(i:Nat)(p:Zs)(b:Key×V),c[i]?\p->a[i]?\b->H p\.tup [kV b.1,b.2])->
 ∃k:List (Key×Zt),KV a k/\∀(j:Nat)(p:Zs)(b:Key×Zt),c[j]?\p->k[j]?\b->∃e,(bY P w).is b.1 e=true/\IsTup h p #[e,b.2]:=by
 intro c
 induction c with
 |nil=>exact λa l _=>by cases a with|nil=>exact⟨[],.nil,λj p b d=>by simp at d⟩|cons=>ext l
 |cons p c y=>
  intro a l n
  cases a with
  |nil=>ext l
  |cons b a=>
   let⟨k,o,x⟩:=y a (by simpa using l) λi q b d g=>n (i+ 1) q b (by simpa using d) (by simpa using g)
   obtain⟨-,s,t,r⟩:=ok p _ (n 0 p b rfl rfl);let⟨u,v,rfl,z,m⟩:=vals2 t;rwa[⟨(b.1,v)::k,.cons ⟨2,m⟩ o,λj q f d g=>?_⟩]
   cases j with
   |zero=>
    obtain rfl:p=q:=by simpa using d
    obtain rfl:(b.1,v)=f:=by simpa using g
    rwa[u,jK z,r]
   |succ j=>exact x j q f (by simpa using d) (by simpa using g)
def vO (M:X.calm=true):gZ X (.type "dict") Iq:=by
 intro m s P H O R Q I r h;let⟨l,k,a,rfl,C,hlen,B,q⟩:=h;let⟨u,rfl,D⟩:=vals1 r;ext D;let⟨A,y,c,z,v⟩:=I.aU l _ C;obtain rfl:=Ih z;let⟨rs,i,G⟩:=Ly I.aU k a hlen B;let t:⇑a=⇑rs:=⇑i;rw[ai6]at A;rwa[x8 (knd:=bY X.prog X.w) (rs:=rs) (I.ok.hd M) (by cbv) ∅ v (λj u E b o=>?_) λg w F kp=>?_]
 ·rw[ajc]at b
  cases e:k[j]? with
  |none=>rw[e]at b;ext b
  |some p=>rw[e]at b;let⟨d,n,J⟩:=G j p E e o;rwa[p,d,(Za0 b).symm,n,J]
 ·let L:KV (iP [] a) (merged [] rs):=KV.merge i .nil;let f:=kY a [];rw[ajQ]at f;rwa[↑↥s,_,I.laid (t':=w) kp (aja _) (rF ∅ (ajA.mpr (akg (ajH I.big))) L F),2,q _ (I.aU.fresh (aja _))]
end
section
variable {X:Cx}{pins:List (Zs×Obj)}{σ:St}{H:Hp}{s:Zu}{d:Zs}{u:HO}{o:Obj}
def Inv.freeze (I:Inv X pins σ H s)(e:H d\u)(mu:ui (some u))(g:s•d\o):Inv X pins σ (upd H d (.df o u)) s:=by
 let a:ui (H d):=by rw[e];rwa[mu]
 let b:∀c y,H c\.own y->c≠d:=λc y r z=>by subst z;rw[r]at a;rwa[a]
 let i6:∀c f,H c\.tup f->c≠d:=λc f r z=>by subst z;rw[r]at a;rwa[a]
 let new:b6 X.prog X.w (upd H d (.df o u)) s.heap d u:=(I.aU d u e).gX (λc v _ r=>r) (λc r=>[ak (b^r)]▸r) λc f r=>by rw[ak (i6^r)];rwa[r]
 rwa[j8 (t':=s.toks) I a (Heap.SameBut.refl _ _) ⟨o,g⟩ ⟨g,new⟩]
def Inv.Gb (I:Inv X pins σ H s)(e:H d\.df o u)(mu:ui (some u))(k:∀o u,X.uG d≠some (.df o u)):Inv X pins σ (upd H d u) s:=by
 let i:∀b,H b=none->b≠d:=λb n z=>by cbv
 let g:∀c y,H c\.own y->c≠d:=λc y r z=>by cbv
 let i6:∀c h,H c\.tup h->c≠d:=λc h r z=>by cbv
 rwa[⟨I.ok,I.os,I.bare,⟨I.base.keep,I.base.slot,λb ob q n w=>?_,I.base.there,λb h q=>?_,λb ob v q=>?_,λb l q=>?_⟩,I.loc,I.cell,5,λx c q=>?_,λp t=>?_,λb v q=>?_,I.len⟩]
 ·let f:=I.base.free b ob q n w;rw[ak (i b f)];rwa[f]
 ·let f:=I.base.j2 b h q;rw[ak (i6^f)];rwa[f]
 ·let f:=I.base.i7 b ob v q;rw[ak (λz=>k ob v (by rw[<-z];rwa[q]))];rwa[f]
 ·let⟨m,f⟩:=I.base.kX b l q;erw[m];rw[ak (λz=>by cbv)];rwa[f]
 ·rw[ak (i _ I.free)];rwa[I.free]
 ·let f:=I.gY x c q;rw[ak (i _ f)];rwa[f]
 ·let⟨a,b,c⟩:=I.pin p t;rwa[⟨a,5,c⟩];rw[ak (i _ b)];rwa[b]
 ·let st:∀b v,b6 X.prog X.w H s.heap b v->b6 X.prog X.w (upd H d u) s.heap b v:=λb v q=>q.gX (λc v _ r=>r) (λc r=>[ak (g^r)]▸r) λc h r=>by rw[ak (i6^r)];rwa[r]
  cases j:b=d
  ·subst j;rw[aj]at q;obtain rfl:=Za0 q;rwa[st^(I.aU^e).2]
  ·rw[ak j]at q;rwa[st^I.aU b v q]
def Inv.Lz (I:Inv X pins σ H s)(e:H d\u)(mu:ui (some u)):∀o u,X.uG d≠some (.df o u):=λo v q=>by rw[I.base.i7 d o v q]at e;ext e;rwa[mu]
def X4 (t:TS):TS:=λD σ H=>∃(d:Zs)(u:HO),H d\u/\ui (some u)/\
 t { nx:=λ b a=>∃o,a d\.df o u/\D.nx b (upd a d u),rt:=λv a=>∃o,a d\.df o u/\D.rt v (upd a d u),bk:=λ b a=>∃o,a d\.df o u/\D.bk b (upd a d u),ct:=λ b a=>∃o,a d\.df o u/\D.ct b (upd a d u) } σ H
def Es {st:Stmt}{t:TS}(h:PS X st t):PS X st (X4 t):=by
 intro pins s σ H D I q;let⟨d,u,e,mu,q⟩:=q;let i:=I.Lz e mu;rwa[a9 (h pins s σ H _ I q) λf l p=>?_]
 cases f with
 |next=>let⟨a,j,b,o,c,g⟩:=p;rwa[a,_,b.Gb c mu i,g]
 |brk=>let⟨a,j,b,o,c,g⟩:=p;rwa[a,_,b.Gb c mu i,g]
 |cont=>let⟨a,j,b,o,c,g⟩:=p;rwa[a,_,b.Gb c mu i,g]
 |ret v=>let⟨k,a,j,b,r,o,c,g⟩:=p;rwa[k,a,_,b.Gb c mu i,r,g]
end
def Od (d:Zs)(o:Obj)(u:HO)(n:Nat)(Y:Nat->Hp->V->Hp->Prop):It:=⟨λi H=>i<n/\H d\.df o u,Y,λi H=>i=n/\H d\.df o u⟩
abbrev T7 (d:Zs) (o:Obj) (kvs:List (Key×V)):It:=Od d o (.dK kvs) ⇑kvs λi H x H'=>H'=H/\∃kv,kvs[i]?\kv/\x=kV kv.1
theorem y4 {c b:Type}{R:c->b->Prop}:∀{e:List c}{ys:List b},Paired R e ys->∀{i:Nat}{x:c}{y:b},e[i]?\x->ys[i]?\y->R x y
 |[],_,h,i,x,y,a,_=>by simp at a
 |k::f,_,h,i,x,y,a,d=>by
  cases h with
  |cons g j=>
   cases i with
   |zero=>rw[<-Za0 a,<-Za0 d];rwa[g]
   |succ i=>exact y4 j a d
def T8 {it:Zs}{o:Obj}{u:HO}{b:Array DictEntry}{Y:Nat->Hp->V->Hp->Prop}(A:∀(X:Cx) (H:Hp) (h:Heap),dy X.prog X.w H h->H d\.df o u->eF h d b m/\b.size=n/\∀i f,b[i]?\f->∃x,RelV x f.key/\Y i H x H):Turn P w K e (Od d o u n Y) [it] it (λi h=>h.IsKeyIter it d i b.size m):=
 Hu (λi h ζ=>by let⟨o,a,c,d⟩:=ζ;rwa[⟨o,11,a,c,d,4⟩]) (λi h D st k=>st.at k) (λX l J H s i E C I st q=>by
  let⟨r,rfl,y⟩:=A X H s.heap I.aU (q.elim (·.2) (·.2));let⟨G,j,t,_⟩:=id r;let⟨F,p,z,_⟩:=id st
  rwa[1111,Dk.walks (I.ok.hd C) it (gN j p (by rw[t.1,z];decide)),⟨st,r⟩,λ_ _ h=>h.1,λg=>⟨g.1,λv B=>by let⟨f,j,rfl⟩:=B;rwa[y i f j]⟩,λg=>g.1]) λ_ _ _ _ _ st h=>wpAny_pyIter_keyiter st h
def Ir {o:Obj}{a:List (Zd×V)}{b:Array DictEntry}(I:dy P w H h)(u:H d\.df o (.dT a))(q:o.data=.dict b n):
 eF h d b n/\b.size=⇑a/\∀(i:Nat)(f:DictEntry),b[i]?\f->∃g p v,a[i]?\g/\f.key=↑p/\H p\.tup (g.1.map kV)/\f.val=v/\RelV g.2 v:=by
 obtain⟨c,-,C,ys,j,G,E,B,m,x,s,l,F⟩:=I d _ u;rw[c]at m;obtain rfl:=Za0 m;rw[q]at s;injection s with D y
 subst D y;let A:⇑a=⇑ys:=Paired.length j;let z:b.size=⇑ys:=size_of_entries l;rwa[⟨⟨_,c,x,q⟩,z.trans A.symm,λi f e=>?_⟩];let t:i<⇑a:=by cbv
 let r:ys[i]?\(ys[i]'∅):=ai1 ∅
 rw[entry_at l,r]at e;obtain rfl:=Za0 e;let k:=y4 j (ai1 t) r;rwa[111,ai1 t,2,k.2.1,2,k.2.2]
def QJ {k:Key}(h:(bY P w).is k v=true):RelV (kV k) v:=by
 cases k with
 |inl i=>
  let a:Value.isInt i v=true:=h
  cases v with
  |int j t=>simp[Value.isInt]at a;subst a;rwa[12]
  |_=>simp[Value.isInt]at a
 |inr x=>
  let a:Value.isStrOf x v=true:=h
  cases v with
  |str j t=>simp[Value.isStrOf]at a;subst a;rwa[12]
  |_=>simp[Value.isStrOf]at a
section
variable {g:TG}{tb:TS}{D:Ends}{σ:St}{H:Hp}{d:Zs}{o:Obj}
def Oe {u:HO}{Y:Nat->Hp->V->Hp->Prop}{a:Nat->St->Hp->Prop}(k:a 0 σ H)(e:∀i σ H,i<=n->a i σ H->H d\.df o u)(l:∀i σ H x b,a i σ H->Y i H x b->g x σ b λ c j=>tb { D with nx:=a (i+ 1),ct:=a (i+ 1),bk:=D.nx } c j)(h:∀ σ H,a n σ H->D.nx σ H):rz (Od d o u n Y) g tb D σ H:=ti k (λi σ H f p=>⟨⟨f,e i σ H (akZ f) p⟩,λx b=>l i σ H x b p⟩) λ σ H p=>⟨⟨2,e n σ H (aja _) p⟩,h σ H p⟩
end
inductive Dt where
 |i (n:Int)|s (l:Zh)|n|b (k:Bool)|t (xs:List Dt)|l (xs:List Dt)
inductive bW (H:Hp):Nat->V->Dt->Prop where
 |i {k:Nat} {n:Int}:bW H k (.int n) (.i n)
 |s {k:Nat} {l:Zh}:bW H k (.str (tx l)) (.s l)
 |n {k:Nat}:bW H k .non .n
 |b {k:Nat} {c:Bool}:bW H k (.bl c) (.b c)
 |t {k:Nat} {a:Zs} {vs:Zb} {ds:List Dt}:H a\.tup vs->⇑vs=⇑ds->(∀(j:Nat)(v:V)(d:Dt),vs[j]?\v->ds[j]?\d->bW H k v d)->bW H (k+ 1) ↑a (.t ds)
 |l {k:Nat} {a:Zs} {vs:Zb} {ds:List Dt}:H a\.lst vs->⇑vs=⇑ds->(∀(j:Nat)(v:V)(d:Dt),vs[j]?\v->ds[j]?\d->bW H k v d)->bW H (k+ 1) ↑a (.l ds)
def bW.keep (j:∀a e,H a\.tup e->I a\.tup e)(g:∀a e,H a\.lst e->I a\.lst e){k:Nat}{v:V}{d:Dt}(h:bW H k v d):bW I k v d:=by
 induction h with
 |i=>exact .i
 |s=>exact .s
 |n=>exact .n
 |b=>exact .b
 |t a b c f=>exact .t (j^a) b f
 |l a b c f=>exact .l (g^a) b f
def bW.same (s:aq H I){k:Nat}{v:V}{d:Dt}(h:bW H k v d):bW I k v d:=h.keep (λ_ _ e=>s^e) (λ_ _ e=>s^e)
def bW.up {k:Nat}{d:Dt}(h:bW H k q d):bW H (k+ 1) q d:=by
 induction h with
 |i=>exact .i
 |s=>exact .s
 |n=>exact .n
 |b=>exact .b
 |t a b c e=>exact .t a b e
 |l a b c e=>exact .l a b e
def bW.le {k:Nat}{d:Dt}(h:bW H k q d)(a:k<=m):bW H m q d:=by
 let⟨j,rfl⟩:=Nat.exists_eq_add_of_le a;clear a
 induction j with
 |zero=>exact h
 |succ j b=>exact b.up
inductive X5 (x y:V)(H:Hp)(Q:VK):Prop
 |mk (d:Dt)(a b:Zs):x=↑a->y=↑b->bW H 8 x d->bW H 8 y d->Q (.bl true) H->X5 x y H Q
inductive X6 (x y:V)(H:Hp)(Q:VK):Prop
 |mk (d:Dt)(a b:Zs):x=↑a->y=↑b->bW H 8 x d->bW H 8 y d->Q (.bl false) H->X6 x y H Q
def nI (l:Zh):Zg:=l.map λn:Nat=>(n:Int)
def cD (l:Zh):⇑(nI l)=⇑l:=ai6 ..
def jL (h:B[i]?\n):(nI B)[i]?\(n:Int):=by unfold nI;rw[ajc,h];rfl
def iQ (a b:Zh):nI (a++b)=nI a++nI b:=ajt ..
def T9 (l:Zh)(i n:Nat):(nI l).set i (n:Int)=nI (l.set i n):=by unfold nI;rw[List.map_set]
structure RS where
 L:Nat
 q:Nat
 rows:List Dt
 ways:List (List (Int×Nat))
 gaps:Za3
 aY:Zh
 called:List Zh
 aZ:Zh
def wK (l:List (Int×Nat)):List (Key×V):=l.map λp=>(Sum.inl p.1,V.int p.2)
def gK (l:Zg):List (Key×V):=l.map λs=>(Sum.inl s,V.bl true)
def fu (l:List (Int×Nat))(s:Int):Zi:=(l.find? λp=>decide (p.1=s)).map (·.2)
def jM (l:List (Int×Nat))(s:Int)(r:Nat):List (Int×Nat):=if (l.any λp=>decide (p.1=s))=true then l.map λp=>if p.1=s then (p.1,r) else p else l++[(s,r)]
def Bc (l:List (Int×Nat)):⇑(wK l)=⇑l:=ai6 ..
def Ua (l:Zg):⇑(gK l)=⇑l:=ai6 ..
def Ub (a b:Int):decide ((Sum.inl a:Key)=Sum.inl b)=decide (a=b):=by rw[akr,ajZ,ajZ];rwa[Sum.inl.inj,ajY Sum.inl]
theorem kJ (s:Int):∀l:List (Int×Nat),bz (wK l) (Sum.inl s)=(fu l s).map λr:Nat=>V.int (r:Int)
 |[]=>rfl
 |p::l=>by
  let b:=kJ s l;cases h:p.1=s
  ·let e:bz (wK (p::l)) (Sum.inl s)\(V.int p.2):=cQ (p:=(Sum.inl p.1,V.int p.2)) (by rw[h]);let a:fu (p::l) s\p.2:=by unfold fu;rw[amn (by cbv)];rfl
   rw[e,a];rfl
  ·let e:bz (wK (p::l)) (Sum.inl s)=bz (wK l) (Sum.inl s):=cI (p:=(Sum.inl p.1,V.int p.2)) (λz=>h (Sum.inl.inj z));let a:fu (p::l) s=fu l s:=by unfold fu;rw[alG (by simpa using h)]
   rw[e,a,b]
def Bd (l:List (Int×Nat))(s:Int)(r:Nat):putK (wK l) (Sum.inl s) (.int r)=wK (jM l s r):=by
 unfold putK jM
 let a:((wK l).any λb=>decide (b.1=Sum.inl s))=l.any λp=>decide (p.1=s):=by
  unfold wK;rw[List.any_map]
  congr 1
  funext p
  rwa[Ub _ _]
 rw[a];split
 ·unfold wK;rw[ajM,ajM];rwa[aj5 λp _=>?_]
  cbv
 ·unfold wK;rw[ajt];rfl
def LC (l:List (Int×Nat))(s t:Int)(r:Nat):fu (jM l s r) t=if t=s then some r else fu l t:=by
 let c:=kJ t (jM l s r);rw[<-Bd,lV,kJ]at c
 let inj:∀a b:Zi,(a.map λr:Nat=>V.int (r:Int))=(b.map λr:Nat=>V.int (r:Int))->a=b:=λa b h=>by
  cases a <;> cases b <;> simp at h ⊢
  ext
 apply inj;rw[<-c];cases e:t=s
 ·rw[ajn e,ajn (by rw[e])];rfl
 ·rw[ajk e,ajk (λz=>e (Sum.inl.inj z))]
def LD (l:List (Int×Nat))(s:Int)(r:Nat):⇑(jM l s r)<=⇑l+ 1:=by
 unfold jM;split
 ·rw[ai6];ext
 ·rw[ai3];rwa[aja _]
def QK (l:Zg)(s:Int):fe (gK l) (Sum.inl s)=gK (l.filter λx=>decide (x≠s)):=by
 unfold fe gK;rw[List.filter_map]
 congr 1
 rwa[amt λx _=>?_]
 cbv
theorem Iu (s:Int):∀l:Zg,bz (gK l) (Sum.inl s)=if s∈l then some (V.bl true) else none
 |[]=>rfl
 |x::l=>by
  cases h:x=s
  ·rw[ajn (by cbv)];rwa[cQ (p:=(Sum.inl x,V.bl true)) (by rw[h])]
  ·let e:bz (gK (x::l)) (Sum.inl s)=bz (gK l) (Sum.inl s):=cI (p:=(Sum.inl x,V.bl true)) (λz=>h (Sum.inl.inj z));rw[e,Iu s l]
   cbv
theorem y6:∀(more acc:List (Key×V)),((acc++more).map (·.1)).Nodup->iP acc more=acc++more
 |[],acc,_=>(ajm _).symm
 |p::more,acc,h=>by
  let b:bz acc p.1=none:=by unfold bz;rw[List.find?_eq_none.mpr ?_];rfl;intro q a;rw[ajZ];intro e;rw[ajt,aj0]at h;rwa[h.2.2 q.1 (ak5 a) p.1 (ak5 aji) e]
  show iP (putK acc p.1 p.2) more=_;rw[pY _ b,y6 more (acc++[(p.1,p.2)]) ([ajK]▸h),ajK];rfl
structure RA where
 dx:Zs
 aR:Zs
 aW:Zs
 aG:Zs
 aE:Zs
 aC:Zs
 aN:Zs
 rs:Zn
 ws:Zn
 gs:Zn
 cs:Zn
def fL (L made:Int)(a:RA):List (Str×V):=[("letters",.int L),("made",.int made),("rows",↑a.aR),("ways",↑a.aW),("gaps",↑a.aG),("elders",↑a.aE),("called",↑a.aC),("went",↑a.aN)]
def Iv (L m n:Int)(a:RA):bO "made" (.int n) (fL L m a)=fL L n a:=by
 let h:¬(("letters":Str)="made"):=⋯
 unfold fL;simp only[bO,ajk h,amx]
def vP (L m:Int)(a:RA):(fL L m a).lookup ("letters":Str)\(.int L):=by kernel_rfl
def tF (L m:Int)(a:RA):(fL L m a).lookup ("made":Str)\(.int m):=by kernel_rfl
def tG (L m:Int)(a:RA):(fL L m a).lookup ("rows":Str)\↑a.aR:=by kernel_rfl
def iu (L m:Int)(a:RA):(fL L m a).lookup ("ways":Str)\↑a.aW:=by kernel_rfl
def tH (L m:Int)(a:RA):(fL L m a).lookup ("gaps":Str)\↑a.aG:=by kernel_rfl
def jm (L m:Int)(a:RA):(fL L m a).lookup ("elders":Str)\↑a.aE:=by kernel_rfl
def m7 (L m:Int)(a:RA):(fL L m a).lookup ("called":Str)\↑a.aC:=by kernel_rfl
def tI (L m:Int)(a:RA):(fL L m a).lookup ("went":Str)\↑a.aN:=by kernel_rfl
def cS (L m:Int)(a:RA){x:Str}(h:x∉(["letters","made","rows","ways","gaps","elders","called","went"]:Zp)):(fL L m a).lookup x=none:=by simp only[ajs,ajR,akW,not_or]at h;let⟨f,d,i,e,g,b,j,c⟩:=h;unfold fL;simp only[List.lookup,ajA.mpr f,ajA.mpr d,ajA.mpr i,ajA.mpr e,ajA.mpr g,ajA.mpr b,ajA.mpr j,ajA.mpr c]
theorem dM:∀{fs:List (Str×V)},fs.lookup f=none->bO f q fs=fs++[(f,q)]
 |[],_=>rfl
 |(g,x)::r,h=>by
  cases e:g=f
  ·cbv
  ·let a:(f==g)=false:=ajA.mpr (akg e);simp only[List.lookup,a]at h;show (if g=f then _ else _)=_;rw[ajk e,dM h];rfl
inductive lZ:Dt->Prop where
 |i {n:Int}:lZ (.i n)
 |s {l:Zh}:lZ (.s l)
 |t {ds:List Dt}:⇑ds<=100000->(∀d∈ds,lZ d)->lZ (.t ds)
def bW.iw (q:∀a g,H a\.tup g->I a\.tup g){k:Nat}{v:V}{d:Dt}(h:bW H k v d)(m:lZ d):bW I k v d:=by
 induction h with
 |i=>exact .i
 |s=>exact .s
 |n=>exact .n
 |b=>exact .b
 |t a b c e=>
  cases m with
  |t _ o=>exact .t (q^a) b λj v d p f=>e j v d p f (o d (ai5 f))
 |l a b c e=>ext m
def Each {a:Type}(R:Zs->a->Prop)(b:Zn)(xs:List a):Prop:=⇑b=⇑xs/\∀(i:Nat)(p:Zs)(x:a),b[i]?\p->xs[i]?\x->R p x
def Each.imp {e:Type}{R c:Zs->e->Prop}{a:List e}(h:Each R F a)(f:∀p x,p∈F->x∈a->R p x->c p x):Each c F a:=⟨h.1,λi p x d b=>f p x (ai5 d) (ai5 b) (h.2 i p x d b)⟩
def Each.snoc {d:Type}{R:Zs->d->Prop}{ps:Zn}{xs:List d}{x:d}(h:Each R ps xs)(f:R a x):Each R (ps++[a]) (xs++[x]):=by
 rwa[⟨by rw[ai3,ai3,h.1];rfl,λi q y c b=>?_⟩];cases e:i<⇑ps
 ·rw[ajd e]at c;rw[ajd (by rw[<-h.1];rwa[e])]at b;rwa[h.2 i q y c b]
 ·rw[ajg ∅]at c;rw[ajg (by rw[<-h.1];omega)]at b;rw[ai9.mp (ai5 c),ai9.mp (ai5 b)];rwa[f]
def Each.at {a:Type}{R:Zs->a->Prop}{b:List a}(h:Each R F b){i:Nat}{x:a}(d:b[i]?\x):∃p,F[i]?\p/\R p x:=by
 let c:i<⇑F:=by rw[h.1];rwa[(ai4.mp d).1]
 rwa[_,ai1 c,h.2 i _ x (ai1 c) d]
def Each.mem {b:Type}{R:Zs->b->Prop}{xs:List b}(h:Each R F xs){p:Zs}(d:p∈F):∃x,x∈xs/\R p x:=by
 let⟨i,c⟩:=aj1 d;let a:i<⇑xs:=by rw[<-h.1];rwa[(ai4.mp c).1]
 rwa[_,ai5 (ai1 a),h.2 i p _ c (ai1 a)]
theorem Each.set {g:Type}{R k:Zs->g->Prop}{xs:List g}{x:g}(h:Each R F xs)(d:F[i]?\a)(m:k a x)(n:F.Nodup)(f:∀q y,q∈F->q≠a->R q y->k q y):Each k F (xs.set i x):=by
 rwa[⟨[aju]▸h.1,λj q y b c=>?_⟩];cases e:i=j
 ·subst e;rw[d]at b;obtain rfl:=Za0 b;let l:i<⇑xs:=by rw[<-h.1];rwa[(ai4.mp d).1]
  rw[ajE l]at c;obtain rfl:=Za0 c;rwa[m]
 ·rw[ajS e]at c;rwa[f q y (ai5 b) (λz=>?_) (h.2 j q y b c)];subst z;rwa[e ((ak2 (ai4.mp d).1 n).mp (d.trans b.symm))]
def RA.lists (a:RA):Zn:=a.aR::a.aW::a.aG::a.aE::a.aC::a.aN::a.cs
def RA.eQ (a:RA):Zn:=a.ws++a.gs
def RA.own (a:RA)(r b:Zs):Prop:=b=r\/b∈a.lists\/b∈a.eQ
structure ay (C:Zs)(H:Hp)(r:Zs)(S:RS)(a:RA):Prop where
 ins:H r\(.ins C a.dx (fL S.L S.q a))
 hR:H a.aR\(.lst (a.rs.map V.ref))
 hW:H a.aW\(.lst (a.ws.map V.ref))
 hG:H a.aG\(.lst (a.gs.map V.ref))
 hE:H a.aE\(.lst (ao (nI S.aY)))
 hC:H a.aC\(.lst (a.cs.map V.ref))
 hN:H a.aN\(.lst (ao (nI S.aZ)))
 rR:Each (λp d=>bW H 4 ↑p d) a.rs S.rows
 rW:Each (λp l=>H p\.dK (wK l)) a.ws S.ways
 rG:Each (λp l=>H p\.dK (gK l)) a.gs S.gaps
 rC:Each (λp l=>H p\.lst (ao (nI l))) a.cs S.called
 flat:∀d∈S.rows,lZ d
 iH:a.lists.Nodup
 l0:a.eQ.Nodup
variable {C:Zs}{H H':Hp}{r:Zs}{S:RS}{a:RA}
def ay.keep (h:ay C H r S a)(k:∀b o,a.own r b->H b\o->H' b\o)(j:∀b g,H b\.tup g->H' b\.tup g):ay C H' r S a:=by
 let c:∀b o,b∈a.lists->H b\o->H' b\o:=λb o f=>k b o (.inr (.inl f))
 let i:∀b o,b∈a.eQ->H b\o->H' b\o:=λb o f=>k b o (.inr (.inr f))
 rwa[k _ _ (.inl rfl) h.ins,c _ _ (by simp[RA.lists]) h.hR,c _ _ (by simp[RA.lists]) h.hW,c _ _ (by simp[RA.lists]) h.hG,c _ _ (by simp[RA.lists]) h.hE,c _ _ (by simp[RA.lists]) h.hC,c _ _ (by simp[RA.lists]) h.hN,h.rR.imp λp x _ l e=>e.iw j (h.flat x l),h.rW.imp λp x d _ e=>i _ _ (ajx _ d) e,h.rG.imp λp x d _ e=>i _ _ (ajf _ d) e,h.rC.imp λp x d _ e=>c _ _ (by simp[RA.lists,d]) e,h.flat,h.iH,h.l0]
def ay.same (h:ay C H r S a)(s:aq H H'):ay C H' r S a:=h.keep (λ_ _ _ e=>s^e) (λ_ _ e=>s^e)
def ay.there (h:ay C H r S a){b:Zs}(c:a.own r b):∃o,H b\o:=by
 rcases c with rfl|c|c
 ·rwa[⟨_,h.ins⟩]
 ·unfold RA.lists at c;simp only[ajs]at c;rcases c with rfl|rfl|rfl|rfl|rfl|rfl|c
  ·rwa[⟨_,h.hR⟩]
  ·rwa[⟨_,h.hW⟩]
  ·rwa[⟨_,h.hG⟩]
  ·rwa[⟨_,h.hE⟩]
  ·rwa[⟨_,h.hC⟩]
  ·rwa[⟨_,h.hN⟩]
  ·let⟨x,_,e⟩:=h.rC.mem c;rwa[_,e]
 ·rcases ajh.mp c with c|c
  ·let⟨x,_,e⟩:=h.rW.mem c;rwa[_,e]
  ·let⟨x,_,e⟩:=h.rG.mem c;rwa[_,e]
def ay.tJ (h:ay C H r S a){b:Zs}{f:Zb}(e:H b\.tup f):¬a.own r b:=λc=>by
 rcases c with rfl|c|c
 ·rw[h.ins]at e;ext e
 ·unfold RA.lists at c;simp only[ajs]at c;rcases c with rfl|rfl|rfl|rfl|rfl|rfl|c
  ·rw[h.hR]at e;ext e
  ·rw[h.hW]at e;ext e
  ·rw[h.hG]at e;ext e
  ·rw[h.hE]at e;ext e
  ·rw[h.hC]at e;ext e
  ·rw[h.hN]at e;ext e
  ·let⟨x,_,d⟩:=h.rC.mem c;cbv
 ·rcases ajh.mp c with c|c
  ·let⟨x,_,d⟩:=h.rW.mem c;cbv
  ·let⟨x,_,d⟩:=h.rG.mem c;cbv
end L2
variable {S T:L2.RS}{O:L2.RA}
namespace L2
section
variable {C:Zs}{H:Hp}{r:Zs}{S:RS}{a:RA}
def fV:a.aR∈a.lists:=by simp[RA.lists]
def fW:a.aW∈a.lists:=by simp[RA.lists]
def iX:a.aG∈a.lists:=by simp[RA.lists]
def gG:a.aE∈a.lists:=by simp[RA.lists]
def iA:a.aC∈a.lists:=by simp[RA.lists]
def g6:a.aN∈a.lists:=by simp[RA.lists]
def fZ (h:b∈a.cs):b∈a.lists:=by simp[RA.lists,h]
def dz (h:b∈a.ws):b∈a.eQ:=ajx _ h
def gb (h:b∈a.gs):b∈a.eQ:=ajf _ h
def ay.Og (h:ay C H r S a){b:Zs}(c:b∈a.lists):∃d,H b\(.lst d):=by
 unfold RA.lists at c;simp only[ajs]at c;rcases c with rfl|rfl|rfl|rfl|rfl|rfl|c
 ·rwa[⟨_,h.hR⟩]
 ·rwa[⟨_,h.hW⟩]
 ·rwa[⟨_,h.hG⟩]
 ·rwa[⟨_,h.hE⟩]
 ·rwa[⟨_,h.hC⟩]
 ·rwa[⟨_,h.hN⟩]
 ·let⟨x,_,e⟩:=h.rC.mem c;rwa[_,e]
def ay.qJ (h:ay C H r S a){b:Zs}(c:b∈a.eQ):∃d,H b\(.dK d):=by
 rcases ajh.mp c with c|c
 ·let⟨x,_,e⟩:=h.rW.mem c;rwa[_,e]
 ·let⟨x,_,e⟩:=h.rG.mem c;rwa[_,e]
def ay.rl (h:ay C H r S a){b:Zs}(c:b∈a.lists):r≠b:=by let⟨d,e⟩:=h.Og c;rwa[bS h.ins e (by cbv)]
def ay.rd (h:ay C H r S a){b:Zs}(c:b∈a.eQ):r≠b:=by let⟨d,e⟩:=h.qJ c;rwa[bS h.ins e (by cbv)]
def ay.ld (h:ay C H r S a){b c:Zs}(d:b∈a.lists)(hc:c∈a.eQ):b≠c:=by
 let⟨f,e⟩:=h.Og d;let⟨ys,g⟩:=h.qJ hc
 cbv
def ay.tl (h:ay C H r S a){b c:Zs}{d:Zb}(e:H b\.tup d)(hc:c∈a.lists):b≠c:=λz=>h.tJ e (.inr (.inl ([z]▸hc)))
def ay.td (h:ay C H r S a){b c:Zs}{d:Zb}(e:H b\.tup d)(hc:c∈a.eQ):b≠c:=λz=>h.tJ e (.inr (.inr ([z]▸hc)))
def ay.tr (h:ay C H r S a){b:Zs}{c:Zb}(d:H b\.tup c):b≠r:=λz=>h.tJ d (.inl z)
def ay.QL (h:ay C H r S a)(n:Nat):ay C (upd H r (.ins C a.dx (fL S.L n a))) r { S with q:=n } a:=by
 let c:∀b o,b∈a.lists->H b\o->upd H r (.ins C a.dx (fL S.L n a)) b\o:=λb o f e=>by rw[ak (h.rl f).symm];rwa[e]
 let g:∀b o,b∈a.eQ->H b\o->upd H r (.ins C a.dx (fL S.L n a)) b\o:=λb o f e=>by rw[ak (h.rd f).symm];rwa[e]
 rwa[aj,c _ _ fV h.hR,c _ _ fW h.hW,c _ _ iX h.hG,c _ _ gG h.hE,c _ _ iA h.hC,c _ _ g6 h.hN,h.rR.imp λp x _ j e=>e.iw (λb k i=>[ak (h.tr i)]▸i) (h.flat x j),h.rW.imp λp x d _ e=>g _ _ (dz d) e,h.rG.imp λp x d _ e=>g _ _ (gb d) e,h.rC.imp λp x d _ e=>c _ _ (fZ d) e,h.flat,h.iH,h.l0]
def ay.jn (h:ay C H r S a){q:Zs}{o:HO}(c:q∈a.lists):upd H q o r\.ins C a.dx (fL S.L S.q a)/\(∀b x,b∈a.lists->b≠q->H b\x->upd H q o b\x)/\(∀b x,b∈a.eQ->H b\x->upd H q o b\x)/\∀b d,H b\.tup d->upd H q o b\(.tup d):=⟨[ak (h.rl c)]▸h.ins,λb x _ n e=>[ak n]▸e,λb x f e=>[ak (h.ld c f).symm]▸e,λb d e=>[ak (h.tl e c)]▸e⟩
def vQ (b:a.lists.Nodup):(a.aR≠a.aW/\a.aR≠a.aG/\a.aR≠a.aE/\a.aR≠a.aC/\a.aR≠a.aN)/\(a.aW≠a.aG/\a.aW≠a.aE/\a.aW≠a.aC/\a.aW≠a.aN)/\(a.aG≠a.aE/\a.aG≠a.aC/\a.aG≠a.aN)/\(a.aE≠a.aC/\a.aE≠a.aN)/\a.aC≠a.aN/\∀p∈a.cs,p≠a.aR/\p≠a.aW/\p≠a.aG/\p≠a.aE/\p≠a.aC/\p≠a.aN:=by
 unfold RA.lists at b
 cbv
def ay.Be (h:ay C H r S a){p:Zs}{d:Dt}(j:bW H 4 ↑p d)(hd:lZ d):ay C (upd H a.aR (.lst (a.rs.map V.ref++[↑p]))) r { S with rows:=S.rows++[d] } { a with rs:=a.rs++[p] }:=by
 let⟨m,c,i,g⟩:=h.jn (o:=.lst (a.rs.map V.ref++[↑p])) (fV (a:=a));obtain⟨⟨n1,n2,n,s,k⟩,-,-,-,-,l⟩:=vQ h.iH
 rwa[⟨m,5,c _ _ fW n1.symm h.hW,c _ _ iX n2.symm h.hG,c _ _ gG n.symm h.hE,c _ _ iA s.symm h.hC,c _ _ g6 k.symm h.hN,(h.rR.imp λq x _ f e=>e.iw g (h.flat x f)).snoc (j.iw g hd),h.rW.imp λq x b _ e=>i _ _ (dz b) e,h.rG.imp λq x b _ e=>i _ _ (gb b) e,h.rC.imp λq x b _ e=>c _ _ (fZ b) (l q b).1 e,λx f=>?_,h.iH,h.l0⟩]
 ·rw[aj,ajt];rfl
 ·rcases ajh.mp f with f|f
  ·rwa[h.flat x f]
  cbv
def ay.Uc (h:ay C H r S a){p:Zs}{l:List (Int×Nat)}(g:H p\.dK (wK l))(t:p∉a.eQ):ay C (upd H a.aW (.lst (a.ws.map V.ref++[↑p]))) r { S with ways:=S.ways++[l] } { a with ws:=a.ws++[p] }:=by
 let⟨j,c,f,n⟩:=h.jn (o:=.lst (a.ws.map V.ref++[↑p])) (fW (a:=a));obtain⟨⟨n1,-⟩,⟨n2,k,m,i⟩,-,-,-,u⟩:=vQ h.iH;let d:upd H a.aW (.lst (a.ws.map V.ref++[↑p])) p\(.dK (wK l)):=by rw[ak (bS g h.hW f!"")];rwa[g]
 erw[j,c _ _ fV n1 h.hR,5,c _ _ iX n2.symm h.hG,c _ _ gG k.symm h.hE,c _ _ iA m.symm h.hC,c _ _ g6 i.symm h.hN,h.rR.imp λq x _ s e=>e.iw n (h.flat x s),(h.rW.imp λq x b _ e=>f _ _ (dz b) e).snoc d,h.rG.imp λq x b _ e=>f _ _ (gb b) e,h.rC.imp λq x b _ e=>c _ _ (fZ b) (u q b).2.1 e,h.flat,h.iH]
 ·show upd H a.aW _ a.aW\.lst ((a.ws++[p]).map V.ref);rw[aj,ajt];rfl
 ·show (a.ws++[p]++a.gs).Nodup;rw[ajK];rwa[(List.perm_middle.nodup_iff).mpr (ajO.mpr ⟨t,h.l0⟩)]
def ay.Ud (h:ay C H r S a){p:Zs}{l:Zg}(i:H p\.dK (gK l))(u:p∉a.eQ):ay C (upd H a.aG (.lst (a.gs.map V.ref++[↑p]))) r { S with gaps:=S.gaps++[l] } { a with gs:=a.gs++[p] }:=by
 let⟨k,c,g,s⟩:=h.jn (o:=.lst (a.gs.map V.ref++[↑p])) (iX (a:=a));obtain⟨⟨-,n1,-⟩,⟨n2,-⟩,⟨m,n,j⟩,-,-,v⟩:=vQ h.iH;let d:upd H a.aG (.lst (a.gs.map V.ref++[↑p])) p\(.dK (gK l)):=by rw[ak (bS i h.hG (by cbv))];rwa[i]
 erw[k,c _ _ fV n1 h.hR,c _ _ fW n2 h.hW,5,c _ _ gG m.symm h.hE,c _ _ iA n.symm h.hC,c _ _ g6 j.symm h.hN,h.rR.imp λq x _ f e=>e.iw s (h.flat x f),h.rW.imp λq x b _ e=>g _ _ (dz b) e,(h.rG.imp λq x b _ e=>g _ _ (gb b) e).snoc d,h.rC.imp λq x b _ e=>c _ _ (fZ b) (v q b).2.2.1 e,h.flat,h.iH]
 ·rw[aj,ajt];rfl
 ·show (a.ws++(a.gs++[p])).Nodup;rw[<-ajK];rwa[aj0.mpr ⟨h.l0,by simp,λx f y t z=>?_⟩];rw[ai9.mp t]at z;rwa[u (z ▸ f)]
def ay.y7 (h:ay C H r S a)(d:Zh):ay C (upd H a.aE (.lst (ao (nI d)))) r { S with aY:=d } a:=by
 let⟨k,c,f,g⟩:=h.jn (o:=.lst (ao (nI d))) (gG (a:=a));obtain⟨⟨-,-,n1,-⟩,⟨-,n2,-⟩,⟨l,-⟩,⟨n,i⟩,-,j⟩:=vQ h.iH
 rwa[k,c _ _ fV n1 h.hR,c _ _ fW n2 h.hW,c _ _ iX l h.hG,aj,c _ _ iA n.symm h.hC,c _ _ g6 i.symm h.hN,h.rR.imp λq x _ m e=>e.iw g (h.flat x m),h.rW.imp λq x b _ e=>f _ _ (dz b) e,h.rG.imp λq x b _ e=>f _ _ (gb b) e,h.rC.imp λq x b _ e=>c _ _ (fZ b) (j q b).2.2.2.1 e,h.flat,h.iH,h.l0]
def ay.QM (h:ay C H r S a)(d:Zh):ay C (upd H a.aN (.lst (ao (nI d)))) r { S with aZ:=d } a:=by
 let⟨k,c,f,g⟩:=h.jn (o:=.lst (ao (nI d))) (g6 (a:=a));obtain⟨⟨-,-,-,-,n1⟩,⟨-,-,-,n2⟩,⟨-,-,l⟩,⟨-,n⟩,i,j⟩:=vQ h.iH
 rwa[k,c _ _ fV n1 h.hR,c _ _ fW n2 h.hW,c _ _ iX l h.hG,c _ _ gG n h.hE,c _ _ iA i h.hC,aj,h.rR.imp λq x _ m e=>e.iw g (h.flat x m),h.rW.imp λq x b _ e=>f _ _ (dz b) e,h.rG.imp λq x b _ e=>f _ _ (gb b) e,h.rC.imp λq x b _ e=>c _ _ (fZ b) (j q b).2.2.2.2.2 e,h.flat,h.iH,h.l0]
def ay.Iw (h:ay C H r S a){p:Zs}{l:Zh}(u:H p\.lst (ao (nI l)))(j:p∉a.lists):ay C (upd H a.aC (.lst (a.cs.map V.ref++[↑p]))) r { S with called:=S.called++[l] } { a with cs:=a.cs++[p] }:=by
 let⟨m,c,i,t⟩:=h.jn (o:=.lst (a.cs.map V.ref++[↑p])) (iA (a:=a));obtain⟨⟨-,-,-,n1,-⟩,⟨-,-,n2,-⟩,⟨-,n,-⟩,⟨s,-⟩,k,w⟩:=vQ h.iH;let f:p≠a.aC:=λz=>j ([z]▸iA)
 let d:upd H a.aC (.lst (a.cs.map V.ref++[↑p])) p\(.lst (ao (nI l))):=by rw[ak f];rwa[u]
 rwa[⟨m,c _ _ fV n1 h.hR,c _ _ fW n2 h.hW,c _ _ iX n h.hG,c _ _ gG s h.hE,5,c _ _ g6 k.symm h.hN,h.rR.imp λq x _ g e=>e.iw t (h.flat x g),h.rW.imp λq x b _ e=>i _ _ (dz b) e,h.rG.imp λq x b _ e=>i _ _ (gb b) e,(h.rC.imp λq x b _ e=>c _ _ (fZ b) (w q b).2.2.2.2.1 e).snoc d,h.flat,5,h.l0⟩]
 ·show upd H a.aC _ a.aC\.lst ((a.cs++[p]).map V.ref);rw[aj,ajt];rfl
 ·show (a.lists++[p]).Nodup;rwa[aj0.mpr ⟨h.iH,by simp,λx g y v z=>?_⟩];rw[ai9.mp v]at z;rwa[j (z ▸ g)]
def ay.Iy (h:ay C H r S a){i:Nat}{p:Zs}(g:a.cs[i]?\p)(l:Zh):ay C (upd H p (.lst (ao (nI l)))) r { S with called:=S.called.set i l } a:=by
 let j:=ai5 g;let⟨m,b,f,u⟩:=h.jn (o:=.lst (ao (nI l))) (fZ j);obtain⟨-,-,-,-,-,z⟩:=vQ h.iH;let⟨n1,n2,s,t,k,v⟩:=z p j
 let d:a.cs.Nodup:=by have:=h.iH;unfold RA.lists at this;simp only[ajO]at this;rwa[this.2.2.2.2.2.2]
 rwa[m,b _ _ fV n1.symm h.hR,b _ _ fW n2.symm h.hW,b _ _ iX s.symm h.hG,b _ _ gG t.symm h.hE,b _ _ iA k.symm h.hC,b _ _ g6 v.symm h.hN,h.rR.imp λq x _ w e=>e.iw u (h.flat x w),h.rW.imp λq x c _ e=>f _ _ (dz c) e,h.rG.imp λq x c _ e=>f _ _ (gb c) e,h.rC.set g aj d λq y c n e=>b _ _ (fZ c) n e,h.flat,h.iH,h.l0]
def ay.Eu (h:ay C H r S a){q:Zs}{o:HO}(c:q∈a.eQ):upd H q o r\.ins C a.dx (fL S.L S.q a)/\(∀b x,b∈a.eQ->b≠q->H b\x->upd H q o b\x)/\(∀b x,b∈a.lists->H b\x->upd H q o b\x)/\∀b d,H b\.tup d->upd H q o b\(.tup d):=⟨[ak (h.rd c)]▸h.ins,λb x _ n e=>[ak n]▸e,λb x f e=>[ak (h.ld f c)]▸e,λb d e=>[ak (h.td e c)]▸e⟩
def ay.Bf (h:ay C H r S a){i:Nat}{p:Zs}(f:a.ws[i]?\p)(l:List (Int×Nat)):ay C (upd H p (.dK (wK l))) r { S with ways:=S.ways.set i l } a:=by
 let g:=ai5 f;let⟨j,d,b,k⟩:=h.Eu (o:=.dK (wK l)) (dz g);let nd:=aj0.mp h.l0
 rwa[j,b _ _ fV h.hR,b _ _ fW h.hW,b _ _ iX h.hG,b _ _ gG h.hE,b _ _ iA h.hC,b _ _ g6 h.hN,h.rR.imp λq x _ m e=>e.iw k (h.flat x m),h.rW.set f aj nd.1 λq y c n e=>d _ _ (dz c) n e,h.rG.imp λq x c _ e=>d _ _ (gb c) (λz=>nd.2.2 p g q c z.symm) e,h.rC.imp λq x c _ e=>b _ _ (fZ c) e,h.flat,h.iH,h.l0]
def ay.Ue (h:ay C H r S a){i:Nat}{p:Zs}(f:a.gs[i]?\p)(l:Zg):ay C (upd H p (.dK (gK l))) r { S with gaps:=S.gaps.set i l } a:=by
 let g:=ai5 f;let⟨j,d,b,k⟩:=h.Eu (o:=.dK (gK l)) (gb g);let nd:=aj0.mp h.l0
 rwa[j,b _ _ fV h.hR,b _ _ fW h.hW,b _ _ iX h.hG,b _ _ gG h.hE,b _ _ iA h.hC,b _ _ g6 h.hN,h.rR.imp λq x _ m e=>e.iw k (h.flat x m),h.rW.imp λq x c _ e=>d _ _ (dz c) (λz=>nd.2.2 q c p g z) e,h.rG.set f aj nd.2.1 λq y c n e=>d _ _ (gb c) n e,h.rC.imp λq x c _ e=>b _ _ (fZ c) e,h.flat,h.iH,h.l0]
end
def RS.ka (S:RS)(i:Nat)(l:List (Int×Nat)):RS:={ S with ways:=S.ways.set i l }
def RS.setG (S:RS)(i:Nat)(l:Zg):RS:={ S with gaps:=S.gaps.set i l }
def RS.way (S:RS)(c:Nat):List (Int×Nat):=S.ways.getD c []
def RS.gap (S:RS)(c:Nat):Zg:=S.gaps.getD c []
def RS.by (S:RS)(c:Nat)(z:Int):Zi:=fu (S.way c) z
def RS.cE (S:RS)(c:Nat)(z:Int)(d:Nat):RS:=S.ka c (jM (S.way c) z d)
def RS.lB (S:RS)(c:Nat)(z:Int):RS:=S.setG c ((S.gap c).filter λx=>decide (x≠z))
def RS.keep (S:RS)(c:Nat)(z:Int)(d:Nat):RS:=(((S.cE c z d).cE d (-z) c).lB c z).lB d (-z)
def rK (c:Nat)(z:Int)(n:Nat):Dt:=.t [.s [110,101,119],.i c,.i z,.i n]
def RS.grown (S:RS)(c:Nat)(z:Int)(gaps:Zg):RS:={ S with q:=S.q+ 1,rows:=S.rows++[rK c z S.q],ways:=S.ways++[[]],gaps:=S.gaps++[gaps],aY:=S.aY++[S.q],called:=S.called++[[S.q]] }
def RS.make (S:RS)(c:Nat)(z:Int)(gaps:Zg):RS:=(S.grown c z gaps).keep c z S.q
def RS.new (L:Nat)(gaps:Zg):RS:=⟨L,(1),[],[[]],[gaps],[0],[[0]],[]⟩
structure RS.Wf (S:RS):Prop where
 w:⇑S.ways=S.q
 g:⇑S.gaps=S.q
 e:⇑S.aY=S.q
 c:⇑S.called=S.q
section
variable {X:Cx}{e:Expr}{f:Str}{ta:TE}{pos:Pos}
def QN (a:X.K=K)(b:PE X e ta)(c:attributeBase e f X.env (eval e X.env)=eval e X.env):PE X (.Attribute e f pos) (SF K ta f):=by subst a;rwa[aH b c]
end
def m9 {J:It}{Q:VK}(n:Nat)(u:Nat->V)(R:Hp->V->Nat->Prop)(G:∀q b v i,aq q b->R q v i->R b v i)(p:n<=sizeLine)(l:∀(i:Nat) b,aq H b->i<n->J.go i b)(C:∀(i:Nat) (x:V) (b d:Hp),aq H b->i<n->J.ro i b x d->d=b/\x=u i)(g:∀b,aq H b->J.stop n b)(E:∀(i:Nat) (b:Hp) (y:VK),i<n->aq H b->(∀v d,aq b d->R d v i->y v d)->r (some (u i)::D) b y)(z:∀a b ys,aq H b->b a=none->⇑ys=n->(∀(i:Nat) (v:V),ys[i]?\v->R b v i)->Q ↑a (upd b a (.lst ys))):kI r D Q J H:=by
 erw[λi m ys b=>m=n - i/\i<=n/\⇑ys=i/\aq H b/\∀(j:Nat)(v:V),ys[j]?\v->R b v j,⟨n,by simp,ajB _,2,λ_ _ e=>e,λj v h=>by simp at h⟩];rintro i m ys b ⟨rfl,M,s,s2,t⟩;cases c:i<n
 ·rwa[.inr ⟨l i b s2 c,3,λx d k=>?_⟩];let⟨rfl,rfl⟩:=C i x b d s2 c k;rwa[E i _ _ c s2 λv L o F=>⟨n - (i+ 1),32,c,by rw[ai3,s];rfl,s2.trans o,λj w f=>?_⟩]
  cases I:j<⇑ys
  ·rw[ajd I]at f;rwa[G _ _ _ _ o (t j w f)]
  ·rw[ajg ∅]at f
   let B:j - ⇑ys=0:=by have:=(ai4.mp f).1;rw[aj2]at this;ext
   rw[B]at f;have:j=i:=∅
   subst this;rw[<-Za0 f];rwa[F]
 ·let e:i=n:=∅
  subst e;rwa[.inl ⟨g b s2,3,λa A=>z a b ys s2 A s t⟩]
theorem tK {P:Nat->Zs->Prop}:∀(ys:Zb)(k:Nat),(∀(i:Nat)(v:V),ys[i]?\v->∃p,v=↑p/\P (k+ i) p)->∃a:Zn,ys=a.map V.ref/\∀(i:Nat)(p:Zs),a[i]?\p->P (k+ i) p
 |[],_,_=>⟨[],2,λi p h=>by simp at h⟩
 |v::ys,k,h=>by
  let⟨p,rfl,f⟩:=h 0 v rfl
  let⟨a,rfl,b⟩:=tK (P:=P) ys (k+ 1) λi w c=>by
   let⟨q,e,d⟩:=h (i+ 1) w (by simpa using c)
   cbv
  rwa[⟨p::a,2,λi q d=>?_⟩]
  cases i with
  |zero=>cbv
  |succ i=>cbv
theorem jo {f:Str}{v:V}{n:Nat}:∀{fs:List (Str×V)},⇑fs<=n->⇑(bO f v fs)<=n+ 1
 |[],h=>by show 1<=n+ 1;ext
 |(g,x)::r,h=>by
  show ⇑(if g=f then (g,v)::r else (g,x)::bO f v r)<=n+ 1;rw[ajo]at h;split
  ·rw[ajo];ext
  ·have:=jo (f:=f) (v:=v) (n:=n - 1) (fs:=r) ∅;rw[ajo];ext
def zR (K:Za1):kitOne K (.type "int") (.type "tuple")\false:=by first|rfl|kernel_rfl
def Bg (K:Za1):kitOne K (.type "int") (.type "list")\false:=by first|rfl|kernel_rfl
def Bh (K:Za1):kitOne K (.type "int") (.type "dict")\false:=by first|rfl|kernel_rfl
def zS (K:Za1):kitOne K (.type "str") (.type "tuple")\false:=by first|rfl|kernel_rfl
def Bi (K:Za1):kitOne K (.type "str") (.type "list")\false:=by first|rfl|kernel_rfl
def Bj (K:Za1):kitOne K (.type "str") (.type "dict")\false:=by first|rfl|kernel_rfl
theorem rL:∀{d:List DictEntry}{f:List (Key×Zt)}{c:List (Key×V)},Pairs (bY P w) d f->KV c f->Vals (c.map λi=>kV i.1) (d.map (·.key))
 |[],_,_,.nil,r=>by ext r;rwa[.nil]
 |e::d,_,_,.cons g j h,r=>by
  cases r with
  |cons a b=>rw[aki,aki];rwa[.cons ?_ (rL h b)];rw[a.1];rwa[QJ g]
theorem pairs_len:∀{b:List DictEntry}{a:List (Key×Zt)},Pairs (bY P w) b a->⇑b=⇑a
 |_,_,.nil=>rfl
 |_,_,.cons _ _ h=>by rw[ajo,ajo,pairs_len h]
section
variable {X:Cx}
inductive Iz (xs:Zb)(H:Hp)(Q:VK):Prop
 |mk (d:Zs)(kvs:List (Key×V)):xs=[↑d]->H d\.dK kvs->(∀l,H l=none->Q ↑l (upd H l (.lst (kvs.map λkv=>kV kv.1))))->Iz xs H Q
def jN (O:X.calm=true):gZ X (.type "list") Iz:=by
 intro w s U H S Y Q I r h;let⟨d,c,rfl,x,q⟩:=h;let⟨u,rfl,G⟩:=vals1 r;ext G;let⟨C,n,A,rel,o,g,W,E,k,e,R,t,V⟩:=tD I.aU x;let hlen:⇑c=⇑A:=⇑rel;let m:=pairs_len t;let D:g.size=⇑c:=by rw[<-ak3,m,hlen]
 rwa[Dk.yZ (I.ok.hd O) n ⟨o,E,k,e⟩ ∅ λF z a y l f b=>?_]
 let N:a.toList=g.toList.map (·.key):=by
  rwa[akO λi=>?_]
  rw[akR,ajc,akR]
  cases j:a[i]? with
  |none=>
   let L:g.size<=i:=by let p:a.size<=i:=Array.getElem?_eq_none_iff.mp j;rw[b.1]at p;rwa[p]
   rw[Array.getElem?_eq_none L];rfl
  |some v=>let⟨T,M,rfl⟩:=b.2 i v j;rw[M];rfl
 let B:a=(g.toList.map (·.key)).toArray:=by rw[<-N]
 rw[B]at f;let j:=rL t rel;rwa[↑↥s,_,I.laid (t':=z) l (aja _) (show b6 X.prog X.w _ F _ (.lst (c.map λJ=>kV J.1)) from ⟨[ai6]▸C,_,y,j,f⟩),2,q _ (I.aU.fresh (aja _))]
end
section
variable {C:Zs}{H:Hp}{r:Zs}{S:RS}{a:RA}
theorem ay.Ug (h:ay C H r S a){i:Nat}(v:i<⇑a.ws){q:Zs}{l:List (Int×Nat)}(d:H q\.dK (wK l))(w:q∉a.eQ):ay C (upd H a.aW (.lst ((a.ws.map V.ref).set i ↑q))) r { S with ways:=S.ways.set i l } { a with ws:=a.ws.set i q }:=by
 let⟨D,g,n,G⟩:=h.jn (o:=.lst ((a.ws.map V.ref).set i ↑q)) (fW (a:=a));obtain⟨⟨n1,-⟩,⟨n2,E,F,B⟩,-,-,-,Q⟩:=vQ h.iH;let k:upd H a.aW (.lst ((a.ws.map V.ref).set i ↑q)) q\(.dK (wK l)):=by rw[ak (bS d h.hW f!"")];rwa[d]
 let nd:=aj0.mp h.l0
 erw[D,g _ _ fV n1 h.hR,5,g _ _ iX n2.symm h.hG,g _ _ gG E.symm h.hE,g _ _ iA F.symm h.hC,g _ _ g6 B.symm h.hN,h.rR.imp λq x _ f e=>e.iw G (h.flat x f),5,h.rG.imp λq x d _ e=>n _ _ (gb d) e,h.rC.imp λq x d _ e=>g _ _ (fZ d) (Q q d).2.1 e,h.flat,h.iH]
 ·show upd H a.aW _ a.aW\.lst ((a.ws.set i q).map V.ref);rw[aj,List.map_set]
 ·rwa[⟨by show ⇑(a.ws.set i q)=⇑(S.ways.set i l);rw[aju,aju];rwa[h.rW.1],λj p x O L=>?_⟩];let b:(a.ws.set i q)[j]?\p:=O
  let c:(S.ways.set i l)[j]?\x:=L
  cases z:i=j
  ·subst z;rw[ajE v]at b;rw[ajE (by rw[<-h.rW.1];rwa[v])]at c;obtain rfl:=Za0 b;obtain rfl:=Za0 c;rwa[k]
  ·rw[ajS z]at b c;rwa[n _ _ (dz (ai5 b)) (h.rW.2 j p x b c)]
 ·show (a.ws.set i q++a.gs).Nodup;let M:q∉a.ws:=λz=>w (ajx _ z)
  let s:q∉a.gs:=λz=>w (ajf _ z)
  rwa[aj0.mpr ⟨5,nd.2.1,λx f y u z=>?_⟩]
  ·have:∀(l:Zn)(i:Nat),l.Nodup->q∉l->(l.set i q).Nodup:=by
    intro l
    induction l with
    |nil=>intro i _ _;simp
    |cons x l P=>
     intro i I m;let⟨N,t⟩:=ajO.mp I;let J:q≠x:=λz=>m ([z]▸aji)
     let A:q∉l:=λz=>m (ajw _ z)
     cases i with
     |zero=>exact ajO.mpr ⟨A,t⟩
     |succ i=>
      rwa[ajO.mpr ⟨λz=>?_,P i t A⟩];rcases alg z with z|z
      ·rwa[N z]
      ·rwa[J z.symm]
   rwa[this a.ws i nd.1 M]
  ·rcases alg f with f|f
   ·rwa[nd.2.2 x f y u z]
   ·rw[<-f,z]at s;rwa[s u]
end
def QO (l:List (Int×Nat))(s:Int):fe (wK l) (Sum.inl s)=wK (l.filter λp=>decide (p.1≠s)):=by
 unfold fe wK;rw[List.filter_map]
 congr 1
 rwa[amt λx _=>?_]
 cbv
def IA (l:List (Int×Nat))(s t:Int):fu (l.filter λp=>decide (p.1≠s)) t=if t=s then none else fu l t:=by
 induction l with
 |nil=>split <;> rfl
 |cons p l a=>
  let b:∀(q:Int×Nat)(m:List (Int×Nat)),fu (q::m) t=if q.1=t then some q.2 else fu m t:=λq m=>by
   unfold fu
   cbv
  cbv
abbrev Way:=Nat×Int×Nat
abbrev Ze:=List Way
def RS.ax (S:RS)(c:Nat):Nat:=S.aY.getD c 0
def RS.cF (S:RS)(c:Nat):Zh:=S.called.getD c []
def gP (c:Nat)(z:Int)(x y:Nat):Dt:=.t [.s [109,101,101,116],.i c,.i z,.i x,.i y]
def RS.joined (S:RS)(c:Nat)(z:Int)(x y:Nat):RS:={ S with rows:=S.rows++[gP c z x y],aZ:=S.aZ++[y],aY:=(S.cF y).foldl (λa n=>a.set n x) S.aY,called:=S.called.set x (S.cF x++S.cF y) }
def RS.oM (S:RS)(c:Nat)(z:Int):RS:=S.ka c ((S.way c).filter λp=>decide (p.1≠z))
def jq (c:Nat)(st:RS×Ze)(p:Int×Nat):RS×Ze:=(if p.2≠c then st.1.oM p.2 (-p.1) else st.1,st.2++[(c,p.1,p.2)])
def RS.oN (S:RS)(c:Nat)(a:Ze):RS×Ze:=(S.way c).foldl (jq c) (S.ka c [],a)
def RS.meet (S:RS)(c:Nat)(z:Int)(x y:Nat)(a:Ze):RS×Ze:=(S.joined c z (min x y) (max x y)).oN (max x y) a
def RS.takeIn (S:RS)(a:Ze)(w:Way):RS×Ze:=
 if (S.by (S.ax w.1) w.2.1).getD (S.ax w.2.2)≠S.ax w.2.2 then S.meet (S.ax w.1) w.2.1 ((S.by (S.ax w.1) w.2.1).getD (S.ax w.2.2)) (S.ax w.2.2) a
 else if (S.by (S.ax w.2.2) (-w.2.1)).getD (S.ax w.1)≠S.ax w.1 then S.meet (S.ax w.2.2) (-w.2.1) ((S.by (S.ax w.2.2) (-w.2.1)).getD (S.ax w.1)) (S.ax w.1) a
 else (S.keep (S.ax w.1) w.2.1 (S.ax w.2.2),a)
structure Ge (S:RS)(c:Nat):Prop where
 nd:((S.way c).map (·.1)).Nodup
 lt:∀q∈S.way c,q.2<S.q
 bk:∀q∈S.way c,q.2≠c->(S.by q.2 (-q.1)).isSome=true
def jb {l:List (Int×Nat)}(a:n<⇑S.ways):(S.ka n l).way m=if m=n then l else S.way m:=by
 unfold RS.ka RS.way;show (S.ways.set n l).getD m []=_;rw[ai8,ai8];cases h:n=m
 ·subst h;rw[ajE a,ajn rfl];rfl
 ·rw[ajS h,ajk (akg h)]
def jr (a:n<⇑S.ways):(S.cE n z i).by m y=if m=n/\y=z then some i else S.by m y:=by
 unfold RS.cE RS.by;rw[jb a];cases h:m=n
 ·subst h;rw[ajn rfl,LC]
  cbv
 cbv
def Gf (a:n<⇑S.ways):(S.oM n z).by m y=if m=n/\y=z then none else S.by m y:=by
 unfold RS.oM RS.by;rw[jb a];cases h:m=n
 ·subst h;rw[ajn rfl,IA]
  cbv
 ·rw[ajk h,ajk (λq=>h q.1)]
def QP {l:List (Int×Nat)}(a:n<⇑S.ways):(S.ka n l).by m z=if m=n then fu l z else S.by m z:=by unfold RS.by;rw[jb a];split <;> rfl
def cW (c:Nat)(S:RS)(a:Ze)(b:List (Int×Nat)):RS×Ze:=b.foldl (jq c) (S.ka c [],a)
def hU (c:Nat)(S:RS)(a:Ze)(b:List (Int×Nat))(p:Int×Nat):cW c S a (b++[p])=jq c (cW c S a b) p:=by unfold cW;cbv
def snoc_ind {b:Type}{P:List b->Prop}(f:P [])(d:∀l x,P l->P (l++[x])):∀l,P l:=λl=>by
 have:∀n (l:List b),⇑l=n->P l:=by
  intro n
  induction n with
  |zero=>cbv
  |succ n c=>
   intro l e;let a:l≠[]:=λz=>by rw[z]at e;ext e
   rw[<-akH a];rwa[d^(c _ (by rw[List.length_dropLast];omega))]
 rwa[this _ l rfl]
def y8 (c:Nat)(S:RS)(a:Ze):∀b:List (Int×Nat),(cW c S a b).2=a++b.map λp=>(c,p.1,p.2):=by
 rwa[snoc_ind (by simp[cW]) λb p d=>?_]
 rw[hU];show (cW c S a b).2++_=_
 cbv
def gA (c:Nat)(S:RS)(a:Ze):∀b:List (Int×Nat),(cW c S a b).1.ways.length=⇑S.ways/\(cW c S a b).1={ S with ways:=(cW c S a b).1.ways }:=by
 rwa[snoc_ind ⟨by simp[cW,RS.ka],2⟩ λb p d=>?_]
 rw[hU];unfold jq;cases h:p.2≠c
 ·simp only[h,amx,als,ne_eq];erw[5]
  ·show ⇑(List.set^_)=_;rw[aju];rwa[d.1]
  ·unfold RS.oM RS.ka;rw[d.2]
 ·simp only[h,amE];rwa[d]
def x9 {c:Ze}(m:n<⇑S.ways):∀f:List (Int×Nat),(∀q∈f,q.2<⇑S.ways)->∀d z,(cW n S c f).1.by d z=if d=n\/∃q∈f,q.2=d/\z= -q.1 then none else S.by d z:=by
 rwa[snoc_ind (λ_ d z=>?_) λf p l i d z=>?_]
 ·show (S.ka n []).by d z=_;rw[QP m];cases h:d=n
  ·rw[ajn h,ajn (.inl h)];rfl
  ·rw[ajk h,ajk (by rintro (q|⟨q,a,_⟩);rwa[h q];ext a)]
 ·let g:=l (λq a=>i q (ajx _ a)) d z;let j:=i p (ajf _ aji);rw[hU];unfold jq;cases h:p.2≠n
  ·simp only[h,amx,als,ne_eq];rw[Gf ([(gA n S c f).1]▸j),g];cases e:d=p.2/\z= -p.1
   ·rw[ajn e,ajn (.inr ⟨p,ajf _ aji,e.1.symm,e.2⟩)]
   ·rw[ajk e];cases b:d=n\/∃q∈f,q.2=d/\z= -q.1
    ·rw[ajn b,ajn (b.imp id λζ=>by let⟨q,a,r⟩:=ζ;rwa[⟨q,ajx _ a,r⟩])]
    ·rw[ajk b,ajk];rintro (q|⟨q,a,r⟩)
     ·rwa[b (.inl q)]
     ·rcases ajh.mp a with a|a
      ·rwa[b (.inr ⟨q,a,r⟩)]
      ·rw[ai9.mp a]at r;rwa[e ⟨r.1.symm,r.2⟩]
  ·simp only[h,amE];rw[g];let k:p.2=n:=alU.mp h;cases b:d=n\/∃q∈f,q.2=d/\z= -q.1
   ·rw[ajn b,ajn (b.imp id λζ=>by let⟨q,a,r⟩:=ζ;rwa[⟨q,ajx _ a,r⟩])]
   ·rw[ajk b,ajk];rintro (q|⟨q,a,r⟩)
    ·rwa[b (.inl q)]
    ·rcases ajh.mp a with a|a
     ·rwa[b (.inr ⟨q,a,r⟩)]
     ·rw[ai9.mp a]at r;rwa[b (.inl (r.1.symm.trans k))]
inductive Cg (R:Za2):Nat->Nat->Prop where
 |refl (a:Nat):Cg R a a
 |symm {a b:Nat}:Cg R a b->Cg R b a
 |trans {a b c:Nat}:Cg R a b->Cg R b c->Cg R a c
 |step {a a' b b':Nat} {z:Int}:R a z b->R a' z b'->Cg R a a'->Cg R b b'
def Cg.mono {e:Za2}(h:∀a z b,R a z b->e a z b){a b:Nat}(c:Cg R a b):Cg e a b:=by
 induction c with
 |refl=>exact .refl _
 |symm _ d=>exact .symm d
 |trans _ _ f g=>exact .trans f g
 |step r1 r2 _ d=>exact .step (h _ _ _ r1) (h _ _ _ r2) d
def Im (S:RS)(R:Za2)(c:Nat)(z:Int)(d:Nat):Prop:=∃a b,R a z b/\S.ax a=c/\S.ax b=d
def y9 (S:RS)(a:Ze)(c:Nat)(z:Int)(d:Nat):Prop:=S.by c z=some d\/∃w∈a,(S.ax w.1=c/\w.2.1=z/\S.ax w.2.2=d)\/(S.ax w.1=d/\w.2.1= -z/\S.ax w.2.2=c)
structure Good (S:RS)(pend:Ze)(R:Za2):Prop where
 wf:S.Wf
 el:∀c,c<S.q->S.ax c<=c/\S.ax (S.ax c)=S.ax c
 ca:∀e,e<S.q->S.ax e=e->∀c,c∈S.cF e↔c<S.q/\S.ax c=e
 cb:∀e c,c∈S.cF e->c<S.q
 cn:∀e,(S.cF e).Nodup
 kn:∀c,((S.way c).map (·.1)).Nodup
 st:∀c z d,S.by c z=some d->c<S.q/\d<S.q/\S.ax c=c/\S.ax d=d
 sy:∀c z d,S.by c z=some d->S.by d (-z)=some c
 pl:∀w∈pend,w.1<S.q/\w.2.2<S.q
 rl:∀c z d,R c z d->c<S.q/\d<S.q/\R d (-z) c
 cv:∀c z d,R c z d->y9 S pend (S.ax c) z (S.ax d)
 so:∀c z d,S.by c z=some d->Im S R c z d
 sp:∀w∈pend,Im S R (S.ax w.1) w.2.1 (S.ax w.2.2)
 cg:∀c,c<S.q->Cg R c (S.ax c)
section
variable {S:RS}{pend:Ze}{R:Za2}
def Good.lt (h:Good S pend R){c:Nat}(hc:c<S.q):S.ax c<S.q:=aje (h.el c hc).1 hc
def Im.back (h:Good S pend R){c d:Nat}{z:Int}(i:Im S R c z d):Im S R d (-z) c:=by let⟨b,e,r,a,f⟩:=i;rwa[e,b,(h.rl _ _ _ r).2.2,f,a]
def Good.must (h:Good S pend R){c x y:Nat}{z:Int}(i:Im S R c z x)(j:Im S R c z y):Cg R x y:=by let⟨p,n,r1,e,l⟩:=i;let⟨m,o,r2,f1,d⟩:=j;let⟨g,l2,_⟩:=h.rl _ _ _ r1;let⟨k,f,_⟩:=h.rl _ _ _ r2;let a1:=h.cg _ g;let a2:=h.cg _ l2;let a:=h.cg _ k;let b:=h.cg _ f;rw[e]at a1;rw[l]at a2;rw[f1]at a;rw[d]at b;rwa[a2.symm.trans ((Cg.step r1 r2 (a1.trans a.symm)).trans b)]
def Good.keep (h:Good S pend R){c d:Nat}{z:Int}(hc:c<S.q)(hd:d<S.q)(B:S.ax c=c)(ed:S.ax d=d)(i:Im S R c z d)(I:S.by c z=none\/S.by c z=some d)(G:S.by d (-z)=none\/S.by d (-z)=some c){f:Ze}(v:∀w∈f,w∈pend)(A:∀w∈pend,w∉f->S.ax w.1=c/\w.2.1=z/\S.ax w.2.2=d):Good (S.keep c z d) f R:=by
 let o:c<⇑S.ways:=by rw[h.wf.w];rwa[hc]
 let n:d<⇑S.ways:=by rw[h.wf.w];rwa[hd]
 let k:∀a s,(S.keep c z d).by a s=if a=d/\s= -z then some c else if a=c/\s=z then some d else S.by a s:=λa s=>by show ((S.cE c z d).cE d (-z) c).by a s=_;rw[jr (by show d<⇑(S.ways.set c _);rw[aju];rwa[n]),jr o]
 let old:∀a s b,S.by a s=some b->(S.keep c z d).by a s=some b:=λa s b e=>by
  rw[k];cases g:a=d/\s= -z
  ·rw[ajn g];let⟨rfl,rfl⟩:=g;rcases G with q|q <;> rw[q]at e <;> ext e
   rfl
  ·rw[ajk g];cases j:a=c/\s=z
   ·rw[ajn j];let⟨rfl,rfl⟩:=j;rcases I with q|q <;> rw[q]at e <;> ext e
    rfl
   ·rw[ajk j];rwa[e]
 let el:∀a,(S.keep c z d).ax a=S.ax a:=λa=>rfl
 let new:∀a s b,(S.keep c z d).by a s=some b->(a=d/\s= -z/\b=c)\/(a=c/\s=z/\b=d)\/S.by a s=some b:=λa s b e=>by
  rw[k]at e;cases g:a=d/\s= -z
  ·rw[ajn g]at e;rwa[.inl ⟨g.1,g.2,(Za0 e).symm⟩]
  ·rw[ajk g]at e;cases j:a=c/\s=z
   ·rw[ajn j]at e;rwa[.inr (.inl ⟨j.1,j.2,(Za0 e).symm⟩)]
   ·rw[ajk j]at e;rwa[.inr (.inr e)]
 let m:(S.keep c z d).by d (-z)=some c:=by rw[k,ajn ⟨22⟩]
 let put2:(S.keep c z d).by c z=some d:=by
  rw[k];cases g:c=d/\z= -z
  ·rw[ajn g,g.1]
  ·rw[ajk g,ajn ⟨22⟩]
 let t:∀(l:List (Int×Nat))(s:Int)(r:Nat),(l.map (·.1)).Nodup->((jM l s r).map (·.1)).Nodup:=λl s r C=>by
  unfold jM;split
  ·rw[ajM]
   have:((λx:Int×Nat=>x.1) ∘ λp:Int×Nat=>if p.1=s then (p.1,r) else p)=λx=>x.1:=by
    funext p
    show (if p.1=s then (p.1,r) else p).1=p.1;split <;> rfl
   rw[this];rwa[C]
  ·rename_i q;rw[ajt];rwa[aj0.mpr ⟨C,by simp,λa L b H e=>q ?_⟩];let⟨p,v,rfl⟩:=ajN.mp L;have:b=s:=by simpa using H
   rwa[List.any_eq_true.mpr ⟨p,v,ajI (e.trans this)⟩]
 rwa[⟨⟨55,h.wf.e,h.wf.c⟩,h.el,h.ca,h.cb,h.cn,λa=>?_,λa s b e=>?_,λa s b e=>?_,λw u=>h.pl w (v w u),h.rl,λa s b r=>?_,λa s b e=>?_,λw u=>h.sp w (v w u),h.cg⟩]
 ·show ⇑((List.set^_).set _ _)=S.q;rw[aju,aju];rwa[h.wf.w]
 ·show ⇑((List.set^_).set _ _)=S.q;rw[aju,aju];rwa[h.wf.g]
 ·show ((((S.cE c z d).cE d (-z) c).way a).map (·.1)).Nodup;unfold RS.cE;rw[jb (by show d<⇑(S.ways.set c _);rw[aju];rwa[n])]
  let k1:∀a,(((S.ka c (jM (S.way c) z d)).way a).map (·.1)).Nodup:=λa=>by
   rw[jb o];split
   ·rwa[t _ _ _ (h.kn c)]
   ·rwa[h.kn a]
  split
  ·rwa[t _ _ _ (k1 d)]
  ·rwa[k1 a]
 ·rcases new a s b e with ⟨rfl,rfl,rfl⟩|⟨rfl,rfl,rfl⟩|e
  ·rwa[⟨hd,hc,ed,B⟩]
  ·rwa[⟨hc,hd,B,ed⟩]
  ·rwa[h.st a s b e]
 ·rcases new a s b e with ⟨rfl,rfl,rfl⟩|⟨rfl,rfl,rfl⟩|e
  ·rw[ako];rwa[put2]
  ·rwa[m]
  ·rwa[old _ _ _ (h.sy _ _ _ e)]
 ·rcases h.cv a s b r with q|⟨w,u,q⟩
  ·rwa[.inl (old _ _ _ q)]
  ·cases E:w∈f
   ·rwa[.inr ⟨w,E,q⟩]
   ·let⟨f1,D,F⟩:=A w u E;rwa[.inl ?_];show (S.keep c z d).by (S.ax a) s=some (S.ax b);rcases q with ⟨g,j,y⟩|⟨g,j,y⟩
    ·rw[<-g,<-j,<-y,f1,D,F];rwa[put2]
    ·let J:s= -z:=by rw[<-D,j,ako]
     rw[<-g,<-y,f1,F,J];rwa[m]
 ·rcases new a s b e with ⟨rfl,rfl,rfl⟩|⟨rfl,rfl,rfl⟩|e
  ·rwa[Im.back h i]
  ·rwa[i]
  ·rwa[h.so a s b e]
end
theorem Bk (x:Nat):∀(l b:Zh)(a:Nat),(∀n∈l,n<⇑b)->(l.foldl (λb n=>b.set n x) b).getD a 0=if a∈l then x else b.getD a 0
 |[],b,a,_=>by simp
 |n::l,b,a,h=>by
  rw[aln,Bk x l (b.set n x) a (λm c=>[aju]▸h m (ajw _ c))]
  cbv
theorem za (x:Nat):∀(l a:Zh),⇑(l.foldl (λa n=>a.set n x) a)=⇑a
 |[],_=>rfl
 |n::l,a=>by rw[aln,za x l,aju]
def rM {l:List (Int×Nat)}(h:fu l z\n):(z,n)∈l:=by
 let⟨q,a,rfl⟩:=akn.mp h
 cbv
def jt {l:List (Int×Nat)}(a:(l.map (·.1)).Nodup){q:Int×Nat}(h:q∈l):fu l q.1\q.2:=by
 induction l with
 |nil=>ext h
 |cons p l b=>
  unfold fu;rw[aki,ajO]at a;cases e:p.1=q.1
  ·rw[amn (by rwa[ajI e])];rcases ajs.mp h with rfl|h
   ·rfl
   ·rwa[absurd (by rw[e];rwa[ak5 h]) a.1]
  ·rw[alG (by simpa using e)];rcases ajs.mp h with rfl|h
   ·rwa[absurd rfl e]
   ·rwa[b a.2 h]
theorem lC:∀(n:Nat)(l:Zh),l.Nodup->(∀x∈l,x<n)->⇑l<=n
 |0,[],_,_=>aja _
 |0,a::l,_,h=>absurd (h a (aji ..)) ∅
 |n+ 1,l,b,h=>by
  cases c:n∈l
  ·have:=lC n (l.erase n) (b.erase n) (λx d=>by cbv)
   rw[alu c]at this;ext
  ·have:=lC n l b (λx d=>by cbv)
   ext
theorem rN:∀(k l:Zg),l.Nodup->(∀x∈l,x∈k)->⇑l<=⇑k
 |[],[],_,_=>aja _
 |[],a::l,_,h=>by have:=h a aji;cbv
 |y::k,l,b,h=>by
  cases c:y∈l
  ·have:=rN k (l.erase y) (b.erase y) (λx d=>by cbv)
   rw[alu c]at this;rw[ajo];ext
  ·have:=rN k l b (λx d=>by cbv)
   rw[ajo];ext
def QQ {pend:Ze}(i:n<⇑S.ways)(e:∀a,((S.way a).map (·.1)).Nodup):∀c:List (Int×Nat),(∀q∈c,q.2<⇑S.ways)->∀a,(((cW n S pend c).1.way a).map (·.1)).Nodup:=by
 rwa[snoc_ind (λ_ a=>?_) λc p g d a=>?_]
 ·show (((S.ka n []).way a).map (·.1)).Nodup;rw[jb i];split
  ·rwa[akQ]
  ·rwa[e a]
 ·let b:=g (λq f=>d q (ajx _ f));rw[hU];unfold jq;cases h:p.2≠n
  ·simp only[h,amx,als,ne_eq];unfold RS.oM;rw[jb ([(gA n S pend c).1]▸d p (ajf _ aji))];split
   ·rwa[List.Nodup.sublist (List.Sublist.map _ ak6) (b p.2)]
   ·rwa[b a]
  ·simp only[h,amE];rwa[b a]
section
variable {S:RS}{pend:Ze}{R:Za2}
def y9.back (h:Good S pend R){b:RS}{a:Ze}(sy:∀c z d,b.by c z=some d->b.by d (-z)=some c){c d:Nat}{z:Int}(i:y9 b a c z d):y9 b a d (-z) c:=by
 rcases i with q|⟨w,j,q⟩
 ·rwa[.inl (sy _ _ _ q)]
 ·rwa[.inr ⟨w,j,?_⟩];rcases q with ⟨e,g,f⟩|⟨e,g,f⟩
  ·rwa[.inr ⟨e,by rw[g,ako],f⟩]
  ·rwa[.inl ⟨e,g,f⟩]
def Good.meet (h:Good S pend R){c x y:Nat}{z:Int}(Y:S.by c z=some x)(hy:y<S.q)(ey:S.ax y=y)(hxy:x≠y)(iy:Im S R c z y){d:Ze}(hp:∀w∈d,w∈pend)(hcv:∀w∈pend,w∉d->(S.ax w.1=c/\w.2.1=z/\S.ax w.2.2=y)\/(S.ax w.1=y/\w.2.1= -z/\S.ax w.2.2=c)):
 Good (S.meet c z x y d).1 (S.meet c z x y d).2 R/\(∀a,(S.meet c z x y d).1.ax a=if S.ax a=max x y then min x y else S.ax a)/\(S.meet c z x y d).2=d++(S.way (max x y)).map (λp=>(max x y,p.1,p.2)):=by
 let⟨hc,hxm,ec,ex⟩:=h.st _ _ _ Y;let A:Cg R x y:=h.must (h.so _ _ _ Y) iy;let Q:min x y<S.q:=∅
 let F:max x y<S.q:=∅
 let J:min x y<max x y:=∅
 let T:S.ax (min x y)=min x y:=by rcases amc x y with q|q;rw[alv ∅];rwa[ex];rw[al0 ∅];rwa[ey]
 let N:S.ax (max x y)=max x y:=by rcases amc x y with q|q;rw[al1 ∅];rwa[ey];rw[ami ∅];rwa[ex]
 let L:x=min x y\/x=max x y:=∅
 let H:y=min x y\/y=max x y:=∅
 let j:Cg R (max x y) (min x y):=by
  rcases amc x y with q|q
  ·rw[al1 (by omega),alv (by omega)];rwa[A.symm]
  ·rw[ami ∅,al0 ∅];rwa[A]
 unfold RS.meet;change max x y=v at F J N L H j ⊢;change min x y=u at Q J T L H j ⊢;let I:v<⇑S.ways:=by rw[h.wf.w];rwa[F]
 let O:∀q∈S.way v,q.2<⇑S.ways:=λq E=>by rw[h.wf.w];rwa[(h.st v q.1 q.2 (jt (h.kn v) E)).2.1]
 let hP:((S.joined c z u v).oN v d)=cW v (S.joined c z u v) d (S.way v):=rfl;rw[hP];let rest:=gA v (S.joined c z u v) d (S.way v);let byJ:∀a s,(S.joined c z u v).by a s=S.by a s:=λa s=>rfl
 let Uh:∀a s,(cW v (S.joined c z u v) d (S.way v)).1.by a s=if a=v\/S.by a s=some v then none else S.by a s:=λa s=>by
  rw[x9 (S:=S.joined c z u v) I _ O,byJ]
  have:(a=v\/∃q∈S.way v,q.2=a/\s= -q.1)↔(a=v\/S.by a s=some v):=by
   rwa[or_congr Iff.rfl ⟨5,λe=>?_⟩]
   ·rintro ⟨q,E,rfl,rfl⟩;rwa[h.sy _ _ _ (jt (h.kn v) E)]
   ·have:=rM (h.sy _ _ _ e);rwa[_,this,2,(ako s).symm]
  simp only[this]
 let o:(cW v (S.joined c z u v) d (S.way v)).2=d++(S.way v).map λp=>(v,p.1,p.2):=y8 _ _ _ _
 let G:=QQ (S:=S.joined c z u v) (pend:=d) I h.kn (S.way v) O
 let heq:∀a,(cW v (S.joined c z u v) d (S.way v)).1.ax a=if S.ax a=v then u else S.ax a:=λa=>by
  rw[rest.2];show ((S.cF v).foldl (λD n=>D.set n u) S.aY).getD a 0=_;rw[Bk u _ _ _ (λn hn=>[h.wf.e]▸h.cb v n hn)];cases i:a<S.q
  ·have:=h.ca v F N a;cases e:S.ax a=v
   ·cbv
   ·rw[ajk (λq=>e (this.mp q).2),ajk e];rfl
  ·let P:S.ax a=0:=by unfold RS.ax;rw[ai8,ajC (by rw[h.wf.e];omega)];rfl
   rw[ajk (λq=>i (h.cb v a q)),ajk ∅];rfl
 let k:∀e,(cW v (S.joined c z u v) d (S.way v)).1.cF e=if e=u then S.cF u++S.cF v else S.cF e:=λe=>by
  rw[rest.2];show (S.called.set u (S.cF u++S.cF v)).getD e []=_;rw[ai8];cases q:e=u
  ·subst q;rw[ajE ([h.wf.c]▸Q),ajn rfl];rfl
  ·rw[ajS (akg q),ajk q];unfold RS.cF;cbv
 let f:(cW v (S.joined c z u v) d (S.way v)).1.q=S.q:=by rw[rest.2];rfl
 let M:(cW v (S.joined c z u v) d (S.way v)).1.Wf:=by
  erw[[rest.1,f]▸h.wf.w,55]
  ·rw[rest.2];rwa[h.wf.g]
  ·rw[rest.2];show ⇑((S.cF v).foldl (λD n=>D.set n u) S.aY)=S.q;rw[za];rwa[h.wf.e]
  ·rw[rest.2];show ⇑(S.called.set u (S.cF u++S.cF v))=S.q;rw[aju];rwa[h.wf.c]
 change (cW v (S.joined c z u v) d (S.way v)).2=P2 at o ⊢;change (cW v (S.joined c z u v) d (S.way v)).1=g at rest Uh G heq k f M ⊢;rwa[⟨5,heq,o⟩]
 let bo:∀a s b,g.by a s=some b↔S.by a s=some b/\a≠v/\b≠v:=λa s b=>by cbv
 let nv2:∀a,g.ax (S.ax a)=g.ax a:=λa=>by
  rw[heq,heq];cases i:a<S.q
  ·rw[(h.el a i).2]
  ·let P:∀a,¬a<S.q->S.ax a=0:=λa i=>by unfold RS.ax;rw[ai8,ajC (by rw[h.wf.e];omega)];rfl
   rw[P a i];have:S.ax 0=0:=by have:=(h.el 0 ∅).1;ext
   rw[this]
 let l:∀{a b},S.ax a=S.ax b->g.ax a=g.ax b:=λ{a b} e=>by cbv
 let C:∀a s b,g.by a s=some b->g.by b (-s)=some a:=λa s b e=>by rw[bo]at e ⊢;rwa[h.sy _ _ _ e.1,e.2.2,e.2.1]
 let std:∀{a},S.ax a=a->g.ax a=if a=v then u else a:=λ{a} e=>by rw[heq,e]
 let kept:∀p s q,S.by p s=some q->y9 g P2 (g.ax p) s (g.ax q):=λp s q e=>by
  let⟨lp,lq,ep,eq⟩:=h.st _ _ _ e;cases h1:p=v
  ·rwa[.inr ⟨(v,s,q),5,.inl ⟨by rw[h1],22⟩⟩];rw[o];rw[h1]at e;rwa[ajf _ (ajN.mpr ⟨(s,q),rM e,2⟩)]
  ·cases h2:q=v
   ·rwa[.inr ⟨(v,-s,p),5,.inr ⟨by rw[h2],22⟩⟩];rw[o];let e':=h.sy _ _ _ e;rw[h2]at e';rwa[ajf _ (ajN.mpr ⟨(-s,p),rM e',2⟩)]
   ·rwa[.inl ?_]
    cbv
 let eu2:g.ax u=u:=by rw[std T,ajk ∅]
 let V:g.ax v=u:=by rw[std N,ajn rfl]
 let exy:g.ax x=g.ax y:=by
  let t:g.ax x=u:=by cbv
  let m:g.ax y=u:=by cbv
  rw[t,m]
 let imq:∀{a b s},Im S R (S.ax a) s (S.ax b)->Im g R (g.ax a) s (g.ax b):=λ{a b s} ζ=>by let⟨a',b',r,e1,e2⟩:=ζ;rwa[⟨a',b',r,l e1,l e2⟩]
 rwa[⟨M,λa i=>?_,λe he ee a=>?_,λe a i=>?_,λe=>?_,G,λa s b e=>?_,C,λw hw=>?_,λa s b r=>?_,λa s b r=>?_,λa s b e=>?_,λw hw=>?_,λa i=>?_⟩]
 ·rw[f]at i;let⟨U,l2⟩:=h.el a i;rw[heq]
  cbv
 ·rw[f]at he ⊢;rw[k];let nev:e≠v:=λz=>by rw[z,V]at ee;ext
  cases q:e=u
  ·subst q;rw[ajn rfl,ajh,h.ca _ Q T,h.ca v F N,heq]
   cbv
  ·rw[ajk q]
   let P:S.ax e=e:=by
    rw[heq]at ee;cases B:S.ax e=v
    ·cbv
    ·cbv
   rw[h.ca e he P,heq]
   cbv
 ·rw[f];rw[k]at i;split at i
  ·rcases ajh.mp i with i|i
   ·rwa[h.cb^i]
   ·rwa[h.cb^i]
  ·rwa[h.cb^i]
 ·rw[k];split
  ·rwa[aj0.mpr ⟨h.cn _,h.cn _,λa i b hb e=>?_⟩];let t:=((h.ca _ Q T a).mp i).2;let m:=((h.ca v F N b).mp hb).2;rw[e,m]at t;ext
  ·rwa[h.cn _]
 ·rw[bo]at e;let⟨U,l2,W,X⟩:=h.st _ _ _ e.1;rwa[[f]▸U,[f]▸l2,by rw[std W,ajk e.2.1],by rw[std X,ajk e.2.2]]
 ·rw[f];rw[o]at hw;rcases ajh.mp hw with hw|hw
  ·rwa[h.pl w (hp w hw)]
  ·let⟨q,E,rfl⟩:=ajN.mp hw;rwa[F,(h.st v q.1 q.2 (jt (h.kn v) E)).2.1]
 ·rw[f];rwa[h.rl a s b r]
 ·rcases h.cv a s b r with q|⟨w,hw,q⟩
  ·cbv
  ·cases hm:w∈d
   ·rwa[.inr ⟨w,by cbv,?_⟩];rcases q with ⟨t,m,B⟩|⟨t,m,B⟩
    ·rwa[.inl ⟨l t,m,l B⟩]
    ·rwa[.inr ⟨l t,m,l B⟩]
   ·let base:y9 g P2 (g.ax c) z (g.ax y):=by rw[<-exy];rwa[kept _ _ _ Y]
    let one:∀{p q:Nat},S.ax p=c->S.ax q=y->g.ax p=g.ax c/\g.ax q=g.ax y:=λ{p q} e1 e2=>⟨by cbv,by cbv⟩
    rcases hcv w hw hm with ⟨f1,Z,f3⟩|⟨f1,Z,f3⟩
    ·rcases q with ⟨t,m,B⟩|⟨t,m,B⟩
     ·cbv
     ·let⟨g1,g2⟩:=one (t.symm.trans f1) (B.symm.trans f3);let D:s= -z:=by rw[<-Z,m,ako]
      rw[g1,g2,D];rwa[y9.back h C base]
    ·rcases q with ⟨t,m,B⟩|⟨t,m,B⟩
     ·let⟨g1,g2⟩:=one (B.symm.trans f3) (t.symm.trans f1);let D:s= -z:=by rw[<-m,Z]
      rw[g1,g2,D];rwa[y9.back h C base]
     cbv
 ·rw[bo]at e;let⟨U,l2,W,X⟩:=h.st _ _ _ e.1;have:=h.so _ _ _ e.1
  cbv
 ·rw[o]at hw;rcases ajh.mp hw with hw|hw
  ·rwa[imq (h.sp w (hp w hw))]
  ·let⟨q,E,rfl⟩:=ajN.mp hw;let e:=jt (h.kn v) E;let⟨U,l2,W,X⟩:=h.st v q.1 q.2 e;have:=h.so _ _ _ e
   cbv
 ·rw[f]at i;rw[heq];split
  ·rename_i q;have:=h.cg a i;rw[q]at this;rwa[this.trans j]
  ·rwa[h.cg a i]
end
def RS.stand (S:RS):Nat:=(~~~S.q).countP λc=>decide (S.ax c=c)
theorem lD {p p':Nat->Bool}{v:Nat}(h:∀a,p' a=(p a && decide (a≠v)))(b:p v=true):∀n,(~~~n).countP p'+ (if v<n then 1 else 0)=(~~~n).countP p
 |0=>rfl
 |n+ 1=>by
  let c:=lD h b n;rw[aj3,List.countP_append,List.countP_append,<-c];rw[List.countP_singleton,List.countP_singleton,h n];cases e:n=v
  ·subst e;rw[b,ajk (akP n),ajn (akA n)];simp
  ·have:decide (n≠v)=true:=ajI e;rw[this,Bool.and_true];let d:(v<n+ 1)=(v<n):=propext ⟨λ_=>∅,λ_=>∅⟩;simp only[d];ext
def mu (k:Nat)(S:RS)(pend:Ze):Nat:=S.stand* (k+ 1)+ ⇑pend
section
variable {S:RS}{pend:Ze}{R:Za2}{w:Way}{ks:Zg}
def Good.IB (h:Good S pend R)(e:∀c z d,R c z d->z∈ks)(c:Nat):⇑(S.way c)<=⇑ks:=by
 have:=rN ks ((S.way c).map (·.1)) (h.kn c) (λx g=>by let⟨q,f,rfl⟩:=ajN.mp g;let⟨a,b,r,_⟩:=h.so c q.1 q.2 (jt (h.kn c) f);rwa[e _ _ _ r])
 rw[ai6]at this;rwa[this]
def Good.Ui (h:Good S pend R)(c:Nat):⇑(S.cF c)<=S.q:=lC _ _ (h.cn c) λx a=>h.cb c x a
def Good.take (h:Good S (pend++[w]) R)(L:∀c z d,R c z d->z∈ks):Good (S.takeIn pend w).1 (S.takeIn pend w).2 R/\mu ⇑ks (S.takeIn pend w).1 (S.takeIn pend w).2<mu ⇑ks S (pend++[w])/\(S.takeIn pend w).1.q=S.q/\(S.takeIn pend w).1.L=S.L/\
 ((S.takeIn pend w).1.stand=S.stand/\(S.takeIn pend w).1.rows=S.rows/\(S.takeIn pend w).1.aZ=S.aZ\/(S.takeIn pend w).1.stand+ 1=S.stand/\∃c z x y,S.by c z=some x/\Im S R c z y/\y<S.q/\S.ax y=y/\x≠y/\(S.takeIn pend w).1.rows=S.rows++[gP c z (min x y) (max x y)]/\(S.takeIn pend w).1.aZ=S.aZ++[max x y]/\∀a,(S.takeIn pend w).1.ax a=if S.ax a=max x y then min x y else S.ax a):=by
 let hw:=h.pl w (ajf _ aji);let k:=h.sp w (ajf _ aji);let hc:=h.lt hw.1;let hd:=h.lt hw.2;let l:=(h.el _ hw.1).2;let ed:=(h.el _ hw.2).2;let F:∀x∈pend,x∈pend++[w]:=λx i=>ajx _ i
 let last:∀x∈pend++[w],x∉pend->x=w:=λx i nx=>by cbv
 let met:∀{c x y:Nat}{z:Int},S.by c z=some x->y<S.q->S.ax y=y->x≠y->Im S R c z y->((S.ax w.1=c/\w.2.1=z/\S.ax w.2.2=y)\/(S.ax w.1=y/\w.2.1= -z/\S.ax w.2.2=c))->
  Good (S.meet c z x y pend).1 (S.meet c z x y pend).2 R/\mu ⇑ks (S.meet c z x y pend).1 (S.meet c z x y pend).2<mu ⇑ks S (pend++[w])/\(S.meet c z x y pend).1.q=S.q/\(S.meet c z x y pend).1.L=S.L/\(S.meet c z x y pend).1.stand+ 1=S.stand/\(S.meet c z x y pend).1.rows=S.rows++[gP c z (min x y) (max x y)]/\(S.meet c z x y pend).1.aZ=S.aZ++[max x y]/\∀a,(S.meet c z x y pend).1.ax a=if S.ax a=max x y then min x y else S.ax a:=by
  intro c x y z i O D s P B;let⟨g,G,M⟩:=h.meet i O D s P F (λx i nx=>[last x i nx]▸B);let⟨hc,U,l,ex⟩:=h.st _ _ _ i;let rest:=(gA (max x y) (S.joined c z (min x y) (max x y)) pend ((S.joined c z (min x y) (max x y)).way (max x y))).2
  let J:(S.meet c z x y pend).1.q=S.q:=by show (cW (max x y) (S.joined c z (min x y) (max x y)) pend ((S.joined c z (min x y) (max x y)).way (max x y))).1.q=_;rw[rest];rfl
  let N:(S.meet c z x y pend).1.L=S.L:=by show (cW (max x y) (S.joined c z (min x y) (max x y)) pend ((S.joined c z (min x y) (max x y)).way (max x y))).1.L=_;rw[rest];rfl
  let Q:(S.meet c z x y pend).1.rows=S.rows++[gP c z (min x y) (max x y)]:=by show (cW (max x y) (S.joined c z (min x y) (max x y)) pend ((S.joined c z (min x y) (max x y)).way (max x y))).1.rows=_;rw[rest];rfl
  let T:(S.meet c z x y pend).1.aZ=S.aZ++[max x y]:=by show (cW (max x y) (S.joined c z (min x y) (max x y)) pend ((S.joined c z (min x y) (max x y)).way (max x y))).1.aZ=_;rw[rest];rfl
  let E:S.ax (max x y)=max x y:=by rcases amc x y with q|q;rw[al1 ∅];rwa[D];rw[ami ∅];rwa[ex]
  let I:(S.meet c z x y pend).1.stand+ 1=S.stand:=by
   unfold RS.stand;rw[J]
   have:=lD (p:=λc=>decide (S.ax c=c)) (p':=λa=>decide ((S.meet c z x y pend).1.ax a=a)) (v:=max x y) (λa=>by
    rw[G,akr,akB,ajZ,ajZ,ajZ];cases q:S.ax a=max x y
    ·rw[ajn q];constructor
     ·intro e;let j:S.ax (min x y)=min x y:=by rcases amc x y with q|q;rw[alv ∅];rwa[ex];rw[al0 ∅];rwa[D]
      rw[e]at j;ext
     ·rintro ⟨V,j⟩;rwa[absurd (V.symm.trans q) j]
    ·rw[ajk q];rwa[λe=>⟨e,λj=>q ([j]▸E)⟩,λe=>e.1]) (ajI E) S.q
   rw[ajn ∅]at this;rwa[this]
  let W:=h.IB L (max x y);rwa[⟨g,5,J,N,I,Q,T,G⟩];unfold mu;rw[M,<-I,ai3,ai3,ai6,alz,Nat.one_mul];ext
 unfold RS.takeIn;cases f:(S.by (S.ax w.1) w.2.1).getD (S.ax w.2.2)≠S.ax w.2.2
 ·rw[ajn f]
  cases e:S.by (S.ax w.1) w.2.1 with
  |none=>rw[e]at f;rwa[absurd rfl f]
  |some x=>rw[e]at f;let⟨A,C,o,t,r,u,n,m⟩:=met e hd ed f k (.inl ⟨222⟩);rwa[A,C,o,t,.inr ⟨r,11,x,_,e,k,hd,ed,f,u,n,m⟩]
 ·rw[ajk f];cases b:(S.by (S.ax w.2.2) (-w.2.1)).getD (S.ax w.1)≠S.ax w.1
  ·rw[ajn b]
   cases e:S.by (S.ax w.2.2) (-w.2.1) with
   |none=>rw[e]at b;rwa[absurd rfl b]
   |some x=>rw[e]at b;let H:=Im.back h k;let⟨A,C,o,t,r,u,n,m⟩:=met e hc l b H (.inr ⟨2,(ako _).symm,2⟩);rwa[A,C,o,t,.inr ⟨r,11,x,_,e,H,hc,l,b,u,n,m⟩]
  ·rw[ajk b]
   let k1:S.by (S.ax w.1) w.2.1=none\/S.by (S.ax w.1) w.2.1=some (S.ax w.2.2):=by
    cases e:S.by (S.ax w.1) w.2.1 with
    |none=>exact .inl rfl
    |some x=>rw[e]at f;rwa[.inr (ajY some (alU.mp f))]
   let k2:S.by (S.ax w.2.2) (-w.2.1)=none\/S.by (S.ax w.2.2) (-w.2.1)=some (S.ax w.1):=by
    cases e:S.by (S.ax w.2.2) (-w.2.1) with
    |none=>exact .inl rfl
    |some x=>rw[e]at b;rwa[.inr (ajY some (alU.mp b))]
   rwa[⟨h.keep hc hd l ed k k1 k2 F (λx i nx=>[last x i nx]▸⟨222⟩),522,.inl ⟨222⟩⟩];show S.stand* _+ ⇑pend<S.stand* _+ ⇑(pend++[w]);rw[ai3];have:⇑([w]:Ze)=1:=rfl;ext
def Good.fin (h:Good S [] R){a b:Nat}(i:a<S.q)(k:b<S.q):S.ax a=S.ax b↔Cg R a b:=by
 let det:∀{a d b g:Nat}{z:Int},R a z b->R d z g->S.ax a=S.ax d->S.ax b=S.ax g:=λ{a d b g z} r1 r2 e=>by
  rcases h.cv _ _ _ r1 with p|⟨w,m,_⟩
  ·rcases h.cv _ _ _ r2 with q|⟨w,m,_⟩
   ·cbv
   cbv
  cbv
 constructor
 ·intro e;let j:=h.cg a i;let n:=h.cg b k;rw[e]at j;rwa[j.trans n.symm]
 ·intro c;clear i k
  induction c with
  |refl=>rfl
  |symm _ f=>exact f.symm
  |trans _ _ l o=>exact l.trans o
  |step r1 r2 _ f=>exact det r1 r2 f
def Good.vR (h:Good S [] R){c d:Nat}{z:Int}:S.by c z=some d↔Im S R c z d:=by
 constructor
 ·rwa[h.so c z d]
 ·rintro ⟨b,e,r,rfl,rfl⟩;rcases h.cv _ _ _ r with q|⟨w,a,_⟩
  ·rwa[q]
  cbv
end
def fx (R:Za2)(c:Nat)(z:Int)(d:Nat):Za2:=λa s b=>R a s b\/(a=c/\s=z/\b=d)\/(a=d/\s= -z/\b=c)
def jc:∀a s b,R a s b->fx R n z m a s b:=λ_ _ _ r=>.inl r
def p8:fx R n z m n z m:=.inr (.inl ⟨222⟩)
def uW (L:Nat)(g:Zg):Good (RS.new L g) [] (λ_ _ _=>False) where
 wf:=⟨2222⟩
 el:=λc a=>by
  have:c=0:=by have:c<1:=a;ext
  subst this;rwa[aja _,2]
 ca:=λe f _ c=>by
  have:e=0:=by have:e<1:=f;ext
  subst this;show c∈[0]↔c<1/\(RS.new L g).ax c=0
  cbv
 cb:=λe c a=>by
  have:(RS.new L g).cF e=[0]\/(RS.new L g).cF e=[]:=by
   rcases e with _|e
   ·rwa[.inl rfl]
   ·rwa[.inr rfl]
  show c<1
  cbv
 cn:=λe=>by
  rcases e with _|e
  ·show [0].Nodup;simp
  ·rwa[akQ]
 kn:=λc=>by rcases c with _|c <;> rwa[akQ]
 st:=λc z d h=>by
  have:(RS.new L g).by c z=none:=by rcases c with _|c <;> rfl
  cbv
 sy:=λc z d h=>by
  have:(RS.new L g).by c z=none:=by rcases c with _|c <;> rfl
  cbv
 pl:=λw b=>by ext b
 rl:=λ_ _ _ h=>h.elim
 cv:=λ_ _ _ h=>h.elim
 so:=λc z d h=>by
  have:(RS.new L g).by c z=none:=by rcases c with _|c <;> rfl
  cbv
 sp:=λw b=>by ext b
 cg:=λc a=>by
  have:c=0:=by have:c<1:=a;ext
  subst this;rwa[.refl _]
variable {S:RS}{R:Za2}
def Good.lay (h:Good S [] R){c d:Nat}(z:Int)(hc:c<S.q)(hd:d<S.q)(rows:List Dt):Good { S with rows:=rows } [(c,z,d)] (fx R c z d) where
 wf:=⟨h.wf.w,h.wf.g,h.wf.e,h.wf.c⟩
 el:=h.el
 ca:=h.ca
 cb:=h.cb
 cn:=h.cn
 kn:=h.kn
 st:=h.st
 sy:=h.sy
 pl:=λw f=>by rw[ai9.mp f];rwa[hc,hd]
 rl:=by
  rintro a s b (r|⟨rfl,rfl,rfl⟩|⟨rfl,rfl,rfl⟩)
  ·let⟨i,o,j⟩:=h.rl _ _ _ r;rwa[i,o,.inl j]
  ·rwa[hc,hd,.inr (.inr ⟨222⟩)]
  ·rwa[hd,hc,.inr (.inl ⟨2,ako _,2⟩)]
 cv:=by
  rintro a s b (r|⟨rfl,rfl,rfl⟩|⟨rfl,rfl,rfl⟩)
  ·rcases h.cv _ _ _ r with q|⟨w,f,_⟩
   ·rwa[.inl q]
   ·ext f
  ·rwa[.inr ⟨_,aji,.inl ⟨rfl,rfl,rfl⟩⟩]
  ·rwa[.inr ⟨_,aji,.inr ⟨rfl,(ako _).symm,rfl⟩⟩]
 so:=λa s b e=>by let⟨g,l,r,m,k⟩:=h.so a s b e;rwa[g,l,.inl r,m,k]
 sp:=λw f=>by rw[ai9.mp f];rwa[c,d,p8,22]
 cg:=λa n=>(h.cg a n).mono jc
def fB (hw:S.Wf)(c:Nat)(z:Int)(g:Zg)(a:Nat):(S.grown c z g).ax a=if a=S.q then S.q else S.ax a:=by
 unfold RS.ax;show (S.aY++[S.q]).getD a 0=_;rw[ai8];cases e:a=S.q
 ·rw[ajn e,e,ajg ([hw.e]▸aja _),hw.e,aks];rfl
 ·rw[ajk e,ai8];cases q:a<S.q
  ·rw[ajd ([hw.e]▸q)]
  ·rw[ajC (by rw[ai3,hw.e];show S.q+ 1<=a;omega),ajC (by rw[hw.e];omega)]
def rO (hw:S.Wf)(c:Nat)(z:Int)(g:Zg)(a:Nat):(S.grown c z g).cF a=if a=S.q then [S.q] else S.cF a:=by
 unfold RS.cF;show (S.called++[[S.q]]).getD a []=_;rw[ai8];cases e:a=S.q
 ·rw[ajn e,e,ajg ([hw.c]▸aja _),hw.c,aks];rfl
 ·rw[ajk e,ai8];cases q:a<S.q
  ·rw[ajd ([hw.c]▸q)]
  ·rw[ajC (by rw[ai3,hw.c];show S.q+ 1<=a;omega),ajC (by rw[hw.c];omega)]
def nh (d:S.Wf)(c:Nat)(z:Int)(g:Zg)(a:Nat):(S.grown c z g).way a=S.way a:=by
 unfold RS.way;show (S.ways++[[]]).getD a []=_;rw[ai8,ai8];cases q:a<⇑S.ways
 ·rw[ajd q]
 ·rw[ajg ∅,ajC (l:=S.ways) ∅];cases b:a - ⇑S.ways=0
  ·rw[b];rfl
  ·cbv
def Good.make (h:Good S [] R){c:Nat}{z:Int}(hc:c<S.q)(x:S.ax c=c)(C:S.by c z=none)(g:Zg):Good (S.make c z g) [] (fx R c z S.q):=by
 let hw:=h.wf;let d:∀a,a<S.q->(S.grown c z g).ax a=S.ax a:=λa m=>by rw[fB hw,ajk ∅]
 let f:(S.grown c z g).ax S.q=S.q:=by rw[fB hw,ajn rfl]
 let j:∀a s,(S.grown c z g).by a s=S.by a s:=λa s=>by unfold RS.by;rw[nh hw]
 let G:Good (S.grown c z g) [(c,z,S.q)] (fx R c z S.q):=by
  rwa[⟨⟨5555⟩,λa m=>?_,λe D ee a=>?_,λe a m=>?_,λe=>?_,λa=>?_,λa s b e=>?_,λa s b e=>?_,λw hw=>?_,55,λa s b e=>?_,λw hw=>?_,λa m=>?_⟩]
  ·show ⇑(S.ways++[[]])=S.q+ 1;rw[ai3,hw.w];rfl
  ·show ⇑(S.gaps++[_])=S.q+ 1;rw[ai3,hw.g];rfl
  ·show ⇑(S.aY++[_])=S.q+ 1;rw[ai3,hw.e];rfl
  ·show ⇑(S.called++[_])=S.q+ 1;rw[ai3,hw.c];rfl
  ·let t:a<S.q+ 1:=m;cases e:a=S.q
   ·rw[e,f];rwa[aja _,f]
   ·let o:a<S.q:=∅
    rw[d a o];let⟨l,k⟩:=h.el a o;rwa[l,[d _ ∅]▸k]
  ·let A:e<S.q+ 1:=D;show _↔a<S.q+ 1/\_;rw[rO hw,fB hw];cases q:e=S.q
   ·subst q;rw[ajn rfl,ai9];constructor
    ·rintro rfl;rwa[3,by cbv]
    ·rintro ⟨l,k⟩;cases n:a=S.q
     ·rwa[n]
     ·rw[ajk n]at k;have:=(h.el a ∅).1;ext
   ·let o:e<S.q:=∅
    rw[d e o]at ee;rw[ajk q,h.ca e o ee a]
    cbv
  ·show a<S.q+ 1;rw[rO hw]at m;split at m
   ·rw[ai9.mp m];ext
   ·rwa[akF (h.cb e a m)]
  ·rw[rO hw];split
   ·simp
   ·rwa[h.cn e]
  ·rw[nh hw];rwa[h.kn a]
  ·rw[j]at e;let⟨l,k,n,B⟩:=h.st a s b e;rwa[akF l,akF k,[d a l]▸n,[d b k]▸B]
  ·rw[j]at e ⊢;rwa[h.sy a s b e]
  ·rw[ai9.mp hw];rwa[akF hc,akA _]
  ·rintro a s b (r|⟨rfl,rfl,rfl⟩|⟨rfl,rfl,rfl⟩)
   ·let⟨l,k,n⟩:=h.rl _ _ _ r;rwa[akF l,akF k,.inl n]
   ·rwa[akF hc,akA _,.inr (.inr ⟨222⟩)]
   ·rwa[akA _,akF hc,.inr (.inl ⟨2,ako _,2⟩)]
  ·rintro a s b (r|⟨rfl,rfl,rfl⟩|⟨rfl,rfl,rfl⟩)
   ·let⟨l,k,_⟩:=h.rl _ _ _ r;rcases h.cv _ _ _ r with q|⟨w,hw,_⟩
    ·rwa[.inl (by rw[d a l,d b k,j];rwa[q])]
    ·ext hw
   ·rwa[.inr ⟨_,aji,.inl ⟨rfl,rfl,rfl⟩⟩]
   ·rwa[.inr ⟨_,aji,.inr ⟨rfl,(ako _).symm,rfl⟩⟩]
  ·rw[j]at e;let⟨u,v,r,p,y⟩:=h.so a s b e;let⟨l,k,_⟩:=h.rl _ _ _ r;rwa[u,v,.inl r,[d u l]▸p,[d v k]▸y]
  ·rw[ai9.mp hw];rwa[c,S.q,p8,22]
  ·let t:a<S.q+ 1:=m;cases e:a=S.q
   ·rw[e,f];rwa[.refl _]
   ·rw[d a ∅];rwa[(h.cg a ∅).mono jc]
 let p:(S.grown c z g).ax c=c:=by rw[d c hc];rwa[x]
 let i:=G.sp _ aji;rw[show (c,z,S.q).1=c from rfl,show (c,z,S.q).2.2=S.q from rfl,p,f]at i;rwa[G.keep (akF hc) (akA _) p f i (.inl ([j]▸C)) (.inl ?_) (λw hw=>by ext hw) (λw hw _=>[ai9.mp hw]▸⟨p,2,f⟩)];rw[j]
 cases e:S.by S.q (-z) with
 |none=>rfl
 |some b=>have:=(h.st _ _ _ e).1;ext
def ab6 (n:Nat)(s:Int):Za2:=λa z b=>(z=s/\b=a+ 1/\b<n)\/(z= -s/\a=b+ 1/\a<n)
inductive X7 (x y:V)(H:Hp)(Q:VK):Prop
 |mk (a b:Zs)(xs:Zb)(t:Str):x=↑a->y=↑b->H a\.tup xs->H b\.tup [.str t]->(xs=[]\/(∃n,xs=[.int n])\/∃t',xs=[.str t'])->Q (.bl (decide (xs=[V.str t]))) H->X7 x y H Q
end L2
namespace L2
def aT {p:Prop}(h:let q:Prop:=p;q):p:=h
def jd {a z:TS}(h:let b:TS:=z;aX a b G D H):(aX a z) G D H:=h
def LJ {a z:TS}(h:let b:Ends:=G;let c:TS:=z;aX a c b D H):(aX a z) G D H:=h
def dN {a b z:TS}(h:let c:TS:=z;let d:TS:=aX b c;aX a d G D H):(aX a (aX b z)) G D H:=h
def uX {a b z:TS}(h:let c:Ends:=G;let d:TS:=z;let e:TS:=aX b d;aX a e c D H):(aX a (aX b z)) G D H:=h
def hV {a b c z:TS}(h:let f:TS:=z;let e:TS:=aX c f;let d:TS:=aX b e;aX a d G D H):(aX a (aX b (aX c z))) G D H:=h
def p9 {b c d a z:TS}(h:let g:TS:=z;let i:TS:=aX a g;let f:TS:=aX d i;let e:TS:=aX c f;aX b e G D H):(aX b (aX c (aX d (aX a z)))) G D H:=h
def qc {b c d a e z:TS}(h:let g:TS:=z;let j:TS:=aX e g;let k:TS:=aX a j;let i:TS:=aX d k;let f:TS:=aX c i;aX b f G D H):(aX b (aX c (aX d (aX a (aX e z))))) G D H:=h
def qd {b c d a e f z:TS}(h:let m:TS:=z;let i:TS:=aX f m;let l:TS:=aX e i;let j:TS:=aX a l;let k:TS:=aX d j;let g:TS:=aX c k;aX b g G D H):(aX b (aX c (aX d (aX a (aX e (aX f z)))))) G D H:=h
def Bl {f g b d c e a z:TS}(h:let i:TS:=z;let o:TS:=aX a i;let l:TS:=aX e o;let k:TS:=aX c l;let n:TS:=aX d k;let j:TS:=aX b n;let m:TS:=aX g j;aX f m G D H):(aX f (aX g (aX b (aX d (aX c (aX e (aX a z))))))) G D H:=h
def LK {g i c e d f b a z:TS}(h:let q:TS:=z;let j:TS:=aX a q;let p:TS:=aX b j;let m:TS:=aX f p;let l:TS:=aX d m;let n:TS:=aX e l;let k:TS:=aX c n;let o:TS:=aX i k;aX g o G D H):(aX g (aX i (aX c (aX e (aX d (aX f (aX b (aX a z)))))))) G D H:=h
def zb {o p j l k n i g m a b c z:TS}(h:let f:TS:=z;let d:TS:=aX c f;let e:TS:=aX b d;let w:TS:=aX a e;let y:TS:=aX m w;let q:TS:=aX g y;let x:TS:=aX i q;let t:TS:=aX n x;let s:TS:=aX k t;let u:TS:=aX l s;let r:TS:=aX j u;let v:TS:=aX p r;aX o v G D H):(aX o (aX p (aX j (aX l (aX k (aX n (aX i (aX g (aX m (aX a (aX b (aX c z)))))))))))) G D H:=h
def bH {z:TS}(h:let a:Ends:=G;z a D H):z G D H:=h
theorem args_is1 {b:Type}:∀{us:List b},⇑us=1->∃a,us=[a]
 |[a],_=>⟨a,2⟩
theorem args_is2 {c:Type}:∀{us:List c},⇑us=2->∃a b,us=[a,b]
 |[a,b],_=>⟨a,b,2⟩
theorem args_is3 {d:Type}:∀{us:List d},⇑us=3->∃a c b,us=[a,c,b]
 |[a,c,b],_=>⟨a,c,b,2⟩
theorem args_is4 {e:Type}:∀{us:List e},⇑us=4->∃a b d c,us=[a,b,d,c]
 |[a,b,d,c],_=>⟨a,b,d,c,2⟩
theorem args_is5 {f:Type}:∀{us:List f},⇑us=5->∃a c e d b,us=[a,c,e,d,b]
 |[a,c,e,d,b],_=>⟨a,c,e,d,b,2⟩
theorem args_is6 {g:Type}:∀{us:List g},⇑us=6->∃a c e d b f,us=[a,c,e,d,b,f]
 |[a,c,e,d,b,f],_=>⟨a,c,e,d,b,f,2⟩
structure eR (S:RS)(R:Za2)(ks:Zg):Prop where
 sub:∀c,c<S.q->(S.gap c).Sublist ks
 im:∀c,c<S.q->S.ax c=c->∀z∈ks,z∉S.gap c->∃d,Im S R c z d
 by_:∀c z d,S.by c z=some d->z∉S.gap c
section
variable {S:RS}{pend:Ze}{R:Za2}{ks:Zg}
def ju {x:Nat}(a:n<⇑S.gaps):(S.lB n z).gap x=if x=n then (S.gap n).filter (λy=>decide (y≠z)) else S.gap x:=by
 unfold RS.lB RS.setG RS.gap;show (S.gaps.set n _).getD x []=_;rw[ai8];cases h:x=n
 ·subst h;rw[ajn rfl,ajE a];rfl
 ·rw[ajk h,ajS (λe=>h e.symm),ai8]
def zc:(S.lB n z).gaps.length=⇑S.gaps:=by rwa[aju ..]
def qe {x:Nat}(b:n<⇑S.gaps)(c:m<⇑S.gaps):y∈(S.keep n z m).gap x↔y∈S.gap x/\¬(x=n/\y=z)/\¬(x=m/\y= -z):=by
 unfold RS.keep;let a:∀x,((S.cE n z m).cE m (-z) n).gap x=S.gap x:=λx=>rfl
 rw[ju ([zc]▸c),ju (by rwa[b]),ju (by rwa[b]),a,a,a]
 cbv
def rP {x:Nat}(d:n<⇑S.gaps)(e:m<⇑S.gaps):((S.keep n z m).gap x).Sublist (S.gap x):=by
 unfold RS.keep;let b:∀x,((S.cE n z m).cE m (-z) n).gap x=S.gap x:=λx=>rfl
 rw[ju ([zc]▸e),ju (by rwa[d]),ju (by rwa[d]),b,b,b];cases c:x=m
 ·subst c;rw[ajn rfl];cases a:x=n
  ·subst a;rw[ajn rfl];rwa[List.Sublist.trans ak6 ak6]
  ·rw[ajk a];rwa[ak6]
 ·rw[ajk c];cases a:x=n
  ·subst a;rw[ajn rfl];rwa[ak6]
  ·rw[ajk a];rwa[List.Sublist.refl _]
def Ew {x:Nat}(b:n<⇑S.ways)(a:m<⇑S.ways):(S.keep n z m).by x y=if x=m/\y= -z then some n else if x=n/\y=z then some m else S.by x y:=by show (((S.cE n z m).cE m (-z) n)).by x y=_;rw[jr (by unfold RS.cE RS.ka;rw[aju];rwa[a]),jr b]
def eR.keep (h:eR S R ks)(g:Good S pend R){c d:Nat}{z:Int}(hc:c<S.q)(hd:d<S.q)(i:Im S R c z d):eR (S.keep c z d) R ks:=by
 let j:c<⇑S.gaps:=by rw[g.wf.g];rwa[hc]
 let b:d<⇑S.gaps:=by rw[g.wf.g];rwa[hd]
 rwa[⟨λx k=>(rP j b).trans (h.sub x k),λx k ex y o m=>?_,λx y e l=>?_⟩]
 ·rw[qe j b]at m;cases f:x=c/\y=z
  ·rw[f.1,f.2];rwa[d,i]
  ·cases a:x=d/\y= -z
   ·rw[a.1,a.2];rwa[c,i.back g]
   ·rwa[h.im x k ex y o λq=>m ⟨q,f,a⟩]
 ·rw[Ew ([g.wf.w]▸hc) ([g.wf.w]▸hd)]at l;rw[qe j b];rintro ⟨q,n,p⟩;rw[ajk p,ajk n]at l;rwa[h.by_ x y e l q]
def LN {x:Nat}:(S.meet n z x m pend).1.gaps=S.gaps:=by have:=(gA (max x m) (S.joined n z (min x m) (max x m)) pend ((S.joined n z (min x m) (max x m)).way (max x m))).2;have:=ajY RS.gaps this;rwa[this]
def eR.meet (h:eR S R ks)(g:Good S pend R){c x y:Nat}{z:Int}(C:S.by c z=some x)(H:y<S.q)(I:S.ax y=y)(m:x≠y){d:Ze}(made:(S.meet c z x y d).1.q=S.q)(ax:∀a,(S.meet c z x y d).1.ax a=if S.ax a=max x y then min x y else S.ax a):eR (S.meet c z x y d).1 R ks:=by
 let k:∀a,(S.meet c z x y d).1.gap a=S.gap a:=λa=>by unfold RS.gap;rw[LN]
 let⟨_,D,_,ex⟩:=g.st _ _ _ C;let l:max x y<S.q:=by rcases amv x y with q|q <;> ext
 let t:min x y<max x y:=by rcases Nat.lt_or_gt_of_ne m with q|q <;> ext
 let gX:∀a,a<S.q->(S.meet c z x y d).1.ax a=a->S.ax a=a/\a≠max x y:=λa i e=>by
  rw[ax]at e;let F:=(g.el a i).1;cases q:S.ax a=max x y
  ·rw[ajn q]at e;ext
  ·rw[ajk q]at e;rwa[e,λz=>q (by rw[e,z])]
 rwa[⟨λa i=>[k]▸h.sub a (by rw[<-made];rwa[i]),λa i G s B o=>?_,λa s b u=>?_⟩]
 ·rw[k]at o;let⟨E,w⟩:=gX a (by rw[<-made];rwa[i]) G;let⟨b,p,A,r,n,J⟩:=h.im a (by rw[<-made];rwa[i]) E s B o;rwa[_,p,A,r,[ax,ajk ([n]▸w)]▸n,2]
 ·rw[k]
  let j:∀q∈(S.joined c z (min x y) (max x y)).way (max x y),q.2<(S.joined c z (min x y) (max x y)).ways.length:=λq v=>by show q.2<⇑S.ways;rw[g.wf.w];rwa[(g.st _ _ _ (jt (g.kn (max x y)) v)).2.1]
  let f:(cW (max x y) (S.joined c z (min x y) (max x y)) d ((S.joined c z (min x y) (max x y)).way (max x y))).1.by a s=some b:=u;rw[x9 (by show max x y<⇑S.ways;rw[g.wf.w];rwa[l]) _ j]at f;split at f
  ·ext f
  ·rwa[h.by_ a s b f]
def zf {x:Nat}:(S.meet n z x m pend).1.q=S.q:=by have:=(gA (max x m) (S.joined n z (min x m) (max x m)) pend ((S.joined n z (min x m) (max x m)).way (max x m))).2;have:=ajY RS.q this;rwa[this]
def eR.take {w:Way}(hG:eR S R ks)(h:Good S (pend++[w]) R):eR (S.takeIn pend w).1 R ks:=by
 let hw:=h.pl w (ajf _ aji);let d:=h.sp w (ajf _ aji);let hc:=h.lt hw.1;let hd:=h.lt hw.2;let i:=(h.el _ hw.1).2;let ed:=(h.el _ hw.2).2;let g:∀x∈pend,x∈pend++[w]:=λx b=>ajx _ b
 let last:∀x∈pend++[w],x∉pend->x=w:=λx b nx=>by cbv
 unfold RS.takeIn;cases c:(S.by (S.ax w.1) w.2.1).getD (S.ax w.2.2)≠S.ax w.2.2
 ·rw[ajn c]
  cases e:S.by (S.ax w.1) w.2.1 with
  |none=>cbv
  |some x=>rw[e]at c;let⟨_,f,_⟩:=h.meet e hd ed c d g (λx b nx=>[last x b nx]▸.inl ⟨222⟩);rwa[hG.meet h e hd ed c zf f]
 ·rw[ajk c];cases a:(S.by (S.ax w.2.2) (-w.2.1)).getD (S.ax w.1)≠S.ax w.1
  ·rw[ajn a]
   cases e:S.by (S.ax w.2.2) (-w.2.1) with
   |none=>rw[e]at a;rwa[absurd rfl a]
   |some x=>rw[e]at a;let⟨_,f,_⟩:=h.meet e hc i a (d.back h) g (λx b nx=>[last x b nx]▸.inr ⟨2,(ako _).symm,2⟩);rwa[hG.meet h e hc i a zf f]
  ·rw[ajk a];rwa[hG.keep h hc hd d]
def eR.more {e:Za2}(h:eR S R ks)(g:∀a z b,R a z b->e a z b):eR S e ks:=⟨h.sub,λc hc i z hz m=>by let⟨d,j,k,r,f,l⟩:=h.im c hc i z hz m;rwa[d,j,k,g _ _ _ r,f,l],h.by_⟩
def eR.rows (h:eR S R ks)(rows:List Dt):eR { S with rows:=rows } R ks:=⟨h.sub,h.im,h.by_⟩
def QR (L:Nat)(g:Zg):eR (RS.new L g) (λ_ _ _=>False) g:=by
 rwa[⟨λc a=>?_,λc a _ z f b=>?_,λc z d e=>?_⟩]
 ·let a:c<1:=a;rw[show c=0 by ext];rwa[List.Sublist.refl _]
 ·let a:c<1:=a;rw[show c=0 by ext]at b;rwa[absurd f b]
 ·have:(RS.new L g).by c z=none:=by rcases c with _|c <;> rfl
  cbv
def eR.make (h:eR S R ks)(g:Good S [] R){c:Nat}{z:Int}(hc:c<S.q)(B:S.ax c=c)(L:S.by c z=none):eR (S.make c z ks) (fx R c z S.q) ks:=by
 let u:∀x,(S.grown c z ks).gap x=if x=S.q then ks else S.gap x:=λx=>by
  unfold RS.gap;show (S.gaps++[ks]).getD x []=_;rw[ai8,ai8];cases i:x=S.q
  ·subst i;rw[ajn rfl,ajg ([g.wf.g]▸aja _),g.wf.g,aks];rfl
  ·rw[ajk i];cases F:x<⇑S.gaps
   ·rw[ajd F]
   ·have:=g.wf.g;rw[ajg ∅,ajC (by rw[aj2];omega),ajC ∅]
 let E:∀x y,(S.grown c z ks).by x y=S.by x y:=λx y=>by unfold RS.by;rw[nh g.wf]
 let j:c<(S.grown c z ks).gaps.length:=by show c<⇑(S.gaps++[ks]);rw[ai3,g.wf.g];ext
 let l:S.q<(S.grown c z ks).gaps.length:=by show S.q<⇑(S.gaps++[ks]);rw[ai3,g.wf.g,aj2];ext
 let p:c<(S.grown c z ks).ways.length:=by show c<⇑(S.ways++[[]]);rw[ai3,g.wf.w];ext
 let v:S.q<(S.grown c z ks).ways.length:=by show S.q<⇑(S.ways++[[]]);rw[ai3,g.wf.w,aj2];ext
 let ee:∀x,(S.make c z ks).ax x=if x=S.q then S.q else S.ax x:=λx=>fB g.wf c z ks x
 let m:∀a s b,S.by a s=some b->a≠S.q:=λa s b e q=>by have:=(g.st _ _ _ e).1;ext
 rwa[⟨λx i=>?_,λx i ex y w f=>?_,λx y e n=>?_⟩]
 ·rwa[(rP j l).trans ?_];rw[u];cases q:x=S.q
  ·cbv
  ·rw[ajk q];let i:x<S.q+ 1:=i;rwa[h.sub x ∅]
 ·let f:y∉((S.grown c z ks).keep c z S.q).gap x:=f;rw[qe j l,u]at f;cases t:x=c/\y=z
  ·erw[S.q,c,S.q,[t.2]▸p8,5]
   ·cbv
   cbv
  ·cases o:x=S.q/\y= -z
   ·erw[c,S.q,c,[o.2]▸.inr (.inr ⟨222⟩),5]
    ·rw[ee,ajn rfl,o.1]
    ·rw[ee,ajk ∅];rwa[B]
   ·cases q:x=S.q
    ·rw[ajn q]at f;rwa[absurd ⟨w,t,o⟩ f]
    ·rw[ajk q]at f;let i:x<S.q+ 1:=i;rw[ee,ajk q]at ex;let⟨d,A,G,r,H,D⟩:=h.im x ∅ ex y w λk=>f ⟨k,t,o⟩
     let J:=g.rl _ _ _ r;rwa[d,A,G,.inl r,[ee,ajk ∅]▸H,[ee,ajk ∅]▸D]
 ·let n:((S.grown c z ks).keep c z S.q).by x y=some e:=n;rw[Ew p v,E]at n;show y∉((S.grown c z ks).keep c z S.q).gap x;rw[qe j l,u];rintro ⟨q,C,I⟩;rw[ajk I,ajk C]at n;rw[ajk (m _ _ _ n)]at q;rwa[h.by_ x y e n q]
def eR.fin (h:eR S R ks)(g:Good S [] R)(nd:ks.Nodup){c:Nat}(hc:c<S.q)(f:S.ax c=c):S.gap c=ks.filter λz=>(S.by c z).isNone:=by
 let sl:∀{l k:Zg},l.Sublist k->k.Nodup->l=k.filter λz=>decide (z∈l):=λ{l k} s=>by
  induction s with
  |slnil=>intro _;rfl
  |cons a s b=>cbv
  |cons_cons a s b=>
   intro m;let j:=ajO.mp m;rw[amj (by simp)]
   congr 1
   conv=>lhs;rw[b j.2]
   rwa[amt λz hz=>?_]
   cbv
 rw[sl (h.sub c hc) nd];rwa[amt λz hz=>?_]
 cases e:S.by c z with
 |some d=>have:=h.by_ c z d e;simp[this]
 |none=>
  cases q:z∈S.gap c
  ·simp[q]
  ·let⟨d,i⟩:=h.im c hc f z hz q;have:=g.vR.mpr i
   cbv
end
structure Fly (B:Heap)(l:Zq)(x:Zs)(cls a0:Zt)(h:Heap):Prop where
 stays:B.StaysIn h
 new:B.get? x=none
 ahP:h.FunFrames B l
 tr:∃fl,h.TracedAtW B x cls a0 fl
section
variable {X:Cx}{tg:Expr}
def iDK (tl:TE):TI:=λ c H R=>tl c H λx b=>∃d a,x=↑d/\b d\.dK a/\∀o,R (T7 d o a) (upd b d (.df o (.dK a)))
def X8 {tl:TE}(C:PE X e tl):PI X tg e (iDK tl):=by
 intro f s G H R I h;rwa[a9 (C f s G H _ I h) λu S ζ=>?_];let⟨x,Q,w,F,d,b,ex,v,q⟩:=ζ
 subst ex;ext F;obtain⟨-,g,y,rel,o,E,U,c,m,t,z,p,L⟩:=w.aU d _ v;rwa[Dk.iter g ⟨o,c,m,t⟩ (AH (w.freeze v True.intro c) (T8 λX H h I a=>?_) ⟨_,ajv _ rfl,22⟩ (q o))];obtain⟨j,-,g,y,rel,P,N,D,c,m,k,z,p,L⟩:=I d _ a;rw[j]at c;obtain rfl:=Za0 c;rw[t]at k;injection k with M B
 subst M B;let n:⇑b=⇑y:=KV.length rel;let r:E.size=⇑b:=by rw[<-ak3,pairs_len p,n]
 rwa[⟨⟨_,j,m,t⟩,r,λi T a=>?_⟩];let J:i<⇑b:=by cbv
 let⟨O,l,A⟩:=(rL p rel).get (i:=i) (x:=kV b[i].1) (by cbv);rw[ajc,akR,a]at l;obtain rfl:=Za0 l;rwa[_,A,21,ai1 J,2]
end
def Uj {g:TG}{e:TS}{o:Obj}{kvs:List (Key×V)}(a:Nat->St->Hp->Prop)(h:a 0 D H)(k:∀i D H,i<=⇑kvs->a i D H->H d\.df o (.dK kvs))(l:∀i b D H,kvs[i]?\b->a i D H->g (kV b.1) D H λ c m=>e { G with nx:=a (i+ 1),ct:=a (i+ 1),bk:=G.nx } c m)(f:∀ D H,a ⇑kvs D H->G.nx D H):rz (T7 d o kvs) g e G D H:=Oe h k (λi D H x n p y=>by let⟨rfl,b,j,rfl⟩:=y;rwa[l i b D _ j p]) f
inductive YV (a:Zs)(y z:V)(H:Hp)(Q:VK):Prop
 |mk (kvs:List (Key×V))(k:Key):H a\.dK kvs->y=kV k->⇑kvs<sizeLine->(∀v,bz kvs k\v->Q v H)->(bz kvs k=none->Q z (upd H a (.dK (putK kvs k z))))->YV a y z H Q
def X9 (td e tx:TE):TE:=λ b H Q=>td b H λx c=>El x c λa=>e b c λy d=>tx b d λz f=>YV a y z f Q
section
variable {X:Cx}{o e f:Expr}{apos cJ:Pos}{td ty tx:TE}
def ni (T:PE X o td)(t:PE X e ty)(S:PE X f tx)(m:M2 X o "setdefault" apos e f cJ):PE X (.Call (.Attribute o "setdefault" apos) [e,f] [] cJ) (X9 td ty tx):=by
 intro c s p H Q I h;rwa[alq m.base m.few m.line akv akX PySem.F.type_dict_setdefault (a9 (T c s p H _ I h) λu Z ζ=>?_)];let⟨x,V,A,rx,a,ex,d,N⟩:=ζ;subst ex;obtain rfl:u=Value.ref a:=rx;let⟨U,F,_⟩:=lX A d;erw[U,F];rw[m.trees]
 rwa[akc rfl (akK (aka (a9 (t c Z p V _ A N) λiv M ζ=>?_)))];let⟨y,H2,P,ry,q2⟩:=ζ;rwa[ aka (a9 (S c M p H2 _ P q2) λfv s3 ζ=>?_)];let⟨z,J,n,C,g,k,E,ey,G,O,W⟩:=ζ;rwa[akM ?_]
 subst ey;let⟨R,w,B,rel,D⟩:=tD n.aU E;let b:=rel.val k;let j:⇑B<=sizeLine:=by rw[<-⇑rel];rwa[R]
 rwa[alx akX D.typeIs PySem.F.entry_dict_setdefault (PySem.F.args_dict_setdefault_3^_) (kt_meets_setdefault (bY X.prog X.w) a (jK ry) w fv) ⟨B,D,j,λv hv=>?_,λhn g1 i sb=>?_⟩]
 ·rw[hv]at b
  cases l:bz g k with
  |none=>rw[l]at b;rwa[b.elim]
  |some r=>rw[l]at b;rwa[r,J,n.tok _,b,O r l]
 ·rw[hn]at b
  cases l:bz g k with
  |some r=>rw[l]at b;rwa[b.elim]
  |none=>
   let Y:⇑(putK g k z)<=sizeLine:=by have:=gO g k z;ext
   let t:∃q,g1.get? a\q:=let ⟨q,_,_,L,_⟩:=i;⟨q,L⟩
   rwa[z,_,j8 n ([E]▸True.intro) sb t (rF Y w (rel.put k C) i),C,W l]
end
namespace Di
variable {prog:Program}{w:World}{A:Around}{E:Zt->Zu->Prop}{s:Zu}{d:Zs}{es:Array DictEntry}{ep:Nat}
def meets (d:Zs)(a:(d==sysModules)=false):MeetsIn prog w (Builtin.«dict.items» ⟨[↑d],[]⟩) (λ_ R s=>(∃es ep,eF s.heap d es ep)/\R (.ok (.ret ↑↥s)) { s with heap:=s.heap.push ("dict_items">>>.fields #[↑d]) }):=
 .of_wp λA R s ζ=>by
  let⟨⟨es,ep,b⟩,h⟩:=ζ
  rwa[ai2 ?_];rwa[ai2 (alO (Dk.typ b) ?_)];rwa[ajb ?_];unfold Builtin.Dict.showsAll;rw[ajk (by rw[a];decide)];rwa[ai2 (ajb (ai2 (ajW (ajb ⟨12,h⟩))))]
theorem iter (c:s.heap.IsItemsView a d)(h:eF s.heap d es ep)(j:Q ↑↥s { s with heap:=s.heap.push ("dict_itemiterator">>>.fields #[.none,.bool false,↑d,.int 0 0,.int es.size 0,.int ep 0,.none,.none]) }):(prog<|>w) A (pyIter ↑a) Q E s:=by
 let⟨k,f,i,e⟩:=id c;let⟨o,g,l,b⟩:=id h;rwa[wpAny_pyIter_slot c.typeIs F.slot_dict_items_iter (akt F.slot_dict_items_iter c.typeIs F.entry_dict_items_iter ?_ (F.args_dict_items_iter_1 _))];rwa[ai2 (ajb (ai2 ?_))];rwa[ai2 (aj6 f e (x:=↑d) rfl (ajb (ai2 ?_)))];rwa[ai2 (alT g b (ai2 (wpAny_dictEpoch g b ?_)))];let own:Builtin.Dict_items.ownsTuple "dict_itemiterator"=true:=⋯
 simp only[own,amx];rwa[ajW (ajb ⟨12,"dict_itemiterator",_,⟨_,ajv _ rfl,2⟩,alC.lookup,5⟩) (by simp only[sizeOk,Builtin.Dict_items.ownedTupleFields,ajp,ai3,ajo,ajQ,sizeLine_eq];omega)];simpa [rawInt,Builtin.Dict_items.ownedTupleFields] using j
theorem next {it:Zs}{ok:Zt}{Q:Zl->Zu->Prop}(L:A.handled=none)(hit:IsItemIter s.heap it d i es.size ep ok v)(M:eF s.heap d es ep)(I:∀en g,es[i]?\en->IsItemIterOut g it d (i+ 1) es.size ep en.key en.val ↥s->g.get? ↥s\("tuple">>>.seq #[en.key,en.val])->
  (∀b o,b≠it->s•b\o->g.get? b\o)->Q (some ↑↥s) (s<*g))(S:∀g,es[i]?=none->Heap.ExtBut it s.heap g->Q none (s<*g)):(prog<|>w) A (pyNext ↑it) Q E s:=by
 let⟨h,t,r,q,os⟩:=s;let⟨W,p,P,j⟩:=id M;let f:Shared.TypeIs ⟨h,t,r,q,os⟩ ↑it "dict_itemiterator":=⟨_,hit,2⟩;rwa[ai2 (wpAny_attempt (akh (name:=Str.ofString "__next__") f alC (akt alC f F.entry_dict_itemiterator_next ?_ (F.args_dict_itemiterator_next_1 _))))];rwa[ai2 (ajb (ai2 (ai2 ?_)))]
 first|(rwa[ai2 (wpAny_typeNameOfWhole_itemiter f (ajb ?_))];skip)|(rwa[ai2 (wpAny_typeNameOf_itemiter f (ajb ?_))];skip)
 rwa[ai2 (wpAny_fieldsOf hit rfl ?_)];let own:Builtin.Dict_items.ownsTuple "dict_itemiterator"=true:=⋯
 show wpAny _ _ (if (Value.ref d==Value.none)=true then _ else _) _ _ _;rw[ajk (show ¬((Value.ref d==Value.none)=true) by cbv)];rwa[ai2 (ajb (ai2 (alT p j ?_)))];rw[ajk (by simp)];rwa[ai2 (ajb (ai2 (wpAny_dictEpoch p j ?_)))];rw[ajk (by simp)];rwa[ajb ?_];rcases u:es[i]? with _|en <;> simp only[show ¬((i:Int)<0) by ext,amE,ajG,u]
 all_goals
  rwa[ai2 ?_]
  first|(rwa[ai2 (wpAny_typeNameOfWhole_itemiter f (ajb ?_))];skip)|(rwa[ai2 (wpAny_typeNameOf_itemiter f (ajb ?_))];skip)
 ·show wpAny _ _ (setField ↑it 2 .none >>=_) _ _ _;rwa[ai2 (ale hit rfl (by simp) ?_)];rwa[ai2 ?_];rwa[ai2 (m:=firstArgMember _ _) (wpAny_of_eq (a:=Value.none) (by first|rfl|(simp only[firstArgMember];rfl)) ?_)];rwa[ajW ?_ (by size_fits)];rwa[ai2 (wpAny_handled ?_)];rw[show A.in1.handled=none from L];rwa[ai2 (ajb (wpAny_throw ?_))];rwa[ai2 (wpAny_isInstance (T:="StopIteration") (b:=true) ⟨_,ajv _ rfl,2⟩ isSubtype_stop ?_)];rwa[ajb (S _ u (((akC ..).extBut.push _).push _))]
 ·rwa[ai2 (wpAny_isOneOf_itemiter f ?_)];show wpAny _ _ (setField ↑it 3 (rawInt ((i:Int)+ 1)) >>=_) _ _ ⟨h,t,r,q,os⟩
  rwa[ai2 (akq hit (by simp) λg1 B s1=>?_)];let k:Shared.TypeIs ⟨g1,t,r,q,os⟩ ↑it "dict_itemiterator":=⟨_,B,2⟩;rwa[ai2 (aku (ai2 (wpAny_isOneOf_itemiter k (ai2 (wpAny_isOneOf_itemiter k ?_)))))];rwa[ai2 (wpAny_newTuple ?_)];let l:IsItemIter (g1.push ("tuple">>>.seq #[en.key,en.val])) it d (i+ 1) es.size ep ok v:=ai7 _ B;generalize n:g1.push ("tuple">>>.seq #[en.key,en.val])=g2 at l;let z1:g1.objs.size=h.objs.size:=s1.1;let C:it<h.objs.size:=ajy hit;let D:g2.get? h.objs.size\("tuple">>>.seq #[en.key,en.val]):=by rw[<-n,<-z1];rwa[ajv _ rfl]
  let N:∀b o,b≠it->h.get? b\o->g2.get? b\o:=λb o c e=>by rw[<-n];rwa[ai7 _ (s1.extBut b o c e)]
  show wpAny _ _ (Builtin.Dict_items.ownedTupleIsFree ↑it >>=_) _ _ ⟨g2,t,r,q,os⟩;rw[z1];rwa[ai2 ?_];rwa[ai2 (aj6 l rfl (x:=.none) rfl (ajb ?_))];rwa[ai2 (aj6 l rfl (x:=ok) rfl (ai2 (aj6 l rfl (x:=v) rfl ?_)))];rwa[ai2 (akq l (by simp) λX O s3=>?_)];rwa[ai2 (akq O (by simp) λU R s4=>?_)];rwa[ai2 (akq R (by simp) λV G s5=>?_)];rwa[ai2 (akq G (by simp) λy J H=>?_)];let z:∀b o,b≠it->g2.get? b\o->y.get? b\o:=λb o c e=>H.extBut b o c (s5.extBut b o c (s4.extBut b o c (s3.extBut b o c e)))
  rwa[ai2 (wpAny_letGo (ajb (ajb ⟨12,ajb (I en y u J (z _ _ (akE C) D) λb o c e=>z b o c (N b o c e))⟩)))]
end Di
abbrev LQ (d:Zs) (o:Obj) (kvs:List (Zd×V)):It:=Od d o (.dT kvs) ⇑kvs λi H x H'=>∃p kp kv,kvs[i]?\kv/\H p=none/\H kp\.tup (kv.1.map kV)/\x=↑p/\H'=upd H p (.tup [↑kp,kv.2])
def QS {elts:Zr}{x1:Nat}{tp:Pos}(d it:Zs)(o:Obj)(R:Array DictEntry)(T:Nat)(t:List (Zd×V))(O:o.data=.dict R T):
 Turn P w K (.Tuple elts x1 tp) (LQ d o t) [it] it (λi h=>∃ok j,IsItemIter h it d i R.size T ok j) where
 mem:=by simp
 obj:=λi h st b f=>by cbv
 keep:=λi h h' ζ k=>by let⟨ok,j,e⟩:=ζ;rwa[⟨ok,j,k it (by simp) _ e⟩]
 item:=by
  intro X J F hK L i l s σ H E I m st u;subst J F;let⟨ok,j,hit⟩:=st;let⟨hi,n⟩:=u;let⟨r,z,y⟩:=Ir I.aU n O;let M:it<↥s:=ajy hit;refine Di.next (I.ok.hd L) hit r (λen g C G N x=>⟨12,wpAny_letOwnedTupleGo_items G λZ D U=>?_⟩) λg e=>by cbv
  let⟨S,p,v,a,b,c,d,rv⟩:=y i _ C;rw[b,d]at N;rwa[⟨↑↥s,_,I.uV (fp:=[it]) (a:=↥s) (o:=.tup [↑p,S.2]) (h':=Z) (t':=s.toks) (λb B f q=>?_) m (aja _) ⟨Za4 2,[↑p,v],.cons rfl (.cons rv .nil),_,(U.2 _ (akE M)).trans N,212⟩,2,⟨_,p,S,a,I.aU.fresh (aja _),c,22⟩,⟨11,D⟩,λb f=>?_⟩]
  ·simp at f;rwa[(U.2 b f).trans (x b B f q)]
  ·rw[ai9.mp f,ak (ajH M)];rwa[(m it (by simp)).1]
 done:=by intro X J F hK L i l s σ H E I m st u;subst J F;let⟨ok,j,hit⟩:=st;let⟨hi,n⟩:=u;let⟨r,z,y⟩:=Ir I.aU n O;rwa[Di.next (I.ok.hd L) hit r (λen g e=>by cbv) λg _ eb=>⟨2,I.j4 (fp:=[it]) (t':=s.toks) (λb B f q=>eb b B (λz=>f (by simp[z])) q) m⟩]
 self:=λA i s Q E ζ h=>by let⟨ok,j,hit⟩:=ζ;rwa[PySem.W.kcp_self hit h]
section
variable {X:Cx}
def iDI (tl:TE):TI:=λ c H R=>tl c H λx b=>∃d a,x=↑d/\b d\.dT a/\∀o,R (LQ d o a) (upd b d (.df o (.dT a)))
def Ya {tl:TE}{elts:Zr}{apos c:Pos}(N:PE X e tl)(f:attributeBase e "items" X.env (eval e X.env)=eval e X.env)(hline:(apos.endLine==c.line)=true):
 PI X (.Tuple elts n p) (.Call (.Attribute e "items" apos) [] [] c) (iDI tl):=by
 intro r s Q H R I h;rwa[wpAny_Call_method0_late f hline (a9 (N r s Q H _ I h) λu s1 ζ=>?_)];let⟨x,M,k,O,d,j,ex,v,q⟩:=ζ;subst ex;ext O;obtain⟨-,C,ys,V,o,m,t,A,E,D,Y,Z⟩:=k.aU d _ v;let l:eF s1.heap d m t:=⟨o,A,E,D⟩;let B:Ek M d:=.inr ⟨j,.inl v⟩;let⟨F,G,_⟩:=lX k B;rwa[⟨"dict","dict.items",akv,PySem.F.slot_dict_items,PySem.F.type_dict_items,F,G,akc rfl (PySem.evalArgs_none ?_)⟩];rwa[alx PySem.F.slot_dict_items F PySem.F.entry_dict_items (PySem.F.args_dict_items_1 _) (Di.meets d C) ⟨⟨m,t,l⟩,5⟩];let S:(s1.heap.push ("dict_items">>>.fields #[↑d])).IsItemsView ↥s1 d:=⟨_,ajv _ rfl,22⟩;let g:eF (s1.heap.push ("dict_items">>>.fields #[↑d])) d m t:=⟨o,ai7 _ A,E,D⟩;rwa[Di.iter (s:={ s1 with heap:=s1.heap.push ("dict_items">>>.fields #[↑d]) }) S g ?_];let L:=(k.freeze v True.intro A).kept (h':=(s1.heap.push ("dict_items">>>.fields #[↑d])).push ("dict_itemiterator">>>.fields #[.none,.bool false,↑d,.int 0 0,.int m.size 0,.int t 0,.none,.none])) (t':=s1.toks) λb o a=>ai7 _ (ai7 _ a)
 let i:↥s1<=(s1.heap.push ("dict_items">>>.fields #[↑d])).objs.size:=by rw[alf];ext
 let T:=QS (P:=X.prog) (w:=X.w) (K:=X.K) (elts:=elts) (x1:=n) (tp:=p) d (s1.heap.push ("dict_items">>>.fields #[↑d])).objs.size o m t j D;rwa[⟨111112,L,T,⟨11,ajv _ rfl⟩,λb J=>?_,q o⟩];rw[ai9.mp J];let y:=k.aU.fresh i;rwa[k.AB i ([ak (λz=>by cbv)]▸y)]
end
def Uk {g:TG}{e:TS}{o:Obj}{kvs:List (Zd×V)}(a:Nat->St->Hp->Prop)(k:a 0 D H)(m:∀i D H,i<=⇑kvs->a i D H->H d\.df o (.dT kvs))(q:∀i b D H p kp,kvs[i]?\b->H p=none->H kp\.tup (b.1.map kV)->a i D H->g ↑p D (upd H p (.tup [↑kp,b.2])) λ c r=>e { G with nx:=a (i+ 1),ct:=a (i+ 1),bk:=G.nx } c r)(f:∀ D H,a ⇑kvs D H->G.nx D H):rz (LQ d o kvs) g e G D H:=Oe k m (λi D H x s p y=>by let⟨j,kp,b,l,h,n,rfl,rfl⟩:=y;rwa[q i b D _ j kp l h n p]) f
theorem uY:∀(n:Nat)(l:Zg)(lo:Int),l.Nodup->(∀x∈l,lo<=x/\x<lo+ n)->⇑l<=n
 |0,[],_,_,_=>aja _
 |0,x::l,lo,_,h=>by have:=h x (aji ..);ext
 |n+ 1,l,lo,b,h=>by
  cases c:lo+ n∈l
  ·let d:=uY n (l.erase (lo+ n)) lo (b.erase _) λx a=>by let e:=(b.mem_erase_iff.mp a);let f:=h x e.2;ext
   rw[alu c]at d;ext
  ·let d:=uY n l lo b λx a=>by
    let f:=h x a;let g:x≠lo+ n:=λz=>c (by rw[<-z];rwa[a])
    ext
   ext
section
variable {κ:Type} [DecidableEq κ]
def IC (b:List (κ×V))(k j:κ):bz (fe b k) j=if j=k then none else bz b j:=by
 unfold fe
 induction b with
 |nil=>split <;> rfl
 |cons p r e=>
  cases c:p.1=k
  ·rw[List.filter_cons_of_neg (by simp[c]),e];cases a:j=k
   ·cbv
   ·rw[ajk a,ajk a,cI (λz=>a (z.symm.trans c))]
  ·rw[amj (by simp[c])];cases a:p.1=j
   ·rw[cQ a,ajk (λz=>c (a.trans z)),cQ a]
   ·rw[cI a,e];cases d:j=k
    ·cbv
    ·rw[ajk d,ajk d,cI a]
def Bm (a:List (κ×V))(k:κ)(v:V):(putK a k v).map (·.1)=if k∈a.map (·.1) then a.map (·.1) else a.map (·.1)++[k]:=by
 unfold putK;cases h:(a.any λb=>decide (b.1=k))=true
 ·let c:k∈a.map (·.1):=by let⟨b,e,d⟩:=List.any_eq_true.mp h;rwa[ajN.mpr ⟨b,e,ajX d⟩]
  rw[ajn h,ajn c,ajM];rwa[aj5 λb _=>?_]
  cbv
 cbv
def Ul {a:List (κ×V)}(k:κ)(v:V)(h:(a.map (·.1)).Nodup):((putK a k v).map (·.1)).Nodup:=by
 rw[Bm];split
 ·rwa[h]
 ·rename_i b;rwa[aj0.mpr ⟨h,by simp,λx d y c z=>?_⟩];rw[ai9.mp c]at z;rwa[b (by rw[<-z];rwa[d])]
def QT {a:List (κ×V)}(k:κ)(h:(a.map (·.1)).Nodup):((fe a k).map (·.1)).Nodup:=by rwa[List.Nodup.sublist ((ak6).map _) h]
def Bn {a:List (κ×V)}(h:(a.map (·.1)).Nodup){b:κ×V}(hm:b∈a):bz a b.1\b.2:=by
 induction a with
 |nil=>ext hm
 |cons p r c=>
  rw[aki,ajO]at h;rcases ajs.mp hm with e|hm
  ·rw[e];rwa[cQ rfl]
  ·rw[cI (λz=>h.1 ([z]▸ak5 hm))];rwa[c h.2 hm]
def LR {a:List (κ×V)}{k:κ}(h:bz a k\q):(k,q)∈a:=by
 unfold bz at h
 cases e:a.find? λb=>decide (b.1=k) with
 |none=>rw[e]at h;ext h
 |some b=>cbv
end
def DI (H:Hp)(d:Zs)(f:Int->Zc):Prop:=∃a:List (Key×V),H d\.dK a/\(a.map (·.1)).Nodup/\(∀b∈a,∃i:Int,b.1=Sum.inl i)/\∀i:Int,bz a (Sum.inl i)=f i
def DI.at {f:Int->Zc}(h:DI H d f)(k:∀o,H d\o->I d\o):DI I d f:=by let⟨a,c,b⟩:=h;rwa[a,k _ c,b]
def DI.congr {f g:Int->Zc}(h:DI H d f)(e:∀i,f i=g i):DI H d g:=by let⟨a,j,b,k,c⟩:=h;rwa[a,j,b,k,λi=>(c i).trans (e i)]
def Bo {a:List (Key×V)}{f:Int->Zc}(k:(a.map (·.1)).Nodup)(h:∀g∈a,∃i:Int,g.1=Sum.inl i)(l:∀i:Int,bz a (Sum.inl i)=f i)(i:Int)(v:V):DI (upd H d (.dK (putK a (Sum.inl i) v))) d (λj=>if j=i then some v else f j):=by
 rwa[⟨_,aj,Ul^k,λg b=>?_,λj=>?_⟩]
 ·have:g.1∈(putK a (Sum.inl i) v).map (·.1):=ak5 b;rw[Bm]at this;split at this
  ·let⟨q,c,e⟩:=ajN.mp this;rw[<-e];rwa[h q c]
  ·rcases ajh.mp this with z|z
   ·let⟨q,c,e⟩:=ajN.mp z;rw[<-e];rwa[h q c]
   ·rwa[i,ai9.mp z]
 ·rw[lV];dsimp only;cases e:j=i
  ·rw[ajn e,ajn (by rw[e])]
  ·rw[ajk e,ajk (λz=>e (Sum.inl.inj z)),l]
def QV {a:List (Key×V)}{f:Int->Zc}(e:(a.map (·.1)).Nodup)(g:∀c∈a,∃i:Int,c.1=Sum.inl i)(h:∀i:Int,bz a (Sum.inl i)=f i)(i:Int):DI (upd H d (.dK (fe a (Sum.inl i)))) d (λj=>if j=i then none else f j):=by
 rwa[⟨_,aj,QT _ e,λc b=>g c ((akk.mp b).1),λj=>?_⟩];rw[IC]
 cbv
def vS {c:List (Key×V)}{f:Int->Zc}(k:(c.map (·.1)).Nodup)(m:∀d∈c,∃i:Int,d.1=Sum.inl i)(p:∀i:Int,bz c (Sum.inl i)=f i){n:Nat}{lo:Int}(o:∀i v,f i\v->lo<=i/\i<lo+ n):⇑c<=n:=by
 let h:=uY n (c.map λd=>match d.1 with|Sum.inl i=>i|Sum.inr _=>0) lo ?_ λx r=>?_
 ·rw[ai6]at h;rwa[h]
 ·let e:c.map (·.1)=(c.map λd=>match d.1 with|Sum.inl i=>i|Sum.inr _=>(0:Int)).map Sum.inl:=by
   rw[ajM];rwa[aj5 λd g=>?_]
   let⟨i,j⟩:=m d g;show d.1=Sum.inl (match d.1 with|Sum.inl i=>i|Sum.inr _=>(0:Int));rw[j]
  rw[e]at k;rwa[List.Pairwise.imp (λ{a b} q z=>q (ajY Sum.inl z)) (akG.mp k)]
 ·let⟨d,g,rfl⟩:=ajN.mp r;let⟨i,j⟩:=m d g;let l:=Bn k g;rw[j,p]at l;rw[j];rwa[o i _ l]
abbrev bI:=Int->Int->Int->Bool
structure dX (H:Hp)(k:Zs)(D:Int->Zo)(E:Int->Int->Zo)(S:bI):Prop where
 top:DI H k λc=>(D c).map V.ref
 row:∀c d,D c\d->DI H d λs=>(E c s).map V.ref
 zg:∀c s e,E c s\e->DI H e λo=>if S c s o=true then some (.bl true) else none
 ed:∀c s e,E c s\e->∃d,D c\d
 se:∀c s o,S c s o=true->∃e,E c s\e
 nd:∀c d,D c\d->d≠k
 ne:∀c s e,E c s\e->e≠k
 dd:∀c c' d,D c\d->D c'\d->c=c'
 de:∀c c' s d,D c\d->E c' s\d->False
 ee:∀c s c' s' e,E c s\e->E c' s'\e->c=c'/\s=s'
def uZ (k:Zs)(D:Int->Zo)(E:Int->Int->Zo)(b:Zs):Prop:=b=k\/(∃c,D c\b)\/∃c s,E c s\b
section
variable {H H':Hp}{k:Zs}{D:Int->Zo}{E:Int->Int->Zo}{S:bI}
def dX.keep (h:dX H k D E S)(f:∀b o,uZ k D E b->H b\o->H' b\o):dX H' k D E S:=⟨h.top.at λo e=>f _ _ (.inl rfl) e,λc d e=>(h.row c d e).at λo q=>f _ _ (.inr (.inl ⟨c,e⟩)) q,λc s e q=>(h.zg c s e q).at λo r=>f _ _ (.inr (.inr ⟨c,s,q⟩)) r,h.ed,h.se,h.nd,h.ne,h.dd,h.de,h.ee⟩
def dX.same (h:dX H k D E S)(s:aq H H'):dX H' k D E S:=h.keep λb o _ e=>s b o e
def dX.there (h:dX H k D E S){b:Zs}(d:uZ k D E b):∃a,H b\(.dK a):=by
 rcases d with rfl|⟨c,e⟩|⟨c,s,e⟩
 ·let⟨a,q,_⟩:=h.top;rwa[a,q]
 ·let⟨a,q,_⟩:=h.row c b e;rwa[a,q]
 ·let⟨a,q,_⟩:=h.zg c s b e;rwa[a,q]
def dX.congr (h:dX H k D E S){d:Int->Zo}{b:Int->Int->Zo}{a:bI}(e:∀c,D c=d c)(g:∀c s,E c s=b c s)(f:∀c s o,S c s o=a c s o):dX H k d b a:=by
 obtain rfl:D=d:=funext e;obtain rfl:E=b:=funext λc=>funext (g c)
 obtain rfl:S=a:=funext λc=>funext λs=>funext (f c s)
 rwa[h]
def dX.Um (h:dX H k D E S):∃a:List (Key×V),H k\.dK a/\(a.map (·.1)).Nodup/\(∀b∈a,∃i:Int,b.1=Sum.inl i)/\∀i:Int,bz a (Sum.inl i)=(D i).map V.ref:=h.top
def dX.LV (h:dX H k D E S){c:Int}{d:Zs}(hd:D c\d):∃a:List (Key×V),H d\.dK a/\(a.map (·.1)).Nodup/\(∀b∈a,∃i:Int,b.1=Sum.inl i)/\∀i:Int,bz a (Sum.inl i)=(E c i).map V.ref:=h.row c d hd
def dX.Uo (h:dX H k D E S){c s:Int}{e:Zs}(d:E c s\e):∃a:List (Key×V),H e\.dK a/\(a.map (·.1)).Nodup/\(∀b∈a,∃i:Int,b.1=Sum.inl i)/\∀i:Int,bz a (Sum.inl i)=if S c s i=true then some (.bl true) else none:=h.zg c s e d
def dX.QW (h:dX H k D E S){c s:Int}{d e:Zs}(hd:D c\d)(N:E c s=none){j:List (Key×V)}(B:H d\.dK j)(J:H e\.dK [])(nw:¬uZ k D E e):
 dX (upd H d (.dK (putK j (Sum.inl s) ↑e))) k D (λb f=>if b=c/\f=s then some e else E b f) S:=by
 let x:e≠d:=λz=>nw (.inr (.inl ⟨c,[z]▸hd⟩))
 let⟨t,C,L,F,I⟩:=h.row c d hd;rw[B]at C;obtain rfl:j=t:=by cbv
 rwa[⟨h.top.at λo q=>?_,λb u i=>?_,λb f m a=>?_,λb f m a=>?_,λb f o G=>?_,h.nd,λb f m a=>?_,h.dd,λb r f u i a=>?_,λb f r w m p l=>?_⟩]
 ·rw[ak (h.nd c d hd).symm];rwa[q]
 ·cases g:b=c
  ·subst g;have:u=d:=by rw[hd]at i;rwa[(Za0 i).symm]
   subst this;rwa[(Bo L F I s ↑e).congr λf=>?_]
   cbv
  ·let y:u≠d:=λz=>g (h.dd _ _ _ i ([z]▸hd))
   rwa[((h.row b u i).at λo q=>[ak y]▸q).congr λf=>?_]
   cbv
 ·cases g:b=c/\f=s
  ·rw[ajn g]at a;obtain rfl:=Za0 a;let⟨rfl,rfl⟩:=g;rwa[⟨[],[ak x]▸J,by simp,(λM A=>by ext A),λo=>?_⟩]
   cases q:S b f o with
   |true=>let⟨m,z⟩:=h.se _ _ _ q;cbv
   |false=>dsimp only;rw[q];rfl
  ·rw[ajk g]at a;exact(h.zg b f m a).at λo q=>by rw[ak (λz=>h.de c b f d hd (by cbv))];rwa[q]
 ·cases g:b=c/\f=s
  ·cbv
  ·rw[ajk g]at a;rwa[h.ed _ _ _ a]
 ·cases g:b=c/\f=s
  ·rwa[e,ajn g]
  ·let⟨m,z⟩:=h.se _ _ _ G;cbv
 ·cases g:b=c/\f=s
  ·rw[ajn g]at a;obtain rfl:=Za0 a;rwa[λz=>nw (.inl z)]
  ·rw[ajk g]at a;rwa[h.ne _ _ _ a]
 ·cases g:r=c/\f=s
  ·rw[ajn g]at a;obtain rfl:=Za0 a;rwa[nw (.inr (.inl ⟨b,i⟩))]
  ·rw[ajk g]at a;rwa[h.de _ _ _ _ i a]
 ·cases v:b=c/\f=s
  ·rw[ajn v]at p;obtain rfl:=Za0 p;cases n:r=c/\w=s
   ·rwa[v.1.trans n.1.symm,v.2.trans n.2.symm]
   ·rw[ajk n]at l;rwa[(nw (.inr (.inr ⟨r,w,l⟩))).elim]
  ·rw[ajk v]at p;cases n:r=c/\w=s
   ·rw[ajn n]at l;obtain rfl:=Za0 l;rwa[(nw (.inr (.inr ⟨b,f,p⟩))).elim]
   ·rw[ajk n]at l;rwa[h.ee _ _ _ _ _ p l]
def dX.setCell (h:dX H k D E S){c s:Int}{e:Zs}(i:E c s\e){u:HO}{g:Int->Bool}(n:DI (upd H e u) e λo=>if g o=true then some (.bl true) else none):
 dX (upd H e u) k D E (λa d o=>if a=c/\d=s then g o else S a d o):=by
 rwa[⟨h.top.at λo q=>?_,λa m j=>(h.row a m j).at λo q=>?_,λa d p b=>?_,h.ed,λa d o l=>?_,h.nd,h.ne,h.dd,h.de,h.ee⟩]
 ·rw[ak (h.ne _ _ _ i).symm];rwa[q]
 ·rw[ak (λz=>h.de _ _ _ _ j ([z]▸i))];rwa[q]
 ·cases f:a=c/\d=s
  ·let⟨rfl,rfl⟩:=f;rw[i]at b;obtain rfl:=Za0 b;rwa[n.congr λo=>?_]
   simp
  ·refine((h.zg a d p b).at λo q=>?_).congr λo=>by rw[ajk f]
   rw[ak (λz=>f (h.ee _ _ _ _ _ b ([z]▸i)))];rwa[q]
 ·cases f:a=c/\d=s
  ·rwa[e,[f.1,f.2]▸i]
  ·rw[ajk f]at l;rwa[h.se _ _ _ l]
def dX.Uq (h:dX H k D E S){c s:Int}{e:Zs}(j:E c s\e){a:List (Key×V)}(l:H e\.dK a)(o:Int):
 dX (upd H e (.dK (putK a (Sum.inl o) (.bl true)))) k D E (λi f b=>S i f b || (decide (i=c) && decide (f=s) && decide (b=o))):=by
 let⟨d,n,q,p,m⟩:=h.zg c s e j;rw[l]at n;obtain rfl:a=d:=by cbv
 rwa[(h.setCell (g:=λb=>S c s b || decide (b=o)) j ((Bo q p m o (.bl true)).congr λb=>?_)).congr (λ_=>rfl) (λ_ _=>rfl) λi f b=>?_]
 ·cbv
 cbv
def dX.QX (h:dX H k D E S){n:Int}{d:Zs}(hd:D n=none){g:List (Key×V)}(v:H k\.dK g)(A:H d\.dK [])(nw:¬uZ k D E d):
 dX (upd H k (.dK (putK g (Sum.inl n) ↑d))) k (λc=>if c=n then some d else D c) E S:=by
 let⟨m,w,B,x,y⟩:=h.top;rw[v]at w;obtain rfl:g=m:=by cbv
 let t:d≠k:=λz=>nw (.inl z)
 let en:∀s,E n s=none:=λs=>by
  cases q:E n s with
  |none=>rfl
  |some e=>let⟨i,z⟩:=h.ed _ _ _ q;cbv
 rwa[⟨(Bo B x y n ↑d).congr λc=>?_,λc i a=>?_,λc s e p=>(h.zg c s e p).at λo q=>?_,λc s e p=>?_,h.se,λc i a=>?_,h.ne,λc r i b f=>?_,λc r s i b f=>?_,h.ee⟩]
 ·cbv
 ·cases e:c=n
  ·rw[ajn e]at a;obtain rfl:=Za0 a;subst e;rwa[⟨[],[ak t]▸A,by simp,(λC u=>by ext u),λs=>?_⟩];dsimp only;rw[en s];rfl
  ·rw[ajk e]at a;exact(h.row c i a).at λo q=>by rw[ak (h.nd^a)];rwa[q]
 ·rw[ak (h.ne _ _ _ p)];rwa[q]
 ·let⟨i,z⟩:=h.ed _ _ _ p
  cbv
 ·cases e:c=n
  ·cbv
  ·rw[ajk e]at a;rwa[h.nd^a]
 ·cases j:c=n
  ·rw[ajn j]at b;obtain rfl:=Za0 b;cases l:r=n
   ·rw[j,l]
   ·rw[ajk l]at f;rwa[(nw (.inr (.inl ⟨_,f⟩))).elim]
  ·rw[ajk j]at b;cases l:r=n
   ·rw[ajn l]at f;obtain rfl:=Za0 f;rwa[(nw (.inr (.inl ⟨_,b⟩))).elim]
   ·rw[ajk l]at f;rwa[h.dd _ _ _ b f]
 ·cases j:c=n
  ·rw[ajn j]at b;obtain rfl:=Za0 b;rwa[nw (.inr (.inr ⟨11,f⟩))]
  ·rw[ajk j]at b;rwa[h.de _ _ _ _ b f]
end
namespace Et
def meets (l:Zs)(items:Zm)(n:Nat)(dct:Zo)(j:Array Zl):
 Meets (Builtin.«enumerate.__new__» ⟨[.type "enumerate",↑l],[]⟩) (λ_ R s=>s•l\{ cls:=.type "tuple",dict:=dct,data:=.seq items n,slots:=j }/\
  R (.ok (.ret (↑(s.heap.push ("tuple_iterator">>>.fields #[↑l,.int 0 0])).objs.size)))
    { s with heap:=(s.heap.push ("tuple_iterator">>>.fields #[↑l,.int 0 0])).push ("enumerate">>>.fields #[.none,.bool false,↑↥s,rawInt 0,.none,.none]) }):=
 .of_wp λb w A R s h=>by
  let⟨i,g,d,k,os⟩:=s;let⟨a,h⟩:=h;let e:=sub_enumerate;let f:Heap.IsTuple (Shared.heap ⟨i,g,d,k,os⟩) l items:=⟨_,a,2,n,2⟩
  wp_walk using alr a;rwa[wpAny_stack_any λst=>ajb ?_]
  split
  ·rename_i c _ _ _ _ _;cases (c==Value.type "enumerate") <;> (wp_walk using alr a,wpAny_pyIter_tuple f;rwa[12,h])
  ·wp_walk using alr a,wpAny_pyIter_tuple f;rwa[12,h]
theorem call {items:Zm}(k:s.heap.IsTuple a items)(h:∀g,IsEnum g (↥s+ 1) ↥s 0 .none->g.IsTupleIter ↥s a 0->g.objs.size=↥s+ 2->(∀b o,s•b\o->g.get? b\o)->Q ↑(↥s+ 1) (s<*g)):
 (P<|>w) A (call (.type "enumerate") [↑a]) Q E s:=by
 let⟨⟨c,dct,l,j⟩,m,f,n,d⟩:=k;replace f:c=.type "tuple":=f;replace d:l=.seq items n:=d;subst f d;rwa[callType_new F.called_enumerate ⋯ (F.typeCall_enumerate_1 _) (F.newCall_enumerate_1 _) (λobj=>F.args_object_init_2 obj _) F.entry_enumerate_new (meets a items n dct j) ⟨m,5⟩];let e:(s.heap.push ("tuple_iterator">>>.fields #[↑a,.int 0 0])).objs.size=↥s+ 1:=alf ..;show _/\_;rw[e]
 let i:IsEnum ((s.heap.push ("tuple_iterator">>>.fields #[↑a,.int 0 0])).push ("enumerate">>>.fields #[.none,.bool false,↑↥s,rawInt 0,.none,.none])) (↥s+ 1) ↥s 0 .none:=by have:=ajv (s.heap.push ("tuple_iterator">>>.fields #[↑a,.int 0 0])) (o:=("enumerate">>>.fields #[.none,.bool false,↑↥s,rawInt 0,.none,.none])) rfl;rw[e]at this;rwa[this]
 rwa[⟨_,i,2⟩,h _ i ⟨_,ai7 _ (ajv _ rfl),22⟩ (by rw[alf,e]) λb o x=>ai7 _ (ai7 _ x)]
end Et
variable {K:Za1}{mg:Str->Zl}{h:Heap}{C f:Zs}{x q:Str}{st:Stmt}{ps:Zp}{oc kV doc pm cw ct:Zt}{od an:Zo}{A0:Array Zl}
theorem Def.of (X:K.In h)(G:h.Ns mainGlobals mg)(a:PySem.W.nsIn K mainGlobals x\some ↑f)(l:K.lookup f\⟨oc,od,.func (fnOf x x (dD st) (cU st) (aD st) .none kV doc pm an cw ct),A0⟩)(c:codeIn K cw x=true)(k:keepIn K ↑f=true)(b:∀(kV doc pm:Zt) (an:Zo) (cw ct:Zt) (us:Zk),⇑us=⇑ps->bindArgs (fnOf x x (dD st) (cU st) (aD st) .none kV doc pm an cw ct) ⟨us,[]⟩=pure (ps.zip us)):Def K mg x st ps f (fnOf x x (dD st) (cU st) (aD st) .none kV doc pm an cw ct):=
 let F:=HP (st:=st) l c k
 ⟨F,mg_of X G a,F.binds (ps:=ps) b⟩
theorem MDef.of (a:findIn K ↑C x\some ↑f)(i:isFn K ↑f=true)(l:K.lookup f\⟨oc,od,.func (fnOf x q (dD st) (cU st) (aD st) .none kV doc pm an cw ct),A0⟩)(c:codeIn K cw q=true)(k:keepIn K ↑f=true)(b:∀(kV doc pm:Zt) (an:Zo) (cw ct:Zt) (us:Zk),⇑us=⇑ps->bindArgs (fnOf x q (dD st) (cU st) (aD st) .none kV doc pm an cw ct) ⟨us,[]⟩=pure (ps.zip us)):MDef K C x q st ps f (fnOf x q (dD st) (cU st) (aD st) .none kV doc pm an cw ct):=
 let F:=HP (st:=st) l c k
 ⟨F,⟨a,i,k⟩,F.binds (ps:=ps) b⟩
def Def.fd {fd:FuncData}(D:Def K mg x st ps f fd):∃(kV doc pm:Zt)(an:Zo)(cw ct:Zt),fd=fnOf x x (dD st) (cU st) (aD st) .none kV doc pm an cw ct:=by let⟨oc,od,kV,doc,pm,an,cw,ct,A0,e,_⟩:=D.F.ex;rwa[kV,doc,pm,an,cw,ct,e]
end L2
namespace L2
def wk (b:Nat->Int->Zi):Nat->Zg->Zi
 |c,[]=>some c
 |c,z::w=>match b c z with
  |none=>none
  |some d=>wk b d w
section
variable {b:Nat->Int->Zi}
def jv (h:b n z\m):wk b n (z::l)=wk b m l:=by show (match b n z with|none=>none|some m=>wk b m l)=_;rw[h]
def oO (h:wk b n (z::l)\m):∃d,b n z\d/\wk b d l\m:=by
 cases q:b n z with
 |none=>let a:(match b n z with|none=>none|some d=>wk b d l)\m:=h;rw[q]at a;ext a
 |some d=>rw[jv q]at h;rwa[d,2,h]
theorem rQ:∀{u v:Zg}{c d:Nat},wk b c u\d->wk b c (u++v)=wk b d v
 |[],v,c,d,h=>by rw[Za0 h];rfl
 |z::u,v,c,d,h=>by let⟨e,f,a⟩:=oO h;rw[alB,jv f];rwa[rQ a]
def IE (h:b n z\m):wk b n [z]\m:=by rw[jv h];rfl
def take_snoc (h:l[i]?\z):l.take (i+ 1)=l.take i++[z]:=by rw[akf,h];rfl
def drop_cons (h:l[i]?\z):l.drop i=z::l.drop (i+ 1):=by let a:=(ai4.mp h).1;rw[alY a,(ai4.mp h).2]
end
structure Later (S S':RS):Prop where
 el:∀c,c<S.q->S'.ax (S.ax c)=S'.ax c
 by_:∀c z d,S.by c z=some d->S'.by (S'.ax c) z=some (S'.ax d)
def Later.of {l:Za2}(h:Good S [] R)(g:Good T [] l)(i:∀a z b,R a z b->l a z b)(k:S.q<=T.q):Later S T:=by
 let el:∀c,c<S.q->T.ax (S.ax c)=T.ax c:=λc hc=>(g.fin (ajF (h.lt hc) k) (ajF hc k)).mpr ((h.cg c hc).mono i).symm
 rwa[⟨el,λc z d e=>?_⟩];let⟨f,j,r,n,m⟩:=h.so _ _ _ e;let⟨o,l2,_⟩:=h.rl _ _ _ r;rw[<-n,<-m,el f o,el j l2];rwa[g.vR.mpr ⟨f,j,i _ _ _ r,22⟩]
theorem Later.wk (h:Later S T):∀{w:Zg}{c d:Nat},wk S.by c w=some d->wk T.by (T.ax c) w=some (T.ax d)
 |[],c,d,e=>by rw[Za0 e];rfl
 |z::w,c,d,e=>by let⟨f,b,a⟩:=oO e;rw[jv (h.by_ _ _ _ b)];rwa[Later.wk h a]
structure Gg where
 which:Nat
 word:Zg
 start:Nat
 front:Nat
 first:Nat
 bB:Nat
 last:Nat
abbrev Zf:=List (Option Gg)
def Gg.z1 (g:Gg):Int:=g.word.getD g.first 0
def Gg.z2 (g:Gg):Int:=-(g.word.getD g.last 0)
structure GI (S:RS)(g:Gg):Prop where
 fl:g.first<=g.last
 ll:g.last<⇑g.word
 s:g.start<S.q
 f:g.front<S.q
 r:g.bB<S.q
 wf:wk S.by (S.ax g.start) (g.word.take g.first)=some (S.ax g.front)
 wr:wk S.by (S.ax g.bB) (g.word.drop (g.last+ 1))=some (S.ax g.start)
def GI.later {g:Gg}(h:GI S g)(l:Later S T)(a:S.q<=T.q):GI T g:=by let c:=l.wk h.wf;let b:=l.wk h.wr;rw[l.el _ h.s,l.el _ h.f]at c;rw[l.el _ h.r,l.el _ h.s]at b;rwa[h.fl,h.ll,ajF h.s a,ajF h.f a,ajF h.r a,c,b]
def Gg.mh {g:Gg}(h:g.first<⇑g.word):g.word[g.first]?\g.z1:=by unfold Gg.z1;rw[ai8,ai1 h];rfl
def Gg.at2 {g:Gg}(h:g.last<⇑g.word):g.word[g.last]?\(-g.z2):=by unfold Gg.z2;rw[ai8,ai1 h,ako];rfl
structure YW (S:RS)(g g':Gg):Prop where
 wh:g'.which=g.which
 wo:g'.word=g.word
 st:g'.start=g.start
 gi:GI S g'
 ef:S.ax g'.front=g'.front
 er:S.ax g'.bB=g'.bB
 n1:g'.first<g'.last->S.by g'.front g'.z1=none
 n2:g'.first<g'.last->S.by g'.bB g'.z2=none
 k1:S.ax g.front=g.front->S.by g.front g.z1=none->g'.front=g.front/\g'.first=g.first
 k2:S.ax g.bB=g.bB->S.by g.bB g.z2=none->g'.bB=g.bB/\g'.last=g.last
def GI.whole {g:Gg}(h:GI S g)(e:g.first=g.last)(c:S.ax g.start=g.start)(ef:S.ax g.front=g.front)(er:S.ax g.bB=g.bB)(d:S.by g.front g.z1=some g.bB):wk S.by g.start g.word=some g.start:=by
 let b:=h.wf;let a:=h.wr;rw[c,ef]at b;rw[c,er,<-e]at a;let hz:=Gg.mh (g:=g) ([e]▸h.ll);have:g.word=g.word.take g.first++(g.z1::g.word.drop (g.first+ 1)):=by rw[<-drop_cons hz,List.take_append_drop]
 rw[this,rQ b,jv d];rwa[a]
def eN (m:Nat)(W:bI)(n:Int):Nat:=(~~~(m* 2001)).countP λc=>W ((c / 2001:Nat):Int) (((c % 2001:Nat):Int) - 1000) n
def vT (m G:Nat)(W:bI):Nat:=((~~~G).map λn:Nat=>eN m W n).sum
def gf (W:bI)(r s:Int):bI:=λb a n=>W b a n && !(decide (b=r) && decide (a=s))
def Ur (a:n<m)(b: -1000<=z/\z<=1000):n* 2001+ (z+ 1000).toNat<m* 2001:=by have:(n+ 1)* 2001<=m* 2001:=akm _ a;ext
def IG {c r:Nat}(f: -1000<=z/\z<=1000):(((c / 2001:Nat):Int)=(r:Int)/\((c % 2001:Nat):Int) - 1000=z)↔c=r* 2001+ (z+ 1000).toNat:=by
 constructor
 ·rintro ⟨e,d⟩;have:=Nat.div_add_mod c 2001;ext
 ·intro h;subst h
  let a:(r* 2001+ (z+ 1000).toNat) / 2001=r:=by rw[ak0,Nat.mul_add_div ⋯,amA ∅];ext
  let b:(r* 2001+ (z+ 1000).toNat) % 2001=(z+ 1000).toNat:=by rw[ak0,Nat.mul_add_mod,amB ∅]
  rw[a,b];ext
def Us {W:bI}(a:Int)(g:n<m)(d: -1000<=z/\z<=1000):eN m (gf W n z) a+ (if W n z a=true then 1 else 0)=eN m W a:=by
 let f:=Ur g d
 let dec:∀c:Nat,(decide (((c / 2001:Nat):Int)=(n:Int)) && decide (((c % 2001:Nat):Int) - 1000=z))=decide (c=n* 2001+ (z+ 1000).toNat):=λc=>by rw[<-Bool.decide_and,amC];rwa[IG d]
 let at_:=(IG (c:=n* 2001+ (z+ 1000).toNat) (r:=n) d).mpr rfl;unfold eN gf;cases b:W n z a=true
 ·rw[ajn b]
  have:=lD (p:=λc:Nat=>W ((c / 2001:Nat):Int) (((c % 2001:Nat):Int) - 1000) a) (p':=λc:Nat=>W ((c / 2001:Nat):Int) (((c % 2001:Nat):Int) - 1000) a && !(decide (((c / 2001:Nat):Int)=(n:Int)) && decide (((c % 2001:Nat):Int) - 1000=z))) (v:=n* 2001+ (z+ 1000).toNat) (λc=>by rw[dec c,<-decide_not]) ([at_.1,at_.2]▸b) (m* 2001)
  rw[ajn f]at this;rwa[this]
 ·rw[ajk b,Nat.add_zero];rwa[List.countP_congr λc _=>?_]
  rw[akB];rwa[⟨λh=>h.1,λh=>⟨h,5⟩⟩];rw[dec c]
  cases e:decide (c=n* 2001+ (z+ 1000).toNat) with
  |false=>rfl
  |true=>rw[ajX e,at_.1,at_.2]at h;rwa[absurd h b]
theorem zh:∀(l:Zh)(f g h:Nat->Nat),(∀n∈l,f n+ g n=h n)->(l.map f).sum+ (l.map g).sum=(l.map h).sum
 |[],_,_,_,_=>rfl
 |a::l,f,g,h,e=>by
  let c:=zh l f g h λn b=>e n (ajw _ b)
  have:=e a (aji ..);simp only[aki,List.sum_cons];ext
theorem Ey (p:Nat->Bool):∀l:Zh,(l.map λn=>if p n=true then 1 else 0).sum=l.countP p
 |[]=>rfl
 |a::l=>by rw[aki,List.sum_cons,Ey p l,List.countP_cons];ext
def QY {G:Nat}{W:bI}(b:n<m)(c: -1000<=z/\z<=1000):vT m G (gf W n z)+ (~~~G).countP (λa:Nat=>W n z a)=vT m G W:=by unfold vT;rw[<-Ey (λa:Nat=>W n z a)];rwa[zh _ _ _ _ λa _=>Us a b c]
theorem QZ:∀{l:Zh}{a b:Nat},l.Nodup->(∀x∈l,x=a\/x=b)->⇑l<=2
 |[],_,_,_,_=>⋯
 |[_],_,_,_,_=>amr 1
 |[_,_],_,_,_,_=>aja 2
 |x::y::z::r,a,b,e,h=>by
  let f:=h x (by simp);let c:=h y (by simp);let d:=h z (by simp)
  cbv
def Ut {W:bI}{p q:Int×Int}(h:∀r s,W r s z=true->(r,s)=p\/(r,s)=q):eN m W z<=2:=by
 unfold eN;rw[List.countP_eq_length_filter];rwa[QZ (a:=(p.1* 2001+ (p.2+ 1000)).toNat) (b:=(q.1* 2001+ (q.2+ 1000)).toNat) (alD.filter _) λc d=>?_]
 let f:=Nat.div_add_mod c 2001;rcases h _ _ (akk.mp d).2 with e|e
 ·left;rw[<-e];dsimp only;ext
 ·right;rw[<-e];dsimp only;ext
theorem IH:∀(l:Zh)(f:Nat->Nat)(k:Nat),(∀n∈l,f n<=k)->(l.map f).sum<=⇑l* k
 |[],_,_,_=>by simp
 |a::l,f,k,h=>by
  let c:=IH l f k λn b=>h n (ajw _ b)
  have:=h a (aji ..);rw[aki,List.sum_cons,ajo,alz];ext
def Q0 {W:bI}(h:∀a:Nat,∃p q:Int×Int,∀r s,W r s a=true->(r,s)=p\/(r,s)=q):vT m n W<=2* n:=by
 have:=IH (~~~n) (λa:Nat=>eN m W a) 2 λa _=>by let⟨p,q,e⟩:=h a;rwa[Ut e]
 rw[ajP]at this;unfold vT;ext
structure CI (S:RS)(bs:List (Nat×Zg×Nat))(gs:Zf)(ag:Zh)(W:bI)(Ex:Nat->Int->Prop)(x:Zi):Prop where
 len:⇑gs=⇑bs
 al:∀(n:Nat)(g:Gg),gs[n]?\some g->bs[n]?\(g.which,g.word,g.start)/\GI S g/\(n∈ag\/some n=x\/(g.first<g.last/\W g.front g.z1 n=true/\W g.bB g.z2 n=true))
 de:∀(n:Nat)(b:Nat×Zg×Nat),gs[n]?\none->some n≠x->bs[n]?\b->S.ax b.2.2≠b.2.2\/wk S.by b.2.2 b.2.1=some b.2.2
 ab:∀n∈ag,n<⇑gs
 en:∀r s n,W r s n=true->∃r' n':Nat,r=r'/\n=n'/\r'<S.q/\n'<⇑gs/\(-1000<=s/\s<=1000)/\(S.ax r'=r'/\S.by r' s=none\/Ex r' s)
 sl:∀n:Nat,∃p q:Int×Int,(∀r s,W r s n=true->(r,s)=p\/(r,s)=q)/\∀g,gs[n]?\some g->p=((g.front:Int),g.z1)/\q=((g.bB:Int),g.z2)
 bd:∀b∈bs,∀z∈b.2.1,-1000<=z/\z<=1000
def fM:Nat->Int->Prop:=λ_ _=>False
section
variable {S:RS}{bs:List (Nat×Zg×Nat)}{gs:Zf}{ag:Zh}{W:bI}{Ex:Nat->Int->Prop}{x:Zi}{n:Nat}
def CI.pop (h:CI S bs gs (ag++[n]) W Ex none):CI S bs gs ag W Ex (some n):=by
 rwa[⟨h.len,λk g e=>?_,λk b e _=>h.de k b e (λz=>by ext z),λk c=>h.ab k (ajx _ c),h.en,h.sl,h.bd⟩];let⟨f,d,a⟩:=h.al k g e;erw[f,d];rcases a with a|a|a
 ·rcases ajh.mp a with q|q
  ·rwa[.inl q]
  ·rwa[.inr (.inl (by rw[ai9.mp q]))]
 ·ext a
 ·rwa[.inr (.inr a)]
def CI.done (h:CI S bs gs ag W Ex (some n))(e:gs[n]?\none)(k:∀b,bs[n]?\b->S.ax b.2.2≠b.2.2\/wk S.by b.2.2 b.2.1=some b.2.2):CI S bs gs ag W Ex none:=by
 rwa[⟨h.len,λm g c=>?_,λm b c _ d=>?_,h.ab,h.en,h.sl,h.bd⟩]
 ·let⟨i,f,a⟩:=h.al m g c;erw[i,f];rcases a with a|a|a
  ·rwa[.inl a]
  ·cbv
  ·rwa[.inr (.inr a)]
 ·cases q:m=n
  ·rw[q]at d;rwa[k b d]
  ·rwa[h.de m b c (λz=>q (Za0 z)) d]
def eX {c:Type}{l:List c}{a b:c}(h:(l.set i a)[j]?\b):(j=i/\b=a)\/(j≠i/\l[j]?\b):=by
 cases e:i=j
 ·subst e;let d:=(ai4.mp h).1;rw[aju]at d;rw[ajE d]at h;rwa[.inl ⟨2,(Za0 h).symm⟩]
 ·rw[ajS e]at h;rwa[.inr ⟨λz=>e z.symm,h⟩]
def CI.kill (h:CI S bs gs ag W Ex (some n)):CI S bs (gs.set n none) ag W Ex (some n):=by
 rwa[⟨[aju]▸h.len,λm g e=>?_,λm b e q f=>?_,λk a=>[aju]▸h.ab k a,λr s k e=>?_,λm=>?_,h.bd⟩]
 ·rcases eX e with ⟨_,z⟩|⟨z,e⟩
  ·ext z
  ·rwa[h.al m g e]
 ·rcases eX e with ⟨z,_⟩|⟨z,e⟩
  ·cbv
  ·rwa[h.de m b e q f]
 ·rw[aju];rwa[h.en r s k e]
 ·let⟨p,q,d,c⟩:=h.sl m;rwa[⟨p,q,d,λg e=>?_⟩];rcases eX e with ⟨_,z⟩|⟨_,e⟩
  ·ext z
  ·rwa[c g e]
def addW (W:bI)(r s n:Int):bI:=λc a b=>W c a b || (decide (c=r) && decide (a=s) && decide (b=n))
def dA {W:bI}{n c a b:Int}:addW W z y n c a b=true↔W c a b=true\/(c=z/\a=y/\b=n):=by
 unfold addW
 cbv
def dh {W:bI}{b a c:Int}:gf W z y b a c=true↔W b a c=true/\¬(b=z/\a=y):=by
 unfold gf
 cbv
def CI.waits (h:CI S bs gs ag W fM (some n)){g c:Gg}(e:gs[n]?\some g)(a:YW S g c)(d:c.first<c.last):CI S bs (gs.set n (some c)) ag (addW (addW W c.front c.z1 n) c.bB c.z2 n) fM none:=by
 let⟨A,M,_⟩:=h.al n g e;let D:=(ai4.mp e).1;let gi:=a.gi;let bw:∀z∈c.word,-1000<=z/\z<=1000:=λz hz=>h.bd _ (ai5 A) z (by rw[<-a.wo];rwa[hz])
 let E:=bw _ (ai5 (Gg.mh (g:=c) (by have:=gi.ll;omega)));let N:=bw _ (ai5 (Gg.at2 (g:=c) gi.ll));rwa[⟨[aju]▸h.len,λm u q=>?_,λm b q _ I=>?_,λk F=>[aju]▸h.ab k F,λr s k q=>?_,λm=>?_,h.bd⟩]
 ·rcases eX q with ⟨rfl,z⟩|⟨z,q⟩
  ·ext z;rwa[⟨by rw[A,a.wh,a.wo,a.st],gi,.inr (.inr ⟨d,dA.mpr (.inl (dA.mpr (.inr ⟨222⟩))),dA.mpr (.inr ⟨222⟩)⟩)⟩]
  ·let⟨o,l,f⟩:=h.al m u q;erw[o,l];rcases f with f|f|⟨f,G,H⟩
   ·rwa[.inl f]
   ·rwa[absurd (Za0 f) z]
   ·rwa[.inr (.inr ⟨f,dA.mpr (.inl (dA.mpr (.inl G))),dA.mpr (.inl (dA.mpr (.inl H)))⟩)]
 ·rcases eX q with ⟨_,z⟩|⟨z,q⟩
  ·ext z
  ·rwa[h.de m b q (λy=>z (Za0 y)) I]
 ·rw[aju];rcases dA.mp q with q|⟨rfl,rfl,rfl⟩
  ·rcases dA.mp q with q|⟨rfl,rfl,rfl⟩
   ·rwa[h.en r s k q]
   ·rwa[⟨_,n,rfl,rfl,gi.f,D,E,.inl ⟨a.ef,a.n1 d⟩⟩]
  ·rwa[⟨_,n,rfl,rfl,gi.r,D,by ext,.inl ⟨a.er,a.n2 d⟩⟩]
 ·let⟨p,q,o,l⟩:=h.sl m;cases B:m=n
  ·subst B;let⟨J,eq⟩:=l g e;rwa[⟨((c.front:Int),c.z1),((c.bB:Int),c.z2),λr s w=>?_,λu j=>?_⟩]
   ·rcases dA.mp w with w|⟨rfl,rfl,_⟩
    ·rcases dA.mp w with w|⟨rfl,rfl,_⟩
     ·let⟨v,L,er,_,_,_,_,t⟩:=h.en r s m w;rcases t with ⟨C,i⟩|t
      ·rcases o r s w with z|z
       ·rw[J]at z;injection z with z1 z2
        have:v=g.front:=∅
        subst this;let⟨k1,k2⟩:=a.k1 C (by rw[<-z2];rwa[i])
        left
        rw[Prod.mk.injEq];erw[[k1]▸er];rw[z2];unfold Gg.z1;rw[a.wo,k2]
       ·rw[eq]at z;injection z with z1 z2
        have:v=g.bB:=∅
        subst this;let⟨k1,k2⟩:=a.k2 C (by rw[<-z2];rwa[i])
        right
        rw[Prod.mk.injEq];erw[[k1]▸er];rw[z2];unfold Gg.z2;rw[a.wo,k2]
      ·rwa[t.elim]
     ·rwa[.inl rfl]
    ·rwa[.inr rfl]
   ·rcases eX j with ⟨_,z⟩|⟨z,_⟩
    ·ext z;rwa[22]
    ·rwa[absurd rfl z]
  ·rwa[⟨p,q,λr s w=>?_,λu j=>?_⟩]
   ·rcases dA.mp w with w|⟨_,_,z⟩
    ·rcases dA.mp w with w|⟨_,_,z⟩
     ·rwa[o r s w]
     ·ext
    ·ext
   ·rcases eX j with ⟨z,_⟩|⟨_,j⟩
    ·rwa[absurd z B]
    ·rwa[l u j]
def CI.wake (h:CI S bs gs ag W Ex x){r s:Int}{ns:Zh}(f:∀k:Nat,k∈ns↔W r s k=true):CI S bs gs (ag++ns) (gf W r s) Ex x:=by
 rwa[⟨h.len,λm g e=>?_,h.de,λk u=>?_,λt o k q=>h.en _ _ _ (dh.mp q).1,λm=>?_,h.bd⟩]
 ·let⟨c,b,a⟩:=h.al m g e;erw[c,b];rcases a with a|a|⟨a,j,l⟩
  ·rwa[.inl (ajx _ a)]
  ·rwa[.inr (.inl a)]
  ·cases i:(g.front:Int)=r/\g.z1=s
   ·rwa[.inl (ajf _ ((f m).mpr (by rw[<-i.1,<-i.2];rwa[j])))]
   ·cases d:(g.bB:Int)=r/\g.z2=s
    ·rwa[.inl (ajf _ ((f m).mpr (by rw[<-d.1,<-d.2];rwa[l])))]
    ·rwa[.inr (.inr ⟨a,dh.mpr ⟨j,i⟩,dh.mpr ⟨l,d⟩⟩)]
 ·rcases ajh.mp u with q|q
  ·rwa[h.ab k q]
  ·let⟨_,v,_,en,_,y,_⟩:=h.en _ _ _ ((f k).mp q);ext
 ·let⟨p,q,c,b⟩:=h.sl m;rwa[p,q,λt o w=>c^(dh.mp w).1,b]
def CI.ex {e:Nat->Int->Prop}(h:CI S bs gs ag W Ex x)(k:∀(r:Nat) s n,W r s n=true->r<S.q->Ex r s->(S.ax r=r/\S.by r s=none)\/e r s):CI S bs gs ag W e x:=by rwa[⟨h.len,h.al,h.de,h.ab,λr s n q=>?_,h.sl,h.bd⟩];let⟨g,f,rfl,rfl,a,b,c,d⟩:=h.en r s n q;rwa[g,f,22,a,b,c,d.elim .inl (k g s f q a)]
end
structure fD (S:RS):Prop where
 a:∀c,c<S.q->S.ax c≠c->c∈S.aZ
 b:∀c∈S.aZ,S.ax c≠c
 c:∀c∈S.aZ,c<S.q
section
variable {S S':RS}{pend:Ze}{w:Way}{R:Za2}{ks:Zg}
def II {x:Nat}:(S.meet n z x m pend).1.aZ=S.aZ++[max x m]:=by have:=(gA (max x m) (S.joined n z (min x m) (max x m)) pend ((S.joined n z (min x m) (max x m)).way (max x m))).2;have:=ajY RS.aZ this;rwa[this]
def uv (h:(S.takeIn pend w).1.aZ=S.aZ):(S.takeIn pend w).1.aY=S.aY:=by
 let no:∀{c x y:Nat}{z:Int},(S.meet c z x y pend).1.aZ=S.aZ->False:=λ{c x y z} e=>by rw[II]at e;have:=ajY List.length e;rw[ai3]at this;simp at this
 unfold RS.takeIn at h ⊢;split
 ·rename_i q;rw[ajn q]at h;rwa[(no h).elim]
 ·rename_i q;rw[ajk q]at h;split
  ·rename_i a;rw[ajn a]at h;rwa[(no h).elim]
  ·rfl
def fD.take (f:fD S)(h:Good S (pend++[w]) R)(j:∀c z d,R c z d->z∈ks):fD (S.takeIn pend w).1/\∃l,(S.takeIn pend w).1.aZ=S.aZ++l:=by
 let⟨_,_,g,_,q⟩:=h.take j;rcases q with ⟨_,_,e⟩|⟨_,c,z,x,y,n,_,p,r,m,_,e,el⟩
 ·let ee:=uv e;let el:∀a,(S.takeIn pend w).1.ax a=S.ax a:=λa=>by unfold RS.ax;rw[ee]
  rwa[⟨⟨λc hc=>?_,λc hc=>?_,λc hc=>by rw[g];rw[e]at hc;rwa[f.c c hc]⟩,[],by rw[e,ajm]⟩]
  ·rw[g]at hc;rw[el,e];rwa[f.a c hc]
  ·rw[e]at hc;rw[el];rwa[f.b c hc]
 ·let⟨_,o,_,ex⟩:=h.st _ _ _ n;rwa[⟨⟨λa b=>?_,λa b=>?_,λa b=>?_⟩,[max x y],e⟩]
  ·rw[g]at b;rw[el,e];intro i;cases q:S.ax a=a
   ·cbv
   ·rwa[ajx _ (f.a a b q)]
  ·rw[el];rw[e]at b;rcases ajh.mp b with q|q
   ·let i:=f.b a q
    cbv
   cbv
  ·rw[g];rw[e]at b;rcases ajh.mp b with q|q
   ·rwa[f.c a q]
   ·rw[ai9.mp q];rcases amv x y with k|k <;> ext
inductive kb:RS->Ze->RS->Prop where
 |nil (S:RS):kb S [] S
 |take {S S':RS} {pend:Ze} {w:Way}:kb (S.takeIn pend w).1 (S.takeIn pend w).2 S'->kb S (pend++[w]) S'
def kb.all (l:kb S pend S'):Good S pend R->(∀c z d,R c z d->z∈ks)->fD S->Good S' [] R/\fD S'/\S'.q=S.q/\S'.L=S.L/\∃l,S'.aZ=S.aZ++l:=by
 induction l with
 |nil S=>exact λg _ w=>⟨g,w,22,[],(ajm _).symm⟩
 |take _ i=>intro g e w;let⟨h,_,m,k,_⟩:=g.take e;let⟨f,l2,n⟩:=w.take g e;let⟨a,b,c,d,o,j⟩:=i h e f;rwa[a,b,c.trans m,d.trans k,l2++o,by rw[j,n,ajK]]
end
section
variable {S S':RS}{R:Za2}{bs:List (Nat×Zg×Nat)}{gs:Zf}{ag:Zh}{W:bI}{n c d:Nat}{z:Int}
def CI.lay (h:CI S bs gs ag W fM (some n))(e:gs[n]?\none)(g:Good S [] R)(w:Good S' [] (fx R c z d))(hm:S'.q=S.q)(L:fD S)(C:fD S'){l:Zh}(U:S'.aZ=S.aZ++l)(hc:c<S.q)(P:S.ax c=c)(hd:d<S.q)(ed:S.ax d=d)(k:∀b,bs[n]?\b->S'.ax b.2.2≠b.2.2\/wk S'.by b.2.2 b.2.1=some b.2.2):CI S' bs gs ag W (λr s=>(r=c/\s=z)\/(r=d/\s= -z)\/∃m∈l,r=m\/r=S'.ax m) none:=by
 let lt:=Later.of g w jc (al8 hm.symm)
 let i:∀e,e<S.q->S.ax e=e->S'.ax e≠e->e∈l:=λe p j D=>by
  have:=C.a e ([hm]▸p) D;rw[U]at this;rcases ajh.mp this with q|q
  ·rwa[absurd j (L.b e q)]
  ·rwa[q]
 let h0:CI S' bs gs ag W (λr s=>(r=c/\s=z)\/(r=d/\s= -z)\/∃m∈l,r=m\/r=S'.ax m) (some n):=by
  rwa[⟨h.len,λm u q=>?_,λm b A F Q=>?_,h.ab,λr s m q=>?_,h.sl,h.bd⟩]
  ·let⟨p,j,D⟩:=h.al m u q;rwa[p,j.later lt (al8 hm.symm),D]
  ·cases t:S'.ax b.2.2=b.2.2
   ·right
    rcases h.de m b A F Q with q|q
    ·cases y:b.2.2<S.q
     ·let p:=(g.el _ y).1;let j:=(w.el _ ([hm]▸g.lt y)).1;rw[lt.el _ y,t]at j;rwa[absurd (Nat.le_antisymm p j) q]
     ·exfalso
      let J:⇑S.aY=S.q:=g.wf.e;let O:⇑S'.aY=S'.q:=w.wf.e;let M:S.ax b.2.2=0:=by unfold RS.ax;rw[ai8,ajC ∅];rfl
      let B:S'.ax b.2.2=0:=by unfold RS.ax;rw[ai8,ajC ∅];rfl
      rwa[q (by rw[M,<-B,t])]
    ·have:=lt.wk q;rw[t]at this;rwa[this]
   ·rwa[.inl t]
  ·let⟨f,N,t,T,I,X,J,q⟩:=h.en r s m q;erw[f,N,t,T,[hm]▸I,X,J];rcases q with ⟨A,F⟩|q
   ·cases p:S'.ax f=f
    ·cases j:S'.by f s with
     |none=>exact .inl ⟨p,2⟩
     |some o=>
      right
      let⟨v,V,x,f1,f2⟩:=w.so _ _ _ j
      let stand:∀e,e<S.q->S.ax e=e->S'.ax e=f->e=f\/∃m∈l,f=m\/f=S'.ax m:=λe Y Z G=>by
       cases H:e=f
       ·rwa[.inl H]
       ·rwa[.inr ⟨e,i e Y Z (by rw[G];rwa[λz=>H z.symm]),.inr G.symm⟩]
      rcases x with x|⟨rfl,rfl,rfl⟩|⟨rfl,rfl,rfl⟩
      ·let⟨E,l2,_⟩:=g.rl _ _ _ x;rcases stand (S.ax v) (g.lt E) (g.el _ E).2 ([lt.el _ E]▸f1) with a|a
       ·exfalso
        have:=g.vR.mpr ⟨v,V,x,a,rfl⟩;rw[F]at this;ext this
       ·rwa[.inr (.inr a)]
      ·rcases stand v hc P f1 with a|a
       ·rwa[.inl ⟨a.symm,rfl⟩]
       ·rwa[.inr (.inr a)]
      ·rcases stand v hd ed f1 with a|a
       ·rwa[.inr (.inl ⟨a.symm,rfl⟩)]
       ·rwa[.inr (.inr a)]
    ·rwa[.inr (.inr (.inr ⟨f,i f I A p,.inl rfl⟩))]
   ·rwa[q.elim]
 rwa[h0.done e k]
end
def cz (a:Nat->Int->Zi):Nat->Zg->Zh
 |_,[]=>[]
 |r,z::c=>match a r z with
  |none=>[]
  |some b=>b::cz a b c
def zi {a:Nat->Int->Zi}(h:a n z=none):cz a n (z::l)=[]:=by show (match a n z with|none=>[]|some b=>b::cz a b l)=[];rw[h]
def nj {a:Nat->Int->Zi}(h:a n z\m):cz a n (z::l)=m::cz a m l:=by show (match a n z with|none=>[]|some m=>m::cz a m l)=_;rw[h]
def lL (w:Nat)(p:Zh)(k:Nat):Dt:=.t [.s [114,117,108,101],.i w,.t (p.map λc:Nat=>Dt.i (c:Int)),.i k]
structure Bp (ws:Za3)(nr:Nat)(S:RS)(which:Nat)(word:Zg)(start m c d:Nat)(z:Int):Prop where
 w:ws[which]?\word
 n:which<nr\/start=0
 s:start<S.q/\S.ax start=start
 hz:word[m]?\z
 f:wk S.by start (word.take m)=some c
 r:wk S.by d (word.drop (m+ 1))=some start
 hc:c<S.q/\S.ax c=c
 hd:d<S.q/\S.ax d=d
 o:S.by c z≠some d
def qf (S:RS)(a:Nat)(word:Zg)(start m d:Nat):RS:={ S with rows:=S.rows++[lL a ((start::cz S.by start (word.take m))++(d::cz S.by d (word.drop (m+ 1)))) m] }
inductive Tr (ws:Za3)(nr:Nat):RS->RS->Prop where
 |refl (S:RS):Tr ws nr S S
 |step {S S1 S2:RS} {which:Nat} {word:Zg} {start m c d:Nat} {z:Int}:Tr ws nr S S1->Bp ws nr S1 which word start m c d z->kb (qf S1 which word start m d) [(c,z,d)] S2->Tr ws nr S S2
def Oh (S:RS)(c:Nat)(word:Zg):Prop:=wk S.by c word=some c\/∃(i j f r:Nat)(y z:Int),i<j/\word[i]?\y/\word[j]?\z/\wk S.by c (word.take i)=some f/\S.by f y=none/\wk S.by r (word.drop (j+ 1))=some c/\S.by r (-z)=none
structure Bq (rs ps:Za3)(S:RS):Prop where
 r:∀w∈rs,∀c,c<S.q->S.ax c=c->Oh S c w
 p:∀w∈ps,Oh S 0 w
def UW (U:Za2):Nat->Zg->Nat->Prop
 |p,[],q=>p=q
 |p,z::w,q=>∃r,U p z r/\UW U r w q
structure YX (ws:Za3)(nr M:Nat)(φ:Nat->Nat)(U:Za2):Prop where
 sy:∀p z q,U p z q->U q (-z) p
 fn:∀p z q q',U p z q->U p z q'->q=q'
 cl:∀(which:Nat)(word:Zg)(start m c d:Nat)(z:Int),ws[which]?\word->which<nr\/start=0->start<M->word[m]?\z->UW U (φ start) (word.take m) (φ c)->UW U (φ d) (word.drop (m+ 1)) (φ start)->U (φ c) z (φ d)
section
variable {S S':RS}{R:Za2}{φ:Nat->Nat}{U:Za2}{ks:Zg}
def IJ (i:∀p z q e,U p z q->U p z e->q=e)(d:∀a z b,R a z b->U (φ a) z (φ b)){a b:Nat}(h:Cg R a b):φ a=φ b:=by
 induction h with
 |refl=>rfl
 |symm _ c=>exact c.symm
 |trans _ _ f k=>exact f.trans k
 |step j g _ c=>exact i _ _ _ _ (d _ _ _ j) ([c]▸d _ _ _ g)
def IK (g:Good S [] R)(e:∀p z q i,U p z q->U p z i->q=i)(f:∀a z b,R a z b->U (φ a) z (φ b)){c d:Nat}{z:Int}(h:S.by c z=some d):U (φ c) z (φ d):=by
 let⟨m,n,r,l,t⟩:=g.so _ _ _ h;let⟨j,k,_⟩:=g.rl _ _ _ r;let o:=IJ e f (g.cg _ j);let s:=IJ e f (g.cg _ k)
 cbv
theorem Br (h:∀c z d,S.by c z=some d->U (φ c) z (φ d)):∀{w:Zg}{c d:Nat},wk S.by c w=some d->UW U (φ c) w (φ d)
 |[],c,d,e=>by rw[Za0 e];rfl
 |z::w,c,d,e=>by let⟨f,b,a⟩:=oO e;rwa[_,h _ _ _ b,Br h a]
def Tr.sound {ws:Za3}(t:Tr ws n S S')(md:YX ws n m φ U)(A:∀w∈ws,∀z∈w,z∈ks/\-z∈ks):Good S [] R->fD S->S.q<=m->(∀a z b,R a z b->z∈ks)->(∀a z b,R a z b->U (φ a) z (φ b))->
 ∃j,Good S' [] j/\fD S'/\S'.q=S.q/\S'.L=S.L/\(∀a z b,R a z b->j a z b)/\(∀a z b,j a z b->z∈ks)/\∀a z b,j a z b->U (φ a) z (φ b):=by
 induction t with
 |refl=>exact λg w _ k h=>⟨R,g,w,22,λ_ _ _ r=>r,k,h⟩
 |step _ ra C F=>
  rename_i J I which word start f c d z _;intro g q v k h;let⟨B,g1,l,D,G,E,k1,p⟩:=F g q v k h;let o:=λc z d=>IK (c:=c) (d:=d) (z:=z) g1 md.fn p
  let u:=md.cl which word start f c d z ra.w ra.n (by have:=ra.s.1;omega) ra.hz (Br o ra.f) (Br o ra.r);let hz:=A word (ai5 ra.w) z (ai5 ra.hz)
  let i:∀a y b,fx B c z d a y b->y∈ks:=by
   rintro a y b (r|⟨_,e,_⟩|⟨_,e,_⟩)
   ·rwa[k1 _ _ _ r]
   ·rw[e];rwa[hz.1]
   ·rw[e];rwa[hz.2]
  let⟨x,H,s,l2,_⟩:=C.all (g1.lay z ra.hc.1 ra.hd.1 _) i ⟨l.a,l.b,l.c⟩;erw[_,x,H,s.trans D,l2.trans G,λa y b r=>.inl (E _ _ _ r),i];rintro a y b (r|⟨rfl,rfl,rfl⟩|⟨rfl,rfl,rfl⟩)
  ·rwa[p _ _ _ r]
  ·rwa[u]
  ·rwa[md.sy _ _ _ u]
end
section
variable {X:Cx}
def Q5 (K:Za1)(h:TA)(f:TE):TI:=λ c H R=>h c H λd e=>f c e λz b=>∃a n,d=[↑a]/\z=.int n/\0<=n/\n<1000/\(∃g,aB K b a g)/\R (F9 K a n) b
def Uu (Q:V->Hp->Prop):Zb->Hp->Prop
 |[z],H=>Q z H
 |_,_=>False
theorem Q6 {Q:V->Hp->Prop}:∀{a:Zb}{H:Hp},Uu Q a H->∃z,a=[z]/\Q z H
 |[z],_,h=>⟨z,2,h⟩
 |[],_,h=>h.elim
 |_::_::_,_,h=>h.elim
def IL [i:eI X K]{a b:Expr}{t o:TE}{elts:Zr}{W:Nat}{N p pos kp:Pos}(B:Gl X "enumerate")(S:X.mg "enumerate"=none)(T:PE X a t)(A:PE X b o)(w:starEach [a] X.env=(false,eval a X.env)::starEach [] X.env)(d:((backTo pos (starEach [a] X.env)).any (·.1) || (backToKw pos (keywordEach [⟨some "start",b,kp⟩] X.env)).any (·.1.isNone))=false):
 PI X (.Tuple elts W N) (.Call (.Name "enumerate" p) [a] [⟨some "start",b,kp⟩] pos) (Q5 K (tq t rB) o):=by
 cases i.eq;intro c s x H R I h;rwa[akp (hH I B S boot_enumerate ?_)];rwa[PySem.W.callWith_of (P:=λ_=>True) d (λ_ _=>⟨.machine,.inr (.inl rfl),λ_ _ _ _ _ q=>ajb q⟩) (evalArgs_kw2 rfl (a9 ((ae T ai w) pos c s x H _ I h) λus O ζ=>?_) w)];let⟨E,M,C,r,q⟩:=ζ;rwa[a9 ((Ec A HG:PK X [⟨some "start",b,kp⟩] _) pos c O x M (Uu λz k=>∃a n,E=[↑a]/\z=.int n/\0<=n/\n<1000/\(∃v,aB X.K k a v)/\R (F9 X.K a n) k) C q) λws F ζ=>?_];let⟨Y,k,m,Q,U⟩:=ζ;rwa[⟨True.intro,5⟩]
 let⟨z,rfl,l,n,J,rfl,e,j,f,L⟩:=Q6 U;subst J;let⟨v,f⟩:=f;let⟨u,rfl,V⟩:=vals1 r;ext V;let⟨u2,rfl,y,rfl⟩:=vals1 Q;let⟨G,rv,pl,hz⟩:=m.list f;show wpAny _ _ (call (.type "enumerate") [↑l] [("start",.int n y)]) _ _ F;rwa[En.ur pl.isList e j λZ g hit D=>x6 m (pR l _) (λ_=>∅) ([show n+ ((0:Nat):Int)=n by ext]▸g) hit D L]
end
section
variable {prog:Program} {w:World} {K:Type} [DecidableEq K] {knd:HeapKind prog w K} {A:Around} {E:Zt->Zu->Prop} {s:Zu} {d a:Zs} {k:K} {xs:List (K×Zs×Zt)}
def Ds {dflt:Zt}(m:knd.room A)(b:knd.is s.heap k a)(C:s.heap.DictOfH knd d xs)(u:∀v,(atKey xs k).map (·.2)\v->Q v { s with toks:=s.toks+ knd.draws k })(r:atKey xs k=none->∀i,i.DictOfH knd d (storedH xs k a dflt)->Heap.SameBut d s.heap i->Q dflt { s with heap:=i,toks:=s.toks+ knd.draws k })(x:⇑xs<=sizeLine):(prog<|>w) A (dictSetDefault d ↑a dflt) Q E s:=by
 let⟨G,B,t,f,g2,c,h,n,l⟩:=C;unfold dictSetDefault
 first|(with_reducible rwa[aku ?_])|skip
 rwa[ai2 (knd.pyHash m b (ai2 (wpAny_dictFind_heap (s:={ s with toks:=s.toks+ knd.draws k }) m b f c h n l (λno=>?_) (λj p o=>?_))))]
 ·let I:k∉xs.map (·.1):=not_mem_keys_of_get no;let g:=atKey_none_of_get no;rwa[ai2 (wpAny_rule (ai2 (wpAny_updateDictKeys (hz:=by let e:=size_of_entries h;omega) (s:={ s with toks:=s.toks+ knd.draws k }) f c (ajb (r g _ ?_ (akC ..))))))];erw[11,t+ 1,aj7 _ f (Obj.isFreed_of_dict (Obj.data_mapDictKeys c _)),g2.mapDictKeys _,Obj.data_mapDictKeys c _,55]
  ·rw[storedH_new g];simp[h,entryOfKey]
  ·rw[storedH_new g];intro y z;rcases ajh.mp z with q|q
   ·rwa[knd.keeps (n y q) f c (akC ..)]
   ·rw[ai9.mp q];rwa[knd.keeps b f c (akC ..)]
  ·rw[storedH_new g,ajt,aj0]
   cbv
 ·let D:=atKey_of_get l o;rwa[ai2 (alT (s:={ s with toks:=s.toks+ knd.draws k }) f c ?_)]
  let F:B[j]?\(entryOfKey knd (k,p)):=by rw[entry_at h j,o];rfl
  rw[F];rwa[ai2 (wpAny_rule (ajb (u _ (by rw[D];rfl))))]
def zT (knd:HeapKind prog w K)(d a:Zs)(e:(d==sysModules)=false)(dflt:Zt):MeetsIn prog w (Builtin.«dict.setdefault» ⟨[↑d,↑a,dflt],[]⟩) (λA R s=>knd.room A.in1/\∃k xs,knd.is s.heap k a/\s.heap.DictOfH knd d xs/\⇑xs<=sizeLine/\
 (∀v,(atKey xs k).map (·.2)\v->R (.ok (.ret v)) { s with toks:=s.toks+ knd.draws k })/\(atKey xs k=none->∀b,b.DictOfH knd d (storedH xs k a dflt)->Heap.SameBut d s.heap b->R (.ok (.ret dflt)) { s with heap:=b,toks:=s.toks+ knd.draws k })):=
 .of_wp λA R s ζ=>by
  let⟨j,k,xs,c,hm,n,i,h⟩:=ζ
  unfold Builtin.«dict.setdefault» Builtin.Dict.keyAndDefault;rwa[ai2 (ai2 (alO hm.typeIs ?_))];show wpAny _ _ (pure (d,Value.ref a,some dflt)) _ _ s;rwa[ajb ?_];show wpAny _ _ (if (d==sysModules)=true then _ else (dictSetDefault d ↑a dflt >>=_)) _ _ s;rw[e];rwa[ai2 (Ds j c hm (λv g=>ajb ⟨v,2,i v g⟩) (λm b l f=>ajb ⟨dflt,2,h m b l f⟩) n)]
end
inductive Uv (a:Zs)(y z:V)(H:Hp)(Q:VK):Prop
 |mk (kvs:List (Zd×V))(k:Zd)(b:Zs):H a\.dT kvs->y=↑b->H b\.tup (k.map kV)->⇑kvs<sizeLine->(∀v,bz kvs k\v->Q v H)->(bz kvs k=none->Q z (upd H a (.dT (putK kvs k z))))->Uv a y z H Q
def Uw (td e tx:TE):TE:=λ b H Q=>td b H λx c=>El x c λa=>e b c λy d=>tx b d λz f=>Uv a y z f Q
section
variable {X:Cx}{o e f:Expr}{apos cJ:Pos}{td ty tx:TE}
def LX (hu:X.A.units+ 1<cLine)(Z:PE X o td)(he:PE X e ty)(Y:PE X f tx)(m:M2 X o "setdefault" apos e f cJ):PE X (.Call (.Attribute o "setdefault" apos) [e,f] [] cJ) (Uw td ty tx):=by
 intro j s r H Q I h;rwa[alq m.base m.few m.line akv akX PySem.F.type_dict_setdefault (a9 (Z j s r H _ I h) λu s1 ζ=>?_)];let⟨x,H1,D,rx,a,ex,d,S⟩:=ζ;subst ex;obtain rfl:u=Value.ref a:=rx;let⟨t1,M,_⟩:=lX D d;erw[t1,M];rw[m.trees]
 rwa[akc rfl (akK (aka (a9 (he j s1 r H1 _ D S) λiv P ζ=>?_)))];let⟨y,H2,V,ry,q2⟩:=ζ;rwa[ aka (a9 (Y j P r H2 _ V q2) λfv s3 ζ=>?_)];let⟨z,E,n,J,i,k,b,A,ey,G,N,U,q4⟩:=ζ;rwa[akM ?_]
 subst ey;cases (show iv=Value.ref b from ry);let⟨W,B,xs,rel,L⟩:=F2 n.aU A;let g:=rel.val k;let p:⇑xs<=sizeLine:=by rw[<-Paired.length rel];rwa[W]
 rwa[alx akX L.typeIs PySem.F.entry_dict_setdefault (PySem.F.args_dict_setdefault_3^_) (zT _ a b B fv) ⟨ald hu,k,xs,lW n.aU G,L,p,λv hv=>?_,λhn g1 w sb=>?_⟩]
 ·rw[hv]at g
  cases l:bz i k with
  |none=>rw[l]at g;rwa[g.elim]
  |some t=>rw[l]at g;rwa[t,E,n.tok _,g,U t l]
 ·rw[hn]at g
  cases l:bz i k with
  |some t=>rw[l]at g;rwa[g.elim]
  |none=>
   let hl:⇑(putK i k z)<=sizeLine:=by have:=gO i k z;ext
   let⟨q,es,ep,F,O,h3,R,_,T⟩:=w;rwa[⟨z,upd E a (.dT (putK i k z)),j8 n ([A]▸True.intro) sb ⟨q,F⟩ ⟨hl,B,_,(rel.put k G J).keeps λc ys C=>?_,q,es,ep,F,O,h3,R,T⟩,J,q4 l⟩];rw[ak (bS C A (λz=>nomatch z))];rwa[C]
end
section
variable {H:Hp}{k:Zs}{D:Int->Zo}{E:Int->Int->Zo}{S:bI}
def dX.LY (h:dX H k D E S){c s:Int}{d:Zs}(hd:D c\d){l:List (Key×V)}(x:H d\.dK l):
 dX (upd H d (.dK (fe l (Sum.inl s)))) k D (λg f=>if g=c/\f=s then none else E g f) (gf S c s):=by
 let⟨m,n,G,A,F⟩:=h.row c d hd;rw[x]at n;obtain rfl:l=m:=by injection n with n;injection n
 let un:∀{g f:Int}{z:Zs},(if g=c/\f=s then none else E g f)\z->¬(g=c/\f=s)/\E g f\z:=λ{g f z} q=>by
  cases e:g=c/\f=s
  ·rw[ajn e]at q;ext q
  ·rw[ajk e]at q;rwa[e,q]
 rwa[⟨h.top.at λo q=>?_,λg v j=>?_,λg f p i=>?_,λg f p i=>h.ed _ _ _ (un i).2,λg f o C=>?_,h.nd,λg f p i=>h.ne _ _ _ (un i).2,h.dd,λg B f v j i=>h.de _ _ _ _ j (un i).2,λg f B I p y w=>h.ee _ _ _ _ _ (un y).2 (un w).2⟩]
 ·rw[ak (h.nd c d hd).symm];rwa[q]
 ·cases u:g=c
  ·subst u;obtain rfl:v=d:=by rw[hd]at j;rwa[(Za0 j).symm]
   rwa[(QV G A F s).congr λf=>?_]
   cases r:f=s
   ·rw[ajn r,ajn ⟨2,r⟩];rfl
   ·rw[ajk r,ajk (λz=>r z.2)]
  ·rwa[((h.row g v j).at λo q=>by rw[ak λz=>u (h.dd _ _ _ j ([z]▸hd))];rwa[q]).congr λf=>?_]
   rw[ajk (λz=>u z.1)]
 ·let⟨ne,t⟩:=un i;rwa[((h.zg g f p t).at λo q=>[ak (λz=>h.de c g f d hd (by rw[<-z];rwa[t]))]▸q).congr λo=>?_]
  have:gf S c s g f o=S g f o:=by rw[akr,dh];rwa[λz=>z.1,λz=>⟨z,ne⟩]
  rw[this]
 ·let⟨a,b⟩:=dh.mp C;let⟨e,t⟩:=h.se _ _ _ a;rwa[e,[ajk b]▸t]
end
structure Ux (k:Zs)(D:Int->Zo)(E:Int->Int->Zo)(W:bI)(O:Zs->Prop):Prop where
 o:∀b,uZ k D E b->O b
 d:∀c x,D c\x->0<=c/\c<100000
 e:∀c s x,E c s\x-> -1000<=s/\s<=1000
 w:∀c s n,W c s n=true->0<=n/\n<100000
def oQ (H:Hp)(k:Zs)(W:bI)(O:Zs->Prop):Prop:=∃D E,dX H k D E W/\Ux k D E W O
def fE (H:Hp)(k:Zs)(W:bI)(O:Zs->Prop)(c:Int)(d:Zs):Prop:=∃D E,dX H k D E W/\Ux k D E W O/\D c\d
def qg (H:Hp)(k:Zs)(W:bI)(O:Zs->Prop)(c s:Int)(e:Zs):Prop:=∃D E,dX H k D E W/\Ux k D E W O/\E c s\e
def IQ (O:Zs->Prop)(p:Zs):Zs->Prop:=λb=>O b\/b=p
section
variable {H H':Hp}{k:Zs}{W:bI}{O:Zs->Prop}{c s:Int}{d e p:Zs}
def oQ.keep (h:oQ H k W O)(f:∀b o,O b->H b\o->H' b\o):oQ H' k W O:=by let⟨D,E,g,a⟩:=h;rwa[D,E,g.keep λb o i q=>f b o (a.o b i) q,a]
def oQ.qJ (h:oQ H k W O):Ek H k:=by let⟨D,E,a,_⟩:=h;let⟨b,q,_⟩:=a.top;rwa[.inl ⟨b,.inl q⟩]
def oQ.room (h:oQ H k W O)(t:H p=none)(hc:0<=c/\c<100000):∃a,upd H p (.dK []) k\.dK a/\⇑a<sizeLine/\(∀v,bz a (Sum.inl c)\v->∃d,v=↑d/\fE (upd H p (.dK [])) k W O c d)/\
 (bz a (Sum.inl c)=none->fE (upd (upd H p (.dK [])) k (.dK (putK a (Sum.inl c) ↑p))) k W (IQ O p) c p):=by
 let⟨D,E,r,f⟩:=h;let y:=aq.upd (o:=.dK []) t;let k1:=r.same y;let⟨a,m,A,w,l⟩:=k1.Um;let nw:¬uZ k D E p:=λz=>by let⟨B,q⟩:=r.there z;cbv
 rwa[⟨a,m,5,λv g=>?_,λg=>?_⟩]
 ·rwa[aje (vS (n:=100000) (lo:=0) A w l λi v g=>?_) ⋯]
  cases e:D i with
  |none=>rw[e]at g;ext g
  |some x=>have:=f.d i x e;ext
 ·rw[l]at g;let⟨d,hd,rfl⟩:=akn.mp g;rwa[d,2,D,E,k1,f,hd]
 ·rw[l]at g;let hd:D c=none:=amo.mp g;rwa[⟨_,E,k1.QX hd m aj nw,⟨λb u=>?_,λj x q=>?_,f.e,f.w⟩,ajn rfl⟩]
  ·rcases u with z|⟨j,z⟩|z
   ·rwa[.inl (f.o b (.inl z))]
   ·dsimp only at z;cases e:j=c
    ·rw[ajn e]at z;rwa[.inr (Za0 z).symm]
    ·rw[ajk e]at z;rwa[.inl (f.o b (.inr (.inl ⟨j,z⟩)))]
   ·rwa[.inl (f.o b (.inr (.inr z)))]
  ·cases e:j=c
   ·rw[e];rwa[hc]
   ·rw[ajk e]at q;rwa[f.d j x q]
def fE.qJ (h:fE H k W O c d):Ek H d:=by let⟨D,E,a,g,b⟩:=h;let⟨f,q,_⟩:=a.row c d b;rwa[.inl ⟨f,.inl q⟩]
def fE.own (h:fE H k W O c d):O d:=by let⟨D,E,f,a,b⟩:=h;rwa[a.o d (.inr (.inl ⟨c,b⟩))]
def fE.same (h:fE H k W O c d)(s:aq H H'):fE H' k W O c d:=by let⟨D,E,b,a,f⟩:=h;rwa[D,E,b.same s,a,f]
def fE.cell (h:fE H k W O c d)(w:H p=none)(C: -1000<=s/\s<=1000):∃a,upd H p (.dK []) d\.dK a/\⇑a<sizeLine/\(∀v,bz a (Sum.inl s)\v->∃e,v=↑e/\qg (upd H p (.dK [])) k W O c s e)/\
 (bz a (Sum.inl s)=none->qg (upd (upd H p (.dK [])) d (.dK (putK a (Sum.inl s) ↑p))) k W (IQ O p) c s p):=by
 let⟨D,E,u,f,hd⟩:=h;let B:=aq.upd (o:=.dK []) w;let k1:=u.same B;let⟨a,t,F,A,m⟩:=k1.LV hd;let nw:¬uZ k D E p:=λz=>by let⟨G,q⟩:=u.there z;cbv
 rwa[⟨a,t,5,λv g=>?_,λg=>?_⟩]
 ·rwa[aje (vS (n:=2001) (lo:=-1000) F A m λi v g=>?_) ⋯]
  cases e:E c i with
  |none=>rw[e]at g;ext g
  |some x=>have:=f.e c i x e;ext
 ·rw[m]at g;let⟨e,r,rfl⟩:=akn.mp g;rwa[e,2,D,E,k1,f,r]
 ·rw[m]at g;let r:E c s=none:=amo.mp g;rwa[⟨D,_,k1.QW hd r t aj nw,⟨λb y=>?_,f.d,λl j x q=>?_,f.w⟩,ajn ⟨22⟩⟩]
  ·rcases y with z|z|⟨l,j,z⟩
   ·rwa[.inl (f.o b (.inl z))]
   ·rwa[.inl (f.o b (.inr (.inl z)))]
   ·dsimp only at z;cases e:l=c/\j=s
    ·rw[ajn e]at z;rwa[.inr (Za0 z).symm]
    ·rw[ajk e]at z;rwa[.inl (f.o b (.inr (.inr ⟨l,j,z⟩)))]
  ·cases e:l=c/\j=s
   ·rw[e.2];rwa[C]
   ·rw[ajk e]at q;rwa[f.e l j x q]
def qg.own (h:qg H k W O c s e):O e:=by let⟨D,E,f,a,b⟩:=h;rwa[a.o e (.inr (.inr ⟨c,s,b⟩))]
def qg.put (h:qg H k W O c s e){n:Int}(o:0<=n/\n<100000):∃a,H e\.dK a/\⇑a<sizeLine/\oQ (upd H e (.dK (putK a (Sum.inl n) (.bl true)))) k (addW W c s n) O:=by
 let⟨D,E,g,b,j⟩:=h;let⟨a,f,r,l,m⟩:=g.Uo j;rwa[⟨a,f,5,D,E,g.Uq j f n,b.o,b.d,b.e,λx t u q=>?_⟩]
 ·rwa[aje (vS (n:=100000) (lo:=0) r l m λi v y=>?_) ⋯];cases w:W c s i=true
  ·have:=b.w _ _ _ w;ext
  cbv
 ·rcases dA.mp q with q|⟨_,_,q⟩
  ·rwa[b.w _ _ _ q]
  ·rw[q];rwa[o]
def oQ.get (h:oQ H k W O):∃o,eP H k (.int c) o/\((o=none/\∀s n,W c s n=false)\/∃d,o\↑d/\fE H k W O c d):=by
 let⟨D,E,a,i⟩:=h;let⟨b,j,r,q,f⟩:=a.Um;let g:=eP.k (k:=Sum.inl c) j;rw[f]at g;erw[_,g]
 cases e:D c with
 |none=>
  rwa[.inl ⟨2,λs n=>?_⟩]
  cases w:W c s n with
  |false=>rfl
  |true=>
   let⟨x,l⟩:=a.se _ _ _ w;let⟨y,m⟩:=a.ed _ _ _ l
   cbv
 |some d=>exact .inr ⟨d,2,D,E,a,i,e⟩
theorem Bs:∀{a:List (Key×V)},(a.map (·.1)).Nodup->(∀b∈a,∃n:Nat,b.1=Sum.inl (n:Int))->∃ns:Zh,a.map (λb=>kV b.1)=ao (nI ns)/\ns.Nodup/\∀n:Nat,n∈ns↔Sum.inl (n:Int)∈a.map (·.1)
 |[],_,_=>⟨[],2,akQ,λn=>⟨(λz=>by ext z),(λz=>by ext z)⟩⟩
 |b::r,f,h=>by
  rw[aki,ajO]at f;let⟨ns,i,l,j⟩:=Bs f.2 λx o=>h x (ajw _ o)
  let⟨m,g⟩:=h b (aji ..);rwa[⟨m::ns,5,ajO.mpr ⟨λz=>f.1 ([g]▸(j m).mp z),l⟩,λn=>?_⟩]
  ·rw[aki,i,g];rfl
  cbv
def Ez {a:List (Key×V)}{v:V}(h:bz a (Sum.inl z)\v):Sum.inl z∈a.map (·.1):=ajN.mpr ⟨_,LR h,2⟩
def fE.pop (h:fE H k W O c d)(s:Int):∃a,H d\.dK a/\(bz a (Sum.inl s)=none->∀n,W c s n=false)/\
 ∀v,bz a (Sum.inl s)\v->∃(e:Zs)(f:List (Key×V))(ns:Zh),v=↑e/\e≠d/\H e\.dK f/\f.map (λt=>kV t.1)=ao (nI ns)/\ns.Nodup/\(∀n:Nat,n∈ns↔W c s n=true)/\oQ (upd H d (.dK (fe a (Sum.inl s)))) k (gf W c s) O:=by
 let⟨D,E,o,l,hd⟩:=h;let⟨a,A,S,Q,B⟩:=o.LV hd;rwa[⟨a,A,λu n=>?_,λv u=>?_⟩]
 ·rw[B]at u
  cases w:W c s n with
  |false=>rfl
  |true=>
   let⟨x,R⟩:=o.se _ _ _ w
   cbv
 ·rw[B]at u;let⟨e,F,rfl⟩:=akn.mp u;let⟨f,M,y,G,I⟩:=o.Uo F
  let r:∀i:Int,Sum.inl i∈f.map (·.1)↔W c s i=true:=λi=>by
   constructor
   ·intro z;let⟨t,g,e⟩:=ajN.mp z;have:=Bn y g
    cbv
   ·intro w;rwa[Ez (v:=.bl true) (by rw[I,ajn w])]
  let⟨ns,N,L,P⟩:=Bs y λt g=>by let⟨i,C⟩:=G t g;have:=l.w _ _ _ ((r i).mp (by rw[<-C];rwa[ak5 g]));rwa[i.toNat,by rw[C];congr 1;ext]
  rwa[⟨e,f,ns,2,λz=>o.de _ _ _ _ hd (by rw[<-z];rwa[F]),M,N,L,λn=>(P n).trans (r n),11,o.LY hd A,⟨λb J=>l.o b ?_,l.d,λm j x q=>?_,λm j n q=>l.w _ _ _ (dh.mp q).1⟩⟩]
  ·rcases J with z|z|⟨m,j,z⟩
   ·rwa[.inl z]
   ·rwa[.inr (.inl z)]
   ·dsimp only at z;cases e:m=c/\j=s
    ·cbv
    ·rw[ajk e]at z;rwa[.inr (.inr ⟨m,j,z⟩)]
  ·cases e:m=c/\j=s
   ·rw[ajn e]at q;ext q
   ·rw[ajk e]at q;rwa[l.e _ _ _ q]
def IU {P:Nat->Bool}{G:Nat}:∀{ns:Zh},ns.Nodup->(∀n∈ns,n<G/\P n=true)->⇑ns<=(~~~G).countP P:=by
 intro ns
 induction ns generalizing P with
 |nil=>exact λ_ _=>ajB _
 |cons m r j=>
  intro f h;rw[ajO]at f;let⟨i,g⟩:=h m (aji ..);have:=lD (p:=P) (p':=λa=>P a && decide (a≠m)) (v:=m) (λa=>rfl) g G;rw[ajn i]at this
  have:=j (P:=λa=>P a && decide (a≠m)) f.2 λn b=>⟨(h n (ajw _ b)).1,by rw[(h n (ajw _ b)).2,ajI (show n≠m from λz=>f.1 (by rw[<-z];rwa[b]))];rfl⟩
  rw[ajo];ext
def ya {W:bI}{c s:Int}(h:∀n,W c s n=false):gf W c s=W:=by
 funext b a n
 rw[akr,dh];rwa[⟨λz=>z.1,λz=>⟨z,λq=>?_⟩⟩];rw[q.1,q.2,h]at z;ext z
end
def ahQ (d:Zs)(pos:Pos)(qual:Str)(H:Hp):Prop:=H d=some (.mZ #[])\/∃(c:Zs)(b:Obj)(a:Zm)(t:Tok),H d\(.mZ #[rawInt pos.line,rawInt pos.col,↑c])/\H c\.df b (.own c)/\b.data=.fields a/\a[1]?\(.str qual t)
section
variable {X:Cx}{H:Hp}
structure Fp (X:Cx)(pq:List (Zs×Obj))(H:Hp)(b:Zs):Prop where
 none:H b=none
 loc:b≠X.env.locals
 fs:b∉X.fs
 new:X.eM.heap.objs.size<=b
 cell:∀x c,X.env.cells.lookup x\c->c≠b
 pin:∀p∈X.pn++pq,p.1≠b
end
structure ahD (K:Za1)(fd:FuncData)(c Pt:Zs):Prop where
 code:fd.code=↑c
 hd:PySem.W.codeHdIn K c Pt=true
 no:K.lookup Pt=none
namespace Lr
def Uy:typeLookup (.type "list_reverseiterator") "__len__"=pure none:=by kernel_rfl
def Q7:typeLookup (.type "list_reverseiterator") "__length_hint__"=pure (some (.builtin "list_reverseiterator.__length_hint__")):=by kernel_rfl
variable {prog:Program}{w:World}{A:Around}{E:Zt->Zu->Prop}{s:Zu}{it l:Zs}{items:Zm}
def hint {Q:Bool->Zu->Prop}(hm:s.heap.IsRevIter it l z)(h:Q false s):(prog<|>w) A (Builtin.List.listLengthHint ↑it) Q E s:=by
 rwa[ai2 (wpAny_specialOf hm.typeIs Uy ?_)];rwa[ai2 (wpAny_specialOf hm.typeIs Q7 ?_)];generalize c:("list_reverseiterator.__length_hint__":String)=d
 wp_delta
 subst c;rwa[ai2 (wpAny_isInstance (T:="list_reverseiterator") (b:=true) hm.typeIs (by kernel_rfl) ?_)];rwa[amh (λa=>absurd a ⋯) (λ_=>?_)];rwa[amh (λ_=>?_) (λa=>absurd ⋯ a)];rwa[ajb h]
theorem extend {R:Result->Zu->Prop}(z:A.handled=none)(hit:s.heap.IsRevIter it l ((items.size:Int) - 1))(y:s.heap.IsList l items)(k:l≠it)(hlen:items.size<=sizeLine)(S:Zs)(n:S≠it)(x:S≠l)(res:Zt)(g:Nat)(D:s•S\("list">>>.seq #[] g))(G:∀g1 t a d,(∀b o,b≠S->b≠it->s•b\o->g1.get? b\o)->g1.get? S\{ cls:=.type "list",dict:=none,data:=.seq a d,slots:=#[] }->ItemsOf (λi v=>items[items.size - 1 - i]?\v) a items.size->R (.ok (.ret res)) { s with heap:=g1,toks:=t }):
 (prog<|>w) A.in1 (Builtin.List.listExtendWith ↑S ↑it res)
  (λfin c=>match fin with|.done f=>R (.ok f) c|.again d=>d.quiet=true/\codeAny (model prog w) A d R c) (λe c=>R (.error e) c) s:=by
 rwa[ai2 (alb (T:="list_reverseiterator") hit.typeIs ?_)];let u:Builtin.List.listSameRef ↑S ↑it=false:=by simp[Builtin.List.listSameRef,n]
 let r:(Value.type "list_reverseiterator"==Value.type "list")=false:=⋯
 let B:(Value.type "list_reverseiterator"==Value.type "tuple")=false:=⋯
 simp only[u,r,B,Bool.or_false,Bool.false_eq_true,amE];rwa[ai2 (wpAny_pyIter_revIter hit ?_)];rwa[ai2 (aku (hint hit ?_))];let W:=(Walks.listRev (prog:=prog) (w:=w) (A:=A.in1) z it l k items).toS
 let m:S∉[it,l]:=λI=>by cbv
 rwa[ajb ⟨plainId_quiet F.plain_extend_loop _,5⟩];rwa[codeAny_extend_loopS W hlen S m res items.size 0 _ #[] _ rfl (ajB _) ⟨ajB _,by simpa using hit,y⟩ D (ItemsOf.nil _) λc a d h p j=>?_]
 rw[Moved.eq_with h];rwa[G c.heap c.toks a d (λb o H C e=>h.heap b o (λq=>?_) e) p j]
 cbv
def init {R:Result->Zu->Prop}(B:A.handled=none)(hit:s.heap.IsRevIter it l ((items.size:Int) - 1))(z:s.heap.IsList l items)(n:l≠it)(hlen:items.size<=sizeLine)(S:Zs)(h:S≠it)(j:S≠l)(C:s•S\("list">>>.seq #[]))(D:∀g1 p a g,(∀b o,b≠S->b≠it->s•b\o->g1.get? b\o)->g1.get? S\{ cls:=.type "list",dict:=none,data:=.seq a g,slots:=#[] }->ItemsOf (λi v=>items[items.size - 1 - i]?\v) a items.size->R (.ok (.ret .none)) { s with heap:=g1,toks:=p }):
 (prog<|>w) A.in1 (Builtin.«list.__init__» ⟨[↑S,↑it],[]⟩)
  (λfin m=>match fin with|.done f=>R (.ok f) m|.again g=>g.quiet=true/\codeAny (model prog w) A g R m) (λe m=>R (.error e) m) s:=Dk.yX C λx c u d=>extend (s:=(s<*x)) B (hit.at λo e=>d _ o h.symm e) (z.at λo e=>d _ o j.symm e) n hlen S h j .none _ u λg1 p a g y q k=>D g1 p a g (λb o t r e=>y b o t r (d b o t e)) q k
theorem call (z:A.handled=none)(hit:s.heap.IsRevIter it l ((items.size:Int) - 1))(q:s.heap.IsList l items)(g:l≠it)(hlen:items.size<=sizeLine)(x:∀g1 j a h,(∀b o,b≠it->s•b\o->g1.get? b\o)->g1.get? ↥s\{ cls:=.type "list",dict:=none,data:=.seq a h,slots:=#[] }->ItemsOf (λi v=>items[items.size - 1 - i]?\v) a items.size->Q ↑↥s { s with heap:=g1,toks:=j }):
 (prog<|>w) A (PySem.call (.type "list") [↑it]) Q E s:=by
 rwa[callType_codes (Q₁:=λobj c=>obj=↑↥s/\c={ s with heap:=s.heap.push ("list">>>.seq #[]) }) F.called_list (F.typeCall_list_1 _) F.entry_list_init (code_list_new _ ⟨22⟩) λobj c d=>?_]
 let⟨rfl,rfl⟩:=d;let t:(s.heap.push ("list">>>.seq #[])).get? ↥s\("list">>>.seq #[]):=ajv _ rfl;let p:it<↥s:=let ⟨o,m,_⟩:=hit;ajy m
 let k:l<↥s:=let ⟨o,m,_⟩:=q;ajy m
 rwa[⟨⟨_,t,2⟩,F.args_list_init_2 _ _,init (A:=A.in1) (s:={ s with heap:=s.heap.push ("list">>>.seq #[]) }) z (hit.at λo e=>ai7 _ e) (q.at λo e=>ai7 _ e) g hlen _ (akE p) (akE k) t λg1 j a h y n f=>?_⟩];rwa[2,x g1 j a h (λb o u e=>y b o (ajH (ajy e)) u (ai7 _ e)) n f]
end Lr
variable {X:Cx}{e:Expr}{p pos:Pos}
def Uz (C:Zs):TE:=λ_ H Q=>∀x d,H x=none->H d=none->d≠x->Q ↑x (upd (upd H d (.own x)) x (.ins C d []))
def LZ (d:makesIn X.K b=true)(n:findIn X.K ↑b "__init__"=some (some (.builtin "object.__init__")))(kp:keepIn X.K ↑b=true)(j:Gl X x)(q:X.mg x\↑b)(f:(x==("__debug__":Str))=false):PE X (.Call (.Name x p) [] [] pos) (Uz b):=by
 intro g s r H Q I h;rwa[akp (j3 I j q ?_ f)];rwa[PySem.W.callWith_K0 I.dE kp (amq ?_)];let l:=Inv.made (C:=b) I;let k:=h (↥s+ 1) ↥s (I.aU.fresh (amr _)) (I.aU.fresh (aja _)) (ajH (akA _));let Y:=makes_of (M:=model X.prog X.w) I.dE d;rwa[HC I.dE d n (λself=>PySem.W.Looks.of_pure (PySem.W.oi_bind self)) ?_]
 let m:((s.heap.push emptyDict).push (instObj b ↥s)).get? (↥s+ 1)\(instObj b ↥s):=by
  have:=ajv (s.heap.push emptyDict) (o:=instObj b ↥s) rfl
  rwa [alf]at this
 let t1:PySem.W.Looks (model X.prog X.w) ((s.heap.push emptyDict).push (instObj b ↥s)) (typeOf ↑(↥s+ 1)) ↑b:=(PySem.W.Looks.ld m).andThen .now;let i:PySem.W.Looks (model X.prog X.w) ((s.heap.push emptyDict).push (instObj b ↥s)) (isInstance ↑(↥s+ 1) (.type "object")) true:=t1.andThen (Y.top.keeps λc o e=>ai7 _ (ai7 _ e));rwa[alh PySem.W.oi_plain PySem.W.entry_oi (@PySem.W.check_slot (model X.prog X.w) _ _ _ "object.__init__" "object" "__init__" ↑(↥s+ 1) [] [] _ PySem.W.oi_kind PySem.W.oi_split i (PySem.W.oi_args ↑(↥s+ 1)) ?_)];rwa[ajb (And.intro rfl ⟨↑(↥s+ 1),_,l,rfl,k⟩)]
inductive Yb (K:Za1)(xs:Zb)(H:Hp)(Q:VK):Prop
 |mk (x:V)(D:Zs)(t:Zt)(b:Bool):xs=[x,↑D]->jH K H x t->kitOne K t ↑D\b->Q (.bl b) H->Yb K xs H Q
end L2
namespace L2
def nm (E:Zh)(c:Nat):Nat:=E.getD c 0
def qK (R:Za2)(E:Zh)(a:Nat)(z:Int)(b:Nat):Prop:=∃c d,R c z d/\nm E c=a/\nm E d=b
def vU (x y a:Nat):Nat:=if a=y then x else a
def vV (h:n<m)(E:Zh)(c:Nat):nm (E.map (vU n m)) c=vU n m (nm E c):=by
 unfold nm;rw[ai8,ai8,ajc]
 cases E[c]? with
 |some x=>rfl
 |none=>show 0=vU n m 0;unfold vU;rw[ajk ∅]
def UA (u v:Nat)(W:Za2)(a:Nat)(z:Int)(b:Nat):Prop:=∃c d,W c z d/\vU u v c=a/\vU u v d=b
inductive One (ws:Za3)(nr:Nat):Zh->(Za2)->Dt->Zh->(Za2)->Prop
 |meet {E:Zh} {W:Za2} {c u v:Nat} {z:Int}:u<v->E[u]?\u->E[v]?\v->W c z u->W c z v->One ws nr E W (gP c z u v) (E.map (vU u v)) (UA u v W)
 |rule {E:Zh} {W:Za2} {which k c d:Nat} {word:Zg} {p:Zh} {z:Int}:ws[which]?\word->⇑p=⇑word+ 1->p[0]?=p[⇑word]?->(which<nr\/p[0]?\0)->(∀x∈p,E[x]?\x)->word[k]?\z->p[k]?\c->p[k+ 1]?\d->(∀(i a b:Nat)(y:Int),i≠k->word[i]?\y->p[i]?\a->p[i+ 1]?\b->W a y b)->One ws nr E W (lL which p k) E (fx W c z d)
inductive Go (ws:Za3)(nr:Nat):Zh->(Za2)->List Dt->Zh->(Za2)->Prop
 |nil {E:Zh} {W W':Za2}:(∀a z b,W a z b↔W' a z b)->Go ws nr E W [] E W'
 |cons {E E1 E2:Zh} {W W1 W2:Za2} {row:Dt} {ms:List Dt}:One ws nr E W row E1 W1->Go ws nr E1 W1 ms E2 W2->Go ws nr E W (row::ms) E2 W2
section
variable {ws:Za3}{nr:Nat}{E E1 E2:Zh}{W W' W1 W2:Za2}{ms ns:List Dt}
def Go.congr (h:Go ws nr E W ms E1 W1):∀{W':Za2},(∀a z b,W' a z b↔W a z b)->Go ws nr E W' ms E1 W1:=by
 induction h with
 |nil e=>exact λh=>.nil λa z b=>(h a z b).trans (e a z b)
 |cons o _ m=>
  intro W' h
  cases o with
  |meet j c l f k=>exact .cons (.meet j c l ((h^_).mpr f) ((h^_).mpr k)) (m λa z b=>by
   constructor
   ·rintro ⟨g,d,q,r⟩;rwa[g,d,(h^_).mp q,r]
   ·rintro ⟨g,d,q,r⟩;rwa[g,d,(h^_).mpr q,r])
  |rule j c l f k v p u w=>exact .cons (.rule j c l f k v p u λi a b y n x s t=>(h^_).mpr (w i a b y n x s t)) (m λa z b=>by unfold fx;rw[h])
def Go.app (h:Go ws nr E W ms E1 W1):∀{E2:Zh}{W2:Za2}{ns:List Dt},Go ws nr E1 W1 ns E2 W2->Go ws nr E W (ms++ns) E2 W2:=by
 induction h with
 |nil e=>exact λg=>g.congr e
 |cons o _ a=>exact λg=>.cons o (a g)
end
def Q8 (h:n<m)(a:Nat)(z:Int)(b:Nat):UA n m (qK R B) a z b↔qK R (B.map (vU n m)) a z b:=by
 constructor
 ·rintro ⟨g,i,⟨d,c,r,rfl,rfl⟩,e,f⟩;rwa[d,c,r,by rw[vV h,e],by rw[vV h,f]]
 ·rintro ⟨d,c,r,e,f⟩;rwa[11,⟨d,c,r,22⟩,by rw[<-vV h,e],by rw[<-vV h,f]]
section
variable {ws:Za3}{nr:Nat}{S S':RS}{pend:Ze}{R:Za2}{ks:Zg}
def qh {S:RS}(wf:S.Wf){c:Nat}(a:c<S.q):S.aY[c]?\(S.ax c):=by unfold RS.ax;rw[ai8,ai1 ([wf.e]▸a)];rfl
def UB (l:kb S pend S'):Good S pend R->(∀c z d,R c z d->z∈ks)->∃e,S'.rows=S.rows++e/\Go ws nr S.aY (qK R S.aY) e S'.aY (qK R S'.aY):=by
 induction l with
 |nil S=>exact λ_ _=>⟨[],(ajm _).symm,.nil λ_ _ _=>Iff.rfl⟩
 | @take S S' pend w _ E=>
   intro g p;let⟨g1,_,r,_,q⟩:=g.take p;let⟨e,v,go⟩:=E g1 p;rcases q with ⟨_,j,B⟩|⟨_,c,z,x,y,u,h,D,F,m,j,_,A⟩
   ·rw[uv B]at go;rwa[e,by rw[v,j],go]
   ·let⟨_,o,_,ex⟩:=g.st _ _ _ u;let f:min x y<max x y:=by rcases Nat.lt_or_gt_of_ne m with q|q <;> ext
    let C:(S.takeIn pend w).1.aY=S.aY.map (vU (min x y) (max x y)):=by
     rwa[akO λi=>?_]
     rw[ajc];cases t:i<S.q
     ·rw[qh g1.wf ([r]▸t),qh g.wf t,A];rfl
     ·rw[ajC (by rw[g1.wf.e,r];omega),ajC (by rw[g.wf.e];omega)];rfl
    let ix:qK R S.aY c z x:=g.so _ _ _ u;let h:qK R S.aY c z y:=h;let n:=qh g.wf o;let k:=qh g.wf D;rw[ex]at n;rw[F]at k;rwa[⟨gP c z (min x y) (max x y)::e,by rw[v,j,ajK];rfl,.cons (.meet f ?_ ?_ ?_ ?_) ((C ▸ go).congr λa s b=>Q8 f a s b)⟩]
    ·rcases amv x y with q|q
     ·rw[alv q];rwa[n]
     ·rw[al0 q];rwa[k]
    ·rcases amv x y with q|q
     ·rw[al1 q];rwa[k]
     ·rw[ami q];rwa[n]
    ·rcases amv x y with q|q
     ·rw[alv q];rwa[ix]
     ·rw[al0 q];rwa[h]
    ·rcases amv x y with q|q
     ·rw[al1 q];rwa[h]
     ·rw[ami q];rwa[ix]
theorem rS {c:Nat->Int->Zi}:∀{w:Zg}{r e:Nat},wk c r w\e->⇑(r::cz c r w)=⇑w+ 1/\(r::cz c r w)[⇑w]?\e/\∀(i:Nat)(y:Int),w[i]?\y->∃a b,(r::cz c r w)[i]?\a/\(r::cz c r w)[i+ 1]?\b/\c a y\b
 |[],r,e,h=>by rwa[⟨2,by rw[<-Za0 h];rfl,λi y q=>by simp at q⟩]
 |z::w,r,e,h=>by
  let⟨d,f,j⟩:=oO h;let⟨g,k,l⟩:=rS j;rw[nj f];rwa[⟨by rw[ajo,g];rfl,k,λi y q=>?_⟩]
  cases i with
  |zero=>rwa[r,d,22,by rw[<-Za0 q];rwa[f]]
  |succ i=>exact l i y q
theorem u0 (g:Good S [] R):∀{w:Zg}{r e:Nat},wk S.by r w=some e->S.aY[r]?\r->∀x∈r::cz S.by r w,S.aY[x]?\x
 |[],r,e,h,b,x,a=>by rw[ai9.mp a];rwa[b]
 |z::w,r,e,h,b,x,a=>by
  let⟨d,c,i⟩:=oO h;rcases ajs.mp a with rfl|a
  ·rwa[b]
  ·rw[nj c]at a;let⟨_,f,_,j⟩:=g.st _ _ _ c;have:=qh g.wf f;rw[j]at this;rwa[u0 g i this x a]
def L0 (f:nm B n=n)(e:nm B m=m)(a:Nat)(y:Int)(b:Nat):fx (qK R B) n z m a y b↔qK (fx R n z m) B a y b:=by
 constructor
 ·rintro (⟨g,h,r,c,d⟩|⟨rfl,rfl,rfl⟩|⟨rfl,rfl,rfl⟩)
  ·rwa[g,h,.inl r,c,d]
  ·rwa[11,.inr (.inl ⟨222⟩),f,e]
  ·rwa[11,.inr (.inr ⟨222⟩),e,f]
 ·rintro ⟨g,h,r|⟨rfl,rfl,rfl⟩|⟨rfl,rfl,rfl⟩,c,d⟩
  ·rwa[.inl ⟨g,h,r,c,d⟩]
  ·rwa[.inr (.inl ⟨c.symm.trans f,2,d.symm.trans e⟩)]
  ·rwa[.inr (.inr ⟨c.symm.trans e,2,d.symm.trans f⟩)]
def L1 {start:Nat}{word:Zg}(g:Good S [] R)(c:Bp ws nr S n word start m i j z):One ws nr S.aY (qK R S.aY) (lL n ((start::cz S.by start (word.take m))++(j::cz S.by j (word.drop (m+ 1)))) m) S.aY (fx (qK R S.aY) i z j):=by
 let H:m<⇑word:=(ai4.mp c.hz).1;let⟨d,B,G⟩:=rS c.f;let⟨v,C,D⟩:=rS c.r;let lt:⇑(word.take m)=m:=by rw[ajD];ext
 let ld:⇑(word.drop (m+ 1))=⇑word - (m+ 1):=aj4 ..;rw[lt]at d B;rw[ld]at v C;let u:=qh g.wf c.s.1;rw[c.s.2]at u;let t:=qh g.wf c.hd.1;rw[c.hd.2]at t;let left:∀h,h<=m->((start::cz S.by start (word.take m))++(j::cz S.by j (word.drop (m+ 1))))[h]?=(start::cz S.by start (word.take m))[h]?:=λh A=>ajd (by rw[d];omega)
 let right:∀h,((start::cz S.by start (word.take m))++(j::cz S.by j (word.drop (m+ 1))))[m+ 1+ h]?=(j::cz S.by j (word.drop (m+ 1)))[h]?:=λh=>by
  rw[ajg (by rw[d];omega),d]
  congr 1
  ext
 rwa[.rule c.w (by rw[ai3,d,v];omega) ?_ ?_ (λx k=>?_) c.hz ?_ ?_ λh a b y A w o l=>?_]
 ·rw[left 0 ∅,show ⇑word=m+ 1+ (⇑word - (m+ 1)) by ext,right];rw[C];rfl
 ·rw[left 0 ∅];exact c.n.imp id λe=>by rw[e];rfl
 ·rcases ajh.mp k with k|k
  ·rwa[u0 g c.f u x k]
  ·rwa[u0 g c.r t x k]
 ·rw[left m (aja _)];rwa[B]
 ·rw[right 0];rfl
 ·rcases Nat.lt_or_gt_of_ne A with q|q
  ·let⟨F,E,p,s,r⟩:=G h y (by rw[akU q];rwa[w]);rw[left h ∅,p]at o;rw[left (h+ 1) ∅,s]at l;obtain rfl:=Za0 o;obtain rfl:=Za0 l;rwa[g.so _ _ _ r]
  ·obtain⟨f,rfl⟩:∃f,h=m+ 1+ f:=⟨h - (m+ 1),3⟩;let⟨F,E,p,s,r⟩:=D f y ([List.getElem?_drop]▸w);rw[right,p]at o;rw[show m+ 1+ f+ 1=m+ 1+ (f+ 1) by ext,right,s]at l;obtain rfl:=Za0 o;obtain rfl:=Za0 l;rwa[g.so _ _ _ r]
def Oi (t:Tr ws nr S S')(C:∀w∈ws,∀z∈w,z∈ks/\-z∈ks):Good S [] R->fD S->(∀a z b,R a z b->z∈ks)->∃p,Good S' [] p/\fD S'/\(∀a z b,p a z b->z∈ks)/\∃j,S'.rows=S.rows++j/\Go ws nr S.aY (qK R S.aY) j S'.aY (qK p S'.aY):=by
 induction t with
 |refl=>exact λg w k=>⟨R,g,w,k,[],(ajm _).symm,.nil λ_ _ _=>Iff.rfl⟩
 |step _ f u F=>
  rename_i l H h word start m c d z _;intro g x k;let⟨D,g1,n,v,j,E,o⟩:=F g x k;let s:=C word (ai5 f.w) z (ai5 f.hz)
  let i:∀a y b,fx D c z d a y b->y∈ks:=by
   rintro a y b (r|⟨_,e,_⟩|⟨_,e,_⟩)
   ·rwa[v _ _ _ r]
   ·rw[e];rwa[s.1]
   ·rw[e];rwa[s.2]
  let gl:=g1.lay z f.hc.1 f.hd.1 (l.rows++[lL h ((start::cz l.by start (word.take m))++(d::cz l.by d (word.drop (m+ 1)))) m]);let⟨A,G,_⟩:=u.all gl i ⟨n.a,n.b,n.c⟩;let⟨q,B,go2⟩:=UB (ws:=ws) (nr:=nr) u gl i;rwa[⟨_,A,G,i,j++(_::q),5,o.app (.cons (L1 g1 f) (go2.congr λa y b=>L0 f.hc.2 f.hd.2 a y b))⟩];rw[B];show (l.rows++[_])++q=_;rw[E,ajK,ajK];rfl
end
def YY (a:Program)(w:World)(A:Around)(env:Env):Zr->(Bool->Zu->Prop)->Zu->Prop
 |[],K,s=>K true s
 |c::_,K,s=>(a<|>w) A (isTrue c env (eval c env)) K (λ_ _=>False) s
def Bu {R:Result->Zu->Prop}{elt target iter:Expr}{cs:Zr}{scope:Scope}{pos:Pos}{it acc:Zt}{env:Env}(u:⇑cs<=1)(I:Nat->Zu->Prop)(turn:∀n s,I n s->(P<|>w) A (pyNext it) (λr f=>match r with
  |none=>R (.ok .next) f
  |some v=>(P<|>w) A (letOwnedTupleGo target it v) (λ_ j=>(P<|>w) A (assign target env v) (λ_ l=>YY P w A env cs (λb k=>
   match b with
   |true=>(P<|>w) A (eval elt env) (λx d=>(P<|>w) A (call (.builtin "list.append") [acc,x]) (λ_ i=>∃m,m<n/\I m i) (λ_ _=>False) d) (λ_ _=>False) k
   |false=>∃m,m<n/\I m k) l) (λ_ _=>False) j) (λ_ _=>False) f) (λ_ _=>False) s)(n:Nat)(h:I n s):codeAny (model P w) A (.compLoop (.ListComp elt [⟨target,iter,cs,(0)⟩] scope pos) 0 it acc env) R s:=by
 rwa[codeAny_loop rfl I (λn s t=>wpAny_noted ?_) n h];rcases cs with _|⟨c,_|_⟩;rw[compTurn_list1]
 rotate_left 2
 cbv
 all_goals
  rwa[ai2 (ame (ai2 (akw (turn n s t) (λr f g=>?_) λ_ _ e=>e.elim)))]
  cases r with
  |none=>exact ajb g
  |some v=>
   rwa[ai2 (akw g (λ_ j q=>ai2 (akw q (λ_ l a=>?_) λ_ _ e=>e.elim)) λ_ _ e=>e.elim)]
   try rwa[ai2 (wpAny_tests_one (akw a (λok d a=>?_) λ_ _ e=>e.elim))];ext ok;rwa[ajb ⟨2,a⟩]
   rwa[ai2 (ai2 (akw a (λx d p=>ai2 (akw p (λ_ i o=>ajb (ajb ⟨2,o⟩)) λ_ _ e=>e.elim)) λ_ _ e=>e.elim))]
def Oj (X:Cx):Zr->TT->Prop
 |[],a=>a=λ_ H Q=>Q true H
 |c::_,a=>PT X c a
def Q9 {e:TT}{Q:Bool->Hp->Prop}{K:Bool->Zu->Prop}(h:Oj X C e)(i:X.xe=λ_ _=>False)(I:Inv X o D H s)(q:e D H Q)(k:∀b a d,Inv X o D d a->Q b d->K b a):YY X.prog X.w X.A X.env C K s:=
 match C,h with
 |[],h=>by rw[h]at q;rwa[k true s H I q]
 |c::_,h=>by have:=h o s D H Q I q;rw[i]at this;rwa[a9 this λb a ζ=>?_];let⟨d,f,g⟩:=ζ;rwa[k b a d f g]
section
variable {X:Cx}{elt iter Ie:Expr}{x:Str}{px pos:Pos}{scope:Scope}{cl:List (Str×Zs)}{fns:Zp}{ixs:Zh}{wi:TI}{tt:TT}{te:TE}
theorem zj {cs:Zr}{use:Option (Zt->Sem Unit)}{RQ:Zt->Zu->Prop}{Q:VK}(hl:⇑cs<=1)(hc:X.calm=true)(hi:PI X (.Name x px) iter wi)(S:hO X x fns ixs scope cl)(ht:∀(C:Zs) (s:Zu) (H:Hp) (ex:Zn),Oj (eh X (x::fns) scope cl C s H ex) cs tt)(he:∀(C:Zs) (s:Zu) (H:Hp) (ex:Zn),PE (eh X (x::fns) scope cl C s H ex) elt te)(hs:∀x,foldedSetIterable iter X.env x=pure x)(I:Inv X o D H s)(h:tE wi (ja ixs) tt te D H Q)(fin:∀(C k:Zs) (H3:Hp) (ys:Zb) (s4:Zu) (m:Str->Zl),s4.heap.Ns C m->(∀G,Heap.SameBut C s4.heap G->Inv X o D (upd H3 k (.lst ys)) (s4<*G))->upd H3 k (.lst ys) C=none->X.env.locals≠C->(∀z c,X.env.cells.lookup z\c->c≠C)->X.eM.heap.objs.size<=C->(∀g∈X.pn++o,g.1≠C)->Q ↑k (upd H3 k (.lst ys))->compPost (model X.prog X.w) X.A X.xe use RQ ↑k C (.ok .next) s4):
 X⁻¹ X.A (comprehension (.ListComp elt [⟨.Name x px,iter,cs,(0)⟩] scope pos) scope X.env p (newList []) false (eval iter X.env) use) RQ X.xe s:=by
 rwa[wpAny_comprehension_free rfl hs S.ab0 S.kind S.names (a9 (hi o s D H _ I h) λv s1 h1=>a9 h1 λitv s2 h2=>?_)];let⟨it,Y,tn,J,H2,e,A,T,Bv,f2,W,⟨m0,w0⟩,turn⟩:=h2;subst e
 let E:∀b∈Y,b<↥s2:=λb t=>by let⟨f,ho,_⟩:=T.obj _ _ Bv b t;rwa[ajy ho]
 rwa[ajW (wpAny_newFunctionEnv S.cell (by intro y hy;simp at hy) (λL3 O N=>?_) S.kind)];generalize Bw:s2.heap.push { cls:=.type "list",dict:=none,data:=.seq ([]:Zk).toArray }=F at O N ⊢;generalize hD:↥s2=k at E ⊢;let hC:F.objs.size=k+ 1:=by rw[<-Bw,alf,hD]
 generalize hCe:F.objs.size=C at hC O N ⊢;let w:k<C:=∅
 let IV:k≠C:=ajH w;let L:∀b u,s2•b\u->F.get? b\u:=λb u q=>by rw[<-Bw];rwa[ai7 _ q]
 let Ol:∀{b u},s2•b\u->b<k:=λq=>by rw[<-hD];rwa[ajy q]
 let U:∀b u,F.get? b\u->L3.get? b\u:=λb u q=>N.extBut b u (ajH (ajF (ajy q) (al8 hCe))) (ai7 _ q)
 let hDo:F.get? k\{ cls:=.type "list",dict:=none,data:=.seq ([]:Zk).toArray }:=by rw[<-Bw,<-hD];rwa[ajv _ rfl]
 let I3:Inv X o D H2 (s2<*F):=A.kept (t':=s2.toks) L;let Om:H2 k=none:=A.aU.fresh ∅;let hnC:H2 C=none:=A.aU.fresh ∅
 let L4:∀b∈k::Y,b∉cY X.stack:=λb t z=>by
  rcases ajs.mp (A.Au b z) with e|z
  ·rcases ajs.mp t with Z|t
   ·rwa[absurd A.lt (by rw[<-e,Z,<-hD];rwa[akP _])]
   ·rwa[(f2 b t).2.1 e]
  ·rcases ajs.mp t with Z|t
   ·rwa[A.Sd (by rw[Z,<-hD];rwa[aja _]) z]
   ·rwa[(f2 b t).2.2.1 z]
 let rn:∀y c,cl.lookup y\c->∀b∈k::Y,c≠b:=λy c q b t z=>by
  let⟨v,hv⟩:=A.cell y c (S.sub y c q);rcases ajs.mp t with Z|t
  ·rwa[absurd hv.lt (by rw[z,Z,<-hD];rwa[akP _])]
  ·rwa[(f2 b t).2.2.2.2.1 y c (S.sub y c q) z]
 let' R:Cx:=eh X (x::fns) scope cl C (s2<*F) H2 (k::Y)
 let ok:R.Ok:={
  mod:=A.ok.mod
  kind:=S.kind
  glob:=A.ok.glob
  blt:=A.ok.blt
  above:=by show F.objs.size<=C;ext
  inj:=λy z c q1 q2=>A.ok.inj y z c (S.sub^q1) (S.sub^q2)
  has:=S.has
  As:=λy c q=>nomatch q
  hd:=A.ok.hd
  frames:=A.ok.frames
  DW:=.inl rfl
  Np:=λb t=>⟨by
   rcases ajs.mp t with Z|t
   ·rw[Z];rwa[IV]
   ·rwa[ajH (amb (E b t) w)],λy c q=>rn y c q b t⟩
  bs:=I3.bs
  uj:=ajl I3.ok.uj I3.sz
  uH:=λb f q t=>by
   rcases ajs.mp t with Z|t
   ·rwa[absurd (Ol (A.bs b f q).1) (by rw[Z];rwa[akP _])]
   ·rcases (f2 b t).2.2.2.1 with z|z
    ·rwa[A.ok.uH b f q z]
    ·rwa[absurd (ajy (A.ok.bs b f q).1) (Nat.not_lt.mpr z)]
  xI:=L4
  jD:=I3.stack
  vD:=I3.sY }
 let start:∀(v0:Zc),v0=none->Inv R [(k,{ cls:=.type "list",dict:=none,data:=.seq ([]:Zk).toArray })] (v0::ja ixs D) H2 { s2 with heap:=L3,toks:=s2.toks+ ⇑([]:List (Str×Zt)) }:=λv0 hv0=>{
  ok:=ok
  os:=rfl
  bare:=A.bare
  base:=Un.kept U
  loc:=⟨_,O,λi y v e1 Z e3=>by
   cases i with
   |zero=>rw[hv0]at Z;ext Z
   |succ j=>
    let e1':fns[j]?\y:=e1
    let UC:(ja ixs D)[j]?\(some v):=Z
    let⟨i,hi1,hi2,hk,c,EA,Oo⟩:=S.at_ j y e1';unfold ja at UC;rw[ajc,hi1]at UC
    let e3':D[i]?\(some v):=by
     let z:(D[i]?).join\v:=Za0 UC
     cases q:D[i]? with
     |none=>rw[q]at z;ext z
     |some f=>rw[q]at z;rw[show f=some v from z]
    let⟨m,_,hl⟩:=A.loc;let⟨u,r,l⟩:=hl i y v hi2 e3' (hk.elim (λz=>.inr (.inl z)) λz=>.inr (.inr z));rwa[⟨u,r,.inr ⟨Oo,c,EA,5⟩⟩];rcases l with ⟨z,_⟩|⟨_,c',hc',Yc⟩
    ·rcases hk with hk|hk <;> cbv
    ·have:c'=c:=Za0 (hc'.symm.trans (S.sub^EA));subst this;let⟨f,ho,hd⟩:=Yc;rwa[f,U^L^ho,hd]⟩
  cell:=λy c q=>by let⟨v,f,ho,hd⟩:=A.cell y c (S.sub y c q);rwa[v,f,U^L^ho,hd]
  free:=hnC
  gY:=λy c q=>A.gY y c (S.sub y c q)
  pin:=λg hp=>by
   let UD:g=(k,{ cls:=.type "list",dict:=none,data:=.seq ([]:Zk).toArray }):=by simpa [R,eh] using hp
   subst UD;rwa[U^hDo,Om,IV,L4 k (aji ..),λv z=>nomatch z]
  aU:=(A.aU.kept L).kept U
  len:=by show ⇑(v0::ja ixs D)=⇑(x::fns);simp[ja,S.len] }
 let UE:∀{H':Hp}{P:List (Zs×Obj)},(∀b∈Y,H' b=none)->(∀g∈P,g.1=k)->∀b∈Y,pQ R P H' b:=λ{H' P} hn hp b t=>
  ⟨hn b t,ajH (amb (E b t) w),L4 b (ajw _ t),.inl (ajw _ t),λy c q=>rn y c q b (ajw _ t),λg q=>by
   let q':g∈P:=by simpa [R,eh] using q
   rw[hp g q'];rwa[akE (E b t)]⟩
 let loop:codeAny (model X.prog X.w) X.A (.compLoop (.ListComp elt [⟨.Name x px,iter,cs,(0)⟩] scope pos) 0 ↑it ↑k (compEnvC scope cl C X.env))
  (compPost (model X.prog X.w) X.A X.xe use RQ ↑k C) { s2 with heap:=L3,toks:=s2.toks+ ⇑([]:List (Str×Zt)) }:=by
  refine Bu hl (λn s'=>∃(i:Nat)(ys:Zb)(M:Zk)(nn:Nat)(v0:Zc)(H':Hp),Inv R [(k,{ cls:=.type "list",dict:=none,data:=.seq M.toArray nn })] (v0::ja ixs D) H' s'/\tn i s'.heap/\(∀b∈Y,H' b=none)/\Vals ys M/\W i n ys H') ?_ m0
   ⟨(0),[],[],(0),none,H2,start none rfl,T.keep _ _ _ Bv λb _ f q=>U^L^q,λb t=>(f2 b t).1,.nil,w0⟩
  rintro n s3 ⟨i,ys,M,nn,v0,H3,J3,YZ,Y0,vv,w3⟩
  let L5:∀g∈([(k,({ cls:=.type "list",dict:=none,data:=.seq M.toArray nn }:Obj))]:List (Zs×Obj)),g.1=k:=λg hp=>by cbv
  rcases turn i n ys H3 w3 with ⟨stop,hlen,q⟩|⟨go,hlen,step⟩
  ·-- the end
   rwa[a9 (T.done R rfl rfl rfl hc i _ s3 _ H3 _ J3 (UE Y0 L5) YZ stop) λr s4 ζ=>?_];let⟨hr,J4⟩:=ζ
   subst hr;let⟨m,hn,_⟩:=J4.loc;let⟨gD,nD,_,_,_⟩:=J4.pin (k,{ cls:=.type "list",dict:=none,data:=.seq M.toArray nn }) (by simp[R,eh]);let B:=J4.base
   let inv:∀G,Heap.SameBut C s4.heap G->Inv X o D (upd H3 k (.lst ys)) (s4<*G):=λG hsb=>by
    let kC:∀b u,b≠C->s4•b\u->G.get? b\u:=λb u t q=>(hsb.2 b t).trans q
    let ne:∀{b f},s2•b\f->b≠C/\b≠k:=λq=>⟨ajH (amb (Ol q) w),ajH (Ol q)⟩
    let vW:∀{b f},s2•b\f->b∉Y->b∉k::Y:=λq hx z=>(ajs.mp z).elim (ne q).2 hx
    let uu:Un (cY X.stack) Y H2 (upd H3 k (.lst ys)) s2.heap G:={
     keep:=λb f q n t hx=>kC b f (ne q).1 (B.keep b f (L b f q) n t (vW q hx))
     slot:=λb f q n t hx=>by let⟨sl,e⟩:=B.slot b f (L b f q) n t (vW q hx);rwa[sl,kC b _ (ne q).1 e]
     free:=λb f q n hx=>by rw[ak (ne q).2];rwa[B.free b f (L b f q) n (vW q hx)]
     there:=λb f q hx=>by let⟨o',e⟩:=B.there b f (L b f q) (vW q hx);rwa[o',kC b _ (ne q).1 e]
     j2:=λb xs q=>by rw[ak (av q Om)];rwa[B.j2 b xs q]
     i7:=λb f xs q=>by rw[ak (av q Om)];rwa[B.i7 b f xs q]
     kX:=λb ps q=>by let⟨more,e⟩:=B.kX b ps q;rwa[⟨more,[ak (av q Om)]▸e⟩ ]}
    let aU:dy X.prog X.w (upd H3 k (.lst ys)) G:=λb u e=>by
     cases t:b=k
     ·subst t;rw[aj]at e;ext e;rwa[hlen,M,nn,vv,kC _ _ IV gD]
     ·rw[ak t]at e;refine(J4.aU b u e).gX (λc v hc q=>kC c v ?_ q) (λc q=>[ak (av q nD)]▸q) λc xs q=>by rw[ak (av q nD)];rwa[q]
      let fC:H3 C=none:=J4.free
      cbv
    rwa[A.Nq (s':=(s4<*G)) J4.os uu aU J4.bare (λb t=>⟨(f2 b t).2.2.2.1,(f2 b t).2.1,(f2 b t).2.2.2.2.1,(f2 b t).2.2.2.2.2⟩)]
   let ab:∀{b f},s2•b\f->b≠C:=λq z=>absurd (Ol q) ([z]▸Nat.not_lt.mpr (akZ w))
   rwa[fin C k H3 ys s4 m hn inv ([ak (akg IV)]▸J4.free) (λz=>?_) (λz c hz=>?_) (ajl (by have:=A.sz;rw[hD]at this;rwa[this]) (akZ w)) (λg hp=>ab (A.pin g hp).1) (q k nD)]
   ·let h1:=A.lt
    cbv
   ·let⟨v,f,ho,_⟩:=A.cell z c hz;rwa[ab ho]
  ·-- a turn
   rwa[a9 (T.item R rfl rfl rfl hc i _ s3 _ H3 _ J3 (UE Y0 L5) YZ go) λr s4 ζ=>?_];let⟨u,hr,h4⟩:=ζ
   subst hr;rwa[a9 h4 λ_ s5 ζ=>?_];let⟨xv,H5,J5,r5,y5,IW,Oq⟩:=ζ
   let J5':=J5.pinned (UE Oq L5) (T.obj^IW);let hg:PG R (.Name x px) (dJ 0):=DY (X:=R) (i:=0) S.nd rfl (.inl (uo S.own)) (.inr (uo S.own));rwa[a9 (hg _ s5 _ H5 xv u (λ eK H'=>eK=some xv::ja ixs D/\H'=H5) J5' r5 ⟨22⟩) λ_ s6 ζ=>?_];let⟨σ6,H6,J6,e6,e6'⟩:=ζ
   subst e6 e6';rwa[Q9 (ht C (s2<*F) H2 (k::Y)) rfl J6 (step xv H6 y5) λbt Y1 UG IX q6=>?_]
   cases bt with
   |true=>
    rwa[a9 (he C (s2<*F) H2 (k::Y) _ Y1 _ UG _ IX q6) λyv s7 ζ=>?_];let⟨y,H7,J7,r7,m',IY,w7⟩:=ζ
    let⟨gD,nD,_,_,_⟩:=J7.pin (k,{ cls:=.type "list",dict:=none,data:=.seq M.toArray nn }) (by simp[R,eh]);let UH:tn (i+ 1) s7.heap:=T.keep _ _ _ IW λb t f e=>(J7.pin (b,f) (ajf _ (ajf _ (ig t e)))).1
    let UI:∀b∈Y,H7 b=none:=λb t=>by let⟨f,e,d⟩:=T.obj _ _ IW b t;rwa[(J7.pin (b,f) (ajf _ (ajf _ (ig t e)))).2.1]
    let J7':Inv R [] (some xv::ja ixs D) H7 s7:=J7.oC λg hp=>nomatch hp
    rwa[wpAny_list_append_plain (hsz:=by rw[ajp,<-⇑vv];omega) ⟨nn,gD⟩ λh8 pl8 Y2=>?_]
    let⟨n8,g8⟩:=pl8
    let J8:Inv R [] (some xv::ja ixs D) H7 (s7<*h8):=J7'.turned (t':=s7.toks) (it:=k) (λb f t e=>(Y2.2 b t).trans e) nD (IV) (.inl (aji ..))
     (λy c q=>rn y c q k (aji ..)) (λg hp=>by simp[R,eh]at hp)
    rwa[⟨m',IY,i+ 1,ys++[y],M++[yv],n8,some xv,H7,J8.oC λg hp=>?_,5,UI,vv.append (.cons r7 .nil),w7⟩]
    ·cbv
    ·rwa[T.keep _ _ _ UH λb t f e=>(Y2.2 b (ajH (E b t))).trans e]
   |false=>
    let⟨m',IY,w7⟩:=q6;let⟨gD,nD,_,_,_⟩:=IX.pin (k,{ cls:=.type "list",dict:=none,data:=.seq M.toArray nn }) (by simp[R,eh]);let UH:tn (i+ 1) Y1.heap:=T.keep _ _ _ IW λb t f e=>(IX.pin (b,f) (ajf _ (ajf _ (ig t e)))).1
    let UI:∀b∈Y,UG b=none:=λb t=>by let⟨f,e,d⟩:=T.obj _ _ IW b t;rwa[(IX.pin (b,f) (ajf _ (ajf _ (ig t e)))).2.1]
    rwa[⟨m',IY,i+ 1,ys,M,nn,some xv,UG,IX.oC λg hp=>?_,UH,UI,vv,w7⟩]
    cbv
 rwa[codeAny_compStart_list loop (T.self _ 0 _ _ _ (T.keep _ _ _ Bv λb _ f q=>U^L^q) loop)]
def Bx {cs:Zr}(e:⇑cs<=1)(k:X.calm=true)(g:PI X (.Name x px) iter wi)(S:hO X x fns ixs scope cl)(d:∀(C:Zs) (s:Zu) (H:Hp) (ex:Zn),Oj (eh X (x::fns) scope cl C s H ex) cs tt)(j:∀(C:Zs) (s:Zu) (H:Hp) (ex:Zn),PE (eh X (x::fns) scope cl C s H ex) elt te)(f:∀x,foldedSetIterable iter X.env x=pure x):PE X (.ListComp elt [⟨.Name x px,iter,cs,(0)⟩] scope pos) (tE wi (ja ixs) tt te):=by intro c s o H Q I h;rwa[zj e k g S d j f I h λC D n ys l m i inv _ _ _ _ _ q=>⟨m,i,λa b=>⟨↑D,_,inv a b,2,q⟩⟩]
def Du {cs:Zr}{a:Pos}(L:⇑cs<=1)(P:X.N.Nodup)(i:X.N[n]?\f)(M:Loc X.env.scope f)(T:X.calm=true)(O:PI X (.Name x px) iter wi)(S:hO X x fns ixs scope cl)(B:∀(C:Zs) (s:Zu) (H:Hp) (ex:Zn),Oj (eh X (x::fns) scope cl C s H ex) cs tt)(R:∀(C:Zs) (s:Zu) (H:Hp) (ex:Zn),PE (eh X (x::fns) scope cl C s H ex) elt te)(N:∀x,foldedSetIterable iter X.env x=pure x)(r:swapsWith (.ListComp elt [⟨.Name x px,iter,cs,(0)⟩] scope pos) (some (.Name f p)) a.line X.env=pure true)(l:X.fn f=true\/X.env.scope.names.lookup f=some .local):PS X (.Assign [.Name f p] (.ListComp elt [⟨.Name x px,iter,cs,(0)⟩] scope pos) a) (Az (tE wi (ja ixs) tt te) (dJ n)):=by
 intro d s σ H U I h;rw[exec_Assign_Name_used _ _ _ _ r];rwa[ai2 (ame (ai2 ?_))];rwa[ai2 (akw (zj (RQ:=λ_ w=>SP X d U .next w) L T O S B R N I h λC D Z ys V m Q inv t A z sz J q=>?_) (λ_ w F=>ajb (ajb F)) λ_ _ e=>e)];rwa[wpAny_assign_Name (yL (inv _ ⟨2,λ_ _=>rfl⟩) P i M (v:=↑D) rfl (λs5 G c=>?_) l)];let⟨y,j,k⟩:=c
 let g:C≠y:=by
  rcases k with e|e
  ·cbv
  ·rwa[akg (z f y e)]
 rwa[⟨m,Q.sameBut j g,λh6 u=>?_⟩];rwa[11,G.turned (t':=s5.toks) (it:=C) (λb o E e=>(u.2 b E).trans e) t (akg A) (.inr sz) z J,q]
def fN (c:X.calm=true)(d:PI X (.Name x px) iter wi)(S:hO X x fns ixs scope cl)(a:∀(C:Zs) (s:Zu) (H:Hp) (ex:Zn),PE (eh X (x::fns) scope cl C s H ex) elt te)(b:∀x,foldedSetIterable iter X.env x=pure x:=by intro _;rfl):
 PE X (.ListComp elt [⟨.Name x px,iter,[],(0)⟩] scope pos) (NR wi (ja ixs) te):=Bx (cs:=[]) ⋯ c d S (λ_ _ _ _=>rfl) a b
def Gh (e:X.calm=true)(b:PI X (.Name x px) iter wi)(S:hO X x fns ixs scope cl)(c:∀(C:Zs) (s:Zu) (H:Hp) (ex:Zn),PT (eh X (x::fns) scope cl C s H ex) Ie tt)(a:∀(C:Zs) (s:Zu) (H:Hp) (ex:Zn),PE (eh X (x::fns) scope cl C s H ex) elt te)(d:∀x,foldedSetIterable iter X.env x=pure x):
 PE X (.ListComp elt [⟨.Name x px,iter,[Ie],(0)⟩] scope pos) (tE wi (ja ixs) tt te):=Bx (cs:=[Ie]) (aja _) e b S c a d
def gQ {iy:Nat}{a:Pos}(i:X.N.Nodup)(c:X.N[iy]?\f)(g:Loc X.env.scope f)(j:X.calm=true)(k:PI X (.Name x px) iter wi)(S:hO X x fns ixs scope cl)(e:∀(C:Zs) (s:Zu) (H:Hp) (ex:Zn),PE (eh X (x::fns) scope cl C s H ex) elt te)(h:∀x,foldedSetIterable iter X.env x=pure x:=by intro _;rfl)(d:swapsWith (.ListComp elt [⟨.Name x px,iter,[],(0)⟩] scope pos) (some (.Name f p)) a.line X.env=pure true:=by rfl)(b:X.fn f=true\/X.env.scope.names.lookup f=some .local:=by trivial):
 PS X (.Assign [.Name f p] (.ListComp elt [⟨.Name x px,iter,[],(0)⟩] scope pos) a) (Az (NR wi (ja ixs) te) (dJ iy)):=Du (cs:=[]) ⋯ i c g j k S (λ_ _ _ _=>rfl) e h d b
end
def TrD (h base:Heap)(e:Zs)(cls:Zt)(g:Zo)(f:Zt):Prop:=∃a b T d c,h.get? e\a/\(a.cls=cls/\a.dict=g)/\a.data=.fields b/\b[1]?\↑T/\base.get? T=none/\T≠e/\h.get? T\d/\d.data=.fields c/\c[3]?\f
def oh (base:Heap)(l:Zq)(e:Zs)(cls:Zt)(b:Zo)(a:Zt)(h:Heap):Prop:=base.StaysIn h/\base.get? e=none/\h.FunFrames base l/\TrD h base e cls b a
def zk (f:Zm->Zm)(o:Obj):(Obj.mapFields f o).dict=o.dict:=by let⟨a,b,d,e⟩:=o;cases d <;> rfl
variable {M:Model}{A:Around}{E:Zt->Zu->Prop}{s:Zu}{base:Heap}{env:Env}{outer:Zq}{L e:Zs}{cls:Zt}{dx:Zo}
theorem IZ {x:Obj}{u:Zm}{head:Zt}{p:Bool}(G:A.frames\(env::outer))(F:s.heap.FunFrames base (env::outer))(R:env.frame\L)(O:s•e\x)(I:base.StaysIn s.heap)(y:base.get? e=none)(C:x.data=.fields u)(z:1<u.size)(h:∀H,oh base (env::outer) e x.cls x.dict (rawInt L) H->s.heap.UpToSlots H->U () (s<*H)):
 wpAny M A (do let a <-frameOf env;let pl <-entryPlaceOf L p;let b <-EntryCells.newEntry head a .none (rawInt L) .none pl;setField ↑e 1 b) U E s:=by
 let w:e∉(env::outer).filterMap (·.frame):=λN=>by let⟨_,o,D,i⟩:=F.mem N;rw[O]at D;injection D with D;subst D;rwa[i u C]
 rwa[ai2 (wpAny_frameOf_fun G F R λc f=>?_)];rwa[ai2 (wpAny_entryPlaceOf λpl v=>?_)];unfold EntryCells.newEntry newFields;rwa[ai2 (ajW ?_ (v.sizeOk5 _ _ _ _ _))];let l:c.get? e\x:=(f.2.1 e w).trans O;let k:base.StaysIn c:=λb o g=>(f.2.1 b λN=>by rw[(F.mem N).1]at g;ext g).trans (I b o g)
 let m:=ai7 (h:=c) { cls:=.type "traceback",dict:=none,data:=.fields ([head,↑L,.none,rawInt L,.none]++(if pl.isEmpty then List.replicate 6 Value.none else pl)).toArray } l;rwa[ale m C z ?_];let B:c.objs.size≠e:=akE (ajy l);let n:=akI C (·.setIfInBounds 1 (Value.ref c.objs.size));let t:=aj7 (Obj.mapFields (·.setIfInBounds 1 (Value.ref c.objs.size))) m (ak9 n)
 let r:=(akb (c.push { cls:=.type "traceback",dict:=none,data:=.fields ([head,↑L,.none,rawInt L,.none]++(if pl.isEmpty then List.replicate 6 Value.none else pl)).toArray })
  (Obj.mapFields (·.setIfInBounds 1 (Value.ref c.objs.size))) (akg B)).trans (ajv c rfl)
 let keep:∀b o,b≠e->c.get? b\o->_\o:=λb o P j=>(akb (c.push { cls:=.type "traceback",dict:=none,data:=.fields ([head,↑L,.none,rawInt L,.none]++(if pl.isEmpty then List.replicate 6 Value.none else pl)).toArray }) (Obj.mapFields (·.setIfInBounds 1 (Value.ref c.objs.size))) (akg P)).trans (ai7 _ j)
 let d:∀b o,s•b\o->(∀u,o.data≠.fields u)->b≠e:=λb o j i q=>by rw[q,O]at j;injection j with j;subst j;rwa[i u C]
 rwa[h _ ⟨λb o g=>keep b o (λq=>by rw[q,y]at g;ext g) (k b o g),y,F.of_keeps λb o j i=>?_,5⟩ λb o j i=>?_]
 ·let⟨Q,J⟩:=f.2.2 b o j;rwa[_,keep b _ (d b o j i) J,2]
 ·rwa[11,c.objs.size,11,t,⟨Obj.cls_mapFields _ _,zk _ _⟩,n,by simp[z],k.fresh,B,r,2,by first|(simp;done)|(rcases v with rfl|⟨_,_,_,_,_,_,_,rfl⟩ <;> simp)]
 ·let⟨Q,J⟩:=f.2.2 b o j;rwa[Q,keep b _ (d b o j i) J]
def UJ {z:Obj}{r:Zm}{n:Obj}{k:Zm}{l:Zq}(y:base.StaysIn s.heap)(x:base.get? e=none)(D:s.heap.FunFrames base l)(G:s•e\n)(H:n.cls=cls/\n.dict=dx)(B:n.data=.fields k)(C:k[1]?\↑a)(m:base.get? a=none)(p:a≠e)(w:s•a\z)(g:z.data=.fields r)(F:r[3]?\v)(h:∀t,oh base l e cls dx u t->s.heap.UpToSlots t->U () (s<*t)):wpAny M A (setField ↑a 3 u) U E s:=by
 let i:3<r.size:=(akL.mp F).1;let other:∀b,b≠a->(s.heap.update a (Obj.mapFields (·.setIfInBounds 3 u))).get? b=s•b:=λb d=>akb^akg d
 let c:∀b o,s•b\o->(∀k,o.data≠.fields k)->b≠a:=λb o d f q=>by rw[q,w]at d;injection d with d;subst d;rwa[f r g]
 rwa[ale w g i (h _ ⟨λb o j=>(other b λq=>by rw[q,m]at j;ext j).trans (y b o j),x,D.of_keeps λb o d f=>⟨o,(other b (c b o d f)).trans d,2⟩,5⟩ λb o d f=>⟨o.slots,(other b (c b o d f)).trans d⟩)]
 rwa[n,k,a,11,(other e (akg p)).trans G,H,B,C,m,p,aj7 _ w (ak9 (akI g _)),akI g _,by simp[i]]
def By {l:Zq}(p:oh base l e cls dx v s.heap)(m:∀c,oh base l e cls dx .none c->s.heap.UpToSlots c->U () (s<*c)):wpAny M A (setFlight ↑e none) U E s:=by let⟨h,f,o,u,t,T,r,w,k,a,i,j,d,g,n,b,q⟩:=p;unfold setFlight;rwa[ai2 (aj6 k i j ?_)];rw[ajn (show (Value.ref T !=Value.none)=true from by simp)];rwa[UJ h f o k a i j d g n b q m]
def Yd (g:A.frames\(env::outer))(q:env.frame\L)(l:oh base (env::outer) e cls dx .none s.heap)(x:∀d,oh base (env::outer) e cls dx (rawInt L) d->s.heap.UpToSlots d->U () (s<*d)):wpAny M A (noteFrame ↑e env) U E s:=by
 let⟨b,a,k,N,J,T,I,O,u,⟨rfl,rfl⟩,n,p,h,j,o,c,t⟩:=l;unfold noteFrame;simp only[q];rwa[ai2 (aj6 u n p ?_)];rw[ajn (show (Value.ref T !=Value.none)=true from by simp)];rwa[ai2 (aj6 o c t ?_)];rw[ajk (show ¬((Value.none==rawInt L)=true) from by simp[rawInt])];rwa[ai2 (UJ b a k u ⟨22⟩ n p h j o c t λw H z=>?_)];let⟨b,a,k,B,y,P,G,F,m,⟨D,v⟩,f,i,_⟩:=H;rwa[IZ (s:=(s<*w)) g k q m b a f (akL.mp i).1 λd r C=>?_]
 rw[D,v]at r;rwa[x d r (z.trans C)]
def L6 {b:Obj}{i:Zm}(c:A.frames\(env::outer))(t:s.heap.FunFrames base (env::outer))(j:env.frame\L)(k:s•e\b)(g:base.StaysIn s.heap)(f:base.get? e=none)(h:b.data=.fields i)(a:i[1]?=some .none)(n:∀d,oh base outer e b.cls b.dict .none d->s.heap.UpToSlots d->U () (s<*d)):wpAny M A (leaving env ↑e) U E s:=by unfold leaving noteFrame;simp only[j];rwa[ai2 (ai2 (aj6 k h a ?_))];rw[ajk ⋯];rwa[IZ c t j k g f h (akL.mp a).1 λa o r=>By (s:=(s<*a)) o λm ζ q=>?_];let⟨l,u,⟨11,p⟩,v⟩:=ζ;rwa[n m ⟨l,u,p,v⟩ (r.trans q)]
end L2
namespace L2
open PySem.Calls PySem.W Builtin Builtin.ObjectAttr
def zl (x C:Zs)(e:Zo)(d:Bool)(h:Heap):Prop:=∃b c,h.get? x\b/\b.cls=↑C/\b.dict=e/\b.data=.fields c/\(d=true->c[1]?=some .none/\∃a,c[0]?\↑a)
def XO (x C:Zs)(b:Zo)(a:Bool):HO:=.ext (zl x C b a)
def zl.gX {x:Zs}{dx:Zo}{nw:Bool}(p:zl x a dx nw h)(k:∀o,h.get? x\o->g.get? x\o):zl x a dx nw g:=by let⟨ob,b,e,r⟩:=p;rwa[ob,b,k _ e,r]
def zl.ex {x:Zs}{dx:Zo}{nw:Bool}(p:zl x a dx nw h):Ln x a h:=let ⟨ob,b,e,c,_,d,_⟩:=p;⟨ob,b,e,c,d⟩
def Bz (d:Zs)(fs:List (Str×V))(h:Heap):Prop:=∃a,h.Ns1 d a/\(∀f,eU (fs.lookup f) (a f))/\Within a (fs.map (·.1))
def XD (d:Zs)(fs:List (Str×V)):HO:=.ext (Bz d fs)
def Bz.gX {fs:List (Str×V)}(p:Bz d fs h)(k:∀o,h.get? d\o->g.get? d\o):Bz d fs g:=by let⟨a,n,r⟩:=p;rwa[a,n.at k,r]
def Gi {x:Zs}{c:Zo}{b:Bool}(p:zl x a c b h):b6 P w H h x (XO x a c b):=⟨p,let ⟨d,_,e,_⟩:=p;⟨d,e⟩,λ_ _ q k=>q.gX k⟩
def Ot {fs:List (Str×V)}(p:Bz d fs h):b6 P w H h d (XD d fs):=⟨p,let ⟨_,⟨o,_,_,e,_⟩,_⟩:=p;⟨o,e⟩,λ_ _ q k=>q.gX k⟩
def mj:Zk->Bool
 |.ref _::r=>mj r
 |l=>l==F3
def Gj (e:mj N=true):(∃c r,N=↑c::r/\mj r=true)\/N=F3:=by
 cases N with
 |nil=>exact .inr (al7.mp e)
 |cons c r=>cases c <;> first|rwa[.inl ⟨_,_,rfl,e⟩]|rwa[.inr (al7.mp e)]
theorem qL (self:Zt):∀(l:Zk),mj l=true->refuseLoop self "__setattr__" l=pure ()/\l.contains (.type "object")=true/\l.isEmpty=false
 |[],e=>by ext e
 |v::l,e=>by
  rcases Gj e with ⟨c,r,q,e⟩|q
  ·injection q with b d
   subst b d;let a:=qL self l e;rwa[[refuseLoop_ref]▸a.1,by cbv,2]
  ·rw[q];rwa[PySem.F.store_ValueError.passes self,42]
structure BD (K:Za1)(C:Zs):Prop where
 mr:(clsIn K C).any (λcd=>mj cd.mro)=true
 hd:hasDictIn K C=true
 sa:findIn K ↑C "__setattr__"=some (some (.builtin "object.__setattr__"))
 ga:findIn K ↑C "__getattribute__"=some (some (.builtin "BaseException.__getattribute__"))
 gt:findIn K ↑C "__getattr__"=some none
 be:subIn K ↑C (.type "BaseException")\true
variable {prog:Program}{w:World}{A:Around}{R:Result->Zu->Prop}{s:Zu}{K:Za1}{x C:Zs}{name:Str}{v:Zt}
def EB {p:Obj}{t:Option Obj}{g:Tok}(X:K.In s.heap)(I:PySem.W.InstAt s.heap x p C t)(m:(clsIn K C).any (λcd=>mj cd.mro)=true)(j:takerIn K C name\none)(h:∀b,(prog<|>w) A.in1 (storeInOwnDict ↑x ↑C (.str name g) name v b)
  (λfin d=>match fin with|.done f=>R (.ok f) d|.again i=>i.quiet=true/\codeAny (model prog w) A i R d) (λe d=>R (.error e) d) s):
 codeAny (model prog w) A (.call (.builtin "object.__setattr__") ⟨[↑x,.str name g,v],[]⟩) R s:=by
 let c:=PySem.F.store_object;let⟨cd,y,o⟩:=any_some m;let⟨n,B,z⟩:=qL ↑x _ o;let sub:Looks (model prog w) s.heap (isInstance ↑x (.type "object")) true:=I.type.andThen (looks_mroIn X (by unfold mroIn;cbv));rwa[alh c.slot.plain c.entry (@check_slot (model prog w) _ _ s "object.__setattr__" "object" "__setattr__" ↑x [.str name g,v] [] _ c.kind c.split sub (c.args ↑x (.str name g) v) ?_)];let⟨attr,u,r⟩:=Option.bind_eq_some_iff.mp j;let hm:Looks (model prog w) s.heap (mroOf ↑C) cd.mro:=(looks_clsIn X y).andThen .now
 let l:Looks (model prog w) s.heap (storeTaker? attr) none:=by
  cases attr with
  |none=>exact .now
  |some a=>
   let⟨b,k,q⟩:=akn.mp r;rwa[(looks_takesIn X k).andThen ?_]
   cases b with
   |true=>ext q
   |false=>exact .now
 rw[osa_eq,refuse_eq];rwa[ai2 (ai2 (I.type.here (ai2 (hm.here ?_))))];rw[n];rwa[ajb (ai2 (I.type.here (ai2 ((looks_findIn X u).here (ai2 (l.here ?_))))))];rwa[h _]
def ab7 {ns:Zp}{f:Obj}{t:Zm}(X:K.In s.heap)(c:BD K C)(z:s•x\f)(j:f.cls=↑C)(q:f.data=.fields t)(D:takerIn K C name\none)(e:f.dict\d)(B:s.heap.Ns1 d M)(I:PySem.Within M ns)(H:⇑ns<=sizeLine)(h:∀i,i.Ns1 d (λy=>if y=name then some v else M y)->Heap.SameBut d s.heap i->U () { s with heap:=i,toks:=s.toks+ 2 }):
 (prog<|>w) A (setAttr ↑x name v) U E s:=by
 let⟨P,L,O,p⟩:=f;dsimp only at j q e;subst j q e;let⟨u,S,T,F,r⟩:=id B;let J:PySem.W.InstAt s.heap x ⟨↑C,some d,.fields t,p⟩ C (some u):=⟨z,22,F⟩;rwa[set_plain X J c.sa (EB (s:={ s with toks:=s.toks+ 1 }) X J c.mr D λb=>?_)];let⟨Q,j,o⟩:=any_some c.hd;rwa[ai2 (ajb (ai2 (ai2 (wpAny_loadPart z (ai2 (Looks.here (s:={ s with toks:=s.toks+ 1 }) (looks_clsIn X j) ?_))))))];rw[o];rwa[ajb (a:=some d) (ai2 (ajb (ai2 ?_)))];rwa[wpAny_nsSet1 (s:={ s with toks:=s.toks+ 1 }) B λi g l=>?_]
 let⟨u,N,G,n,k,m⟩:=g.count (PySem.Within.cons name v I);rwa[ai2 (wpAny_lookBehind n ([k]▸pastItsLine_dict (ajl m (by rw[ajo];omega))) ?_)];rwa[ajb (h _ g l)]
def Ye {f:Obj}{r:Zm}(X:K.In s.heap)(c:BD K C)(n:s•x\f)(p:f.cls=↑C)(F:f.data=.fields r)(G:takerIn K C name\none)(g:f.dict=none)(h:∀j,j.Ns1 ↥s (λy=>if y=name then some v else none)->j.get? x\{ f with dict:=some ↥s }->(∀b o,b≠x->s•b\o->j.get? b\o)->U () { s with heap:=j,toks:=s.toks+ 2 }):
 (prog<|>w) A (setAttr ↑x name v) U E s:=by
 let⟨P,L,O,m⟩:=f;dsimp only at p F g;subst p F g;let J:PySem.W.InstAt s.heap x ⟨↑C,none,.fields r,m⟩ C none:=⟨n,22,True.intro⟩;rwa[set_plain X J c.sa (EB (s:={ s with toks:=s.toks+ 1 }) X J c.mr G λb=>?_)];let⟨S,p,D⟩:=any_some c.hd;rwa[ai2 (ajb (ai2 (ai2 (wpAny_loadPart n (ai2 (Looks.here (s:={ s with toks:=s.toks+ 1 }) (looks_clsIn X p) ?_))))))];rw[D];let d:(s.heap.push ("dict">>>.dict #[])).get? x\⟨↑C,none,.fields r,m⟩:=ai7 _ n;let i:x≠↥s:=ajH (ajy n);rwa[ai2 (wpAny_alloc' ?_)];rwa[ai2 (wpAny_update' d ?_)];rwa[ajb (a:=some ↥s) (ai2 (ajb (ai2 ?_)))]
 let q:((s.heap.push ("dict">>>.dict #[])).update x λo=>{ cls:=o.cls,dict:=some ↥s,data:=o.data,slots:=o.slots }).get? ↥s
  =some ("dict">>>.dict #[]):=(Heap.get?_update_ne _ _ _ _ i.symm).trans (Heap.get?_push_at rfl rfl)
 let u:((s.heap.push ("dict">>>.dict #[])).update x λo=>{ cls:=o.cls,dict:=some ↥s,data:=o.data,slots:=o.slots }).Ns ↥s (λ_=>none):=⟨_,#[],_,q,2,λe M=>absurd M (by simp),λ_=>rfl⟩
 rwa[wpAny_nsSet1 (s:={ s with heap:=(s.heap.push ("dict">>>.dict #[])).update x λo=>{ cls:=o.cls,dict:=some ↥s,data:=o.data,slots:=o.slots },toks:=s.toks+ 1 }) (Heap.Ns1.of_empty u) λj l k=>?_]
 let⟨Q,N,I,B,t,z⟩:=l.count (Within.cons name v Within.nil);rwa[ai2 (wpAny_lookBehind B ([t]▸pastItsLine_dict (ajl z (by rw[ajo,ajQ,sizeLine_eq];omega))) ?_)];rwa[ajb (h _ l ?_ λb o H e=>?_)]
 ·rwa[(k.2 x i).trans (aj7 _ d rfl)]
 ·rwa[(k.2 b (ajH (ajy e))).trans ((Heap.get?_update_ne _ _ _ _ H).trans (ai7 _ e))]
end L2
namespace L2
open PySem.Calls PySem.W
def yb (K:Frag)(C f:Zs):Bool:=match K.lookup C with
 |some ⟨.type "type",_,.cls cd,c⟩=>(match cd.mro,c.toList with
  |.ref b::a,#v[_,_,_,_,.builtin n,_]=>b==C && n=="ValueError.__new__" && !cd.hasDel && tailIn K F3 a && nsOkIn K cd.ns && nsIn K cd.ns "__init__"==some (some ↑f)
  |_,_=>false)
 |_=>false
def Rb {K:Frag}(X:K.In h)(G:h.Ns a M)(e:nsIn K a x\some v):M x\v:=by
 let⟨o,m,p,i,b,_,g⟩:=G;unfold nsIn at e;split at e
 ·rename_i c d f k l q;have:=X^q;rw[i]at this;ext this;ext b;split at e
  ·rename_i n j;ext e;rw[<-g];unfold nsFind findBy;rw[<-Array.find?_toList,j];rfl
  ·split at e <;> ext e
 ·ext e
def BE (XK:K.In h)(q:yb K a b=true):∃n N nm o bs k sn sub r col s D z F C E v,
 h.get? a=some (excClassObj nm o a N bs n k sn sub r col s D z F C E "ValueError.__new__")/\h.Ns N v/\v "__init__"=some ↑b/\OwnTail h F3 n:=by
 unfold yb at q;split at q
 ·rename_i s cls m j;split at q
  ·rename_i G n w x y t nid u f c;simp only[akB,al7,Bool.not_eq_true']at q;let⟨⟨⟨⟨⟨rfl,rfl⟩,e⟩,g⟩,i⟩,d⟩:=q;let⟨nm,bs,mro,B,o,A,sn,sub,r,col,del⟩:=cls;dsimp only at f e i d;subst f e
   let p:m=#[w,x,y,t,some (.builtin "ValueError.__new__"),u]:=by let⟨l⟩:=m;simp only at c;rw[c]
   subst p;rwa[n,B,nm,o,bs,A,sn,sub,r,col,s,w,x,y,t,u,_,XK^j,.of_isNs (PySem.W.isNs_of_in XK i),Rb XK (.of_isNs (PySem.W.isNs_of_in XK i)) d,PySem.W.tail_of_in XK g]
  ·ext q
 ·ext q
variable {prog:Program}{w:World}{A:Around}{E:Zt->Zu->Prop}{h:Heap}{g:Array GenState}{d:Drawn}{t:Nat}{os:OsState}
variable {nm q:Str}{C N:Zs}{bs bm Ou:Zk}{hdct:Bool}{sn:Zp}{sub:Zk}{ab:Bool}{col:Option Bool}{dd:Zo}{k0 k1 k2 k3 k5:Zl}{B newId I0:String}
theorem vX (F:ExcBaseFacts B newId I0 Ou)(T:OwnTail h Ou bm){n:Str->Zl}{rest:Zk}{s:Zs}{y:Obj}{Q:Fin->Zu->Prop}(j:h.get? C\excClassObj nm q C N bs bm hdct sn sub ab col dd k0 k1 k2 k3 k5 newId)(L:h.Ns N n)(J:n "__init__"=some ↑s)(u:h.get? s\y)(p:y.cls=.type "function")(G:∀l e,Heap.MadeExcOf h l e ↑C rest->(prog<|>w) A (call ↑s (↑e::rest)) (λr v=>r=.none/\Q (.done (.ret ↑e)) v) E ⟨l,g,d,t,os⟩)(Yf:⇑rest<=sizeLine):
 (prog<|>w) A (Builtin.«type.__call__» ⟨↑C::rest,[]⟩) Q E ⟨h,g,d,t,os⟩:=by
 repeat (first|with_reducible rwa[alV j ?_]|with_reducible rwa[wpAny_madeBy_exc j ?_]|wp_step)
 rwa[codeAny_call_builtin_code (Code.quiet_builtin _ F.quiet) (wpAny_check_new_subT F T j ?_)];rwa[codeAny_exc_new_subT F T j ?_ Yf];show wpAny _ _ _ _ _ _
 let a:=ai7 { cls:=↑C,data:=.fields #[↑h.objs.size,.none,.none,.none,.bool false,.none] }
  (ai7 ("tuple">>>.seq rest.toArray) j)
 let c:=ai7 { cls:=↑C,data:=.fields #[↑h.objs.size,.none,.none,.none,.bool false,.none] }
  (ai7 ("tuple">>>.seq rest.toArray) u)
 let i:((h.push ("tuple">>>.seq rest.toArray)).push { cls:=↑C,data:=.fields #[↑h.objs.size,.none,.none,.none,.bool false,.none] }).Ns N n:=let ⟨o,I,M,e,r⟩:=L;⟨o,I,M,ai7 _ (ai7 _ e),r⟩
 let f:((h.push ("tuple">>>.seq rest.toArray)).push
  { cls:=↑C,data:=.fields #[↑h.objs.size,.none,.none,.none,.bool false,.none] }).get? (h.objs.size+ 1)=some
  { cls:=↑C,data:=.fields #[↑h.objs.size,.none,.none,.none,.bool false,.none] }:=by heap_get
 let m:(Value.ref C::bm).contains ↑C=true:=by simp
 let k:=T.keeps (h':=(h.push ("tuple">>>.seq rest.toArray)).push { cls:=↑C,data:=.fields #[↑h.objs.size,.none,.none,.none,.bool false,.none] })
  λb o e=>ai7 _ (ai7 _ e)
 unfold isInstance
 repeat (first|with_reducible rwa[alV f ?_]|(with_reducible rwa[wpAny_isSubtype_exc a ?_];rw[m])|wp_step)
 show wpAny _ _ (typeLookup ↑C _) _ _ _;rwa[wpAny_typeLookup_tail a i k F.mroIs F.init.lookup ?_];rw[J];rwa[aku (ai2 ?_)];unfold bindSpecial;rwa[ai2 (alb (T:="function") ⟨_,c,p⟩ ?_)];rw[ajn ⋯];rwa[ajb (ai2 (akw (G _ (h.objs.size+ 1) ⟨λb o z=>ai7 _ (ai7 _ z),Heap.get?_none_of_le (amr _),h.objs.size,f,Heap.get?_none_of_le (aja _),5⟩) (λr v H=>?_) λ_ _ x=>x))]
 ·rwa[ai7 _ (Heap.get?_push_at rfl rfl)]
 ·let⟨rfl,D⟩:=H
  wp_walk
  rwa[D]
def Gk (F:ExcBaseFacts B newId I0 Ou)(T:OwnTail h Ou bm){k:Str->Zl}{rest:Zk}{i:Zs}{l:Obj}{Q:Zt->Zu->Prop}(b:h.get? C\excClassObj nm q C N bs bm hdct sn sub ab col dd k0 k1 k2 k3 k5 newId)(p:h.Ns N k)(o:k "__init__"=some ↑i)(j:h.get? i\l)(f:l.cls=.type "function")(n:∀c e,Heap.MadeExcOf h c e ↑C rest->(prog<|>w) (A.under (.builtin "type.__call__" ⟨↑C::rest,[]⟩)) (call ↑i (↑e::rest)) (λr m=>r=.none/\Q ↑e m) E ⟨c,g,d,t,os⟩)(a:⇑rest<=sizeLine):
 (prog<|>w) A (call ↑C rest) Q E ⟨h,g,d,t,os⟩:=by
 let u:=tc_lookup;let x:=tc_bind ↑C;let v:(⟨h,g,d,t,os⟩:Zu).TypeIs ↑C "type":=⟨_,b,2⟩;rwa[amq (codeAny_of_tree ?_)];show wpAny _ _ (callAny ↑C _) _ _ _
 repeat (any_goals (first|assumption|with_reducible rwa[alV b ?_]|wp_step))
 erw[2];rwa[codeAny_call_builtin_at (Code.quiet_builtin _ ⋯) entry_typeCall (wpAny_check_type_call_sub b (vX (Yf:=a) F T b p o j f λc e s=>?_))];rwa[n c e s]
def L7 {M:Model}{env:Env}{x:Sem Zt}{Q:Flow->Zu->Prop}(b:bm.contains (.type "BaseException")=true)(r:A.handled=none)(h:wpAny M A x (λv a=>∃e f i,v=↑e/\a•C\excClassObj nm q C N bs bm hdct sn sub ab col dd k0 k1 k2 k3 k5 newId/\a•e=some f/\f.cls=↑C/\f.data=.fields i/\i[1]?=some .none/\E ↑e a) E s):
 wpAny M A (raiseStmt env (some x) none) Q E s:=by
 let j:(Value.ref C::bm).contains (.type "BaseException")=true:=by rw[List.contains_cons,b,Bool.or_true]
 unfold raiseStmt;rwa[ai2 (akw h (λv a c=>?_) λ_ _ x=>x)];let⟨e,f,i,rfl,l,m,n,k,o,p⟩:=c;let⟨F,g,d,D,os⟩:=a;let⟨z,G,y,u⟩:=f;dsimp only at n k;subst n k
 repeat (first|with_reducible rwa[alV m ?_]|with_reducible rwa[alV l ?_]|(with_reducible rwa[wpAny_isSubtype_exc l ?_];rw[j])|with_reducible rwa[ai2 (aj6 m rfl o ?_)]|wp_step)
 all_goals rwa[wpAny_raiseNew_none r p]
end L2
namespace L2
inductive dG (P:Program)(w:World)(outer:Zq)(H:Hp)(s:Zu)(E:XK)(e:Zt)(s':Zu):Prop
 |mk (x C:Zs)(dx:Zo)(B:Heap)(H':Hp):e=↑x->s'.os=s.os->AllBare s'.gens->oh B outer x ↑C dx .none s'.heap->Un (cY outer) [] H H' s.heap s'.heap->dy P w H' B->(∀b o,s•b\o->H b=none->b∉cY outer->B.get? b\o)->(∀b o,s•b\o->b∉cY outer->∃o',B.get? b\o')->E ↑C dx H'->dG P w outer H s E e s'
def del (H:Hp)(x:Zs):Hp:=λb=>if b=x then none else H b
def rT {x:Zs}(h:b≠x):del H x b=H b:=by unfold del;rw[ajk h]
def L8 {x:Zs}{u:HO}(h:del H x b\u):b≠x/\H b\u:=by
 unfold del at h
 cbv
def oR:Passes (dG P w) X (λ_ _ _=>False):=λ_ _ _ _ _ _ _ ζ=>by let⟨_,_,_,_,_,_,_,_,_,_,_,_,_,q⟩:=ζ;rwa[q.elim]
def Ov {a:Zq}{b:Zu}(h:dG P w a H s (λ_ _ _=>False) v b):False:=let ⟨_,_,_,_,_,_,_,_,_,_,_,_,_,q⟩:=h;q
section
variable {P:Program}{w:World}{K:Za1}{mg:Str->Zl}{base:Heap}{N:Zp}{qual:Str}{scope:Scope}{f:Zs}{cd:Zt}{A:Around}{outer:Zq}{s:Zu}{H:Hp}{E:XK}{pins:List (Zs×Obj)}{σ:St}{H1:Hp}{s1:Zu}
def Gm {o:Obj}(I:Inv (dH (dG P w) P w K mg base N qual scope f cd A outer s H E) pins σ H1 s1)(e:s•b\o)(a:b∉cY outer):b∉cY (dH (dG P w) P w K mg base N qual scope f cd A outer s H E).stack:=λz=>by
 rcases ajs.mp (show b∈↥s::cY outer from z) with z|z
 ·rwa[absurd (ajy e) (by rw[z];rwa[akP _])]
 ·rwa[a z]
def UK {x:Zs}{R:Zo}(I:Inv (dH (dG P w) P w K mg base N qual scope f cd A outer s H E) pins σ H1 s1)(F:H1 x\XO x a R true)(Z:s•x=none)(q:E ↑a R (del H1 x)):
 (dH (dG P w) P w K mg base N qual scope f cd A outer s H E).xe ↑x s1:=by
 let t:=I.ok.frames;let C:∀env∈(dH (dG P w) P w K mg base N qual scope f cd A outer s H E).stack,∀b,env.frame\b->b∈x::cY (dH (dG P w) P w K mg base N qual scope f cd A outer s H E).stack:=λenv X b k=>ajw _ (List.mem_filterMap.mpr ⟨env,X,k⟩)
 let G:=PySem.W.funFrames_hide I.stack C;let⟨⟨ob,vs,d,rfl',rfl,i,l⟩,_,_⟩:=I.aU x _ F;let nx:∀b o,s•b\o->b≠x:=λb o e z=>by cbv
 let out:∀b o,s•b\o->b∉cY outer->b∉x::cY (dH (dG P w) P w K mg base N qual scope f cd A outer s H E).stack:=λb o e k z=>(ajs.mp z).elim (nx b o e) (Gm I e k)
 rwa[L6 (s:=s1) (base:=hideAll s1.heap (x::cY (dH (dG P w) P w K mg base N qual scope f cd A outer s H E).stack)) (L:=↥s) t G rfl d (λb o z=>PySem.W.of_hideAll _ z) (PySem.W.hideAll_none _ (.head _)) i (l rfl).1 λy r ups=>?_]
 let S:∀b o,s•b\o->H b=none->b∉cY outer->(hideAll s1.heap (x::cY (dH (dG P w) P w K mg base N qual scope f cd A outer s H E).stack)).get? b\o:=λb o d g h=>al3 _ (I.base.keep b o d g h (by simp[dH])) (out b o d h)
 let O:∀b o,s•b\o->b∉cY outer->∃j,(hideAll s1.heap (x::cY (dH (dG P w) P w K mg base N qual scope f cd A outer s H E).stack)).get? b\j:=λb o d h=>by let⟨j,i⟩:=I.base.there b o d (by simp[dH]);rwa[j,al3 _ i (out b o d h)]
 let M:∀b o,s1•b\o->b∈cY outer->∃B,y.get? b\{ o with slots:=B }:=λb o d g=>by let⟨_,o2,h,Y⟩:=I.stack.mem (show b∈cY (dH (dG P w) P w K mg base N qual scope f cd A outer s H E).stack from ajw _ g);rw[d]at h;ext h;rwa[ups b o d Y]
 let dl:∀{b:Zs}{u:HO},H1 b\u->(∀ T,u≠.ext T)->del H1 x b\u:=λ{b u} e n=>by
  rw[rT]
  ·rwa[e]
  ·intro z;rw[z,F]at e;rwa[n _ (Za0 e).symm]
 rw[rfl']at r;rwa[⟨x,a,11,del H1 x,2,I.os,I.bare,r,⟨λb o d g h _=>r.1 b o (S b o d g h),λb o d g h _=>?_,λb o d g _=>?_,λb o d _=>?_,λb Q e=>dl (I.base.j2 b Q e) (by cbv),λb o u e=>dl (I.base.i7 b o u e) (by cbv),λb V e=>?_⟩,5,S,O,q⟩]
 ·let⟨B,i⟩:=I.base.slot b o d g h (by simp[dH]);let⟨D,l⟩:=M b _ i h;rwa[D,l]
 ·rw[rT (nx b o d)];rwa[I.base.free b o d g (by simp[dH])]
 ·cases k:b∈cY outer
  ·let⟨j,i⟩:=I.base.there b o d (by simp[dH]);let⟨B,l⟩:=M b j i k;rwa[_,l]
  ·let⟨j,i⟩:=O b o d k;rwa[j,r.1 b j i]
 ·let⟨m,g⟩:=I.base.kX b V e;rwa[m,dl g (by cbv)]
 ·intro b u d;let⟨U,d⟩:=L8 d
  let p:∀c v,c≠x->H1 c\v->c∉x::cY (dH (dG P w) P w K mg base N qual scope f cd A outer s H E).stack:=λc v J g z=>by
   rcases ajs.mp z with z|z
   ·rwa[J z]
   ·rw[I.sY c z]at g;ext g
  rwa[(I.aU b u d).gX (λc v J z=>al3 _ z ?_) (λc z=>dl z (by cbv)) λc Q z=>dl z (by cbv)]
  rcases J with z2|z2
  ·rw[z2];rwa[p b u U d]
  ·rwa[p c _ (λz=>by rw[z,F]at z2;ext z2) z2]
end
section
variable {X:Cx}{pins:List (Zs×Obj)}{σ:St}{H:Hp}{s:Zu}{h':Heap}{e C:Zs}{vs:Zk}
def Inv.Yg (I:Inv X pins σ H s)(hm:Heap.MadeExcOf s.heap h' e ↑C vs)(hex:X.ex=[]):H e=none/\X.eM.heap.get? e=none/\Inv X pins σ (upd H e (XO e C none true)) (s<*h'):=by
 let a:H e=none:=by
  cases q:H e with
  |none=>rfl
  |some u=>let⟨o,d⟩:=(I.aU e u q).get;rw[hm.new]at d;ext d
 let ne:∀b o,s•b\o->b≠e:=λb o q z=>by rw[z,hm.new]at q;ext q
 let h:X.eM.heap.get? e=none:=by
  cases q:X.eM.heap.get? e with
  |none=>rfl
  |some o=>let⟨l,d⟩:=I.base.there e o q (by rw[hex];simp);rw[hm.new]at d;ext d
 rwa[⟨a,h,I.un (t':=s.toks) ⟨λb u q _ _ _=>hm.keeps b u q,λb u q _ _ _=>⟨u.slots,hm.keeps b u q⟩,λb u q n _=>[ak (ne b u q)]▸n,λb u q _=>⟨u,hm.keeps b u q⟩,λb f q=>[ak (av q a)]▸q,λb u f q=>[ak (av q a)]▸q,λb j q=>⟨#[],by rw[ak (av q a),q];simp⟩⟩ λb u q=>?_⟩];cases g:b=e
 ·subst g;rw[aj]at q;ext q;let⟨t,i,_,_⟩:=hm.there;rwa[Gi ⟨11,i,222,λ_=>⟨212⟩⟩]
 ·rw[ak g]at q;rwa[(I.aU b u q).gX (λc v _ q=>hm.keeps c v q) (λc q=>[ak (av q a)]▸q) λc f q=>[ak (av q a)]▸q]
end
variable {X:Cx}{k:Nat}{f C:Zs}{fd:FuncData}{ps:Zp}{sp:Sp}{x:Str}{p pos cJ:Pos}{e:Expr}{es:Zr}{t:TA}{E:XK}
def Y3 (X:Cx)(C:Zs)(E:XK):Prop:=∀(a:List (Zs×Obj))(c:St)(H:Hp)(s:Zu)(x:Zs)(b:Zo),Inv X a c H s->H x\XO x C b true->X.eM.heap.get? x=none->E ↑C b (del H x)->X.xe ↑x s
def lvD {base:Heap}{qual:Str}{scope:Scope}{f C:Zs}{a:Zq}{E:XK}:Y3 (dH (dG P w) P w K M base Z qual scope f v A a s H E) C E:=λ_ _ _ _ _ _ I c b q=>UK I c b q
def Rc (C:Zs)(sp:Sp)(E:XK)(t:TA):TS:=λ_ g H=>t g H λd b=>∀x,b x=none->sp (↑x::d) (upd b x (XO x C none true)) (λv a=>v=.non/\∃c,a x\XO x C c true/\E ↑C c (del a x)) (λ_ _ _=>False)
theorem I7 (F:dZ X.prog X.w X.K X.mg X.base (dG X.prog X.w) k f fd ps sp)(hr:c9 (k+ 1) X.A)(hb:Binds X.K fd ps [])(hc:X.calm=true)(hg:Gl X x)(hm:X.mg x\↑C)(hC:yb X.K C f=true)(hf:isFn X.K ↑f=true)(hk:keepIn X.K ↑C=true)(ha:PA X (e::es) t)(lv:Y3 X C E)(hex:X.ex=[])(vY:⇑ps<=1000)(w:(x==("__debug__":Str))=false)(he:starEach (e::es) X.env=(false,eval e X.env)::starEach es X.env)(G:(backTo cJ (starEach es X.env)).any (·.1)=false):
 PS X (.Raise (some (.Call (.Name x p) (e::es) [] cJ)) none pos) (Rc C sp E t):=by
 intro c s σ H D I h;let⟨R,N,nm,qn,bs,i,sn,sub,Q,col,dd,k0,k1,T,Z,k5,mN,W,o2,o3,o4⟩:=BE I.ok.mod.vC hC;let kp:∀{P O n},Inv X c P O n->∀b o,X.base.get? b\o->n•b\o:=λJ b o q=>(J.bs b o q).1
 rw[arm_exec_Raise];rwa[ai2 (ame (L7 (C:=C) (nm:=nm) (q:=qn) (N:=N) (bs:=bs) (bm:=R) (hdct:=i) (sn:=sn) (sub:=sub) (ab:=Q) (col:=col) (dd:=dd) (k0:=k0) (k1:=k1) (k2:=T) (k3:=Z) (k5:=k5) (newId:="ValueError.__new__") (o4.hasType ⋯) (I.ok.hd hc) (ai2 (akw (E:=X.xe) ?_ (λv Y m=>ai2 (ame (ajb m))) λ_ _ x=>x))))];rwa[akp (j3 I hg hm ?_ w)];rwa[alH (h₀:=X.base) I.ok.mod.vC hk (a9 (ha cJ c s σ H _ I h) λus s1 ζ=>?_) he G];let⟨vs,H1,j,r,q⟩:=ζ;rwa[⟨j.dE,5⟩];let⟨oI,M,B⟩:=akn.mp (al7.mp hf)
 let len:⇑us<=1000:=by let h1:=F.len _ _ _ _ (q (↥s1) (j.aU.fresh (aja _)));rw[ajo]at h1;rw[<-⇑r];ext
 let⟨hh,g,d,tk,os⟩:=s1;rwa[Gk (A:=X.A) ak8 (o4.keeps (kp j)) (kp j _ _ W) (o2.keeps (kp j)) o3 (j.dE^M) B (λh' y z=>?_) (ajl len ⋯)];let⟨hn,h0,J⟩:=j.Yg z hex;let hq:=q y hn;let r2:Vals (V.ref y::vs) (Value.ref y::us):=.cons rfl r
 let hl:⇑(Value.ref y::us++[])=⇑ps:=by rw[ajm,<-⇑r2];rwa[F.len _ _ _ _ hq]
 let l:=hb _ (Value.ref y::us) J.dE hl;rw[ajm]at l;rwa[amq (alL (F.run _ X.stack _ _ ⟨Value.ref y::us,[]⟩ (Value.ref y::us) _ _ _ (hr.make C us []) (J.FW.make C us []) l r2 hq) λr n a=>?_)]
 cases r with
 |error e=>exact(Ov a).elim
 |ok fl=>
  cases fl with
  |ret u=>let⟨v,O,L,rv,ev,dx,S,q3⟩:=J.after a;subst ev;let⟨⟨ob,ws,a1,a2,a3,a4,a5⟩,_,_⟩:=L.aU y _ S;rwa[rv,y,ob,ws,2,kp L _ _ W,a1,a2,a4,(a5 rfl).1,lv c σ O n y dx L S h0 q3]
  |next=>exact False.elim a
  |brk=>exact False.elim a
  |cont=>exact False.elim a
end L2
namespace L2
open PySem.W
section
variable {M:Model}{A:Around}{E:Zt->Zu->Prop}{s:Zu}{x a:Zs}{ob:Obj}{vs:Zm}{tv:Zt}
def L9 {Q:Fin->Zu->Prop}(e:s•x\ob)(c:ob.data=.fields vs)(d:vs[0]?\↑a)(h:Q (.done (.ret .none)) { s with heap:=(s.heap.push ("tuple">>>.seq #[tv])).update x (Obj.mapFields (·.setIfInBounds 0 ↑↥s)) }):wpAny M A (Builtin.«BaseException.__init__» ⟨[↑x,tv],[]⟩) Q E s:=by
 let b:=ai7 ("tuple">>>.seq #[tv]) e;unfold Builtin.«BaseException.__init__»;rwa[ai2 (wpAny_newTuple ?_)];unfold Builtin.BaseException.bexcPut;rwa[ai2 (ai2 (aj6 b c d (ai2 (ale b c (akL.mp d).1 ?_))))]
 wp_walk
 rwa[h]
end
variable {X:Cx}{Y:Zs}{y f:Str}{np apos pos pos':Pos}{e:Expr}{es:Zr}{t:TA}
structure Ma (K:Za1)(Y:Zs):Prop where
 sp:specialIn K ↑Y "__getattribute__"=some (some (.builtin "type.__getattribute__"))
 rd:readsIn K Y (.type "type")=true
 fc:(match findCls K ↑Y (.type "type") "__init__" with|some (.val (.builtin i))=>i=="ValueError.__init__" | _=>false)=true
def Ma.find {Y:Zs}(b:Ma K Y):findCls K ↑Y (.type "type") "__init__"=some (.val (.builtin "ValueError.__init__")):=by
 have:=b.fc
 cbv
def ab8 (C:Zs)(t:TA):TE:=λ d H Q=>t d H λb a=>∃(x:Zs)(c:Zo)(l:Zh),b=[↑x,.str (tx l)]/\a x\XO x C c true/\Q .non a
def Mb {pl:Sem Bool}(R:yb X.K a b=true)(A:Ma X.K Y)(Z:Gl X y)(hm:X.mg y\↑Y)(ha:PA X (e::es) t)(D:(y==("__debug__":Str))=false)(v:starEach (e::es) X.env=(false,eval e X.env)::starEach es X.env)(n:(backTo pos (starEach es X.env)).any (·.1)=false)(U:eval (.Call (.Attribute (.Name y np) "__init__" apos) (e::es) [] pos) X.env=(do
  let M <-eval (.Name y np) X.env
  standAt apos.atName
  let (f,first) <-holding [M] (getMethod M "__init__" pl)
  callWith pos f first (backTo pos (starEach (e::es) X.env)) (backToKw pos (keywordEach [] X.env)))):
 PE X (.Call (.Attribute (.Name y np) "__init__" apos) (e::es) [] pos) (ab8 a t):=by
 intro k s σ H Q I h;rwa[methodCall_KW (pl:=pl) (j3 I Z hm ?_ D) U];rwa[method_cls I.dE A.sp (cls_value I.dE A.rd A.find rfl ?_)];rwa[PyProof.Rows.callWith_builtin1 (a9 (ha pos k _ σ H _ (I.tok _) h) λus s1 ζ=>?_) v n];let⟨vs,B,p,r,x,P,l,ev,C,q⟩:=ζ;subst ev;let⟨u,E,rfl,rx,ry⟩:=vals2 r;ext rx;let⟨bm,N,nm,qn,bs,F,sn,sub,ab,col,dd,k0,k1,k2,k3,k5,mN,o1,o2,o3,o4⟩:=BE I.ok.mod.vC R;let kp:∀d o,X.base.get? d\o->s1•d\o:=λd o q=>(p.bs d o q).1
 let⟨⟨ob,ws,m,O,a3,L,a5⟩,_,_⟩:=p.aU x _ C;let⟨S,c,G⟩:=a5 rfl;let⟨g,gg,dr,tk,os⟩:=s1;rwa[amq (alh ak8.init.plain ak8.initEntry (wpAny_check_init_subT ak8 (o4.keeps kp) (kp^o1) m O ?_))];rwa[L9 m L G ?_];let T:x≠g.objs.size:=ajH (ajy m);let w:=ai7 ("tuple">>>.seq #[E]) m;let j:=akI L (·.setIfInBounds 0 (Value.ref g.objs.size));let i:=aj7 (Obj.mapFields (·.setIfInBounds 0 (Value.ref g.objs.size))) w (ak9 j)
 let J:=p.write (h':=(g.push ("tuple">>>.seq #[E])).update x (Obj.mapFields (·.setIfInBounds 0 ↑g.objs.size))) (t':=tk) (o:=XO x a P true) (x:=x) (e:=x) ([C]▸True.intro) (.inl rfl) (λd u V z=>(akb^akg V).trans (ai7 _ z)) ⟨_,i⟩
  (Gi ⟨11,i,(Obj.cls_mapFields _ _).trans O,(zk _ _).trans a3,j,λ_=>⟨[Array.getElem?_setIfInBounds_ne ⋯]▸S,g.objs.size,by simp[(akL.mp G).1]⟩⟩)
 let W:upd B x (XO x a P true)=B:=by
  funext d
  cases z:d=x
  ·rw[z,aj,C]
  ·rw[ak z]
 rw[W]at J;rwa[.non,B,J,2,q]
def Yh (K:Za1)(k i:TE)(f:Str):TS:=λD c H=>i c H λy j=>k c j λx b=>∃(a C:Zs)(h:Zo)(g:Bool),x=↑a/\b a\XO a C h g/\BD K C/\kH K C f/\
 match h with
 |none=>∀d,b d=none->D.nx c (upd (upd b d (XD d [(f,y)])) a (XO a C (some d) g))
 |some d=>∃fs,d≠a/\b d\XD d fs/\⇑fs<1000/\D.nx c (upd b d (XD d (bO f y fs)))
def I8 {fs:List (Str×V)}{mA:Str->Zl}{y:V}(r:∀f,eU (fs.lookup f) (mA f))(a:PySem.Within mA (fs.map (·.1)))(c:RelV y u):(∀g,eU ((bO f y fs).lookup g) (if g=f then some u else mA g))/\PySem.Within (λg=>if g=f then some u else mA g) ((bO f y fs).map (·.1)):=by
 rwa[⟨λg=>?_,λg b=>?_⟩]
 ·rw[nZ];cases q:g=f
  ·rw[ajn q,ajn q];rwa[c]
  cbv
 ·cases q:g=f
  ·rw[q];rwa[(kF f y fs).1]
  ·rwa[(kF f y fs).2 g (a g λz=>b ?_)]
   cbv
def EC [M:eI X K]{o value:Expr}{R Q:TE}(ha:PE X o R)(hv:PE X value Q)(hs:swapsWith value (some (.Attribute o f pos')) pos.line X.env=pure false):PS X (.Assign [.Attribute o f pos'] value pos) (Yh K R Q f):=by
 cases M.eq;intro j s w H D I h;rwa[plainObj_wpAny_Assign_Attribute (a9 (hv j s w H _ I h) λu s1 ζ=>?_) hs];let⟨y,H1,I1,T,q⟩:=ζ;rwa[a9 (ha j s1 w H1 _ I1 q) λov s2 ζ=>?_];let⟨x,H2,k,rx,a,C,dx,nw,ex,V,c,n,A⟩:=ζ;subst ex;obtain rfl:ov=Value.ref a:=rx;let⟨⟨ob,vs,N,O,S,G,a5⟩,_,_⟩:=k.aU a _ V
 cases dx with
 |some d=>
  let⟨fs,nd,U,hl,A⟩:=A;let⟨⟨mA,hn,r,P⟩,_,_⟩:=k.aU d _ U;rwa[ab7 k.dE c N O G n.FN S hn P (by rw[ai6,sizeLine_eq];omega) λm i sb=>?_]
  let⟨L,E⟩:=I8 (f:=f) r P T;let⟨v,_,_,p,_⟩:=id i;rwa[w,_,k.write (x:=d) (e:=d) ([U]▸True.intro) (.inl rfl) (λb u F z=>(sb.2 b F).trans z) ⟨v,p⟩ (Ot ⟨_,i,L,E⟩),A]
 |none=>
  rwa[Ye k.dE c N O G n.FN S λm i l kp=>?_]
  let W:H2 ↥s2=none:=k.aU.fresh (aja _);let B:↥s2≠a:=akE (ajy N);let⟨v,es,ep,p,Z⟩:=id i;let⟨L,E⟩:=I8 (fs:=[]) (mA:=λ_=>none) (f:=f) (λ_=>True.intro) (λg hg=>absurd rfl hg) T;let J:=k.laid (a:=↥s2) (o:=XD ↥s2 [(f,y)]) (h':=s2.heap.push v) (t':=s2.toks) (λb u z=>ai7 _ z) (aja _) (Ot ⟨_,⟨v,es,ep,Heap.get?_push_at rfl (Heap.get?_some_iff.mp p).2,Z⟩,L,E⟩);rwa[⟨w,_,J.write (h':=m) (x:=a) (e:=a) (o:=XO a C (some ↥s2) nw) ([ak B.symm,V]▸True.intro) (.inl rfl) (λb u F z=>?_) ⟨_,l⟩ (Gi ⟨11,l,O,2,G,a5⟩),A _ W⟩];rcases Heap.get?_push_cases z with ⟨rfl,rfl⟩|z
  ·rwa[p]
  ·rwa[kp b u F z]
inductive ab9 (K:Za1)(f:Str)(x:V)(H:Hp)(Q:VK):Prop
 |mk (a C d:Zs)(nw:Bool)(fs:List (Str×V))(v:V):x=↑a->H a\XO a C (some d) nw->H d\XD d fs->BD K C->kH K C f->fs.lookup f\v->Q v H->ab9 K f x H Q
end L2
namespace L2
def gH (X:Cx)(a:List (Zs×Obj))(g:St)(d:Hp)(x C:Zs)(f:Zo)(s:Zu):Prop:=
 ∃(B:Heap)(c:Hp)(s1:Zu),Inv X a g c s1/\s.os=s1.os/\AllBare s.gens/\oh B X.stack x ↑C f .none s.heap/\Un (cY X.stack) [] c d s1.heap s.heap/\dy X.prog X.w d B/\(∀b o,s1•b\o->c b=none->b∉cY X.stack->B.get? b\o)/\(∀b o,s1•b\o->b∉cY X.stack->∃e,B.get? b\e)
section
variable {X:Cx}{pins:List (Zs×Obj)}{σ:St}{H':Hp}{x C:Zs}{dx:Zo}{s:Zu}
def gH.of {E:XK}{b:Zu}(I:Inv X pins σ H b)(cx:dG X.prog X.w X.stack H b E v s):∃x C dx H',v=↑x/\gH X pins σ H' x C dx s/\E ↑C dx H':=by let⟨x,C,dx,B,H',rfl,os,bare,fl,un,a,d,c,q⟩:=cx;rwa[x,C,dx,H',2,⟨B,H,b,I,os,bare,fl,un,a,d,c⟩,q]
def gH.step {fl:Zt}{s1:Zu}(I:Inv X pins σ H s1)(os:s.os=s1.os)(bare:AllBare s.gens)(un:Un (cY X.stack) [] H H' s1.heap s.heap)(aU:dy X.prog X.w H' g)(q:∀b o,s1•b\o->H b=none->b∉cY X.stack->g.get? b\o)(p:∀b o,s1•b\o->b∉cY X.stack->∃i,g.get? b\i)(a:oh g X.stack x ↑C dx .none h)(u:s.heap.UpToSlots h):gH X pins σ H' x C dx (s<*h):=by
 let n:∀b o,s1•b\o->b∈cY X.stack->∃sl,h.get? b\{ o with slots:=sl }:=λb o e c=>by let⟨t,f,r⟩:=I.XW c;rw[e]at f;ext f;let⟨sl,m⟩:=un.slot b o e (I.sY b c) c (by simp);let⟨k,j⟩:=u b _ m r;rwa[k,j]
 rwa[⟨g,H,s1,I,os,bare,a,⟨λb o d f l _=>a.1 b o (q b o d f l),λb o d _ l _=>n b o d l,un.free,λb o d _=>?_,un.j2,un.i7,un.kX⟩,aU,q,p⟩];cases c:b∈cY X.stack
 ·let⟨sl,j⟩:=n b o d c;rwa[_,j]
 ·let⟨i,m⟩:=p b o d c;rwa[i,a.1 b i m]
def gH.look (t:gH X pins σ H' x C dx s)(a:X.stack=X.env::X.outer)(k:X.env.frame\X.env.locals)(hA:A.frames\X.stack)(h:∀d,gH X pins σ H' x C dx (s<*d)->U () (s<*d)):
 X⁻¹ A (noteFrame ↑x X.env) (λ_ f=>X⁻¹ A (setFlight ↑x none) U E f) E s:=by
 let⟨B,o,p,I,os,bare,fl,un,aU,n,j⟩:=t;let b:=fl;rw[a]at b;rwa[Yd (base:=B) (hA.trans (by rw[a])) k b λe l i=>?_]
 rwa[By (s:=(s<*e)) l λm c g=>h m (gH.step (fl:=.none) I os bare un aU n j ([a]▸c) (i.trans g))]
def gH.again (t:gH X pins σ H' x C dx s)(h:∀b,gH X pins σ H' x C dx (s<*b)->U () (s<*b)):
 X⁻¹ A (setFlight ↑x none) U E s:=by let⟨B,f,g,I,os,bare,fl,un,aU,d,c⟩:=t;rwa[By fl λe a u=>h e (gH.step (fl:=.none) I os bare un aU d c a u)]
def gH.inv (t:gH X pins σ H' x C dx s):Inv X pins σ H' s:=by let⟨B,c,d,I,os,bare,fl,un,aU,e,a⟩:=t;rwa[I.Nq (ch:=[]) os un (aU.kept fl.1) bare (λb z=>absurd z (by simp))]
def gH.at (t:gH X pins σ H' x C dx s):zl x C dx false s.heap:=by let⟨B,e,f,I,os,bare,fl,un,aU,g,d⟩:=t;let⟨_,_,_,c,a,_,_,_,b,hc,hd,_⟩:=fl;rwa[c,a,b,hc.1,hc.2,hd,λz=>by ext z]
end
abbrev I9:=Zs->Zo->St->Hp->Prop
abbrev Ow:=St->Hp->VK->I9->Prop
abbrev Ox:=Ends->I9->St->Hp->Prop
def Y4 (X:Cx)(a:List (Zs×Obj))(R:I9)(e:Zt)(s:Zu):Prop:=∃x C b c H,e=↑x/\gH X a c H x C b s/\R C b c H
def Y5 (X:Cx)(e:Expr)(t:Ow):Prop:=∀(a:List (Zs×Obj))(s:Zu)(b:St)(H:Hp)(Q:VK)(R:I9),Inv X a b H s->t b H Q R->X⁻¹ X.A (eval e X.env) (EP X a b Q) (Y4 X a R) s
def Y6 (X:Cx)(st:Stmt)(t:Ox):Prop:=∀(a:List (Zs×Obj))(s:Zu)(b:St)(H:Hp)(D:Ends)(R:I9),Inv X a b H s->t D R b H->X⁻¹ X.A (exec st X.env) (SP X a D) (Y4 X a R) s
section
variable {X:Cx}{k:Nat}{f:Zs}{fd:FuncData}{ps:Zp}{sp:Sp}{x:Str}{p pos:Pos}{e:Expr}{es:Zr}{t:TA}{ds:Zk}{dvs:Zb}
def UL (sp:Sp)(dvs:Zb)(t:TA):Ow:=λ a H Q R=>t a H λd g=>sp (d++dvs) g Q λc h b=>∃C,c=↑C/\R C h a b
theorem Md (F:dZ X.prog X.w X.K X.mg X.base (dG X.prog X.w) k f fd ps sp)(N:c9 k X.A)(E:Gl X x)(P:X.mg x\↑f)(G:keepIn X.K ↑f=true)(D:Binds X.K fd ps ds)(A:Vals dvs ds)(W:PA X.Ay (e::es) t)(m:(x==("__debug__":Str))=false)(U:starEach (e::es) X.env=(false,eval e X.env)::starEach es X.env)(g:(backTo pos (starEach es X.env)).any (·.1)=false):
 Y5 X (.Call (.Name x p) (e::es) [] pos) (UL sp dvs t):=by
 intro b s j H Q R I h;rwa[akp (j3 I E P ?_ m)];rwa[alH (h₀:=X.base) I.ok.mod.vC G (akw (W pos b s j H _ (I.wish _) h) (λd i ζ=>?_) λ_ _ z=>False.elim z) U g];let⟨o,v,n,r,q⟩:=ζ;rwa[⟨n.dE,5⟩];let J:=n.jE;let w:Vals (o++dvs) (d++ds):=r.append A;let M:⇑(d++ds)=⇑ps:=by rw[<-⇑w];rwa[F.len _ _ _ _ q]
 rwa[amq (alL (F.run X.A X.stack i v ⟨d,[]⟩ (d++ds) (o++dvs) Q _ N J.FW (D i d J.dE M) w q) λr B a=>?_)]
 cases r with
 |error e=>let a:dG X.prog X.w X.stack v i (λc l S=>∃C,c=Value.ref C/\R C l j S) e B:=a;let⟨x,C,l,Y,rfl,L,Z,T,z⟩:=gH.of J a;ext T;rwa[x,C,l,j,Y,2,L,z]
 |ok O=>
  cases O with
  |ret u=>exact J.after a
  |next=>exact False.elim a
  |brk=>exact False.elim a
  |cont=>exact False.elim a
def Yi (i:Nat)(b:Ow):Ox:=λD R a H=>b a H (λv c=>D.nx (a.set i (some v)) c) R
def Rf {x:Str}{b:Ow}{pos':Pos}(w:X.N.Nodup)(o:X.N[i]?\x)(r:Loc X.env.scope x)(u:Y5 X e b)(n:swapsWith e (some (.Name x pos')) pos.line X.env=pure false)(l:X.fn x=true\/X.env.scope.names.lookup x=some .local):
 Y6 X (.Assign [.Name x pos'] e pos) (Yi i b):=by intro a s q H D R I h;rwa[wpAny_Assign_Name (a9 (u a s q H _ R I h) λv A ζ=>?_) n];let⟨y,m,d,c,g⟩:=ζ;rwa[uI d w o r c (λz j=>⟨_,m,j,g⟩) l]
end
abbrev zo:=Ends->Zs->Zo->St->Hp->Prop
def Oy (X:Cx)(d:List ExceptHandler)(t:zo):Prop:=∀(a:List (Zs×Obj))(s:Zu)(c:St)(H:Hp)(x C:Zs)(b:Zo)(D:Ends),gH X a c H x C b s->t D C b c H->X⁻¹ X.A (handleBy ↑x X.env d) (SP X a D) X.xe s
section
variable {X:Cx}{pos:Pos}{rest:List ExceptHandler}
def Yj:zo:=λ_ _ _ _ _=>False
def UM:Oy X rest Yj:=λ_ _ _ _ _ _ _ _ _ h=>h.elim
def Yk (t:Ox)(c:zo):TS:=λD e H=>t D (λC d a b=>c D C d a b) e H
def Rg {st:Stmt}{t:Ox}{b:ExceptHandler}{j:List ExceptHandler}{c:zo}(d:X.stack=X.env::X.outer)(l:X.env.frame\X.env.locals)(k:Y6 X st t)(o:Oy X (b :: j) c):
 PS X (.Try [st] (b :: j) [] [] pos) (Yk t c):=by
 intro a s u H D I h;rwa[wpAny_Try_except (wpAny_execs_cons (akw (k a s u H D _ I h) (λp r q=>?_) λe r q=>?_))]
 ·cases p with
  |next=>exact alK (alK q)
  |ret v=>exact q
  |brk=>exact q
  |cont=>exact q
 ·let⟨x,C,w,g,m,rfl,c,q⟩:=q;rwa[c.look d l I.ok.frames λz f=>o a _ g m x C w D f q]
end
def Gn (K:Za1)(C:Zs):Bool:=match findIn K ↑C "__init__" with
 |some (some ↑f)=>yb K C f
 |_=>false
def ED (h:Gn K a=true)(e:findIn K ↑a "__init__"=some (some ↑b)):yb K a b=true:=by unfold Gn at h;rw[e]at h;rwa[h]
structure aca (K:Za1)(x qual:Str)(st:Stmt)(f:Zs)(fd:FuncData)(dV:Zt):Prop where
 ex:∃(oc:Zt)(od:Zo)(kV doc pm:Zt)(an:Zo)(cw ct:Zt)(A0:Array Zl),fd=fnOf x qual (dD st) (cU st) (aD st) dV kV doc pm an cw ct/\K.lookup f\⟨oc,od,.func fd,A0⟩/\codeIn K cw qual=true
 kp:keepIn K ↑f=true
structure DDef (K:Za1)(mg:Str->Zl)(x:Str)(st:Stmt)(ps:Zp)(f:Zs)(fd:FuncData)(d:Str):Prop where
 F:∃dV,aca K x x st f fd dV
 kp:keepIn K ↑f=true
 m:mg x\↑f
 b:Binds K fd ps []
 bd:∃t,Binds K fd ps [.str d t]
variable {P:Program}{w:World}{K:Za1}{mg:Str->Zl}{base:Heap}
theorem DDef.okD {st:Stmt}{fd:FuncData}{e:Zp}{k:Nat}{sp:Sp}(D:DDef K mg x st e a fd f)(S:aM Z e (aD st))(len:∀c H Q E,sp c H Q E->⇑c=⇑e)(d:∀(b:Zt) (A:Around) (outer:Zq) (s:Zu) (H:Hp) (c:Zb) (Q:VK) (E:XK),c9 k (A.deeper (envOfC x (aD st) ↥s a b))->sp c H Q E->∃t,iO (dH (dG P w) P w K mg base Z x (aD st) a b A outer s H E) (cU st) t/\t { nx:=λ_ j=>Q .non j,rt:=Q } (start Z c) H):dZ P w K mg base (dG P w) (k+ 1) a fd e sp:=by let⟨p,F⟩:=D.F;let⟨m,o,kV,doc,pm,n,b,ct,l,rfl,lk,h⟩:=F.ex;rwa[NC lk h S len λA outer s H c Q E i g=>d b A outer s H c Q E i g]
def DDef.of {st:Stmt}{y d:Zo}{j r:Array Zl}{kV doc pm ct A:Zt}{dd:Zo}{t:Tok}(X:K.In h)(G:h.Ns mainGlobals mg)(e:PySem.W.nsIn K mainGlobals x\some ↑a)(l:K.lookup a\⟨v,y,.func (fnOf x x (dD st) (cU st) (aD st) ↑b kV doc pm d u ct),j⟩)(c:codeIn K u x=true)(k:keepIn K ↑a=true)(lt:K.lookup b\⟨A,dd,.seq #[.str f t] n,r⟩)(g:∀(kV doc pm:Zt) (d:Zo) (u ct:Zt) (us:Zk),⇑us=⇑Z->∃i:Option Zm->Sem (List (Str×Zt)),bindArgs (fnOf x x (dD st) (cU st) (aD st) ↑b kV doc pm d u ct) ⟨us,[]⟩=seqItems? ↑b >>=i/\i (some #[.str f t])=pure (Z.zip us))(z:∀(kV doc pm:Zt) (d:Zo) (u ct:Zt) (us:Zk),⇑us+ 1=⇑Z->∃i:Option Zm->Sem (List (Str×Zt)),bindArgs (fnOf x x (dD st) (cU st) (aD st) ↑b kV doc pm d u ct) ⟨us,[]⟩=seqItems? ↑b >>=i/\i (some #[.str f t])=pure (Z.zip (us++[.str f t]))):
 DDef K mg x st Z a (fnOf x x (dD st) (cU st) (aD st) ↑b kV doc pm d u ct) f:=by
 rwa[⟨⟨_,⟨v,y,kV,doc,pm,d,u,ct,j,2,l,c⟩,k⟩,k,mg_of X G e,λs us p m=>?_,t,λs us p m=>?_⟩]
 ·rw[ajm]at m ⊢;let⟨i,q,o⟩:=g kV doc pm d u ct us m;rwa[BindsTo.of_defaults (T:=b) rfl (p^lt) rfl q o]
 ·let⟨i,q,o⟩:=z kV doc pm d u ct us (by simpa using m);rwa[BindsTo.of_defaults (T:=b) rfl (p^lt) rfl q o]
end L2
namespace L2
def Gp {c:Nat}{g:Zg}(b:S.Wf):(S.make c z g).stand=S.stand+ 1:=by
 unfold RS.stand;show (~~~(S.q+ 1)).countP _=_;rw[aj3,List.countP_append,List.countP_singleton]
 let d:(S.make c z g).ax S.q=S.q:=by show (S.grown c z g).ax S.q=S.q;rw[fB b,ajn rfl]
 rw[show decide ((S.make c z g).ax S.q=S.q)=true from ajI d,ajn rfl]
 congr 1
 rwa[List.countP_congr λa e=>?_]
 have:(S.make c z g).ax a=S.ax a:=by show (S.grown c z g).ax a=S.ax a;rw[fB b,ajk (by have:=ajJ.mp e;omega)]
 rw[this]
def Mf (hw:S.Wf)(d:n<S.q):(S.make n z l).by m y=if m=S.q/\y= -z then some n else if m=n/\y=z then some S.q else S.by m y:=by
 unfold RS.make RS.keep;let b:(S.grown n z l).ways.length=S.q+ 1:=by show ⇑(S.ways++[[]])=_;rw[ai3,hw.w];rfl
 let c:∀a s,(S.grown n z l).by a s=S.by a s:=λa s=>by unfold RS.by;rw[nh hw]
 show (((S.grown n z l).cE n z S.q).cE S.q (-z) n).by m y=_;rw[jr (by show ⇑((S.grown n z l).ways.set n _) > _;rw[aju,b];omega),jr (by rw[b];omega),c]
def rV (h:fD S)(g:S.Wf)(c:Nat)(z:Int)(f:Zg):fD (S.make c z f):=by
 let e:∀b,(S.make c z f).ax b=if b=S.q then S.q else S.ax b:=λb=>fB g c z f b
 rwa[⟨λb d a=>?_,λb d=>?_,λb d=>?_⟩]
 ·let d:b<S.q+ 1:=d;rw[e]at a;cases q:b=S.q
  ·rw[ajn q,q]at a;rwa[absurd rfl a]
  ·rw[ajk q]at a;rwa[h.a b ∅ a]
 ·let d:b∈S.aZ:=d;have:=h.c b d;rw[e,ajk ∅];rwa[h.b b d]
 ·let d:b∈S.aZ:=d;have:=h.c b d;show b<S.q+ 1;ext
def EE (d:Dt):Prop:=(∃n,d=.i n)\/∃l,d=.s l
def EE.low {k:Nat}{d:Dt}(h:EE d)(a:bW H k q d):bW H n q d:=by
 rcases h with ⟨b,rfl⟩|⟨l,rfl⟩
 ·ext a;rwa[.i]
 ·ext a;rwa[.s]
def Rh {k:Nat}{b:List Dt}(h:∀x∈b,EE x)(a:bW H (k+ 1) q (.t b)):bW H (n+ 1) q (.t b):=by
 cases a with
 |t g f i=>exact .t g f λj q d e c=>(h d (ai5 c)).low (i j q d e c)
def Dp (d:Dt):Prop:=∃a,d=.t a/\∀x∈a,EE x\/∃as,x=.t as/\∀y∈as,EE y
def Dp.low {d:Dt}(h:Dp d)(b:bW H 4 q d):bW H 2 q d:=by
 let⟨k,rfl,h⟩:=h
 cases b with
 |t g f i=>
  rwa[.t g f λj q d e c=>?_]
  let b:=i j q d e c;rcases h d (ai5 c) with a|⟨as,rfl,a⟩
  ·rwa[a.low b]
  ·rwa[Rh a b]
def EF {a:List Dt}(h:∀x∈a,EE x):Dp (.t a):=⟨a,rfl,λx b=>.inl (h x b)⟩
def UN (c:Nat)(z:Int)(n:Nat):Dp (rK c z n):=EF λx a=>by
 simp only[ajs,ajR,akW]at a;rcases a with rfl|rfl|rfl|rfl
 ·rwa[.inr ⟨_,rfl⟩]
 all_goals rwa[.inl ⟨_,rfl⟩]
def UO {e:Za3}{b:Zh}{W:Za2}{row:Dt}(h:One e n B W row b R):Dp row:=by
 cases h with
 |meet=>
  rwa[EF λx a=>?_]
  simp only[ajs,ajR,akW]at a;rcases a with rfl|rfl|rfl|rfl|rfl
  ·rwa[.inr ⟨_,rfl⟩]
  all_goals rwa[.inl ⟨_,rfl⟩]
 |rule=>
  rwa[⟨12,λx a=>?_⟩];simp only[ajs,ajR,akW]at a;rcases a with rfl|rfl|rfl|rfl
  ·rwa[.inl (.inr ⟨_,rfl⟩)]
  ·rwa[.inl (.inl ⟨_,rfl⟩)]
  ·rwa[.inr ⟨_,rfl,λy d=>?_⟩];let⟨c,_,rfl⟩:=ajN.mp d;rwa[.inl ⟨12⟩]
  ·rwa[.inl (.inl ⟨12⟩)]
def Yl {e:Za3}{c:Zh}{W:Za2}{b:List Dt}(h:Go e n B W b c R):∀x∈b,Dp x:=by
 induction h with
 |nil=>cbv
 |cons o _ d=>
  intro x a;rcases ajs.mp a with rfl|a
  ·rwa[UO o]
  ·rwa[d x a]
section
variable {S S':RS}{R:Za2}{ks:Zg}{pend:Ze}
def kb.gap (l:kb S pend S'):Good S pend R->(∀c z d,R c z d->z∈ks)->eR S R ks->eR S' R ks:=by
 induction l with
 |nil S=>exact λ_ _ h=>h
 |take _ b=>intro g a h;rwa[b (g.take a).1 a (h.take g)]
def kb.wr (l:kb S pend S'):Good S pend R->(∀c z d,R c z d->z∈ks)->⇑S.aZ<=⇑S.rows->⇑S'.aZ<=⇑S'.rows:=by
 induction l with
 |nil S=>exact λ_ _ h=>h
 |take _ i=>
  intro g e h;let⟨f,_,_,_,q⟩:=g.take e;rwa[i f e ?_];rcases q with ⟨_,a,b⟩|⟨_,_,_,_,_,_,_,_,_,_,a,b,_⟩
  ·rw[a,b];rwa[h]
  ·rw[a,b,ai3,ai3,aj2,aj2];ext
structure YS (S:RS)(L:Nat)(ks:Zg)(R:Za2):Prop where
 g:Good S [] R
 w:fD S
 k:∀a z b,R a z b->z∈ks
 gi:eR S R ks
 l:S.L=L
 m:0<S.q
 d:∀x∈S.rows,Dp x
 wr:⇑S.aZ<=⇑S.rows
def YS.new {L:Nat}{ks:Zg}:YS (RS.new L ks) L ks (λ_ _ _=>False):=by
 rwa[⟨uW L _,⟨λc hc e=>?_,(λc hc=>by ext hc),(λc hc=>by ext hc)⟩,(λ_ _ _ z=>z.elim),QR L _,2,Nat.one_pos,(λx a=>by ext a),aja _⟩];have:c=0:=by have:c<1:=hc;ext
 subst this;rwa[absurd rfl e]
def YS.make (h:YS S n ks R)(hc:m<S.q)(f:S.ax m=m)(g:S.by m z=none)(hz:z∈ks)(c: -z∈ks):YS (S.make m z ks) n ks (fx R m z S.q):=by
 erw[h.g.make hc f g _,rV h.w h.g.wf _ _ _,λa y b r=>?_,h.gi.make h.g hc f g,h.l,Nat.succ_pos _,λx d=>?_]
 ·rcases r with r|⟨_,e,_⟩|⟨_,e,_⟩
  ·rwa[h.k _ _ _ r]
  ·rw[e];rwa[hz]
  ·rw[e];rwa[c]
 ·let d:x∈S.rows++[rK m z S.q]:=d;rcases ajh.mp d with p|p
  ·rwa[h.d x p]
  ·rw[ai9.mp p];rwa[UN^_]
 ·show ⇑S.aZ<=⇑(S.rows++[_]);rw[ai3];have:=h.wr;ext
def YS.tr {ws:Za3}(t:Tr ws m S S')(o:∀w∈ws,∀z∈w,z∈ks/\-z∈ks)(h:YS S n ks R):∃u,YS S' n ks u/\S'.q=S.q/\(∀a z b,R a z b->u a z b)/\∃v,S'.rows=S.rows++v/\∃E W B F,Go ws m E W v B F:=by
 induction t with
 |refl=>rwa[R,h,2,λ_ _ _ r=>r,[],(ajm _).symm,1111,.nil (E:=S.aY) (W:=λ_ _ _=>False) λ_ _ _=>Iff.rfl]
 |step L ra j P=>
  rename_i k Z which word start f c d z;let⟨C,g,M,N,O,e1,E,W,B,F,g1⟩:=P;let hz:=o word (ai5 ra.w) z (ai5 ra.hz)
  let i:∀a y b,fx C c z d a y b->y∈ks:=by
   rintro a y b (r|⟨_,e,_⟩|⟨_,e,_⟩)
   ·rwa[g.k _ _ _ r]
   ·rw[e];rwa[hz.1]
   ·rw[e];rwa[hz.2]
  let gl:=g.g.lay z ra.hc.1 ra.hd.1 (qf k which word start f d).rows;let⟨I,Q,A,l2,_⟩:=j.all gl i ⟨g.w.a,g.w.b,g.w.c⟩;let gp:=j.gap gl i ((g.gi.more λa y b r=>.inl r).rows _);let⟨u,X,T,Y,H,J,p⟩:=Oi (Tr.step (Tr.refl k) ra j) (R:=C) o g.g g.w g.k;let⟨R0,U,w0,V,l,G,s⟩:=Oi (Tr.step L ra j) (R:=R) o h.g h.w h.k;rwa[⟨_,⟨I,Q,i,gp,l2.trans g.l,[A]▸g.m,λx D=>?_,j.wr gl i (by show ⇑k.aZ<=⇑(k.rows++[_]);rw[ai3];have:=g.wr;omega)⟩,A.trans M,λa y b r=>.inl (N _ _ _ r),l,G,1111,s⟩];rw[J]at D;rcases ajh.mp D with q|q
  ·rwa[g.d x q]
  ·rwa[Yl p x q]
end
def CI.make {bs:List (Nat×Zg×Nat)}{gs:Zf}{W:bI}(h:CI S bs gs [] W fM none)(d:Good S [] R)(hc:n<S.q)(x:S.ax n=n)(A:S.by n z=none)(f:∀b∈bs,b.2.2<S.q)(g:Zg):CI (S.make n z g) bs gs [] W (λr s=>r=n/\s=z) none:=by
 let i:=d.make hc x A g;let k:S.q<=(S.make n z g).q:=amr _;let lt:=Later.of d i jc k;let el:∀b,b<S.q->(S.make n z g).ax b=S.ax b:=λb c=>(fB d.wf n z g b).trans (ajk ∅)
 rwa[⟨h.len,λa u q=>?_,λa b B I m=>?_,(λa j=>by ext j),λr s a q=>?_,h.sl,h.bd⟩]
 ·let⟨C,v,E⟩:=h.al a u q;rwa[C,v.later lt k,E]
 ·let c:=f b (ai5 m);rw[el _ c];rcases h.de a b B I m with w|w
  ·rwa[.inl w]
  ·cases e:S.ax b.2.2=b.2.2
   ·right
    have:=lt.wk w;rw[el _ c,e]at this;rwa[this]
   ·rwa[.inl e]
 ·let⟨l,p,G,D,o,j,F,w⟩:=h.en r s a q;erw[l,p,G,D,ajF o k,j,F];rcases w with ⟨t,H⟩|w
  ·cases e:l=n/\s=z
   ·rwa[.inr e]
   ·left
    rw[el _ o,Mf d.wf hc,ajk (λy=>by omega),ajk e];rwa[t,H]
  ·rwa[w.elim]
def pw (s:Int)(n:Nat):Zg:=List.replicate n s
structure Pth (S:RS)(P:Nat->Int)(lo:Int):Prop where
 el:∀c,c<S.q->S.ax c=c
 rg:∀c,c<S.q->lo<=P c/\P c<lo+ S.q
 on:∀t:Int,lo<=t->t<lo+ S.q->∃c,c<S.q/\P c=t
 inj:∀a b,a<S.q->b<S.q->P a=P b->a=b
 by_:∀a z b,S.by a z=some b->(z=1\/z= -1)/\P b=P a+ z
 ch:∀a b,a<S.q->b<S.q->P b=P a+ 1->S.by a 1=some b
section
variable {S:RS}
structure Rng (S:RS)(G:Int->Nat)(M:Nat):Prop where
 st:∀t,S.by (G t) 1=some (G (t+ 1))
 pm:∀t,G (t+ M)=G t
end
def Per (G:Int->Nat)(k:Int):Prop:=∀t,G (t+ k)=G t
def UR (d p:Nat)(z:Int)(q:Nat):Prop:=p<d/\q<d/\(d:Int)∣(p:Int)+ z - q
inductive UQ (K:Za1)(xs:Zb)(H:Hp)(Q:VK):Prop
 |mk (l:Zs)(ns:Zg):xs=[↑l]->aB K H l (ao ns)->⇑ns<64->(∀D ms,H D=none->ms.Perm ns->ms.Pairwise (·<= ·)->Q ↑D (upd H D (.lst (ao ms))))->UQ K xs H Q
section
variable {X:Cx}{y:Str}{Y:Zs}{np pos:Pos}{F4:Stmt}{suite:List Stmt}{rest:List ExceptHandler}{tb:TS}{tr:zo}
def Ym (K:Za1)(Y:Zs)(tb:TS)(tr:zo):zo:=λD C c a H=>∃b,exmOne K ↑C ↑Y\b/\if b=true then tb D a H else tr D C c a H
def UT [j:eI X K](p:Gl X y)(B:X.mg y\↑Y)(o:∀x,iO (X.A8 x) (F4 :: suite) tb)(t:Oy X rest tr)(m:(y==("__debug__":Str))=false):
 Oy X (.ExceptHandler (some (.Name y np)) none (F4 :: suite) pos::rest) (Ym K Y tb tr):=by
 cases j.eq;intro a s A H x C E D f h;let⟨b,k,h⟩:=h;let I:=f.inv;rwa[wpAny_handleBy_cons (codeAny_handlers_test ?_) f!""];rwa[j3 (X:=X.A8 x) (I.A8 x) p B ?_ m];rwa[PySem.W.exm_one I.dE f.at.ex.XX k _ _ _ _ (λ_ _ e=>e) ?_]
 cases b with
 |false=>exact t a s A H x C E D f h
 |true=>
  rwa[codeAny_handlers_suite (f.again λF g=>?_)];let J:=g.inv;rwa[akw (o x a _ _ _ D (J.A8 x) h) (λw G q=>?_) λ_ _ z=>False.elim z]
  cases w with
  |next=>let⟨d,l,c,q⟩:=q;rwa[11,c.An I.ok,q]
  |brk=>let⟨d,l,c,q⟩:=q;rwa[11,c.An I.ok,q]
  |cont=>let⟨d,l,c,q⟩:=q;rwa[11,c.An I.ok,q]
  |ret u=>let⟨v,d,l,c,r,q⟩:=q;rwa[v,11,c.An I.ok,r,q]
end
inductive Ri (x:V)(vs:Zb)(H:Hp)(Q:VK):Prop
 |mk (a:Zs)(ns:Zg)(k:Int):x=↑a->vs=[.int k]->H a\.lst (ao ns)->Q (.int (ns.count k:Nat)) H->Ri x vs H Q
abbrev Def.Ok {K:Za1} {mg:Str->Zl} {x:Str} {st:Stmt} {ps:Zp} {f:Zs} {fd:FuncData} (_:Def K mg x st ps f fd) (P:Program) (w:World) (base:Heap) (k:Nat) (sp:Sp):Prop:=dZ P w K mg base (dG P w) k f fd ps sp
abbrev MDef.Ok {K:Za1} {C:Zs} {x q:Str} {st:Stmt} {ps:Zp} {f:Zs} {fd:FuncData} (_:MDef K C x q st ps f fd) (mg:Str->Zl) (P:Program) (w:World) (base:Heap) (k:Nat) (sp:Sp):Prop:=dZ P w K mg base (dG P w) k f fd ps sp
section
variable {P:Program}{w:World}{K:Za1}{mg:Str->Zl}{base:Heap}{x q:Str}{st:Stmt}{ps N:Zp}{f C:Zs}{fd:FuncData}{k:Nat}{sp:Sp}
def Def.on (D:Def K mg x st ps f fd)(S:aM N ps (aD st))(a:∀(b:Zt) (A:Around) (outer:Zq) (s:Zu) (H:Hp) (c:Zb) (Q:VK) (E:XK),c9 k (A.deeper (envOfC x (aD st) ↥s f b))->sp c H Q E->∃t,iO (dH (dG P w) P w K mg base N x (aD st) f b A outer s H E).Ay (cU st) t/\t { nx:=λ_ d=>Q .non d,rt:=Q } (start N c) H)(len:∀c H Q E,sp c H Q E->⇑c=⇑ps:=by intro _ _ _ _ h;rcases h with ⟨⟩;subst_vars;rfl):D.Ok P w base (k+ 1) sp:=D.F.okN S len a
def MDef.on (D:MDef K C x q st ps f fd)(S:aM N ps (aD st))(a:∀(b:Zt) (A:Around) (outer:Zq) (s:Zu) (H:Hp) (c:Zb) (Q:VK) (E:XK),c9 k (A.deeper (envOfC q (aD st) ↥s f b))->sp c H Q E->∃t,iO (dH (dG P w) P w K mg base N q (aD st) f b A outer s H E).Ay (cU st) t/\t { nx:=λ_ d=>Q .non d,rt:=Q } (start N c) H)(len:∀c H Q E,sp c H Q E->⇑c=⇑ps:=by intro _ _ _ _ h;rcases h with ⟨⟩;subst_vars;rfl):D.Ok mg P w base (k+ 1) sp:=D.F.okN S len a
end
section
variable {X:Cx}{x q m:Str}{st:Stmt}{ps:Zp}{f C:Zs}{fd:FuncData}{k j i:Nat}{sp:Sp}{e o:Expr}{es:Zr}{t:TA}{ta te:TE}{p pos pos' apos:Pos}
def pc (D:Def X.K X.mg x st ps f fd)(F:dZ X.prog X.w X.K X.mg X.base (dG X.prog X.w) k f fd ps sp)(g:c9 j X.A)(d:PA X (e::es) t)(hj:k<=j:=by decide)(h:Gl X x:=by rfl)(b:(x==("__debug__":Str))=false:=by decide)(c:starEach (e::es) X.env=(false,eval e X.env)::starEach es X.env:=by rfl)(a:(backTo pos (starEach es X.env)).any (·.1)=false:=by rfl):
 PE X (.Call (.Name x p) (e::es) [] pos) (NB sp [] (λ_ _ _=>False) t):=Qn F (g.mono hj) h D.m D.F.kp D.b .nil oR d b c a
def pm {pl:Sem Bool}(g:PE X o ta)(c:lh X.K C)(D:MDef X.K C m q st ps f fd)(F:dZ X.prog X.w X.K X.mg X.base (dG X.prog X.w) k f fd ps sp)(n:c9 j X.A)(l:PA X (e::es) t)(h:k<=j:=by decide)(a:starEach (e::es) X.env=(false,eval e X.env)::starEach es X.env:=by rfl)(b:(backTo pos (starEach es X.env)).any (·.1)=false:=by rfl)(r:eval (.Call (.Attribute o m apos) (e::es) [] pos) X.env=(do
  let d <-eval o X.env
  standAt apos.atName
  let (f,first) <-holding [d] (getMethod d m pl)
  callWith pos f first (backTo pos (starEach (e::es) X.env)) (backToKw pos (keywordEach [] X.env))):=by rfl):
 PE X (.Call (.Attribute o m apos) (e::es) [] pos) (vJ C m sp [] (λ_ _ _=>False) ta t):=Qo g c D.m F (n.mono h) D.b .nil oR l a b r
def BF {pl:Sem Bool}(b:PE X o ta)(c:lh X.K C)(D:MDef X.K C m q st ps f fd)(F:dZ X.prog X.w X.K X.mg X.base (dG X.prog X.w) k f fd ps sp)(g:c9 j X.A)(d:k<=j:=by decide)(h:eval (.Call (.Attribute o m apos) [] [] pos) X.env=(do
  let a <-eval o X.env
  standAt apos.atName
  let (f,first) <-holding [a] (getMethod a m pl)
  callWith pos f first (backTo pos (starEach [] X.env)) (backToKw pos (keywordEach [] X.env))):=by rfl):
 PE X (.Call (.Attribute o m apos) [] [] pos) (vJ C m sp [] (λ_ _ _=>False) ta rB):=K3 b c D.m F (g.mono d) D.b .nil oR h
def bE (i:Nat)(d:X.N.Nodup)(b:PE X e te)(g:X.N[i]?\x:=by rfl)(h:Loc X.env.scope x:=by trivial)(c:swapsWith e (some (.Name x pos')) pos.line X.env=pure false:=by rfl)(a:X.fn x=true\/X.env.scope.names.lookup x=some .local:=by trivial):
 PS X (.Assign [.Name x pos'] e pos) (Az te (dJ i)):=Sq d g h b c a
def dc (i:Nat)(a:X.N.Nodup)(b:X.N[i]?\x:=by rfl)(c:Loc X.env.scope x:=by trivial)(d:X.fn x=true\/X.env.scope.names.lookup x=some .local:=by trivial):PG X (.Name x pos) (dJ i):=DY a b c d
end
inductive Yn (x y:V)(H:Hp)(Q:VK):Prop
 |mk (a b:Zs)(xs:Zb):x=↑a->y=↑b->H a\.lst xs->H b\.lst []->Q (.bl (!decide (⇑xs=0))) H->Yn x y H Q
section
variable {C:Zs}{fd:FuncData}{ps:Zp}{x d:Str}{pos:Pos}
def UU (K:Za1)(fd:FuncData)(ps:Zp)(d:Str):Prop:=∀(s:Zu)(a:Zk)(v:Zt),K.In s.heap->⇑(a++[v])=⇑ps->BindsTo s fd { pos:=a,kw:=[(d,v)] } (ps.zip (a++[v]))
inductive Yo (K:Za1)(xs:Zb)(H:Hp)(Q:VK):Prop
 |mk (x C:Zs)(dx:Zo)(nw:Bool)(y:V)(c:Zt)(b:Bool):xs=[↑x,y]->H x\XO x C dx nw->ab2 K C->vOf y\c->kitOne K ↑C c\b->Q (.bl b) H->Yo K xs H Q
end
variable {K:Za1}{mg:Str->Zl}
structure ahE (K:Za1)(mg:Str->Zl)(x:Str)(st:Stmt)(ps:Zp)(f:Zs)(fd:FuncData)(d nm:Str):Prop extends DDef K mg x st ps f fd d where
 bk:UU K fd ps nm
inductive Yp (x y:V)(H:Hp)(Q:VK):Prop
 |mk (a b p q:Zs)(t:Zh)(ns:Zg):x=↑a->y=↑b->H a\.lst [↑p]->H b\.lst [↑q]->H p\.tup (.str (tx t)::ao ns)->H q\.tup (.str (tx t)::ao ns)->Q (.bl true) H->Yp x y H Q
end L2
namespace M11
def flip (k:Nat):Nat:=if k % 2=0 then k+ 1 else k - 1
def nx (T:Za3)(k i:Nat):Nat:=((T.getD i []).getD k 0).toNat
structure Tab (L:Nat)(T:Za3):Prop where
 pos:1<=⇑T
 top:⇑T<=300
 let1:1<=L
 yc:L<=40
 row:∀(i:Nat)(r:Zg),T[i]?\r->⇑r=2* L
 val:∀i k,i<⇑T->k<2* L->∃r:Zg,T[i]?\r/\r[k]?\((nx T k i:Nat):Int)
 lt:∀i k,i<⇑T->k<2* L->nx T k i<⇑T
 back:∀i k,i<⇑T->k<2* L->nx T (flip k) (nx T k i)=i
def pl (s:Int):Nat:=if 0<s then 2* s.natAbs - 2 else 2* s.natAbs - 1
def walk (T:Za3)(w:Zg)(i:Nat):Nat:=w.foldl (λi s=>nx T (pl s) i) i
def aV (L:Nat)(w:Zg):Prop:=∀s∈w,s≠0/\s.natAbs<=L
def back (w:Zg):Zg:=w.reverse.map λz=>-z
def eA (h:z≠0/\z.natAbs<=n):pl z<2* n:=by unfold pl;split <;> ext
def yd (h:z≠0):pl (-z)=flip (pl z):=by
 unfold pl flip;rw[Int.natAbs_neg];cases a:0<z
 ·rw[ajn a,ajk (show ¬ 0 < -z by omega),ajn ∅];ext
 ·rw[ajk a,ajn (show 0 < -z by omega),ajk ∅];ext
theorem kc {L:Nat}{T:Za3}(c:Tab L T):∀{w:Zg}{i:Nat},aV L w->i<⇑T->walk T w i<⇑T
 |[],i,_,a=>a
 |s::w,i,b,a=>kc c (w:=w) (λs d=>b s (ajw _ d)) (c.lt i (pl s) a (eA (b s (aji ..))))
def eG (T:Za3)(w u:Zg)(i:Nat):walk T (w++u) i=walk T u (walk T w i):=aj8 ..
theorem nk {L:Nat}{T:Za3}(c:Tab L T):∀{w:Zg}{i:Nat},aV L w->i<⇑T->walk T (w++back w) i=i
 |[],i,_,_=>rfl
 |s::w,i,d,f=>by
  let a:=d s (aji ..);let b:aV L w:=λs a=>d s (ajw _ a)
  let e:back (s::w)=back w++[-s]:=by unfold back;rw[ams,ajt];rfl
  let g:=nk c (i:=nx T (pl s) i) b (c.lt i (pl s) f (eA a));rw[e,alB,<-ajK];show walk T ((w++back w)++[-s]) (nx T (pl s) i)=i;rw[eG,g];show nx T (pl (-s)) (nx T (pl s) i)=i;rw[yd a.1];rwa[c.back i (pl s) f (eA a)]
def jO (h:aV n l):aV n (back l):=λs a=>by unfold back at a;let⟨y,b,rfl⟩:=ajN.mp a;have:=h y (List.mem_reverse.mp b);ext
structure Pm (p:Nat)(r:Zg):Prop where
 len:⇑r=p
 nd:r.Nodup
 rg:∀z∈r,0<=z/\z<(p:Int)
def Pm.at (h:Pm n l){i:Nat}(b:i<n):∃j:Nat,l[i]?\(j:Int)/\j<n:=by
 let a:i<⇑l:=by rw[h.len];rwa[b]
 have:=h.rg l[i] (List.getElem_mem a);rwa[l[i].toNat,by rw[ai1 a,show ((l[i].toNat:Nat):Int)=l[i] by ext],3]
def ye {k:Nat}(h:k<2* n):flip k<2* n:=by unfold flip;split <;> ext
def Yq (L:Nat)(f:Nat->Int->Int)(come:Zg)(x:Int)(r:Zg)(m:Nat):Prop:=⇑r=m/\∀k,k<m->∃j:Nat,r[k]?\(j:Int)/\come[j]?\(f k x)
theorem gB:∀(n:Nat)(l:Zh),l.Nodup->(∀x∈l,x<n)->⇑l<=n
 |0,[],_,_=>aja _
 |0,a::l,_,h=>absurd (h a (aji ..)) ∅
 |n+ 1,l,b,h=>by
  cases c:n∈l
  ·have:=gB n (l.erase n) (b.erase n) (λx d=>by cbv)
   rw[alu c]at this;ext
  ·have:=gB n l b (λx d=>by cbv)
   ext
def vZ (j:l.Nodup)(h:∀x∈l,0<=x/\x<(n:Int)):⇑l<=n:=by
 let f:(l.map Int.toNat).Nodup:=by rwa[akG.mpr (alw ?_ j)];intro a b d g c z;have:=h a d;have:=h b g;rwa[c ∅]
 have:=gB n (l.map Int.toNat) f (λx i=>by let⟨y,e,rfl⟩:=ajN.mp i;have:=h y e;omega)
 rw[ai6]at this;rwa[this]
def Pm.UX (h:Pm n l){x:Nat}(g:x<n):∃i:Nat,l[i]?\(x:Int)/\i<n:=by
 let c:(x:Int)∈l:=by
  rwa[akl λc=>?_]
  have:=vZ (n:=n) (l:=(x:Int)::l) (ajO.mpr ⟨c,h.nd⟩) (λy d=>by
   rcases ajs.mp d with e|d
   ·rw[e];ext
   ·rwa[h.rg y d])
  rw[ajo,h.len]at this;ext
 let⟨i,f,e⟩:=akV.mp c;rwa[i,by rw[ai1 f,e],by rw[<-h.len];rwa[f]]
def ahF (p:Nat)(r t:Zg):Prop:=⇑t=p/\∀k j:Nat,r[k]?\(j:Int)->t[j]?\(k:Int)
def ahG (p:Nat)(r t:Zg)(n:Nat):Prop:=⇑t=p/\∀k j:Nat,k<n->r[k]?\(j:Int)->t[j]?\(k:Int)
end M11
namespace M12
open M11
def Fc (W:Nat)(E:Zg)(N:Nat):Prop:=(∀z∈E,0<=z/\z<(N:Int))/\∀j:Nat,0<j->j<N->∃p:Nat,p<j* W/\E[p]?\(j:Int)/\∀(q:Nat)(z:Int),q<p->E[q]?\z->z<(j:Int)
def Fc.old {W:Nat}(h:Fc W l n)(k:i<n):Fc W (l++[(i:Int)]) n:=by
 rwa[⟨λz hz=>?_,λj e d=>?_⟩]
 ·rcases ajh.mp hz with hz|hz
  ·rwa[h.1 z hz]
  ·rw[ai9.mp hz];ext
 ·let⟨p,b,c,f⟩:=h.2 j e d;let g:=(ai4.mp c).1;rwa[⟨p,b,by cbv,λq z a hz=>f q z a ?_⟩];rw[ajd ∅]at hz;rwa[hz]
def Fc.new {W:Nat}{E:Zg}(h:Fc W E n)(hN:0<n)(hE:⇑E<n* W):Fc W (E++[(n:Int)]) (n+ 1):=by
 rwa[⟨λz hz=>?_,λj d i=>?_⟩]
 ·rcases ajh.mp hz with hz|hz
  ·have:=h.1 z hz;ext
  ·rw[ai9.mp hz];ext
 ·cases e:j=n
  ·subst e;rwa[⟨⇑E,hE,by cbv,λq z a hz=>?_⟩];rw[ajd a]at hz;rwa[(h.1 z (ai5 hz)).2]
  ·let⟨p,b,c,f⟩:=h.2 j d ∅;let g:=(ai4.mp c).1;rwa[⟨p,b,by cbv,λq z a hz=>f q z a ?_⟩];rw[ajd ∅]at hz;rwa[hz]
def Fc.zero (W:Nat):Fc W [] 1:=⟨(λz hz=>by ext hz),(λj b a=>∅)⟩
theorem tL {W:Nat}(d:0<W):∀{T:Za3}{i k:Nat}{r:Zg},(∀(i:Nat)(r:Zg),T[i]?\r->⇑r=W)->T[i]?\r->k<W->T.flatten[i* W+ k]?=r[k]?
 |[],i,k,r,_,a,_=>by simp at a
 |s::T,0,k,r,h,a,b=>by cbv
 |s::T,i+ 1,k,r,h,a,b=>by
  let c:=h 0 s rfl;rw[alm,ajg (by rw[c,amd];omega),c];let e:(i+ 1)* W+ k - W=i* W+ k:=by rw[amd];ext
  rw[e];rwa[tL d (λi r a=>h (i+ 1) r a) a b]
def st (k:Nat):Int:=if k % 2=0 then ((k / 2+ 1:Nat):Int) else -((k / 2+ 1:Nat):Int)
def qi (k:Nat):pl (st k)=k:=by
 unfold pl st;cases h:k % 2=0
 ·rw[ajn h,ajn ∅];ext
 ·rw[ajk h,ajk ∅];ext
def tM {k:Nat}(h:k<2* n):st k≠0/\(st k).natAbs<=n:=by unfold st;split <;> ext
def UY:Zh->Zh->Prop
 |a::u,b::v=>a<b\/(a=b/\UY u v)
 |_,_=>False
def adW (u v:Zh):Prop:=⇑u<⇑v\/(⇑u=⇑v/\UY u v)
def Lw (L:Nat)(T:Za3)(ws:List Zh):Prop:=⇑ws=⇑T/\ws[0]?\[]/\∀(j p:Nat),0<j->j<⇑T->T.flatten[p]?\(j:Int)->(∀(q:Nat)(z:Int),q<p->T.flatten[q]?\z->z<(j:Int))->∃u,ws[p / (2* L)]?\u/\ws[j]?\(u++[p % (2* L)])
end M12
namespace M13
open M11 M12
structure Part (L:Nat)(T:Za3)(ws:List Zh)(p:Nat):Prop where
 pos:ws[0]?\[]
 top:⇑ws<=⇑T
 all:∀(q:Nat)(z:Int),q<p->T.flatten[q]?\z->z<(⇑ws:Int)
 UZ:∀(j q:Nat),0<j->j<⇑ws->T.flatten[q]?\(j:Int)->(∀(r:Nat)(z:Int),r<q->T.flatten[r]?\z->z<(j:Int))->∃u,ws[q / (2* L)]?\u/\ws[j]?\(u++[q % (2* L)])
 ok:∀(i:Nat)(u:Zh),ws[i]?\u->(∀k∈u,k<2* L)/\walk T (u.map st) 0=i/\⇑u<=i
variable {L:Nat}{T:Za3}{ws:List Zh}{p:Nat}
def Part.start (c:Tab L T)(l:Fc (2* L) T.flatten ⇑T):Part L T [[]] 0:=by
 rwa[⟨2,c.pos,λq z g=>∅,λj q h d=>by simp at d;ext,λi u a=>?_⟩];let e:=ai9.mp (ai5 a)
 let f:i=0:=by have:=(ai4.mp a).1;simp only[ajo,ajQ]at this;ext
 subst e f;rwa[λk b=>(by ext b),2,aja _]
def Part.has (e:Tab L T)(b:Fc (2* L) T.flatten ⇑T)(h:Part L T ws p){i k:Nat}(j:i<⇑T)(c:p=i* (2* L)+ k):i<⇑ws:=by
 let f:1<=⇑ws:=(ai4.mp h.pos).1;rwa[akl λl=>?_]
 let⟨q,d,a,g⟩:=b.2 ⇑ws ∅ ∅;have:⇑ws* (2* L)<=i* (2* L):=akm _ ∅;have:=h.all q _ ∅ a;ext
def Part.step (f:Tab L T)(D:Fc (2* L) T.flatten ⇑T){i k:Nat}(h:Part L T ws (i* (2* L)+ k))(y:i<⇑T)(e:k<2* L):
 (nx T k i≠⇑ws->Part L T ws (i* (2* L)+ k+ 1))/\(nx T k i=⇑ws->∀u,ws[i]?\u->Part L T (ws++[u++[k]]) (i* (2* L)+ k+ 1)):=by
 let Y:=f.let1;let X:1<=⇑ws:=(ai4.mp h.pos).1;let⟨r,U,R⟩:=f.val i k y e
 let a:T.flatten[i* (2* L)+ k]?\((nx T k i:Nat):Int):=by rw[tL ∅ f.row U e];rwa[R]
 let J:=f.lt i k y e;let s:=h.has f D y rfl
 let hdiv:(i* (2* L)+ k) / (2* L)=i:=by rw[ak0,Nat.mul_add_div ∅,amA e];ext
 let g:(i* (2* L)+ k) % (2* L)=k:=by rw[ak0,Nat.mul_add_mod,amB e]
 rwa[⟨λM=>?_,λV u G=>?_⟩]
 ·let W:nx T k i<⇑ws:=by
   rwa[akl λZ=>?_]
   let⟨q,a1,A,Q⟩:=D.2 ⇑ws ∅ ∅;cases w:q<i* (2* L)+ k
   ·have:=h.all q _ w A;ext
   ·cases x:q=i* (2* L)+ k
    ·rw[x,a]at A;have:=Za0 A;ext
    ·have:=Q _ _ ∅ a;ext
  rwa[⟨h.pos,h.top,λq z n hz=>?_,h.UZ,h.ok⟩];cases c:q=i* (2* L)+ k
  ·rw[c,a]at hz;have:=Za0 hz;ext
  ·rwa[h.all q z ∅ hz]
 ·let d:=h.ok i u G;rwa[⟨[ajd ∅]▸h.pos,by rw[ai3];simp only[ajo,ajQ];ext,λq z n hz=>?_,λj q N I n F=>?_,λB v l=>?_⟩]
  ·rw[ai3];simp only[ajo,ajQ];cases c:q=i* (2* L)+ k
   ·rw[c,a]at hz;have:=Za0 hz;ext
   ·have:=h.all q z ∅ hz;ext
  ·rw[ai3]at I;simp only[ajo,ajQ]at I;cases c:j=⇑ws
   ·let m:q=i* (2* L)+ k:=by
     cases w:q<i* (2* L)+ k
     ·have:=h.all q _ w n;ext
     ·cases x:q=i* (2* L)+ k
      ·rwa[x]
      ·have:=F _ _ ∅ a;ext
    erw[u,5]
    ·rw[m,hdiv,ajd s];rwa[G]
    ·rw[c,m,g,ajg (aja _),aks];rfl
   ·let⟨v,C,H⟩:=h.UZ j q N ∅ n F;let o:=(ai4.mp C).1;let t:=(ai4.mp H).1;rwa[v,[ajd o]▸C,[ajd t]▸H]
  ·cases c:B<⇑ws
   ·rw[ajd c]at l;rwa[h.ok B v l]
   ·let E:=(ai4.mp l).1;rw[ai3]at E;simp only[ajo,ajQ]at E;let P:B=⇑ws:=∅
    subst P;rw[ajg (aja _),aks]at l;let O:u++[k]=v:=Za0 l;subst O;erw[λS b=>?_,5]
    ·rcases ajh.mp b with b|b
     ·rwa[d.1 S b]
     ·rw[ai9.mp b];rwa[e]
    ·rw[ajt,eG,d.2.1];show nx T (pl (st k)) i=⇑ws;rw[qi];rwa[V]
    ·rw[ai3];simp only[ajo,ajQ];have:=d.2.2;ext
def Part.le (b:Tab L T)(m:Fc (2* L) T.flatten ⇑T){i k:Nat}(h:Part L T ws (i* (2* L)+ k))(e:i<⇑T)(c:k<2* L):nx T k i<=⇑ws:=by
 let t:=b.let1;let⟨r,o,j⟩:=b.val i k e c
 let a:T.flatten[i* (2* L)+ k]?\((nx T k i:Nat):Int):=by rw[tL ∅ b.row o c];rwa[j]
 let f:=b.lt i k e c;let s:1<=⇑ws:=(ai4.mp h.pos).1;rwa[akl λu=>?_]
 let⟨q,v,d,g⟩:=m.2 ⇑ws ∅ ∅;cases l:q<i* (2* L)+ k
 ·have:=h.all q _ l d;ext
 ·cases n:q=i* (2* L)+ k
  ·rw[n,a]at d;have:=Za0 d;ext
  ·have:=g _ _ ∅ a;ext
def Part.end_ (l:Tab L T)(i:Fc (2* L) T.flatten ⇑T)(h:Part L T ws (⇑T* (2* L))):Lw L T ws:=by
 let d:1<=⇑ws:=(ai4.mp h.pos).1
 let a:⇑ws=⇑T:=by
  rwa[akl λn=>?_]
  let e:=h.top;let⟨q,k,b,m⟩:=i.2 ⇑ws ∅ ∅;have:⇑ws* (2* L)<=⇑T* (2* L):=akm _ e;have:=h.all q _ ∅ b;ext
 rwa[a,h.pos,λj q f d c g=>h.UZ j q f ∅ c g]
end M13
namespace M14
open M11 M12
def Wy (W:Nat)(E:Zg)(ws:List Zh)(N:Nat):Prop:=(⇑ws=N/\ws[0]?\[]/\∀(i:Nat)(u:Zh),ws[i]?\u->⇑u<=i/\∀k∈u,k<W)/\∀j p:Nat,0<j->j<N->E[p]?\(j:Int)->(∀(q:Nat)(z:Int),q<p->E[q]?\z->z<(j:Int))->∃u,ws[p / W]?\u/\ws[j]?\(u++[p % W])
end M14
namespace M15
open M11 M12
def U0 (h:st n=st m):n=m:=by have:=ajY pl h;rw[qi,qi]at this;rwa[this]
def BG {T:Za3}{e:List Zh}(d:Tab n T)(t:Fc (2* n) T.flatten ⇑T)(hw:Lw n T e){j:Nat}{v:Zh}(b:e[j]?\v)(x:v≠[]):
 ∃(i k:Nat)(u:Zh),i<⇑T/\k<2* n/\e[i]?\u/\v=u++[k]/\nx T k i=j:=by
 let y:=d.let1;let a:j<⇑T:=by rw[<-hw.1];rwa[(ai4.mp b).1]
 let g:0<j:=by
  rcases Nat.eq_zero_or_pos j with z|z
  ·subst z;rw[hw.2.1]at b;rwa[absurd (Za0 b).symm x]
  ·rwa[z]
 let⟨p,A,o,q⟩:=t.2 j g a;let⟨u,f,l⟩:=hw.2.2 j p g a o q;rw[b]at l;let m:p / (2* n)<⇑T:=by rw[<-hw.1];rwa[(ai4.mp f).1]
 let c:p % (2* n)<2* n:=Nat.mod_lt _ ∅;erw[p / (2* n),p % (2* n),u,m,c,f,Za0 l];let⟨r,w,s⟩:=d.val _ _ m c;let h:=tL (W:=2* n) ∅ d.row w c;rw[Nat.div_add_mod' p (2* n),o,s]at h;have:=Za0 h;ext
def Gq {k:Nat}:((B++[k]).map st).getLast?\(st k):=by rw[ajt];simp
def BH {T:Za3}{c:List Zh}(b:Tab n T)(o:Fc (2* n) T.flatten ⇑T)(q:Lw n T c){i k:Nat}(s:i<⇑T)(d:k<2* n){u v:Zh}(r:c[i]?\u)(t:c[nx T k i]?\v):
 (v.map st).getLast?=some (st k)↔v.map st=u.map st++[st k]:=by
 rwa[⟨λh=>?_,λh=>by rw[h];simp⟩];let a:v≠[]:=λz=>by rw[z]at h;ext h
 let⟨x,f,y,w,A,e,p,l⟩:=BG b o q t a;subst p;rw[Gq]at h;let j:=U0 (Za0 h);subst j;let g:=b.back x f w d;let m:=b.back i f s d;rw[l,m]at g;subst g;rw[r]at e;rw[<-Za0 e,ajt];rfl
def ye {k:Nat}(h:k<2* n):M11.flip k<2* n:=by unfold M11.flip;split <;> ext
def Mg {T:Za3}{c:List Zh}(b:Tab n T)(l:Fc (2* n) T.flatten ⇑T)(e:Lw n T c){i k:Nat}(d:i<⇑T)(a:k<2* n){u v:Zh}(h:c[i]?\u)(f:c[nx T k i]?\v):
 (u.map st).getLast?=some (st (M11.flip k))↔u.map st=v.map st++[st (M11.flip k)]:=by let g:=b.lt i k d a;let j:=b.back i k d a;have:=BH b l e g (ye a) f (v:=u) ([j]▸h);rwa[this]
end M15
namespace M16
def sn (w:Zg)(x:Int):Zg:=if w.getLast?=some (-x) then w.dropLast else w++[x]
def thin (ns:Zg):Zg:=ns.foldl sn []
def back (w:Zg):Zg:=w.reverse.map λz=>-z
theorem gR:∀w:Zg,w=[]\/∃u b,w=u++[b]
 |[]=>.inl rfl
 |a::w=>.inr (by
  rcases gR w with rfl|⟨u,b,rfl⟩
  ·rwa[⟨[],a,rfl⟩]
  ·rwa[⟨a::u,b,rfl⟩])
def jw (w:Zg)(b x:Int):sn (w++[b]) x=if b= -x then w else w++[b]++[x]:=by
 unfold sn;rw[List.getLast?_concat,ali];cases h:b= -x
 ·rw[ajn (by rw[h]),ajn h]
 ·rw[ajk (λz=>h (Za0 z)),ajk h]
def Rd (w:Zg):Prop:=∀u b c v,w=u++[b]++[c]++v->b≠-c
def Rd.nil:Rd []:=λu b c v h=>by have:=ajY List.length h;simp at this
def Rd.pre {v:Zg}(h:Rd (l++v)):Rd l:=λu b c x e=>h u b c (x++v) (by rw[e];simp)
def Rd.snoc {x:Int}(h:Rd l)(g:∀u b,l=u++[b]->b≠-x):Rd (l++[x]):=λu b c v e=>by
 rcases gR v with rfl|⟨d,y,rfl⟩
 ·rw[ajm]at e;let a:=List.append_inj' e rfl;have:x=c:=by simpa using a.2
  rw[<-this];rwa[g u b a.1]
 ·let f:l++[x]=(u++[b]++[c]++d)++[y]:=by rw[e];simp
  let a:=List.append_inj' f rfl;rwa[h u b c d a.1]
def Rd.sn (h:Rd l)(x:Int):Rd (sn l x):=by
 rcases gR l with rfl|⟨u,b,rfl⟩
 ·exact Rd.nil.snoc λu b e=>by have:=ajY List.length e;simp at this
 ·rw[jw];cases a:b= -x
  ·rw[ajn a];rwa[h.pre]
  ·rw[ajk a]
   exact h.snoc λf d e=>by
    have:=(List.append_inj' e rfl).2;let c:b=d:=by simpa using this
    rw[<-c];rwa[a]
theorem Rd.fold:∀(ns w:Zg),Rd w->Rd (ns.foldl M16.sn w)
 |[],w,h=>h
 |x::ns,w,h=>Rd.fold ns (M16.sn w x) (h.sn x)
def yf (a:Zg):Rd (thin a):=Rd.fold a [] Rd.nil
def zp (h:Rd l)(x:Int):sn (sn l (-x)) x=l:=by
 rcases gR l with rfl|⟨u,b,rfl⟩
 ·show sn ([]++[-x]) x=[];rw[jw,ajn rfl]
 ·rw[jw];cases a:b= -(-x)
  ·rw[ajn a];let d:b=x:=∅
   subst d;rcases gR u with rfl|⟨v,c,rfl⟩
   ·rfl
   ·rw[jw,ajk (h v c b [] (by simp))]
  ·rw[ajk a,jw,ajn rfl]
def rX (c:Zg)(x:Int):thin (c++[x])=sn (thin c) x:=by unfold thin;rw[aj8];rfl
def BI (a b:Zg):thin (a++b)=b.foldl sn (thin a):=by unfold thin;rw[aj8]
def rY:∀(n:Nat)(b u:Zg),⇑b=n->Rd u->b.foldl sn u=(thin b).foldl sn u:=by
 intro n
 induction n with
 |zero=>
  intro b u a e
  cases b with
  |nil=>rfl
  |cons _ _=>simp at a
 |succ n f=>
  intro b u a e;rcases gR b with rfl|⟨c,x,rfl⟩
  ·simp at a
  let g:⇑c=n:=by simpa using a
  let h:=f c u g e;rw[aj8,rX];show sn (c.foldl sn u) x=_;rw[h];change thin c=t;rcases gR t with rfl|⟨v,y,rfl⟩
  ·rfl
  ·rw[jw];cases d:y= -x
   ·rw[ajn d,aj8];show sn (sn (v.foldl sn u) y) x=_;rw[d];rwa[zp (Rd.fold v u e) x]
   ·rw[ajk d];simp[aj8]
def Ja (b:Zg):thin (thin b)=thin b:=(rY _ b [] rfl Rd.nil).symm
def congr {a a' b b':Zg}(h:thin a=thin a')(c:thin b=thin b'):thin (a++b)=thin (a'++b'):=by rw[BI,BI,h,rY _ b _ rfl (yf _),rY _ b' _ rfl (yf _),c]
def zq (c:Zg)(x:Int):back (c++[x])=[-x]++back c:=by unfold back;rw[List.reverse_append];rfl
def BJ (a b:Zg):back (a++b)=back b++back a:=by unfold back;rw[List.reverse_append,ajt]
def kK (a:Zg):back (back a)=a:=by
 unfold back;rw[<-amD,List.reverse_reverse,ajM]
 conv=>rhs;rw[<-List.map_id a]
 rwa[aj5 λz _=>ako z]
def cancel:∀(n:Nat)(a:Zg),⇑a=n->thin (a++back a)=[]:=by
 intro n
 induction n with
 |zero=>
  intro a b
  cases a with
  |nil=>rfl
  |cons _ _=>simp at b
 |succ n d=>
  intro a b;rcases gR a with rfl|⟨c,x,rfl⟩
  ·simp at b
  let f:⇑c=n:=by simpa using b
  rw[zq,show c++[x]++([-x]++back c)=(c++[x]++[-x])++back c by simp]
  let e:thin (c++[x]++[-x])=thin c:=by rw[rX,rX];have:=zp (yf c) (-x);rw[ako]at this;rwa[this]
  rw[congr e rfl];rwa[d c f]
def oS (a:Zg):thin (a++back a)=[]:=cancel _ a rfl
def tN (a:Zg):thin (back a++a)=[]:=by have:=oS (back a);rw[kK]at this;rwa[this]
def mid {a b c:Zg}(h:thin b=[]):thin (a++b++c)=thin (a++c):=by
 let e:thin (a++b)=thin a:=by have:=congr (a:=a) (a':=a) (b:=b) (b':=[]) rfl (by rw[h];rfl);rw[ajm]at this;rwa[this]
 rwa[congr e rfl]
def wc {a b:Zg}(h:thin a=thin b):thin (back a)=thin (back b):=by
 let e:thin (back a++b++back b)=thin (back a):=by have:=mid (a:=back a) (b:=b++back b) (c:=[]) (oS b);simpa using this
 let d:thin (back a++a++back b)=thin (back b):=by have:=mid (a:=[]) (b:=back a++a) (c:=back b) (tN a);simpa using this
 rw[<-e,<-d];rwa[congr (congr rfl h.symm) rfl]
variable (F:Int->Zg)
def fill (l:Zg):Zg:=l.flatMap F
def je (a b:Zg):fill F (a++b)=fill F a++fill F b:=by unfold fill;rw[akj]
def ml (x:Int):fill F [x]=F x:=by unfold fill;simp
def Rj (f:∀n,n≠0->F (-n)=back (F n)){u:Zg}{x:Int}(e:x≠0):thin (fill F (sn u x))=thin (fill F (u++[x])):=by
 rcases gR u with rfl|⟨v,y,rfl⟩
 ·rfl
 ·rw[jw];cases d:y= -x
  ·rw[ajn d,d,je,je,ml,ml,f x e,ajK];have:=mid (a:=fill F v) (b:=back (F x)++F x) (c:=[]) (tN _);rw[ajm,ajm]at this;rwa[this.symm]
  ·rw[ajk d]
theorem zr (a:∀n,n≠0->F (-n)=back (F n)):∀(l u:Zg),(∀x∈l,x≠0)->thin (fill F (l.foldl sn u))=thin (fill F (u++l))
 |[],u,_=>by rw[ajm];rfl
 |x::l,u,h=>by show thin (fill F (l.foldl sn (sn u x)))=_;rw[zr a l (sn u x) λy b=>h y (ajw _ b),je,show u++x::l=(u++[x])++l by simp,je F (u++[x])];rwa[congr (Rj F a (h x (aji ..))) rfl]
def Jb (a:∀n,n≠0->F (-n)=back (F n)){l:Zg}(h:∀x∈l,x≠0):thin (fill F (thin l))=thin (fill F l):=zr F a l [] h
def Jc {x:Int}(h:y∈sn l x):y∈l\/y=x:=by
 unfold sn at h;split at h
 ·rwa[.inl (List.dropLast_subset _ h)]
 ·rcases ajh.mp h with h|h
  ·rwa[.inl h]
  ·rwa[.inr (ai9.mp h)]
theorem BK:∀{ns w:Zg}{y:Int},y∈ns.foldl sn w->y∈w\/y∈ns
 |[],w,y,h=>.inl h
 |x::ns,w,y,h=>by
  rcases BK (ns:=ns) h with h|h
  ·rcases Jc h with h|h
   ·rwa[.inl h]
   ·rwa[.inr (by rw[h];rwa[aji ..])]
  ·rwa[.inr (ajw _ h)]
def qj (h:y∈thin l):y∈l:=by
 rcases BK h with h|h
 ·ext h
 ·rwa[h]
end M16
namespace M17
def it (f:Nat->Nat):Nat->Nat->Nat
 |0,x=>x
 |n+ 1,x=>f (it f n x)
theorem wg (f:Nat->Nat)(m:Nat):∀(n x:Nat),it f (m+ n) x=it f n (it f m x)
 |0,x=>rfl
 |n+ 1,x=>ajY f (wg f m n x)
theorem tO {f:Nat->Nat}(h:∀x,x<m->f x<m):∀(n x:Nat),x<m->it f n x<m
 |0,x,a=>a
 |n+ 1,x,a=>h _ (tO h n x a)
theorem Jd {f:Nat->Nat}(h:∀x,x<m->f x<m)(b:∀x y,x<m->y<m->f x=f y->x=y):∀(n x y:Nat),x<m->y<m->it f n x=it f n y->x=y
 |0,x,y,_,_,e=>e
 |n+ 1,x,y,c,a,e=>Jd h b n x y c a (b _ _ (tO h n x c) (tO h n y a) e)
theorem mn {f:Nat->Nat}{x:Nat}(h:it f n x=x):∀k,it f (n* k) x=x
 |0=>rfl
 |k+ 1=>by rw[Nat.mul_succ,wg,mn h k,h]
def ring {f:Nat->Nat}{x:Nat}(h:∀x,x<n->f x<n)(r:∀x y,x<n->y<n->f x=f y->x=y)(k:x<n):∃c,1<=c/\c<=n/\it f c x=x:=by
 rwa[akl λs=>?_]
 let ne:∀i j,i<j->j<=n->it f i x≠it f j x:=λi j m t e=>by
  rwa[s ⟨j - i,335⟩];let p:it f j x=it f i (it f (j - i) x):=by rw[<-wg,show j - i+ i=j by ext]
  rw[p]at e;rwa[(Jd h r i x _ k (tO h _ x k) e).symm]
 let o:((~~~(n+ 1)).map λi=>((it f i x:Nat):Int)).Nodup:=by rw[alX,akG];rwa[alw (R:=λa b=>a<b) (λu l g e=>?_) List.pairwise_lt_range];have:=ajJ.mp l;rwa[ne _ _ g ∅ ∅]
 have:=M11.vZ (n:=n) o λz q=>by let⟨i,_,rfl⟩:=ajN.mp q;have:=tO h i x k;ext
 cbv
def Yr {f:Nat->Nat}(g:n<=6)(h:∀x,x<n->f x<n)(b:∀x y,x<n->y<n->f x=f y->x=y)(x:Nat)(d:x<n):it f 60 x=x:=by
 let⟨c,j,i,e⟩:=ring h b d;let a:c=1\/c=2\/c=3\/c=4\/c=5\/c=6:=∅
 rcases a with rfl|rfl|rfl|rfl|rfl|rfl
 ·rwa[mn e 60]
 ·rwa[mn e 30]
 ·rwa[mn e 20]
 ·rwa[mn e 15]
 ·rwa[mn e 12]
 ·rwa[mn e 10]
end M17
namespace M24
def add (come:Zh)(y:Nat):Zh:=if y∈come then come else come++[y]
def dP (f:Nat->Nat->Nat)(x:Nat)(come:Zh)(k:Nat):Zh:=(~~~k).foldl (λc i=>add c (f i x)) come
def jx (f:Nat->Nat->Nat)(x:Nat)(come:Zh)(k:Nat):dP f x come (k+ 1)=add (dP f x come k) (f k x):=by unfold dP;rw[aj3,aj8];rfl
def bj (f:Nat->Nat->Nat)(k a:Nat):Nat->Zh
 |0=>[a]
 |n+ 1=>match (bj f k a n)[n]? with
  |some x=>dP f x (bj f k a n) k
  |none=>bj f k a n
def u6 (f:Nat->Nat->Nat)(k a:Nat):bj f k a 0=[a]:=rfl
def fO {f:Nat->Nat->Nat}{k x:Nat}(h:(bj f k n m)[m]?\x):bj f k n (m+ 1)=dP f x (bj f k n m) k:=by rw[bj,h]
def mq {f:Nat->Nat->Nat}{k:Nat}(h:(bj f k n m)[m]?=none):bj f k n (m+ 1)=bj f k n m:=by rw[bj,h]
def EG (come:Zh)(y:Nat):∃t,add come y=come++t:=by
 unfold add;split
 ·rwa[[],(ajm _).symm]
 cbv
theorem qk (f:Nat->Nat->Nat)(x:Nat)(come:Zh):∀k,∃t,dP f x come k=come++t
 |0=>⟨[],(ajm _).symm⟩
 |k+ 1=>by let⟨t,b⟩:=qk f x come k;let⟨u,a⟩:=EG (dP f x come k) (f k x);rwa[t++u,by rw[jx,a,b,ajK]]
def u9 (f:Nat->Nat->Nat)(k a n:Nat):∃t,bj f k a (n+ 1)=bj f k a n++t:=by
 cases h:(bj f k a n)[n]? with
 |none=>rwa[[],by rw[mq h,ajm]]
 |some x=>let⟨t,b⟩:=qk f x (bj f k a n) k;rwa[t,by rw[fO h,b]]
theorem EH (f:Nat->Nat->Nat)(k a n:Nat):∀m,∃t,bj f k a (n+ m)=bj f k a n++t
 |0=>⟨[],(ajm _).symm⟩
 |m+ 1=>by
  let⟨t,c⟩:=EH f k a n m;let⟨u,b⟩:=u9 f k a (n+ m)
  cbv
def Rk {come:Zh}:m∈add come n↔m∈come\/m=n:=by
 unfold add
 cbv
def U1 {come:Zh}(h:come.Nodup)(y:Nat):(add come y).Nodup:=by
 unfold add
 cbv
theorem tQ {f:Nat->Nat->Nat}{x:Nat}{come:Zh}(h:come.Nodup):∀k,(dP f x come k).Nodup
 |0=>h
 |k+ 1=>[jx]▸U1 (tQ h k) _
theorem hX (f:Nat->Nat->Nat)(k a:Nat):∀n,(bj f k a n).Nodup
 |0=>by rw[u6];simp
 |n+ 1=>by
  cases h:(bj f k a n)[n]? with
  |none=>rw[mq h];rwa[hX f k a n]
  |some x=>rw[fO h];rwa[tQ (hX f k a n) k]
theorem kf {f:Nat->Nat->Nat}{x:Nat}{come:Zh}{z:Nat}:∀{k:Nat},z∈dP f x come k↔z∈come\/∃i,i<k/\z=f i x
 |0=>⟨.inl,λq=>q.elim id λζ=>by let⟨i,a,_⟩:=ζ;rwa[absurd a (Nat.not_lt_zero _)]⟩
 |k+ 1=>by
  rw[jx,Rk,kf (k:=k)]
  cbv
theorem oT {f:Nat->Nat->Nat}{k x0:Nat}{P:Nat->Prop}(b:P x0)(c:∀x i,P x->i<k->P (f i x)):∀n,∀z∈bj f k x0 n,P z
 |0,z,a=>by rw[u6,ai9]at a;rw[a];rwa[b]
 |n+ 1,z,a=>by
  cases h:(bj f k x0 n)[n]? with
  |none=>rw[mq h]at a;rwa[oT b c n z a]
  |some x=>
   rw[fO h,kf]at a;rcases a with a|⟨i,d,rfl⟩
   ·rwa[oT b c n z a]
   ·rwa[c _ _ (oT b c n x (ai5 h)) d]
theorem lE {f:Nat->Nat->Nat}{k:Nat}:∀{n j x i:Nat},j<n->(bj f k m n)[j]?\x->i<k->f i x∈bj f k m n
 |n+ 1,j,x,i,g,b,c=>by
  cases h:(bj f k m n)[n]? with
  |none=>rw[mq h]at b ⊢;let o:=alZ.mp h;let l:=(ai4.mp b).1;rwa[lE (show j<n by omega) b c]
  |some y=>
   let⟨t,d⟩:=qk f y (bj f k m n) k;let p:=(ai4.mp h).1
   let a:(bj f k m n)[j]?\x:=by rw[fO h,d,ajd ∅]at b;rwa[b]
   cases e:j=n
   ·rw[e,h]at a;rw[fO h,kf];rwa[.inr ⟨i,c,by cbv⟩]
   ·rw[fO h,kf];rwa[.inl (lE (show j<n by omega) a c)]
def ix (come:Zh)(y:Nat):Nat:=come.findIdx λz=>z==y
theorem wj:∀{come:Zh}{i y:Nat},come.Nodup->come[i]?\y->ix come y=i
 |[],i,y,_,h=>by simp at h
 |a::l,0,y,_,h=>by
  let e:a=y:=Za0 h;unfold ix
  cbv
 |a::l,i+ 1,y,d,h=>by
  rw[List.getElem?_cons_succ]at h;let f:=ai5 h
  let b:(a==y)=false:=by rw[ajA];intro e;rwa[(ajO.mp d).1 (by cbv)]
  let c:ix l y=i:=wj (ajO.mp d).2 h;unfold ix at c ⊢;rw[List.findIdx_cons,b];show l.findIdx _+ 1=i+ 1;rw[c]
def Je {come:Zh}(b:come.Nodup)(h:n∈come):come[ix come n]?\n:=by let⟨i,a⟩:=aj1 h;rw[wj b a];rwa[a]
def wm {come t:Zh}(b:(come++t).Nodup)(h:n∈come):ix (come++t) n=ix come n:=by
 let⟨i,a⟩:=aj1 h;let c:(come++t)[i]?\n:=by rw[ajd (ai4.mp a).1];rwa[a]
 rw[wj b c,wj (aj0.mp b).1 a]
def gj (f:Nat->Nat->Nat)(k:Nat)(come:Zh):Za3:=come.map λx=>(~~~k).map λi=>((ix come (f i x):Nat):Int)
def Jf {come:Zh}(h:n∉come):ix (come++[n]) n=⇑come:=by
 induction come with
 |nil=>unfold ix;rw[alp,List.findIdx_cons];simp
 |cons a l b=>
  rw[ajs,not_or]at h;let c:(a==n)=false:=by rw[ajA];rwa[λe=>h.1 e.symm]
  have:=b h.2;unfold ix at this ⊢
  cbv
def kg (f:Nat->Nat->Nat)(k a n:Nat):Za3:=((bj f k a n).take n).map λx=>(~~~k).map λi=>((ix (bj f k a n) (f i x):Nat):Int)
def zt (f:Nat->Nat->Nat)(k a:Nat):kg f k a 0=[]:=rfl
def zu {f:Nat->Nat->Nat}{k x:Nat}(h:(bj f k n m)[m]?\x):kg f k n (m+ 1)=kg f k n m++[(~~~k).map λi=>((ix (bj f k n (m+ 1)) (f i x):Nat):Int)]:=by
 let⟨t,e⟩:=u9 f k n m;let b:=hX f k n (m+ 1);let q:=(ai4.mp h).1
 let l:(bj f k n (m+ 1)).take (m+ 1)=(bj f k n m).take m++[x]:=by rw[e,List.take_append_of_le_length ∅,akf,h];rfl
 unfold kg;rw[l,ajt]
 congr 1
 rwa[aj5 λc o=>?_]
 rwa[aj5 λi p=>?_]
 let⟨j,d⟩:=aj1 o
 let a:j<m:=by have:=(ai4.mp d).1;rw[ajD]at this;ext
 rw[akU a]at d;let g:=lE a d (ajJ.mp p);rw[e]at b ⊢;rw[wm b g]
def BL {f:Nat->Nat->Nat}{k:Nat}(h:⇑(bj f k n m)=m):kg f k n m=gj f k (bj f k n m):=by
 unfold kg gj
 cbv
end M24
namespace M55
open M11 M24
theorem zv {f:Nat->Nat->Nat}{x:Nat}{come:Zh}{m:Nat}:∀n,∃t,dP f x come (m+ n)=dP f x come m++t
 |0=>⟨[],(ajm _).symm⟩
 |n+ 1=>by let⟨t,b⟩:=zv (m:=m) n;let⟨u,a⟩:=EG (dP f x come (m+ n)) (f (m+ n) x);rwa[t++u,by rw[<-Nat.add_assoc,jx,a,b,ajK]]
section
variable {f:Nat->Nat->Nat}{k N:Nat}
theorem Jg {x:Nat}(h:(bj f k 0 n)[n]?\x){E:Zg}(g:⇑E=n* k)(l:M12.Fc k E ⇑(bj f k 0 n)):∀m,m<=k->M12.Fc k (E++(~~~m).map λi=>((ix (bj f k 0 (n+ 1)) (f i x):Nat):Int)) ⇑(dP f x (bj f k 0 n) m)
 |0,_=>by rw[List.range_zero,List.map_nil,ajm];rwa[l]
 |m+ 1,p=>by
  let j:=Jg h g l m ∅;let a:=hX f k 0 (n+ 1);let⟨t,b⟩:=zv (f:=f) (x:=x) (come:=bj f k 0 n) (m:=m+ 1) (k - (m+ 1));rw[show m+ 1+ (k - (m+ 1))=k by ext,<-fO h]at b;rw[aj3,ajt,<-ajK,List.map_singleton];generalize e:bj f k 0 (n+ 1)=O at *;let r:=(ai4.mp h).1;let⟨u,o⟩:=qk f x (bj f k 0 n) m;let hlen:n<⇑(dP f x (bj f k 0 n) m):=by rw[o,ai3];ext
  rw[jx]at b ⊢;cases c:f m x∈dP f x (bj f k 0 n) m
  ·let d:add (dP f x (bj f k 0 n) m) (f m x)=dP f x (bj f k 0 n) m:=by unfold add;rw[ajn c]
   rw[d]at b ⊢;rw[b]at a;let q:=wm a c;let lt:=(ai4.mp (Je (aj0.mp a).1 c)).1;rw[show ix O (f m x)=ix (dP f x (bj f k 0 n) m) (f m x) by rw[b];rwa[q]];rwa[j.old lt]
  ·let d:add (dP f x (bj f k 0 n) m) (f m x)=dP f x (bj f k 0 n) m++[f m x]:=by unfold add;rw[ajk c]
   rw[d]at b ⊢;rw[b]at a;let q:=wm a (ajf (dP f x (bj f k 0 n) m) aji);rw[show ix O (f m x)=⇑(dP f x (bj f k 0 n) m) by rw[b,q];rwa[Jf c],ai3];rwa[j.new ∅ ?_];rw[ai3,ai6,ajP,g];have:(n+ 1)* k<=⇑(dP f x (bj f k 0 n) m)* k:=akm _ hlen;rw[alz]at this;ext
theorem U2 (d:⇑(bj f k 0 N)=N):∀n,n<=N->(kg f k 0 n).flatten.length=n* k/\M12.Fc k (kg f k 0 n).flatten ⇑(bj f k 0 n)
 |0,_=>⟨by rw[zt,amw];rfl,[zt,u6]▸M12.Fc.zero k⟩
 |n+ 1,i=>by
  let⟨c,g⟩:=U2 d n ∅
  let a:∃x,(bj f k 0 n)[n]?\x:=by
   cases e:(bj f k 0 n)[n]? with
   |some x=>rwa[x,2]
   |none=>
    exfalso
    let h:=alZ.mp e
    have:∀m,(bj f k 0 (n+ m))=bj f k 0 n:=λm=>by
     induction m with
     |zero=>rfl
     |succ m b=>rw[<-Nat.add_assoc,mq ([b]▸alZ.mpr ∅),b]
    have:=this (N - n);rw[show n+ (N - n)=N by ext]at this;rw[this]at d;ext
  let⟨x,a⟩:=a;rw[zu a,List.flatten_append,List.flatten_singleton];erw[by rw[ai3,c,ai6,ajP,alz,Nat.one_mul]];have:=Jg a c g k (aja _);rw[fO a]at this ⊢;rwa[this]
def fc (a:⇑(bj f k 0 N)=N):M12.Fc k (gj f k (bj f k 0 N)).flatten ⇑(gj f k (bj f k 0 N)):=by have:=(U2 a N (aja _)).2;rw[BL a]at this;unfold gj;rw[ai6];rwa[this]
def BM {come:Zh}(a:j<k)(b:come[i]?\n):nx (gj f k come) j i=ix come (f j n):=by unfold nx gj;rw[ai8 (l:=List.map _ come),ajc,b];show ((((~~~k).map λi=>((ix come (f i n):Nat):Int))).getD j 0).toNat=_;rw[ai8,ajc,akD a];rfl
def qm (c:⇑(bj f k 0 N)=N){j i y:Nat}(b:j<k)(a:(bj f k 0 N)[i]?\y):(bj f k 0 N)[nx (gj f k (bj f k 0 N)) j i]?\(f j y):=by rw[BM b a];rwa[Je (hX _ _ _ N) (lE (by have:=(ai4.mp a).1;omega) a b)]
end
def U4 {f:Nat->Nat->Nat}(l:⇑(bj f (2* n) 0 m)=m)(o:∀x∈bj f (2* n) 0 m,∀j,j<2* n->f (flip j) (f j x)=x)(e:1<=n)(g:n<=40)(q:1<=m)(p:m<=300):Tab n (gj f (2* n) (bj f (2* n) 0 m)):=by
 let hlen:⇑(gj f (2* n) (bj f (2* n) 0 m))=m:=by unfold gj;rw[ai6,l]
 let c:∀i,i<⇑(gj f (2* n) (bj f (2* n) 0 m))->∃y,(bj f (2* n) 0 m)[i]?\y:=λi d=>⟨_,ai1 ∅⟩
 rwa[⟨33,e,g,λi r h=>?_,λi k d a=>?_,λi k d a=>?_,λi k d a=>?_⟩]
 ·unfold gj at h
  cbv
 ·let⟨y,b⟩:=c i d;erw[_,by unfold gj;rw[ajc,b];rfl];rw[BM a b,ajc,akD a];rfl
 ·let⟨y,b⟩:=c i d;have:=(ai4.mp (qm l a b)).1;ext
 ·let⟨y,b⟩:=c i d;rw[BM (ye a) (qm l a b),o y (ai5 b) k a];rwa[wj (hX _ _ _ m) b]
end M55
namespace K64
local macro_rules|`(())=>`(⟨2224244⟩)
open PySem L2
def top (i:Nat):Stmt:=PySem.Challenge.pw_cosetyard_k64_whole_counts_multiply.main.body.getD i (.Pass ⟨(0),(0),(0),(0)⟩)
abbrev wq:Stmt:=top 1
abbrev zx:Stmt:=top 2
abbrev wu:Stmt:=top 4
abbrev wx:Stmt:=top 5
abbrev rZ:Stmt:=top 7
abbrev ny:Stmt:=top 9
abbrev zy:Stmt:=top 10
abbrev qM:Stmt:=top 11
abbrev qN:Stmt:=top 12
abbrev nB:Stmt:=top 13
abbrev ux:Stmt:=top 14
abbrev zz:Stmt:=top 15
abbrev BO:Stmt:=top 21
abbrev oU:Stmt:=top 22
abbrev wy:Stmt:=top 29
abbrev wz:Stmt:=top 30
abbrev wA:Stmt:=top 33
abbrev Oz:Stmt:=top 34
abbrev Jh:Stmt:=top 36
abbrev oV:Stmt:=top 38
abbrev uy:Stmt:=top 39
abbrev oW:Stmt:=top 40
abbrev r6:Stmt:=top 41
abbrev qO:Stmt:=top 42
abbrev r9:Stmt:=top 43
abbrev uz:Stmt:=top 44
abbrev sg:Stmt:=top 45
abbrev qP:Stmt:=top 46
abbrev wB:Stmt:=top 47
abbrev wC:Stmt:=top 48
abbrev OB:Stmt:=top 49
abbrev kL:Stmt:=inClass (top 19) 0
abbrev mw:Stmt:=inClass (top 23) 0
abbrev nF:Stmt:=inClass (top 23) 1
abbrev uA:Stmt:=inClass (top 23) 2
abbrev kM:Stmt:=inClass (top 24) 0
abbrev jy:Stmt:=inClass (top 24) 1
abbrev nH:Stmt:=inClass (top 24) 2
abbrev mx:Stmt:=inClass (top 24) 3
abbrev oX:Stmt:=inClass (top 24) 4
abbrev nJ:Stmt:=inClass (top 24) 5
abbrev oY:Stmt:=inClass (top 24) 6
abbrev qQ:Stmt:=inClass (top 24) 7
abbrev o8:Stmt:=inClass (top 24) 8
abbrev o9:Stmt:=inClass (top 24) 9
abbrev kO:Stmt:=inClass (top 24) 10
abbrev uB:Stmt:=inClass (top 26) 0
abbrev my:Stmt:=inClass (top 32) 0
abbrev sh:Stmt:=inClass (top 32) 1
abbrev uC:Stmt:=inClass (top 32) 2
abbrev wD:Stmt:=inClass (top 32) 3
abbrev qR:Stmt:=inClass (top 32) 4
abbrev mz:Stmt:=inClass (top 32) 5
abbrev qS:Stmt:=inClass (top 32) 6
abbrev lj:Stmt:=inClass (top 32) 7
abbrev si:Stmt:=inClass (top 32) 8
abbrev nK:Stmt:=inClass (top 32) 9
abbrev jP:Stmt:=inClass (top 32) 10
abbrev nL:Stmt:=inClass (top 32) 11
set_option genInjectivity false in
structure uD where
 Gr:Zs
 Gs:FuncData
 Ji:Zs
 Jj:FuncData
 Gu:Zs
 Gv:FuncData
 Gw:Zs
 Gx:FuncData
 BP:Zs
 BQ:FuncData
 wF:Zs
 wG:FuncData
 Jk:Zs
 Jl:FuncData
 zU:Zs
 zV:FuncData
 zW:Zs
 zX:FuncData
 wH:Zs
 wI:FuncData
 Dv:Zs
 Dw:FuncData
 Jm:Zs
 Jn:FuncData
 Mh:Zs
 Mi:FuncData
 yg:Zs
 yh:FuncData
 Gy:Zs
 Gz:FuncData
 GA:Zs
 GB:FuncData
 GC:Zs
 GD:FuncData
 tR:Zs
 tS:FuncData
 Jo:Zs
 Jp:FuncData
 yi:Zs
 yj:FuncData
 Dx:Zs
 Dy:FuncData
 yk:Zs
 yl:FuncData
 BR:Zs
 BU:FuncData
 zY:Zs
 zZ:FuncData
 BV:Zs
 BW:FuncData
 Dz:Zs
 DB:FuncData
 BX:Zs
 BZ:FuncData
 Aa:Zs
 Ab:FuncData
 GF:Zs
 GH:FuncData
 GJ:Zs
 GK:FuncData
 Ys:Zs
 Yt:FuncData
 sj:Zs
 sk:FuncData
 mB:Zs
 va:FuncData
 wJ:Zs
 wL:FuncData
 DC:Zs
 DE:FuncData
 kP:Zs
 sr:FuncData
 pe:Zs
 pf:FuncData
 wM:Zs
 wN:FuncData
 vb:Zs
 vd:FuncData
 ym:Zs
 yn:FuncData
 wO:Zs
 wQ:FuncData
 yo:Zs
 yp:FuncData
 Ac:Zs
 Ad:FuncData
 yq:Zs
 yr:FuncData
 yt:Zs
 yu:FuncData
 su:Zs
 sv:FuncData
 DF:Zs
 DG:FuncData
 mC:Zs
 ve:FuncData
 B1:Zs
 B6:FuncData
 DH:Zs
 DJ:FuncData
 GN:Zs
 GO:FuncData
 Ae:Zs
 Af:FuncData
 vf:Zs
 vg:FuncData
 Ag:Zs
 Ah:FuncData
 t9:Zs
 ua:FuncData
 B7:Zs
 B9:FuncData
 wR:Zs
 wU:FuncData
 qo:Zs
 qp:FuncData
 wV:Zs
 wW:FuncData
 kx:Zs
 bK:Zs
 dv:Zs
 aF:Zs
 aL:Zs
 aI:Zs
set_option genInjectivity false in
structure Txt (K:Za1)(mg:Str->Zl)(A:uD):Prop where
 mD:Def K mg "steps_of" wq ["letters"] A.Gr A.Gs
 yw:Def K mg "thinned" zx ["word"] A.Ji A.Jj
 numbered:Def K mg "numbered" wu ["rooms"] A.Gu A.Gv
 jf:Def K mg "place_of" wx ["step"] A.Gw A.Gx
 qq:Def K mg "least_ways" rZ ["table"] A.BP A.BQ
 iY:Def K mg "inner_letters" ny ["table"] A.wF A.wG
 yx:Def K mg "told_in" zy ["table","room","word"] A.Jk A.Jl
 oi:Def K mg "inner_rules" qM ["table","rules"] A.zU A.zV
 oj:Def K mg "is_tree_way" qN ["ways","room","step","other"] A.zW A.zX
 iZ:Def K mg "inner_numbers" nB ["table"] A.wH A.wI
 nM:Def K mg "places_of" ux ["word"] A.Dv A.Dw
 tT:Def K mg "told_by" zz ["numbers","table","room","places"] A.Jm A.Jn
 walked:Def K mg "walked" BO ["rooms","room","word"] A.Mh A.Mi
 mE:Def K mg "first_places" oU ["rules"] A.yg A.yh
 vh:Def K mg "order_by" wy ["name"] A.Gy A.Gz
 p6:Def K mg "first_of" wz ["rooms","some"] A.GA A.GB
 qu:Def K mg "all_gaps" wA ["letters"] A.GC A.GD
 own:Def K mg "own" Oz ["value"] A.tR A.tS
 fill:DDef K mg "fill" Jh ["letters","rules","part","limit","order"] A.Jo A.Jp (tx [114,111,111,109,115])
 bX:Def K mg "_law_cell_at" oV ["_law_script","_law_k"] A.yi A.yj
 nP:Def K mg "_law_step" uy ["_law_number","_law_letters"] A.Dx A.Dy
 mF:Def K mg "_law_turning" oW ["_law_number","_law_many","_law_plain"] A.yk A.yl
 lF:Def K mg "_law_moved" r6 ["_law_turns","_law_point","_law_word"] A.BR A.BU
 ky:Def K mg "_law_rounds" qO ["_law_turns","_law_points","_law_word"] A.zY A.zZ
 qv:Def K mg "_law_rules" r9 ["_law_turns","_law_letters","_law_mask","_law_room"] A.BV A.BW
 sx:Def K mg "_law_part" uz ["_law_script","_law_turns","_law_letters","_law_first"] A.Dz A.DB
 qw:Def K mg "_law_group" sg ["_law_script"] A.BX A.BZ
 iR:Def K mg "_law_filled" qP ["_law_letters","_law_rules_here","_law_part_here"] A.Aa A.Ab
 mG:Def K mg "_law_led" wB ["_law_table","_law_room","_law_word"] A.GF A.GH
 vi:Def K mg "_law_way" wC ["_law_table","_law_goal"] A.GJ A.GK
 law:Def K mg "law" OB ["_law_script"] A.Ys A.Yt
 dQ:MDef K A.bK "__init__" "TooMany.__init__" kL ["self","made","rows"] A.sj A.sk
 gk:MDef K A.aL "__init__" "Going.__init__" mw ["self","which","word","start"] A.mB A.va
 kZ:MDef K A.aL "advance" "Going.advance" nF ["self","rooms"] A.wJ A.wL
 sC:MDef K A.aL "row" "Going.row" uA ["self","rooms"] A.DC A.DE
 eY:MDef K A.aI "__init__" "Closing.__init__" kM ["self","rooms","rules","part"] A.kP A.sr
 fh:MDef K A.aI "begin_rules" "Closing.begin_rules" jy ["self","room"] A.pe A.pf
 i3:MDef K A.aI "begin" "Closing.begin" nH ["self","which","word","room"] A.wM A.wN
 iB:MDef K A.aI "settle" "Closing.settle" mx ["self"] A.vb A.vd
 mH:MDef K A.aI "make" "Closing.make" oX ["self","room","step"] A.ym A.yn
 k6:MDef K A.aI "go_on" "Closing.go_on" nJ ["self","number"] A.wO A.wQ
 jQ:MDef K A.aI "wait" "Closing.wait" oY ["self","number","room","step"] A.yo A.yp
 om:MDef K A.aI "lay" "Closing.lay" qQ ["self","going"] A.Ac A.Ad
 eZ:MDef K A.aI "wake" "Closing.wake" o8 ["self","room","step"] A.yq A.yr
 mI:MDef K A.aI "hear" "Closing.hear" o9 ["self"] A.yt A.yu
 jg:MDef K A.aI "wake_all" "Closing.wake_all" kO ["self","room"] A.su A.sv
 nS:MDef K A.dv "gap" "Order.gap" uB ["self","rooms"] A.DF A.DG
 gn:MDef K A.aF "__init__" "Rooms.__init__" my ["self","letters"] A.mC A.ve
 qx:MDef K A.aF "make" "Rooms.make" sh ["self","room","step"] A.B1 A.B6
 sD:MDef K A.aF "lay" "Rooms.lay" uC ["self","room","step","other","row"] A.DH A.DJ
 hY:MDef K A.aF "by" "Rooms.by" wD ["self","room","step"] A.GN A.GO
 gS:MDef K A.aF "elder" "Rooms.elder" qR ["self","room"] A.Ae A.Af
 iC:MDef K A.aF "standing" "Rooms.standing" mz ["self"] A.vf A.vg
 kz:MDef K A.aF "paper" "Rooms.paper" qS ["self"] A.Ag A.Ah
 jR:MDef K A.aF "first_gap" "Rooms.first_gap" lj ["self","room"] A.t9 A.ua
 lG:MDef K A.aF "keep" "Rooms.keep" si ["self","room","step","other"] A.B7 A.B9
 k8:MDef K A.aF "take_in" "Rooms.take_in" nK ["self","way","pending"] A.wR A.wU
 fF:MDef K A.aF "put_together" "Rooms.put_together" jP ["self","room","step","one","other","pending"] A.qo A.qp
 k9:MDef K A.aF "put_off" "Rooms.put_off" nL ["self","room","pending"] A.wV A.wW
 gT:mg "enumerate"=none
 Yu:mg "min"=none
 Yv:mg "max"=none
 eT:mg "range"=none
 cV:mg "len"=none
 pk:mg "tuple"=none
 jS:mg "list"=none
 mJ:mg "isinstance"=none
 adX:mg "bool"=none
 Yw:mg "int"=none
 Jq:mg "dict"=none
 Yx:mg "zip"=none
 Yy:mg "abs"=none
 DK:mg "YardError"=some ↑A.kx
 zA:mg "TooMany"=some ↑A.bK
 Rl:mg "Order"=some ↑A.dv
 Rm:mg "Rooms"=some ↑A.aF
 Rn:mg "Going"=some ↑A.aL
 Jr:mg "Closing"=some ↑A.aI
 Mj:plainGet K A.aF Str.empty=true
 Ml:hasDictIn K A.aF=true
 Mm:plainOver K A.aF=true
 Mp:findIn K ↑A.aF "__setattr__"=some (some (.builtin "object.__setattr__"))
 vj:makesIn K A.aF=true
 Mq:keepIn K ↑A.aF=true
 sE:findIn K ↑A.aF "letters"=some none
 pz:findIn K ↑A.aF "made"=some none
 sF:findIn K ↑A.aF "rows"=some none
 iS:findIn K ↑A.aF "ways"=some none
 sG:findIn K ↑A.aF "gaps"=some none
 jh:findIn K ↑A.aF "elders"=some none
 mK:findIn K ↑A.aF "called"=some none
 sH:findIn K ↑A.aF "went"=some none
 Mr:plainGet K A.aL Str.empty=true
 Ms:hasDictIn K A.aL=true
 Mt:plainOver K A.aL=true
 Mu:findIn K ↑A.aL "__setattr__"=some (some (.builtin "object.__setattr__"))
 vk:makesIn K A.aL=true
 Mw:keepIn K ↑A.aL=true
 Ca:findIn K ↑A.aL "which"=some none
 jz:findIn K ↑A.aL "word"=some none
 qy:findIn K ↑A.aL "start"=some none
 gI:findIn K ↑A.aL "front"=some none
 e8:findIn K ↑A.aL "first"=some none
 gU:findIn K ↑A.aL "rear"=some none
 iD:findIn K ↑A.aL "last"=some none
 GP:plainGet K A.aI Str.empty=true
 GQ:hasDictIn K A.aI=true
 GR:plainOver K A.aI=true
 GU:findIn K ↑A.aI "__setattr__"=some (some (.builtin "object.__setattr__"))
 qz:makesIn K A.aI=true
 GV:keepIn K ↑A.aI=true
 e9:findIn K ↑A.aI "rooms"=some none
 Cb:findIn K ↑A.aI "rules"=some none
 jA:findIn K ↑A.aI "goings"=some none
 kQ:findIn K ↑A.aI "agenda"=some none
 jT:findIn K ↑A.aI "waiting"=some none
 mM:findIn K ↑A.aI "heard"=some none
 Mx:plainGet K A.dv Str.empty=true
 My:hasDictIn K A.dv=true
 Mz:plainOver K A.dv=true
 MA:findIn K ↑A.dv "__setattr__"=some (some (.builtin "object.__setattr__"))
 MB:makesIn K A.dv=true
 MC:keepIn K ↑A.dv=true
 MD:findIn K ↑A.dv "__init__"=some (some (.builtin "object.__init__"))
 acb:findIn K ↑A.dv "__class__"=some (some (.builtin "object.__class__"))
 acd:mroIn K A.dv (.type "object")\true
 wX:L2.Gn K A.bK=true
 GW:keepIn K ↑A.bK=true
 e_T:exmOne K ↑A.bK ↑A.bK\true
 GX:(PySem.W.clsIn K A.bK).any (λcd=>L2.mj cd.mro)=true
 GY:hasDictIn K A.bK=true
 GZ:findIn K ↑A.bK "__setattr__"=some (some (.builtin "object.__setattr__"))
 G0:findIn K ↑A.bK "__getattribute__"=some (some (.builtin "BaseException.__getattribute__"))
 G3:findIn K ↑A.bK "__getattr__"=some none
 G4:PySem.W.subIn K ↑A.bK (.type "BaseException")\true
 Ro:findIn K ↑A.bK "made"=some none
 Rp:findIn K ↑A.bK "rows"=some none
 ace:specialIn K ↑A.kx "__getattribute__"=some (some (.builtin "type.__getattribute__"))
 acf:PySem.W.readsIn K A.kx (.type "type")=true
 acg:(match PySem.W.findCls K ↑A.kx (.type "type") "__init__" with|some (.val (.builtin i))=>i=="ValueError.__init__" | _=>false)=true
@[inline]def PVN(e:Lean.Term):Lean.MacroM Lean.Term:=if e.raw.isNatLit?.isSome then`(pv $e)else pure e
local macro_rules|`(#[$x,*])=>do
  if x.getElems.size=0 then Lean.Macro.throwUnsupported
  let mut r←`(ai)
  for e in x.getElems.reverse do r←`(ae $(←PVN e) $r)
  return r
local macro_rules(kind:=«term{_}»)|`({$x,*})=>do
  let a:=x.getElems
  let mut r←`(au $(a.back!))
  for e in a.pop.reverse do r←`(ah $e $r)
  return r
local macro_rules|`($x&&&$y)=>do`(bx fz $(←PVN x) $(←PVN y) λ_ _=>rfl)
local macro_rules|`($x|||$y)=>do`(bx bq $(←PVN x) $(←PVN y) λ_ _=>rfl)
local macro_rules|`($x<<<$y)=>do
  let x←PVN x
  if y.raw.isNatLit?=some 0 then`(bD bh rfl $(Lean.mkIdent `T.cV) ajL #[$x])else`(aH $x rfl)
def aJ {A:uD}(T:Txt K M A):lh K A.aF:=⟨T.Mj,T.Ml,T.Mm,T.Mp⟩
def vj {A:uD}(T:Txt K M A):Mk K A.aF A.mC:=⟨T.vj,T.gn.m.at_,T.gn.m.fn,T.Mq⟩
def aP {A:uD}(T:Txt K M A):lh K A.aL:=⟨T.Mr,T.Ms,T.Mt,T.Mu⟩
def vk {A:uD}(T:Txt K M A):Mk K A.aL A.mB:=⟨T.vk,T.gk.m.at_,T.gk.m.fn,T.Mw⟩
def aK {A:uD}(T:Txt K M A):lh K A.aI:=⟨T.GP,T.GQ,T.GR,T.GU⟩
def qz {A:uD}(T:Txt K M A):Mk K A.aI A.kP:=⟨T.qz,T.eY.m.at_,T.eY.m.fn,T.GV⟩
def Cd {A:uD}(T:Txt K M A):lh K A.dv:=⟨T.Mx,T.My,T.Mz,T.MA⟩
def oq:aM ["letters","steps","letter"] ["letters"] (aD wq):=()
def qA:aM ["word","left","step"] ["word"] (aD zx):=()
def fP:aM ["rooms","steps","found","numbers","rows","others","other"] ["rooms"] (aD wu):=()
def DL:aM ["step"] ["step"] (aD wx):=()
def eH:aM ["table","steps","ways","room","row","step","other"] ["table"] (aD rZ):=()
def dR:aM ["table","ways","found","room","row","letter"] ["table"] (aD ny):=()
def G5:aM ["table","room","word"] ["table","room","word"] (aD zy):=()
def dS:aM ["table","rules","numbers","walks","found","room","places","told"] ["table","rules"] (aD qM):=()
def yy:aM ["ways","room","step","other"] ["ways","room","step","other"] (aD qN):=()
def di:aM ["table","numbers","number","way","room","letter","other"] ["table"] (aD nB):=()
def Ce:aM ["word"] ["word"] (aD ux):=()
def jU:aM ["numbers","table","room","places","told","place","number"] ["numbers","table","room","places"] (aD zz):=()
def nT:aM ["rooms","room","word","path","step"] ["rooms","room","word"] (aD BO):=()
def g9:aM ["rules","places","which","rule"] ["rules"] (aD oU):=()
def DM:aM ["name"] ["name"] (aD wy):=()
def ot:aM ["rooms","some","room","step"] ["rooms","some"] (aD wz):=()
def DN:aM ["letters"] ["letters"] (aD wA):=()
def U6:aM ["value"] ["value"] (aD Oz):=()
def lM:aM ["letters","rules","part","limit","order","chosen","rooms","closing","gap"] ["letters","rules","part","limit","order"] (aD Jh):=()
def wY:aM ["_law_script","_law_k"] ["_law_script","_law_k"] (aD oV):=()
def Ci:aM ["_law_number","_law_letters"] ["_law_number","_law_letters"] (aD uy):=()
def fG:aM ["_law_number","_law_many","_law_plain","_law_by","_law_some","_law_turned"] ["_law_number","_law_many","_law_plain"] (aD oW):=()
def i5:aM ["_law_turns","_law_point","_law_word","_law_step_here"] ["_law_turns","_law_point","_law_word"] (aD r6):=()
def gq:aM ["_law_turns","_law_points","_law_word","_law_count","_law_spots"] ["_law_turns","_law_points","_law_word"] (aD qO):=()
def cX:aM ["_law_turns","_law_letters","_law_mask","_law_room","_law_words","_law_k","_law_j","_law_found","_law_word","_law_often"] ["_law_turns","_law_letters","_law_mask","_law_room"] (aD r9):=()
def gu:aM ["_law_script","_law_turns","_law_letters","_law_first","_law_way_here","_law_words","_law_word","_law_cell"] ["_law_script","_law_turns","_law_letters","_law_first"] (aD uz):=()
def cH:aM ["_law_script","_law_plain","_law_many","_law_letters","_law_turns","_law_k","_law_mask","_law_first","_law_rules_here"] ["_law_script"] (aD sg):=()
def iE:aM ["_law_letters","_law_rules_here","_law_part_here","_law_found"] ["_law_letters","_law_rules_here","_law_part_here"] (aD qP):=()
def ou:aM ["_law_table","_law_room","_law_word","_law_step_here"] ["_law_table","_law_room","_law_word"] (aD wB):=()
def fQ:aM ["_law_table","_law_goal","_law_ways","_law_come","_law_at","_law_k","_law_other"] ["_law_table","_law_goal"] (aD wC):=()
def fb:aM ["_law_script","_law_letters","_law_turns","_law_rules_here","_law_part_here","_law_first","_law_whole","_law_table","_law_third","_law_word","_law_cell","_law_end","_law_told"] ["_law_script"] (aD OB):=()
def q9:aM ["self","made","rows"] ["self","made","rows"] (aD kL):=()
def ub:aM ["self","which","word","start"] ["self","which","word","start"] (aD mw):=()
def ji:aM ["self","rooms","room"] ["self","rooms"] (aD nF):=()
def mO:aM ["self","rooms","ahead","behind"] ["self","rooms"] (aD uA):=()
def fi:aM ["self","rooms","rules","part","room","which","word"] ["self","rooms","rules","part"] (aD kM):=()
def fS:aM ["self","room","rule","which"] ["self","room"] (aD jy):=()
def vl:aM ["self","which","word","room"] ["self","which","word","room"] (aD nH):=()
def uc:aM ["self"] ["self"] (aD mx):=()
def wZ:aM ["self","room","step"] ["self","room","step"] (aD oX):=()
def mP:aM ["self","number","going"] ["self","number"] (aD nJ):=()
def jV:aM ["self","number","room","step","steps","numbers"] ["self","number","room","step"] (aD oY):=()
def pA:aM ["self","going","step"] ["self","going"] (aD qQ):=()
def w9:aM ["self","room","step"] ["self","room","step"] (aD o8):=()
def xa:aM ["self"] ["self"] (aD o9):=()
def fj:aM ["self","room","step","elder"] ["self","room"] (aD kO):=()
def Cj:aM ["self","rooms"] ["self","rooms"] (aD uB):=()
def ud:aM ["self","letters"] ["self","letters"] (aD my):=()
def qT:aM ["self","room","step","number"] ["self","room","step"] (aD sh):=()
def sI:aM ["self","room","step","other","row","pending"] ["self","room","step","other","row"] (aD uC):=()
def DP:aM ["self","room","step"] ["self","room","step"] (aD wD):=()
def yz:aM ["self","room"] ["self","room"] (aD qR):=()
def uf:aM ["self"] ["self"] (aD mz):=()
def yA:aM ["self"] ["self"] (aD qS):=()
def kS:aM ["self","room","step"] ["self","room"] (aD lj):=()
def Ai:aM ["self","room","step","other"] ["self","room","step","other"] (aD si):=()
def dU:aM ["self","way","pending","room","step","other","led_to","come_from"] ["self","way","pending"] (aD nK):=()
def eB:aM ["self","room","step","one","other","pending","less","more","number"] ["self","room","step","one","other","pending"] (aD jP):=()
def gJ:aM ["self","room","pending","ways","step","other"] ["self","room","pending"] (aD nL):=()
section
variable {P:Program}{w:World}{K:Za1}{mg:Str->Zl}{base:Heap}{A:uD}
variable (T:Txt K mg A)
def ej {t:Zs}{o:HO}(e:upd H t o=I)(n:H t=none):aq H I/\I t\o:=by subst e;rwa[aq.upd n,aj]
def xc {c:PySem.Const}{p:PySem.Pos}{a:List PySem.Expr}{env:PySem.Env}:PySem.starEach (.Constant c j p::a) env=(false,PySem.eval (.Constant c j p) env)::PySem.starEach a env:=rfl
def Ao (K:Za1):Sp:=λb H Q _=>∃(a:Zs)(ns:Zg),b=[↑a]/\aB K H a (ns.map V.int)/\⇑ns<=63/\∀c,Q (.bl true) c
def bA (n:Nat):Zg:=(~~~n).map M12.st
def tU (n:Nat):⇑(bA n)=n:=by unfold bA;cbv
def pB (h:i<n):(bA n)[i]?\(M12.st i):=by unfold bA;rw[ajc,akD h];rfl
def Rq (i:Nat):bA (2* i)++[1+ (i:Int)]++[-(1+ (i:Int))]=bA (2* (i+ 1)):=by
 let e:2* (i+ 1)=2* i+ 1+ 1:=∅
 rw[e];unfold bA;rw[aj3,aj3,ajt,ajt];let a:M12.st (2* i)=1+ (i:Int):=by unfold M12.st;rw[ajn ∅];ext
 let b:M12.st (2* i+ 1)= -(1+ (i:Int)):=by unfold M12.st;rw[ajk ∅];ext
 show _=(~~~(2* i)).map M12.st++[M12.st (2* i)]++[M12.st (2* i+ 1)];rw[a,b]
def Js (n:Nat):(bA n).Nodup:=by unfold bA;rwa[akG.mpr (List.Pairwise.imp ?_ alD)];intro a b c z;let d:=M12.qi a;rw[z,M12.qi]at d;rwa[c d.symm]
def cM {rs:Zn}(h:rs[i]?\a):jI (rs.map V.ref) (i:Int)\(V.ref a):=ck (by rw[ajc,h];rfl)
def MF:Sp:=λb H Q _=>∃L:Nat,b=[.int L]/\1<=L/\L<=200/\∀l a,aq H a->a l\.lst (ao ((~~~(2* L)).map M12.st))->Q ↑l a
def U9:Sp:=λb H Q _=>∃L:Nat,b=[.int L]/\1<=L/\L<=200/\∀d a,aq H a->H d=none->a d\.dK (gK (bA (2* L)))->Q ↑d a
inductive OD (C:Zs)(vs:Zb)(H:Hp)(Q:VK)(E_:XK):Prop
 |mk (x dx:Zs)(L:Nat):vs=[↑x,.int L]->H x\.ins C dx []->1<=L->L<=200->(∀a H',(∀b o,H b\o->b≠x->H' b\o)->ay C H' x (RS.new L (bA (2* L))) a->(∀b,a.own x b->b=x\/H b=none)->Q .non H')->OD C vs H Q E_
def cZ (a:RA)(r:Zs)(H c:Hp):Prop:=∀b o,¬a.own r b->H b\o->c b\o
inductive Jt (C:Zs)(vs:Zb)(H:Hp)(Q:VK)(E_:XK):Prop
 |mk (r:Zs)(S:RS)(a:RA)(c d:Nat)(z:Int):vs=[↑r,.int c,.int z,.int d]->ay C H r S a->S.Wf->c<S.q->d<S.q->(∀l∈S.ways,⇑l<=100000)->(∀H',cZ a r H H'->ay C H' r (S.keep c z d) a->Q .non H')->Jt C vs H Q E_
inductive Ju (C:Zs)(vs:Zb)(H:Hp)(Q:VK)(E_:XK):Prop
 |mk (r:Zs)(S:RS)(a:RA)(c:Nat)(z:Int):vs=[↑r,.int c,.int z]->ay C H r S a->S.Wf->1<=S.L->S.L<=200->c<S.q->S.q<=100000->⇑S.rows<=1000000->(∀l∈S.ways,⇑l<=100000)->(∀a' H',cZ a r H H'->ay C H' r (S.make c z (bA (2* S.L))) a'->(∀b,a'.own r b->a.own r b\/H b=none)->Q (.int S.q) H')->Ju C vs H Q E_
inductive OG (C:Zs)(vs:Zb)(H:Hp)(Q:VK)(E_:XK):Prop
 |mk (r:Zs)(S:RS)(a:RA)(c:Nat)(z:Int):vs=[↑r,.int c,.int z]->ay C H r S a->c<⇑S.ways->(Q (((S.by c z).map λn:Nat=>V.int (n:Int)).getD .non) H)->OG C vs H Q E_
inductive EI (C:Zs)(vs:Zb)(H:Hp)(Q:VK)(E_:XK):Prop
 |mk (r:Zs)(S:RS)(a:RA)(c e:Nat):vs=[↑r,.int c]->ay C H r S a->S.aY[c]?\e->Q (.int e) H->EI C vs H Q E_
inductive xg (C:Zs)(vs:Zb)(H:Hp)(Q:VK)(E_:XK):Prop
 |mk (r:Zs)(S:RS)(a:RA):vs=[↑r]->ay C H r S a->S.Wf->S.q<=100000->(∀l,H l=none->Q ↑l (upd H l (.lst (ao (nI ((~~~S.q).filter λc=>decide (S.aY[c]?\c)))))))->xg C vs H Q E_
def xh (k:Nat):Sp:=λc H Q _=>∃(v:V)(d:Dt),c=[v]/\bW H k v d/\lZ d/\∀b a,aq H a->bW a k b d->Q b a
inductive EJ (k:Nat)(C:Zs)(vs:Zb)(H:Hp)(Q:VK)(E_:XK):Prop
 |mk (r:Zs)(S:RS)(a:RA):vs=[↑r]->ay C H r S a->⇑S.rows<=1000000->(∀p d,d∈S.rows->bW H 4 ↑p d->bW H k ↑p d)->(∀l ps H',aq H H'->H l=none->H' l\.lst (ps.map V.ref)->Each (λp d=>bW H' 4 ↑p d) ps S.rows->Q ↑l H')->EJ k C vs H Q E_
def Va:Nat->Sp
 |0=>λ_ _ _ _=>False
 |n+ 1=>xh n
def vm {dp lv:Nat}(T:Txt K mg A)(o:dZ P w K mg base (dG P w) lv A.tR A.tS ["value"] (Va dp)):dZ P w K mg base (dG P w) (lv+ 1) A.tR A.tS ["value"] (xh dp):=by
 rwa[T.own.F.okN U6 (λf H Q E h=>?_) (λcw AA G s H f Q E I h=>?_)]
 ·let⟨v,d,rfl,_⟩:=h;rfl
 ·let⟨v,d,rfl,L,u,k⟩:=h
  erw[_,{bP (kA (bD uQ rfl T.mJ alJ #[0,xJ (v:=.ty "tuple") rfl T.pk akY rfl]))
   {bu (dF iW rfl T.pk akY #[fN (fns:=[]) (ixs:=[]) (cl:=[]) rfl (oE (pv 0)) (cu [] rfl True.intro rfl) (λC s H ex=>(pc (hj:=aja _) T.own o I #[0]))])}
   bC,bP (kA (bD uQ rfl T.mJ alJ #[0,xJ (v:=.ty "list") rfl T.jS aky rfl]))
    {lP}
    bC,bP (kA (bD uQ rfl T.mJ alJ #[0,xJ (v:=.ty "dict") rfl T.Jq PyProof.Rows.boot_dict rfl]))
    {lP}
    bC,bu (pv 0)}]
  rwa[hV ?_];intro iI eD U
  let atom:(∃n,v=.int n)\/(∃l,v=.str (tx l))\/∃(a:Zs)(f:Zb)(ds:List Dt)(m:Nat),dp=m+ 1/\v=↑a/\d=.t ds/\(H a\.tup f/\⇑f=⇑ds/\∀(j:Nat)(v:V)(x:Dt),f[j]?\v->ds[j]?\x->bW H m v x):=by
   cases L with
   |i=>exact .inl ⟨12⟩
   |s=>exact .inr (.inl ⟨12⟩)
   |n=>ext u
   |b=>ext u
   |t g M J=>exact .inr (.inr ⟨1111222,g,M,J⟩)
   |l=>ext u
  rcases atom with ⟨n,rfl⟩|⟨l,rfl⟩|⟨a,f,ds,m,rfl,rfl,rfl,B⟩
  ·rwa[⟨_,rfl,_,_,_,_,rfl,.int n,zR K,_,rfl,dI ?_⟩];rwa[⟨1211112,.int n,Bg K,12,dI ?_⟩];rwa[⟨1211112,.int n,Bh K,12,dI ?_⟩];rwa[12,k _ H (λ_ _ e=>e) L]
  ·rwa[⟨1211112,.str (tx l),zS K,12,dI ?_⟩];rwa[⟨1211112,.str (tx l),Bi K,12,dI ?_⟩];rwa[⟨1211112,.str (tx l),Bj K,12,dI ?_⟩];rwa[12,k _ H (λ_ _ e=>e) L]
  ·let⟨g,M,J⟩:=B;obtain⟨hz,p⟩:⇑ds<=100000/\∀x∈ds,lZ x:=by cases u with|t a b=>exact⟨a,b⟩
   rwa[⟨1211112,.tup g,Lc K "tuple",12,eV ?_⟩];erw[12,a,2,⟨_,bG.of g⟩];rwa[m9 ⇑f (λi=>f.getD i .non) (λc v i=>∃x,ds[i]?\x/\lZ x/\bW c m v x) (λH1 c v i s ζ=>by let⟨x,e,hn,q⟩:=ζ;rwa[⟨x,e,hn,q.same s⟩]) ?_ (λi c s2 r=>A1 (bG.of (s2^g)) i r) (λi x c Y s2 r y=>?_) (λc s2=>uP (bG.of (s2^g))) (λi c Rr r s2 Z=>?_) (λD c ys s2 X hl I=>?_)]
   ·rwa[ajl ∅ (show 100000<=sizeLine by decide)]
   ·let⟨e,B⟩:=xS (bG.of (s2^g)) i x Y r y
    cbv
   ·let B:f[i]?\(f.getD i .non):=by rw[ai8,ai1 r];rfl
    let z:ds[i]?\(ds[i]'∅):=ai1 ∅
    rwa[⟨12112,(J i _ _ B z).same s2,p _ (ai5 z),λS H' R q'=>Z S H' R ⟨_,z,p _ (ai5 z),q'⟩⟩]
   ·rwa[⟨D,ys,2,.inl ⟨aB.of aj,λl F=>?_⟩⟩];let N:aq c (upd c D (.lst ys)):=aq.upd X;let O:aq (upd c D (.lst ys)) (upd (upd c D (.lst ys)) l (.tup ys)):=aq.upd F;rwa[k _ _ (s2.trans (N.trans O)) (.t aj ∅ λj v x e1 e2=>?_)];obtain⟨y,e3,-,q⟩:=I j v e1;obtain rfl:y=x:=Za0 (e3.symm.trans e2);rwa[q.same (N.trans O)]
def Jv:dZ P w K mg base (dG P w) 2 A.tR A.tS ["value"] (xh 0):=vm (dp:=0) (lv:=1) T ⟨λ_ _ _ _ h=>h.elim,λ_ _ _ _ _ _ _ _ _ _ _ _ _ h=>h.elim⟩
def Jw:dZ P w K mg base (dG P w) 3 A.tR A.tS ["value"] (xh 1):=vm T (Jv T)
def zB:dZ P w K mg base (dG P w) 4 A.tR A.tS ["value"] (xh 2):=vm T (Jw T)
def oy:T.mD.Ok P w base 1 MF:=by
 rwa[T.mD.on oq (λx F g s H D Q E G h=>?_) (len:=by rintro _ _ _ _ ⟨L,rfl,_⟩;rfl)]
 ·let⟨L,rfl,u,C,k⟩:=h
  erw[_,{bE 1 oq.nd (b9 ai),b8 ajz rfl (kB rfl T.eT #[aw,aO du (pv 0) aw]) (dc 2 oq.nd)
    {aS (cO ajj ajq ajr bJ (pv 1) #[2]),aS (cO ajj ajq ajr bJ (pv 1) #[da cL (pv 2)])},bu (pv 1)}]
  rwa[dN ?_];intro z r;rwa[⟨ajB _,λl j=>?_⟩];let q:aq H (upd H l (.lst [])):=aq.upd j;let p:upd H l (.lst []) l\(.lst (ao (bA (2* 0)))):=aj;change upd H l _=H0 at q p ⊢;erw[121122,(1),(L:Int)+ 1,2,⟨3333⟩]
  let' c:Nat->St->Hp->Prop:=λi m d=>∃v:Zc,m=#v[.int L,↑l,v]/\aq H d/\d l\(.lst (ao (bA (2* i))))
  rwa[jk (lo:=1) (n:=((L:Int)+ 1 - 1).toNat) c ⟨none,2,q,p⟩ ?_ ?_]
  ·rintro i m d I ⟨v,rfl,f,a⟩;dsimp only[dJ];rwa[LJ ?_];intro B y;let t:i<L:=∅
   erw[12,.inl ⟨21,aB.of a⟩,12,l,1122,a,5]
   ·rw[az,tU];rwa[aje (show 2* i<=400 by omega) ⋯]
   erw[12,.inl ⟨21,aB.of aj⟩,1212,l,1122,aj,5]
   ·rw[ai3,az,tU];rwa[aje (show 2* i+ 1<=400 by omega) ⋯]
   erw[12,λb o e=>?_]
   ·rw[ak (av e j),ak (av e j)];rwa[f^e]
   ·rw[aj,<-Rq,ints_app,ints_app];rfl
  ·rintro m d ⟨v,rfl,f,a⟩;rw[show ((L:Int)+ 1 - 1).toNat=L by ext]at a;rwa[12,k l d f a]
def uE:T.qu.Ok P w base 2 U9:=by
 rwa[T.qu.on DN (λY AA n s H vs Q E B h=>?_) (len:=by rintro _ _ _ _ ⟨L,rfl,_⟩;rfl)]
 ·let⟨L,rfl,o,G,k⟩:=h;erw[_,{bu (dF (vO rfl) rfl T.Jq PyProof.Rows.boot_dict #[fN (fns:=[]) (ixs:=[]) (cl:=[]) rfl (cN (pc T.mD (oy T) B #[0])) (cu [] rfl True.intro rfl) (λC s H ex=>(cC #[0,sZ]))])}];rwa[⟨12,L,2,o,G,λl Z s1 j=>⟨l,2,⟨_,aB.of j⟩,5⟩⟩];let hn:⇑(ao ((~~~(2* L)).map M12.st))=2* L:=by rw[az,ai6,ajP]
  rwa[m9 (2* L) (λi=>.int (M12.st i)) (λc v i=>∃p,v=↑p/\c p\.tup [.int (M12.st i),.bl true]) (λZ c v i s ζ=>by let⟨p,e,q⟩:=ζ;rwa[⟨p,e,s^q⟩]) ?_ (λi c s2 f=>jJ (aB.of (s2^j)) i ∅) (λi x c U s2 f y=>?_) (λc s2=>?_) (λi c Rr f s2 X=>?_) (λD c ys s2 S u B=>?_)]
  ·rwa[ajl (show 2* L<=400 by omega) ⋯]
  ·let⟨e,hx⟩:=il (aB.of (s2^j)) i x U ∅ y;erw[e];rw[show (ao ((~~~(2* L)).map M12.st))[i]?=some (.int (M12.st i)) from bT (pB f)]at hx
   cbv
  ·have:=gF (aB.of (K:=K) (s2^j));rw[hn]at this;rwa[this]
  ·rwa[⟨12,(Za4 2),λt R=>X _ _ (aq.upd R) ⟨t,2,aj⟩⟩]
  ·let⟨g,rfl,F⟩:=tK (P:=λi p=>c p\.tup [.int (M12.st i),.bl true]) ys 0 (λi v hv=>[aly]▸B i v hv);let J:aq c (upd c D (.lst (g.map V.ref))):=aq.upd S;rw[ai6]at u;rwa[⟨D,g,gK (bA (2* L)),2,aj,by rw[Ua,tU,u],λi p kv M r=>?_,λd I=>?_⟩]
   ·let f:i<2* L:=by rw[<-u];rwa[(ai4.mp M).1]
    have:=F i p M;rw[aly]at this;unfold gK at r;rw[ajc,pB f]at r;rw[<-Za0 r];rwa[J^this]
   ·let e:iP [] (gK (bA (2* L)))=gK (bA (2* L)):=by rw[y6 _ _ ?_,alp];rw[alp];unfold gK;rw[ajM];rwa[akG.mpr (List.Pairwise.imp (λ{a b} m z=>m (Sum.inl.inj z)) (Js _))]
    rw[e];let O:aq (upd c D (.lst (g.map V.ref))) (upd (upd c D (.lst (g.map V.ref))) d (.dK (gK (bA (2* L))))):=aq.upd I;let N:=s1.trans (s2.trans J);rwa[k d _ (N.trans O) (N.free I) aj]
def gW:T.hY.Ok mg P w base 1 (OG A.aF):=by
 rwa[T.hY.on DP (λf n d s H m Q E j h=>?_)]
 ·let⟨r,S,a,c,z,rfl,h,l,k⟩:=h;let b:=fA j;erw[_,{bu (Lj b ((0<<<1)|||1) (pv 2) ⟨2222⟩)}];let i:S.ways[c]?\(S.way c):=by unfold RS.way;rw[ai8,ai1 l];rfl
  let⟨p,g,e⟩:=h.rW.at i;erw[12,r,_,a.dx,112,h.ins,aJ T,T.iS,iu^_,12,a.aW,11122,aB.of h.hW,cM g,p,2,.inl ⟨_,.inl e⟩,121,eP.k (k:=Sum.inl z) e];rw[kJ];rwa[k]
def iF:T.gS.Ok mg P w base 1 (EI A.aF):=by
 rwa[T.gS.on yz (λd j b s H g Q E i h=>?_)]
 ·let⟨r,S,a,c,e,rfl,h,f,k⟩:=h;erw[_,{bu ((0<<<1)|||1)}];rwa[12,r,_,a.dx,112,h.ins,aJ T,T.jh,jm^_,12,a.aE,11122,aB.of h.hE,ck (bT (jL f)),k]
def pC {c:Nat}(h:c<⇑S.ways):S.ways[c]?\(S.way c):=by unfold RS.way;cbv
def xi {c:Nat}(h:c<⇑S.gaps):S.gaps[c]?\(S.gap c):=by unfold RS.gap;cbv
def Ck (h:∀l∈S.ways,⇑l<=m):⇑(S.way n)<=m:=by
 unfold RS.way;rw[ai8]
 cases e:S.ways[n]? with
 |none=>exact ajB _
 |some l=>exact h l (ai5 e)
def OI (h:O.ws[i]?\b):O.own a b:=.inr (.inr (dz (ai5 h)))
def Yz (h:O.gs[i]?\b):O.own a b:=.inr (.inr (gb (ai5 h)))
def cZ.upd {o:HO}(h:O.own a b):cZ O a H (upd H b o):=λc u d e=>[ak (λz=>d ([z]▸h))]▸e
def cZ.trans (h:cZ O a H I)(d:cZ O a I J):cZ O a H J:=λb u c e=>d b u c (h b u c e)
def qU:T.lG.Ok mg P w base 1 (Jt A.aF):=by
 rwa[T.lG.on Ai (λcw AA F s H vs Q E hr h=>?_)]
 ·let⟨r,S,a,c,d,z,rfl,h,hw,hc,M,Y,k⟩:=h;let j:=fA hr
  erw[_,{j9 j ((0<<<1)|||1) (pv 2) (pv 3) rfl,j9 j ((0<<<1)|||3) (da cL (pv 2)) (pv 1) rfl,aS (uU ((0<<<1)|||1) (pv 2) dm ⟨2222⟩),aS (uU ((0<<<1)|||3) (da cL (pv 2)) dm ⟨2222⟩)}]
  rwa[hV ?_];intro iI eD fq;let⟨p,b,J⟩:=h.rW.at (pC (S:=S) (c:=c) ([hw.w]▸hc));let b1:⇑(S.way c)<=100000:=Ck Y;erw[1212,r,_,a.dx,112,h.ins,aJ T,T.iS,iu^_,12,a.aW,11122,aB.of h.hW,cM b,12,p,12,j7.k (k:=Sum.inl z) J ([Bc]▸aje b1 ⋯)];rw[Bd];let n:ay A.aF _ r (S.cE c z d) a:=h.Bf b (jM (S.way c) z d);let X:cZ a r H (upd H p (.dK (wK (jM (S.way c) z d)))):=cZ.upd (OI b);change upd H p _=G at n X ⊢;let w1:(S.cE c z d).ways.length=S.q:=by show ⇑(S.ways.set c _)=_;rw[aju,hw.w]
  let⟨q,D,B⟩:=n.rW.at (pC (S:=S.cE c z d) (c:=d) ([w1]▸M))
  let b2:⇑((S.cE c z d).way d)<=100001:=Ck λl g=>by
   rcases alg g with g|rfl
   ·rwa[Nat.le_succ_of_le (Y l g)]
   ·rwa[ajl (LD^_) (by omega)]
  rwa[⟨_,rfl,_,rfl,r,_,a.dx,_,_,rfl,n.ins,aJ T,T.iS,iu^_,_,rfl,a.aW,_,_,_,rfl,rfl,aB.of n.hW,cM D,_,rfl,_,rfl,q,_,rfl,j7.k (k:=Sum.inl (-z)) B (by rw[Bc];rwa[aje b2 (by decide)]),?_⟩];rw[Bd];let f:ay A.aF _ r ((S.cE c z d).cE d (-z) c) a:=n.Bf D (jM ((S.cE c z d).way d) (-z) c);let O:cZ a r G (upd G q (.dK (wK (jM ((S.cE c z d).way d) (-z) c)))):=cZ.upd (OI D);change upd G q _=H2 at f O ⊢;generalize U:(S.cE c z d).cE d (-z) c=C at f ⊢;let N:⇑C.gaps=S.q:=by rw[<-U];rwa[hw.g]
  let⟨p3,o,m⟩:=f.rG.at (xi (S:=C) (c:=c) ([N]▸hc))
  let pop:∀{H:Hp}{S:RS}{c:Nat}{z:Int}{p:Zs},ay A.aF H r S a->a.gs[c]?\p->H p\.dK (gK (S.gap c))->∀{Q:V->Hp->Prop},(∀v L,cZ a r H L->ay A.aF L r (S.lB c z) a->Q v L)->
   Li p (.int z) .non H Q:=by
   intro H S c z p h b J Q B
   suffices q:(∀v,bz (gK (S.gap c)) (Sum.inl z)\v->Q v (upd H p (.dK (fe (gK (S.gap c)) (Sum.inl z)))))/\(bz (gK (S.gap c)) (Sum.inl z)=none->Q .non H) from ⟨_,Sum.inl z,J,2,q.1,q.2⟩
   rw[Iu,QK];cases I:z∈S.gap c
   ·rw[ajn I];rwa[λv _=>B _ _ (cZ.upd (Yz b)) (h.Ue b _),λz=>by ext z]
   ·rw[ajk I];rwa[⟨λv z=>(by ext z),λ_=>B _ _ (λ_ _ _ e=>e) ?_⟩];let e:(S.gap c).filter (λx=>decide (x≠z))=S.gap c:=List.filter_eq_self.mpr λx hx=>ajI λz=>I (z ▸ hx)
    let g:c<⇑S.gaps:=by rw[<-h.rG.1];rwa[(ai4.mp b).1]
    have:S.lB c z=S:=by
     unfold RS.lB RS.setG;rw[e]
     let es:S.gaps.set c (S.gap c)=S.gaps:=akO λi=>by
      cases Z:c=i
      ·subst Z;rw[ajE g,xi g]
      ·rw[ajS Z]
     rw[es]
    rw[this];rwa[h]
  rwa[⟨12,r,_,a.dx,112,f.ins,aJ T,T.sG,tH^_,12,a.aG,11122,aB.of f.hG,cM o,p3,2,.inl ⟨_,.inl m⟩,12,pop f o m λv H3 u3 t=>?_⟩];generalize e3:C.lB c z=S3 at t;let g3:⇑S3.gaps=S.q:=by rw[<-e3];show ⇑(C.gaps.set c _)=_;rw[aju,N]
  let⟨p4,y,u⟩:=t.rG.at (xi (S:=S3) (c:=d) ([g3]▸M));rwa[⟨12,r,_,a.dx,112,t.ins,aJ T,T.sG,tH^_,12,a.aG,11122,aB.of t.hG,cM y,p4,2,.inl ⟨_,.inl u⟩,1212,pop t y u λv H4 u4 R=>?_⟩];rwa[k H4 (X.trans (O.trans (u3.trans u4))) ?_];rw[<-e3,<-U]at R;rwa[R]
def ug:T.gn.Ok mg P w base 3 (OD A.aF):=by
 rwa[T.gn.on ud (λcw AA outer s H vs Q E hr h=>?_)]
 ·let⟨x,B,L,rfl,hx,jW,zC,k⟩:=h
  erw[_,{cq (pv 0) (pv 1) rfl,cq (pv 0) aw rfl,cq (pv 0) (b9 ai) rfl,cq (pv 0) (b9 #[fK]) rfl,cq (pv 0) (b9 #[pc T.qu (uE T) hr #[1]]) rfl,cq (pv 0) (b9 #[aw]) rfl,cq (pv 0) (b9 #[b9 #[aw]]) rfl,cq (pv 0) (b9 ai) rfl}]
  rwa[Bl ?_];intro OJ Cm pD mQ iI eD fq
  let st:∀{H0:Hp}{fs:List (Str×V)}{f:Str}{v:V},H0 x\.ins A.aF B fs->(∀b o,H b\o->b≠x->H0 b\o)->upd H0 x (.ins A.aF B (bO f v fs)) x\.ins A.aF B (bO f v fs)/\(∀b o,H b\o->b≠x->upd H0 x (.ins A.aF B (bO f v fs)) b\o)/\∀b o,b≠x->H0 b\o->upd H0 x (.ins A.aF B (bO f v fs)) b\o:=λ_ h=>⟨aj,λb o e n=>[ak n]▸h b o e n,λb o n e=>[ak n]▸e⟩
  erw[1212,x,_,B,12,hx,aJ T,T.sE,(by show 0<1000;decide)];obtain⟨x1,o1,-⟩:=st (f:="letters") (v:=.int L) hx (λb o e _=>e);change upd H x _=H1 at x1 o1 ⊢;let f1:⇑(bO "letters" (.int L) ([]:List (Str×V)))<=1:=jo (n:=0) (aja _);erw[12,x,_,B,12,x1,aJ T,T.pz,aje f1 ⋯];obtain⟨x2,o2,-⟩:=st (f:="made") (v:=.int 1) x1 o1;let f2:=jo (f:="made") (v:=.int 1) f1;generalize e2:bO "made" (.int 1) (bO "letters" (.int L) [])=fs2 at x2 o2 f2 ⊢;change upd H1 x _=H2 at x2 o2 ⊢;rwa[⟨ajB _,λu nR=>⟨12,x,_,B,12,aq.upd nR _ _ x2,aJ T,T.sF,aje f2 ⋯,5⟩⟩];let Y7:upd H2 u (.lst []) u\(.lst []):=aj;let C:u≠x:=(av x2 nR).symm;let s3:=aq.upd (o:=.lst []) nR
  let n0:∀{b:Zs}{H0:Hp},(∀c o,H c\o->c≠x->H0 c\o)->H0 b=none->b≠x->H b=none:=λ{b H0} h n nx=>by
   cases e:H b with
   |none=>rfl
   |some o=>rw[h b o e nx]at n;ext n
  let kR:=n0 o2 nR C;change upd H2 u _=H3 at Y7 s3 ⊢;let⟨x4,o4,k4⟩:=st (f:="rows") (v:=↑u) (s3^x2) (λb o e n=>s3^o2 b o e n);let f4:=jo (f:="rows") (v:=↑u) f2;generalize e4:bO "rows" ↑u fs2=fs4 at x4 o4 f4 k4 ⊢;let Vb:=k4 _ _ C Y7;change upd H3 x _=H4 at x4 o4 Vb ⊢;intro wd Vc;let l:wd≠x:=(av x4 Vc).symm;let Y8:=n0 o4 Vc l;generalize e_:upd H4 wd _=H5;let⟨s5,ach⟩:=ej e_ Vc;rwa[⟨(Za4 1),λG nW=>⟨12,x,_,B,12,aq.upd nW _ _ (s5^x4),aJ T,T.iS,aje f4 ⋯,5⟩⟩];let U:G≠x:=(av (s5^x4) nW).symm;let kW:=n0 (λb o e n=>s5^o4 b o e n) nW U;let nWR:G≠u:=(av (s5^Vb) nW).symm;generalize e_:upd H5 G _=H6;let⟨s6,hW6⟩:=ej e_ nW;let⟨x7,o7,k7⟩:=st (f:="ways") (v:=↑G) (s6^s5^x4) (λb o e n=>s6^s5^o4 b o e n);let f7:=jo (f:="ways") (v:=↑G) f4;generalize e7:bO "ways" ↑G fs4=fs7 at x7 o7 f7 k7 ⊢;let Vd:=k7 _ _ C (s6^s5^Vb);let Ve:=k7 _ _ U hW6;let MG:=k7 _ _ l (s6^ach);change upd H6 x _=H7 at x7 o7 Vd Ve MG ⊢;rwa[⟨12,L,2,jW,zC,λgd H8 s8 Vf aci=>?_⟩];let t:gd≠x:=(av x7 Vf).symm;let kgd:=n0 o7 Vf t;let ngw:gd≠wd:=(av MG Vf).symm;rwa[⟨(Za4 1),λN nG=>⟨12,x,_,B,12,aq.upd nG _ _ (s8^x7),aJ T,T.sG,aje f7 ⋯,5⟩⟩];let Jx:N≠x:=(av (s8^x7) nG).symm;let kG:=n0 (λb o e n=>s8^o7 b o e n) nG Jx;let nGR:N≠u:=(av (s8^Vd) nG).symm;let nGW:N≠G:=(av (s8^Ve) nG).symm;generalize e_:upd H8 N _=H9;let⟨s9,hG9⟩:=ej e_ nG;let⟨x10,OL,Y⟩:=st (f:="gaps") (v:=↑N) (s9^s8^x7) (λb o e n=>s9^s8^o7 b o e n);let Jy:=jo (f:="gaps") (v:=↑N) f7;generalize e10:bO "gaps" ↑N fs7=acj at x10 OL Jy Y ⊢;let MH:=Y _ _ C (s9^s8^Vd);let MJ:=Y _ _ U (s9^s8^Ve);let OO:=Y _ _ l (s9^s8^MG);let MK:=Y _ _ Jx hG9;let OQ:=Y _ _ t (s9^aci);change upd H9 x _=EK at x10 OL MH MJ OO MK OQ ⊢;rwa[⟨4,λI nE=>⟨12,x,_,B,12,aq.upd nE _ _ x10,aJ T,T.jh,aje Jy ⋯,5⟩⟩];let OS:I≠x:=(av x10 nE).symm;let kE:=n0 OL nE OS;let nER:I≠u:=(av MH nE).symm;let nEW:I≠G:=(av MJ nE).symm;let nEG:I≠N:=(av MK nE).symm;generalize e_:upd EK I _=zD;let⟨y,ack⟩:=ej e_ nE;let⟨X,Jz,F⟩:=st (f:="elders") (v:=↑I) (y^x10) (λb o e n=>y^OL b o e n);let Vg:=jo (f:="elders") (v:=↑I) Jy;generalize e12:bO "elders" ↑I acj=acm at X Jz Vg F ⊢;let R:=F _ _ C (y^MH);let J:=F _ _ U (y^MJ);let OU:=F _ _ l (y^OO);let S:=F _ _ Jx (y^MK);let OV:=F _ _ t (y^OQ);let O:=F _ _ OS ack;change upd zD x _=OW at X Jz R J OU S OV O ⊢;rwa[⟨4,λcl r=>⟨(Za4 1),λM nC=>⟨12,x,_,B,12,aq.upd nC _ _ (aq.upd r _ _ X),aJ T,T.mK,aje Vg ⋯,5⟩⟩⟩];let ML:cl≠x:=(av X r).symm;let kcl:=n0 Jz r ML;let ncR:cl≠u:=(av R r).symm;let ncW:cl≠G:=(av J r).symm;let ncG:cl≠N:=(av S r).symm;let ncE:cl≠I:=(av O r).symm;let a:=aq.upd (o:=.lst [.int 0]) r;let z:upd OW cl (.lst [.int 0]) cl\(.lst [.int 0]):=aj;change upd OW cl _=Vh at a z nC ⊢;let Vi:M≠x:=(av (a^X) nC).symm;let kC:=n0 (λb o e n=>a^Jz b o e n) nC Vi;let nCR:M≠u:=(av (a^R) nC).symm;let nCW:M≠G:=(av (a^J) nC).symm;let nCG:M≠N:=(av (a^S) nC).symm;let nCE:M≠I:=(av (a^O) nC).symm;let nCc:M≠cl:=(av z nC).symm;generalize e_:upd Vh M _=Y9;let⟨m,acn⟩:=ej e_ nC;let⟨JA,OX,q⟩:=st (f:="called") (v:=↑M) (m^a^X) (λb o e n=>m^a^Jz b o e n);let f15:=jo (f:="called") (v:=↑M) Vg;generalize JB:bO "called" ↑M acm=aco at JA OX f15 q ⊢;let MN:=q _ _ C (m^a^R);let MP:=q _ _ U (m^a^J);let OY:=q _ _ l (m^a^OU);let MQ:=q _ _ Jx (m^a^S);let OZ:=q _ _ t (m^a^OV);let MR:=q _ _ OS (m^a^O);let D:=q _ _ ML (m^z);let MS:=q _ _ Vi acn;change upd Y9 x _=H15 at JA OX MN MP OY MQ OZ MR D MS ⊢;rwa[⟨ajB _,λZ nN=>⟨12,x,_,B,12,aq.upd nN _ _ JA,aJ T,T.sH,aje f15 ⋯,5⟩⟩];let nxN:Z≠x:=(av JA nN).symm;let kN:=n0 OX nN nxN;let nNR:Z≠u:=(av MN nN).symm;let nNW:Z≠G:=(av MP nN).symm;let nNG:Z≠N:=(av MQ nN).symm;let nNE:Z≠I:=(av MR nN).symm;let nNC:Z≠M:=(av MS nN).symm;let nNc:Z≠cl:=(av D nN).symm;generalize e_:upd H15 Z _=H16;let⟨g,acp⟩:=ej e_ nN;let⟨x17,o17,j⟩:=st (f:="went") (v:=↑Z) (g^JA) (λb o e n=>g^OX b o e n)
  let ef:bO "went" ↑Z aco=fL (L:Int) 1 ⟨B,u,G,N,I,M,Z,[],[wd],[gd],[cl]⟩:=by
   rw[<-JB,<-e12,<-e10,<-e7,<-e4,<-e2]
   kernel_rfl
  rw[ef]at x17 o17 j ⊢;rwa[k ⟨B,u,G,N,I,M,Z,[],[wd],[gd],[cl]⟩ _ o17 ⟨x17,j _ _ C (g^MN),j _ _ U (g^MP),j _ _ Jx (g^MQ),j _ _ OS (g^MR),j _ _ Vi (g^MS),j _ _ nxN acp,⟨2,(λi p d h=>by simp at h)⟩,555,(λd hd=>by ext hd),55⟩ ?_]
  ·rwa[Each.snoc (ps:=[]) (xs:=[]) ⟨2,λi p d h=>by simp at h⟩ (j _ _ l (g^OY))]
  ·rwa[Each.snoc (ps:=[]) (xs:=[]) ⟨2,λi p d h=>by simp at h⟩ (j _ _ t (g^OZ))]
  ·rwa[Each.snoc (ps:=[]) (xs:=[]) ⟨2,λi p d h=>by simp at h⟩ (j _ _ ML (g^D))]
  ·show [u,G,N,I,M,Z,cl].Nodup;simp only[ajO,ajs,ajR,akW,not_or,akQ,and_true,als]
   cbv
  ·show [wd,gd].Nodup;simp only[ajO,ajs,ajR,akW,akQ,and_true,als];rwa[ngw.symm]
  ·intro b hb;rcases hb with rfl|hb|hb
   ·rwa[.inl rfl]
   ·simp only[RA.lists,ajs,ajR,akW]at hb
    cbv
   ·simp only[RA.eQ,ajh,ajs,ajR,akW]at hb
    cbv
def _root_.Lake.L2.ay.Cp (h:ay a H b S O){p:Zs}(c:H p=none):¬O.own b p:=λz=>by
 let⟨o,e⟩:=h.there z
 cbv
def Aj:T.qx.Ok mg P w base 3 (Ju A.aF):=by
 rwa[T.qx.on qT (λcw AA outer s H vs Q E hr h=>?_)]
 ·let⟨r,S,a,c,z,rfl,h,hw,jW,zC,hc,hm,pE,hz,k⟩:=h
  erw[_,{bE 3 qT.nd (0<<<1),cq (pv 0) (aO du (pv 3) aw) rfl,aS (cO ajj ajq ajr bJ (0<<<1) #[cC #[oF (l:=[110,101,119]) rfl,1,2,3]]),aS (cO ajj ajq ajr bJ (0<<<1) #[fK]),aS (cO ajj ajq ajr bJ (0<<<1) #[pc T.qu (uE T) hr #[0<<<1]]),aS (cO ajj ajq ajr bJ (0<<<1) #[3]),aS (cO ajj ajq ajr bJ (0<<<1) #[b9 #[3]]),aS (pm (pv 0) (aJ T) T.lG (qU T) hr #[1,2,3]),bu (pv 3)}]
  rwa[LK ?_];intro u_8 OJ Cm pD mQ iI eD fq;erw[12,r,_,a.dx,112,h.ins,aJ T,T.pz,tF^_];erw[12112212,r,_,a.dx,12,h.ins,aJ T,T.pz,(by show 8<1000;decide)];rw[Iv,show (S.q:Int)+ 1=((S.q+ 1:Nat):Int) by ext];let h1:=h.QL (S.q+ 1);let u1:cZ a r H (upd H r (.ins A.aF a.dx (fL S.L ((S.q+ 1:Nat):Int) a))):=cZ.upd (.inl rfl);change upd H r _=H1 at h1 u1 ⊢;let lR:⇑(a.rs.map V.ref)<sizeLine:=by rw[ai6,h.rR.1];rwa[aje pE ⋯]
  rwa[⟨12,r,_,a.dx,112,h1.ins,aJ T,T.sF,tG^_,.inl ⟨21,aB.of h1.hR⟩,121212,(Za4 4),λt ht=>⟨a.aR,1122,aq.upd ht _ _ h1.hR,lR,5⟩⟩];generalize e_:upd H1 t _=H2;let⟨s2,ht2⟩:=ej e_ ht
  let hd2:bW H2 4 ↑t (rK c z S.q):=by
   rwa[.t ht2 rfl λj v d q F=>?_]
   rcases j with _|_|_|_|j
   ·simp at q F;subst q F;rwa[.s]
   ·simp at q F;subst q F;rwa[.i]
   ·simp at q F;subst q F;rwa[.i]
   ·simp at q F;subst q F;rwa[.i]
   ·simp at q
  let nl:lZ (rK c z S.q):=.t (by show 4<=100000;decide) λd hd=>by
   simp only[ajs,ajR,akW]at hd;rcases hd with rfl|rfl|rfl|rfl
   ·rwa[.s]
   ·rwa[.i]
   ·rwa[.i]
   ·rwa[.i]
  let B:=(h1.same s2).Be hd2 nl;let u3:cZ a r H2 (upd H2 a.aR (.lst (a.rs.map V.ref++[↑t]))):=cZ.upd (.inr (.inl fV));change upd H2 a.aR _=H3 at B u3 ⊢;generalize N:({ a with rs:=a.rs++[t] }:RA)=n at B;let U:∀b,n.own r b->a.own r b:=λb f=>by rw[<-N]at f;rwa[f]
  let ahH:∀b,a.own r b->n.own r b:=λb f=>by rw[<-N];rwa[f]
  let ewG:n.dx=a.dx:=by rw[<-N]
  let U3:cZ a r H H3:=u1.trans (λb o f e=>u3 b o f (s2^e));erw[12,r,_,n.dx,112,B.ins,aJ T,T.iS,iu^_,.inl ⟨21,aB.of B.hW⟩];intro wd u;let hdW:⇑(n.ws.map V.ref)<sizeLine:=by rw[ai6,B.rW.1];show ⇑S.ways<sizeLine;rw[hw.w];rwa[aje hm ⋯]
  let s4:=aq.upd (o:=.dK []) u;let I:upd H3 wd (.dK []) wd\(.dK (wK [])):=aj;let acq:=B.Cp u;erw[n.aW,1122,s4^B.hW,hdW];change upd H3 wd _=H4 at s4 I ⊢;let C:=(B.same s4).Uc I (λz=>acq (.inr (.inr z)));let u5:cZ n r H4 (upd H4 n.aW (.lst (n.ws.map V.ref++[↑wd]))):=cZ.upd (.inr (.inl fW));change upd H4 n.aW _=H5 at C u5 ⊢;generalize ea5:({ n with ws:=n.ws++[wd] }:RA)=m at C
  let ahR:∀b,m.own r b->n.own r b\/b=wd:=λb f=>by
   rw[<-ea5]at f;rcases f with f|f|f
   ·rwa[.inl (.inl f)]
   ·rwa[.inl (.inr (.inl f))]
   ·simp only[RA.eQ,ajh,ai9]at f;rcases f with (f|f)|f
    ·rwa[.inl (.inr (.inr (ajx _ f)))]
    ·rwa[.inr f]
    ·rwa[.inl (.inr (.inr (ajf _ f)))]
  let Y8:H wd=none\/a.own r wd:=by
   cases y:a.own r wd
   ·rwa[.inr y]
   ·rwa[.inl ?_]
    cases e:H wd with
    |none=>rfl
    |some o=>rw[U3 wd o y e]at u;ext u
  let U5:cZ a r H H5:=U3.trans λb o f e=>u5 b o (λz=>f (U b z)) (s4^e)
  rwa[⟨12,r,_,m.dx,112,C.ins,aJ T,T.sG,tH^_,.inl ⟨21,aB.of C.hG⟩,12,r,_,m.dx,112,C.ins,aJ T,T.sE,vP^_,S.L,2,jW,zC,λx H6 s6 L R=>?_⟩];let hdG:⇑(m.gs.map V.ref)<sizeLine:=by rw[ai6,C.rG.1];show ⇑S.gaps<sizeLine;rw[hw.g];rwa[aje hm ⋯]
  let h6:=C.same s6;let acr:=C.Cp L;erw[m.aG,1122,h6.hG,hdG];let O:=h6.Ud R (λz=>acr (.inr (.inr z)));let u7:cZ m r H6 (upd H6 m.aG (.lst (m.gs.map V.ref++[↑x]))):=cZ.upd (.inr (.inl iX));change upd H6 m.aG _=H7 at O u7 ⊢;generalize ea7:({ m with gs:=m.gs++[x] }:RA)=g at O
  let ahS:∀b,g.own r b->m.own r b\/b=x:=λb f=>by
   rw[<-ea7]at f;rcases f with f|f|f
   ·rwa[.inl (.inl f)]
   ·rwa[.inl (.inr (.inl f))]
   ·simp only[RA.eQ,ajh,ai9]at f;rcases f with f|f|f
    ·rwa[.inl (.inr (.inr (ajx _ f)))]
    ·rwa[.inl (.inr (.inr (ajf _ f)))]
    ·rwa[.inr f]
  let w5:H wd=none\/a.own r wd:=Y8
  let acs:∀b o,¬a.own r b->H b\o->¬m.own r b:=λb o f e z=>by cbv
  let U7:cZ a r H H7:=λb o f e=>u7 b o (acs b o f e) (s6^U5 b o f e)
  let kgd:H x=none\/a.own r x:=by
   cases y:a.own r x
   ·rwa[.inr y]
   ·rwa[.inl ?_]
    cases e:H x with
    |none=>rfl
    |some o=>rw[U5 x o y e]at L;ext L
  erw[12,r,_,g.dx,112,O.ins,aJ T,T.jh,jm^_,.inl ⟨21,aB.of O.hE⟩,12,g.aE,1122,O.hE,5]
  ·rw[az,cD];show ⇑S.aY<sizeLine;rw[hw.e];rwa[aje hm ⋯]
  let eE:ao (nI S.aY)++[V.int (S.q:Int)]=ao (nI (S.aY++[S.q])):=by rw[iQ,ints_app];rfl
  show _;let G:=O.y7 (S.aY++[S.q]);rw[<-eE]at G;let u8:cZ g r H7 (upd H7 g.aE (.lst (ao (nI S.aY)++[V.int (S.q:Int)]))):=cZ.upd (.inr (.inl gG));change upd H7 g.aE _=H8 at G u8 ⊢
  let D:∀b o,¬a.own r b->H b\o->¬g.own r b:=λb o f e z=>by cbv
  let U8:cZ a r H H8:=λb o f e=>u8 b o (D b o f e) (U7 b o f e)
  rwa[⟨12,r,_,g.dx,112,G.ins,aJ T,T.mK,m7^_,.inl ⟨21,aB.of G.hC⟩,12,(Za4 1),λcl p=>⟨g.aC,1122,aq.upd p _ _ G.hC,55⟩⟩]
  ·rw[ai6,G.rC.1];show ⇑S.called<sizeLine;rw[hw.c];rwa[aje hm ⋯]
  generalize e_:upd H8 cl _=H9;obtain⟨s9,X⟩:_/\_\(.lst (ao (nI [S.q]))):=ej e_ p;let Z:=G.Cp p;let M:=(G.same s9).Iw X (λz=>Z (.inr (.inl z)));let Y:cZ g r H9 (upd H9 g.aC (.lst (g.cs.map V.ref++[↑cl]))):=cZ.upd (.inr (.inl iA));change upd H9 g.aC _=EK at M Y ⊢;generalize acu:({ g with cs:=g.cs++[cl] }:RA)=i at M
  let ahI:∀b,i.own r b->g.own r b\/b=cl:=λb f=>by
   rw[<-acu]at f;rcases f with f|f|f
   ·rwa[.inl (.inl f)]
   ·let O6:b∈g.lists++[cl]:=f;rcases ajh.mp O6 with f|f
    ·rwa[.inl (.inr (.inl f))]
    cbv
   ·rwa[.inl (.inr (.inr f))]
  let kcl:H cl=none\/a.own r cl:=by
   cases y:a.own r cl
   ·rwa[.inr y]
   ·rwa[.inl ?_]
    cases e:H cl with
    |none=>rfl
    |some o=>rw[U8 cl o y e]at p;ext p
  let J:∀b o,¬a.own r b->H b\o->¬i.own r b:=λb o f e z=>by cbv
  let U10:cZ a r H EK:=λb o f e=>Y b o (D b o f e) (s9^U8 b o f e)
  let hS:ay A.aF EK r (S.grown c z (bA (2* S.L))) i:=M;rwa[⟨12,r,i.dx,12,hS.ins,cS _ _ _ ⋯,121212,r,S.grown c z (bA (2* S.L)),i,c,S.q,z,2,hS,⟨5555⟩,555,λzD u11 h11=>?_⟩]
  ·show ⇑(S.ways++[[]])=S.q+ 1;rw[ai3,hw.w];rfl
  ·show ⇑(S.gaps++[_])=S.q+ 1;rw[ai3,hw.g];rfl
  ·show ⇑(S.aY++[_])=S.q+ 1;rw[ai3,hw.e];rfl
  ·show ⇑(S.called++[_])=S.q+ 1;rw[ai3,hw.c];rfl
  ·show c<S.q+ 1;ext
  ·show S.q<S.q+ 1;ext
  ·intro l hl;rcases ajh.mp hl with hl|hl
   ·rwa[hz l hl]
   cbv
  ·rwa[⟨_,rfl,k i zD (λb o f e=>u11 b o (J b o f e) (U10 b o f e)) h11 λb f=>?_⟩]
   cbv
def lu:T.iC.Ok mg P w base 1 (xg A.aF):=by
 rwa[T.iC.on uf (λo v g s H u Q E y h=>?_)]
 ·let⟨r,S,a,rfl,h,hw,q,k⟩:=h;erw[_,{bu (Gh (fns:=["self"]) (ixs:=[0]) (cl:=_) rfl (jj rfl T.eT #[0<<<1]) (cu [(_,_)] rfl ⟨22222,True.intro⟩ rfl) (λC s H ex=>(bf fU (bx (Ba (K:=K) rfl) (QN (K:=K) rfl (pv 1) rfl) (pv 0) (λ_ _=>rfl)) (pv 0) (bp _))) (λC s H ex=>(pv 0)) (by intro _;rfl))}];erw[12,r,_,a.dx,112,h.ins,aJ T,T.pz,tF^_,(S.q:Int),233];rw[ajG];erw[λi m ys j=>m=S.q - i/\i<=S.q/\ys=ao (nI ((~~~i).filter λc=>decide (S.aY[c]?\c)))/\j=H,⟨S.q,by simp,ajB _,22⟩];rintro i m ys j ⟨rfl,B,rfl,rfl⟩
  let hlen:⇑(ao (nI ((~~~i).filter λc=>decide (S.aY[c]?\c))))<=i:=by rw[az,cD];rwa[ajl (alc _ _) (by cbv)]
  cases b:i<S.q
  ·rwa[.inr ⟨b,5,λx t f=>?_⟩]
   ·rwa[aje (ajl hlen (show i<=100000 by omega)) ⋯]
   let⟨rfl,rfl⟩:=f;let l:S.aY[i]?\(S.aY[i]'([hw.e]▸b)):=ai1 _
   change S.aY[i]'(by cbv)=e at l;erw[12,r,_,a.dx,112,h.ins,aJ T,T.jh,jm^_,12,a.aE,11122,aB.of h.hE,([Int.zero_add]▸ck (bT (jL l)))];erw[12212];cases d:e=i
   ·subst d;rw[show decide (V.int (e:Int)=V.int (0+ (e:Int)))=true from ajI (by rw[Int.zero_add])];rwa[⟨12,S.q - (e+ 1),32,b,52⟩];rw[aj3,List.filter_append,amj (by cbv),List.filter_nil,iQ,ints_app,Int.zero_add];rfl
   ·rw[show decide (V.int (e:Int)=V.int (0+ (i:Int)))=false from ajV (λz=>d (by injection z with z;omega))];rwa[⟨S.q - (i+ 1),32,b,52⟩];rw[aj3,List.filter_append,List.filter_cons_of_neg (by cbv),List.filter_nil,ajm]
  ·let e:i=S.q:=∅
   subst e;rwa[.inl ⟨aja _,ajl hlen (ajl q ⋯),λD n=>k D n⟩]
def pF:T.kz.Ok mg P w base 5 (EJ 2 A.aF):=by
 rwa[T.kz.on yA (λcw AA m s H vs Q E X h=>?_)]
 ·let⟨r,S,a,rfl,h,B,u,k⟩:=h;erw[_,{bu (fN (fns:=[]) (ixs:=[]) (cl:=[]) rfl (cN (0<<<1)) (cu [] rfl True.intro rfl) (λC s H ex=>(pc T.own (zB T) X #[0])))}];erw[12,r,_,a.dx,112,h.ins,aJ T,T.sF,tG^_,a.aR,2,⟨_,aB.of h.hR⟩];let j:⇑(a.rs.map V.ref)=⇑S.rows:=by rw[ai6,h.rR.1]
  let L:∀i,i<⇑S.rows->∃p d,a.rs[i]?\p/\S.rows[i]?\d/\d∈S.rows/\bW H 4 ↑p d:=λi f=>by let c:=ai1 f;let⟨p,o,q⟩:=h.rR.at c;rwa[p,_,o,c,ai5 c,q]
  rwa[m9 ⇑S.rows (λi=>(a.rs.map V.ref).getD i .non) (λb v i=>∃p d,v=↑p/\S.rows[i]?\d/\lZ d/\bW b 4 ↑p d) (λH1 b v i s q0=>by let⟨p,x,e,n,hn,q⟩:=q0;rwa[p,x,e,n,hn,q.same s]) ?_ (λi b s2 f=>jJ (aB.of (s2^h.hR)) i ∅) (λi x b H3 s2 f y=>?_) (λb s2=>?_) (λi b Rr f s2 kk=>?_) (λD b ys s2 N U X=>?_)]
  ·rwa[ajl B ⋯]
  ·let⟨e,F⟩:=il (aB.of (s2^h.hR)) i x H3 ∅ y;erw[e];rw[ai8,F];rfl
  ·have:=gF (aB.of (K:=K) (s2^h.hR));rw[j]at this;rwa[this]
  ·let⟨p,d,o,c,g,q⟩:=L i f;let F:(a.rs.map V.ref).getD i .non=↑p:=by rw[ai8,ajc,o];rfl
   let q1:=(u p d g q).same s2;rw[F];rwa[⟨12,↑p,d,2,q1,h.flat d g,λv' H' s' Z=>?_⟩]
   have:∃J,v'=↑J:=by
    let I:∃R,d=.t R:=by
     cases q with
     |t=>cbv
     |l=>exact absurd (h.flat _ g) (λz=>by ext z)
    let⟨R,rfl⟩:=I
    cases Z with
    |t=>cbv
   let⟨J,rfl⟩:=this;rwa[kk _ H' s' ⟨J,d,2,c,h.flat d g,Z.le ⋯⟩]
  ·let⟨O,rfl,G⟩:=tK (P:=λi p=>∃d,S.rows[i]?\d/\bW b 4 ↑p d) ys 0 (λi v hv=>by cbv)
   let M:aq b (upd b D (.lst (O.map V.ref))):=aq.upd N;rw[ai6]at U;rwa[k D O _ (s2.trans M) (s2.free N) aj ⟨U,λi p d e1 n=>?_⟩];let⟨d',Y,q⟩:=G i p e1;rw[aly]at Y;obtain rfl:d'=d:=Za0 (Y.symm.trans n);rwa[q.same M]
def dg (H:Hp)(p:Zs)(a:Ze):Prop:=∃b:Zn,H p\.lst (b.map V.ref)/\Each (λq (w:Way)=>H q\.tup [.int (w.1:Int),.int w.2.1,.int (w.2.2:Int)]) b a
def qB (a:RA)(r p:Zs)(H c:Hp):Prop:=∀b o,¬a.own r b->b≠p->H b\o->c b\o
def dg.keep {c:Ze}(h:dg H a c)(k:∀o,H a\o->I a\o)(f:∀b d,H b\.tup d->I b\.tup d):dg I a c:=by let⟨g,j,i⟩:=h;rwa[g,k _ j,i.imp λq w _ _ e=>f^e]
structure Small (S:RS):Prop where
 m:S.q<=100000
 w:∀l∈S.ways,⇑l<=100000
 r:⇑S.rows<=1000000
 n:⇑S.aZ<=1000000
 c:∀l∈S.called,⇑l<=1000000
inductive Cq (C:Zs)(vs:Zb)(H:Hp)(Q:VK)(E_:XK):Prop
 |mk (r p:Zs)(S:RS)(a:RA)(c:Nat)(pend:Ze):vs=[↑r,.int c,↑p]->ay C H r S a->S.Wf->c<S.q->Ge S c->(∀l∈S.ways,⇑l<=100000)->dg H p pend->¬a.own r p->⇑pend<=1000000->(∀a' H',qB a r p H H'->ay C H' r (S.oN c pend).1 a'->dg H' p (S.oN c pend).2->(∀b,a'.own r b->a.own r b\/H b=none)->Q .non H')->Cq C vs H Q E_
inductive EL (C:Zs)(vs:Zb)(H:Hp)(Q:VK)(E_:XK):Prop
 |mk (r p:Zs)(S:RS)(a:RA)(c x y:Nat)(z:Int)(pend:Ze):vs=[↑r,.int c,.int z,.int x,.int y,↑p]->ay C H r S a->S.Wf->x<S.q->y<S.q->x≠y->Ge S (max x y)->(∀n∈S.cF (max x y),n<S.q)->Small S->dg H p pend->¬a.own r p->⇑pend<=1000000->(∀a' H',qB a r p H H'->ay C H' r (S.meet c z x y pend).1 a'->dg H' p (S.meet c z x y pend).2->(∀b,a'.own r b->a.own r b\/H b=none)->Q .non H')->EL C vs H Q E_
structure xj (S:RS):Prop where
 wf:S.Wf
 el:∀c,c<S.q->S.ax c<S.q
 bl:∀c z d,S.by c z=some d->d<S.q
 cl:∀c,∀n∈S.cF c,n<S.q
 off:∀c,c<S.q->Ge S c
 sm:Small S
inductive Cr (C:Zs)(vs:Zb)(H:Hp)(Q:VK)(E_:XK):Prop
 |mk (r t p:Zs)(S:RS)(a:RA)(w:Way)(pend:Ze):vs=[↑r,↑t,↑p]->ay C H r S a->H t\.tup [.int (w.1:Int),.int w.2.1,.int (w.2.2:Int)]->xj S->w.1<S.q->w.2.2<S.q->dg H p pend->¬a.own r p->⇑pend<=1000000->(∀a' H',qB a r p H H'->ay C H' r (S.takeIn pend w).1 a'->dg H' p (S.takeIn pend w).2->(∀b,a'.own r b->a.own r b\/H b=none)->Q .non H')->Cr C vs H Q E_
inductive O8 (C:Zs)(vs:Zb)(H:Hp)(Q:VK)(E_:XK):Prop
 |mk (r q:Zs)(S:RS)(a:RA)(c d:Nat)(z:Int)(row:Dt)(I:RS->Ze->Prop)(μ:RS->Ze->Nat):vs=[↑r,.int c,.int z,.int d,↑q]->ay C H r S a->⇑S.rows<=1000000->bW H 2 ↑q row->lZ row->I { S with rows:=S.rows++[row] } [(c,z,d)]->(∀S pend w,I S (pend++[w])->xj S/\w.1<S.q/\w.2.2<S.q/\⇑pend<=1000000/\I (S.takeIn pend w).1 (S.takeIn pend w).2/\μ (S.takeIn pend w).1 (S.takeIn pend w).2 < μ S (pend++[w]))->(∀S' a' H',cZ a r H H'->ay C H' r S' a'->I S' []->(∀b,a'.own r b->a.own r b\/H b=none)->Q .non H')->O8 C vs H Q E_
def kh (h:i<n):rD n (i:Int)\i:=by unfold rD;rw[ajn ∅,ajn ∅,ajG]
def MT {l:List (Int×Nat)}(a:(l.map (·.1)).Nodup){q:Int×Nat}(h:q∈l):fu l q.1\q.2:=by
 induction l with
 |nil=>ext h
 |cons p l b=>
  unfold fu;rw[aki,ajO]at a;cases e:p.1=q.1
  ·cbv
  ·rw[alG (by simpa using e)];rcases ajs.mp h with rfl|h
   ·rwa[absurd rfl e]
   ·rwa[b a.2 h]
theorem vn:T.k9.Ok mg P w base 1 (Cq A.aF):=by
 rwa[T.k9.on gJ (λcw AA outer s H vs Q E hr h=>?_)]
 ·let⟨r,p,S,a,c,d,rfl,h,hw,hc,ok,sm,hP,np,iJ,k⟩:=h;let m5:=fA hr
  erw[_,{bE 3 gJ.nd ((0<<<1)|||1),lQ fK (oD (0<<<1) (pv 1) set_list),b8 ajz rfl (cN (dF (jN rfl) rfl T.jS aky #[3])) (dc 4 gJ.nd)
    {bE 5 gJ.nd (lK m5 (pv 3) (pv 4) (λ_ _=>rfl)),bL (bP (bf pS (pv 5) (pv 1) (bp _))
     {aS (Lk ((0<<<1)|||5) (da cL (pv 4)) ⟨2222⟩)}
     bC),aS (cO ajj ajq ajr bJ (pv 2) #[cC #[1,4,5]])}}]
  rwa[dN ?_];intro eD fq;let O:c<⇑S.ways:=by rw[hw.w];rwa[hc]
  let⟨wd,u,hWD⟩:=h.rW.at (pC O);let hl0:⇑(S.way c)<=100000:=Ck sm;erw[12,r,_,a.dx,112,h.ins,aJ T,T.iS,iu^_,12,a.aW,11122,aB.of h.hW,cM u];intro Y C;generalize e_:upd H Y _=H1;obtain⟨s1,acv⟩:_/\_\(.dK (wK [])):=ej e_ C;let nn:=h.Cp C;let nnp:Y≠p:=λz=>by let⟨I,q1,_⟩:=hP;cbv
  let h1:=h.same s1;let hi:c<⇑a.ws:=by rw[h.rW.1];rwa[O]
  erw[12,r,_,a.dx,112,h1.ins,aJ T,T.iS,iu^_,12,a.aW,11,c,22,h1.hW,kh ([ai6]▸hi)];let h2:=h1.Ug hi acv (λz=>nn (.inr (.inr z)));let u2:∀b o,b≠a.aW->H1 b\o->upd H1 a.aW (.lst ((a.ws.map V.ref).set c ↑Y)) b\o:=λb o v e=>by rw[ak v];rwa[e]
  change upd H1 a.aW _=H2 at h2 u2 ⊢;let npW:p≠a.aW:=λz=>np (.inr (.inl ([z]▸fW)))
  let wdW:wd≠a.aW:=(h.ld fW (dz (ai5 u))).symm;let M:H2 wd\(.dK (wK (S.way c))):=u2 _ _ wdW (s1^hWD);generalize ER:({ a with ws:=a.ws.set c Y }:RA)=a2 at h2;let N9:ay A.aF H2 r (cW c S d []).1 a2:=h2
  let acw:¬a2.own r wd:=λz=>by
   rw[<-ER]at z;rcases z with z|z|z
   ·rwa[(h.rd (dz (ai5 u))) z.symm]
   ·rwa[h.ld z (dz (ai5 u)) rfl]
   ·let ndp:=aj0.mp h.l0;let z':wd∈a.ws.set c Y++a.gs:=z;rcases ajh.mp z' with z|z
    ·let⟨j,L⟩:=aj1 z;cases e:c=j
     ·subst e;rw[ajE hi]at L;have:Y=wd:=Za0 L;rw[this,hWD]at C;ext C
     ·rw[ajS e]at L;rwa[e ((ak2 hi ndp.1).mp (u.trans L.symm))]
    ·rwa[ndp.2.2 wd (ai5 u) wd z rfl]
  let J:∀b,a2.own r b->a.own r b\/H b=none:=λb f=>by
   rw[<-ER]at f;rcases f with f|f|f
   ·rwa[.inl (.inl f)]
   ·rwa[.inl (.inr (.inl f))]
   ·let O6:b∈a.ws.set c Y++a.gs:=f;rcases ajh.mp O6 with f|f
    ·rcases alg f with f|rfl
     ·rwa[.inl (.inr (.inr (ajx _ f)))]
     ·rwa[.inr C]
    ·rwa[.inl (.inr (.inr (ajf _ f)))]
  let xk:¬a2.own r p:=λz=>by
   rcases J p z with q|q
   ·rwa[np q]
   ·let⟨I,q1,_⟩:=hP;cbv
  let Vj:dg H2 p (cW c S d []).2:=hP.keep (λo e=>u2 _ _ npW (s1^e)) (λb R e=>u2 _ _ (h.tl e fW) (s1^e));let B2:qB a r p H H2:=λb o v _ e=>u2 _ _ (λz=>v (.inr (.inl ([z]▸fW)))) (s1^e)
  rwa[⟨12,wd,12,M,λl nl=>?_⟩];let s3:=aq.upd (o:=.lst ((wK (S.way c)).map λF=>kV F.1)) nl;let U:upd H2 l (.lst ((wK (S.way c)).map λF=>kV F.1)) l\(.lst ((wK (S.way c)).map λF=>kV F.1)):=aj;let EV:=N9.Cp nl;let nlp:l≠p:=λz=>by let⟨I,q1,_⟩:=Vj;cbv
  let nlw:l≠wd:=λz=>by cbv
  let nlH:H l=none\/a.own r l:=by
   cases ho:a.own r l
   ·rwa[.inr ho]
   ·rwa[.inl ?_]
    cases e:H l with
    |none=>rfl
    |some o=>rw[B2 l o ho nlp e]at nl;ext nl
  change upd H2 l _=H3 at s3 U ⊢;erw[l,2,⟨_,aB.of U⟩];let hlen:⇑((wK (S.way c)).map λF=>kV F.1)=⇑(S.way c):=by rw[ai6,Bc]
  let' mR:Nat->St->Hp->Prop:=λi σ G=>∃v4 v5,σ=#v[↑r,.int (c:Int),↑p,↑wd,v4,v5]/\ay A.aF G r (cW c S d ((S.way c).take i)).1 a2/\dg G p (cW c S d ((S.way c).take i)).2/\(∀b o,¬a2.own r b->b≠p->H3 b\o->G b\o)
  rwa[dC (xs:=(wK (S.way c)).map λF=>kV F.1) mR ⟨none,none,2,N9.same s3,Vj.keep (λo e=>s3^e) (λb R e=>s3^e),λb o _ _ e=>e⟩ (λi σ G _ ζ=>by let⟨_,_,_,_,_,Z⟩:=ζ;rwa[aB.of (Z _ _ EV nlp U)]) ?_ ?_]
  ·intro i x σ G hx X;rwa[aT ?_];intro q_;let⟨v4,v5,rfl,N,y,Z⟩:=X;dsimp only[q_];clear q_;dsimp only[dJ];rwa[uX ?_];intro jX w_2 w_1;let D:i<⇑(S.way c):=by rw[<-hlen];rwa[(ai4.mp hx).1]
   let hg:(S.way c)[i]?\((S.way c)[i]'D):=ai1 D
   change (S.way c)[i]'D=w at hg
   let ex:x=.int w.1:=by unfold wK at hx;rw[ajc,ajc,hg]at hx;rwa[(Za0 hx).symm]
   subst ex;let hm:=ai5 hg;let JC:(S.way c).take (i+ 1)=(S.way c).take i++[w]:=by rw[akf,hg];rfl
   let acx:G wd\(.dK (wK (S.way c))):=Z _ _ acw (λz=>by let⟨I,q1,_⟩:=Vj;cbv) (s3^M);let hv:bz (wK (S.way c)) (Sum.inl w.1)\(.int (w.2:Int)):=by rw[kJ,MT ok.nd hm];rfl
   let m4:=ok.lt w hm;let hol:=(gA c S d ((S.way c).take i)).1;erw[1212,wd,12,(by have:=eP.k (k:=Sum.inl w.1) acx;rw[hv]at this;rwa[this])]
   let' MV:St->Hp->Prop:=λ eK H'=>eK=#v[↑r,.int (c:Int),↑p,↑wd,.int w.1,.int (w.2:Int)]/\ay A.aF H' r (cW c S d ((S.way c).take (i+ 1))).1 a2/\dg H' p (cW c S d ((S.way c).take i)).2/\(∀b o,¬a2.own r b->b≠p->H3 b\o->H' b\o)
   erw[MV,5]
   ·rwa[bH ?_];intro jX;rwa[⟨1212212,cP (λN5=>?_) (λN5=>?_)⟩]
    ·let n:w.2≠c:=λz=>by cbv
     let hd2:w.2<(cW c S d ((S.way c).take i)).1.ways.length:=by rw[hol,hw.w];rwa[m4]
     let⟨pd,B,hPD⟩:=N.rW.at (pC hd2)
     let Uh:((cW c S d ((S.way c).take i)).1.by w.2 (-w.1)).isSome=true:=by
      rw[x9 O _ (λq hq=>[hw.w]▸ok.lt q (alj hq)),ajk]
      ·rwa[ok.bk w hm n]
      ·rintro (q|⟨q,hq,q1,q2⟩)
       ·rwa[n q]
       ·let⟨j,L⟩:=aj1 hq
        let hji:j<i:=by have:=(ai4.mp L).1;rw[ajD]at this;ext
        rw[akU hji]at L;let e1:((S.way c).map (·.1))[j]?\q.1:=by rw[ajc,L];rfl
        let e2:((S.way c).map (·.1))[i]?\w.1:=by rw[ajc,hg];rfl
        let e3:q.1=w.1:=∅
        rw[e3]at e1;have:=(ak2 ([ai6]▸D) ok.nd).mp (e2.trans e1.symm);ext
     let⟨m,O9⟩:=al9.mp Uh;erw[12,r,_,a2.dx,112,N.ins,aJ T,T.iS,iu^_,12,a2.aW,11122,aB.of N.hW,cM B,pd,2,.inl ⟨_,.inl hPD⟩,12121,Sum.inl (-w.1),.int (m:Int),hPD,25]
     ·rw[kJ];show ((cW c S d ((S.way c).take i)).1.by w.2 (-w.1)).map _=_;rw[O9];rfl
     ·rw[QO];rwa[⟨25,y.keep (λo e=>?_) (λb R e=>?_),λb o v g e=>?_⟩]
      ·rw[JC,hU];unfold jq;simp only[n,amx,als,ne_eq];rwa[N.Bf B _]
      ·rw[ak (λz=>xk (.inr (.inr (dz ([z]▸ai5 B)))))];rwa[e]
      ·rw[ak (N.td e (dz (ai5 B)))];rwa[e]
      ·rw[ak (λz=>v (.inr (.inr (dz ([z]▸ai5 B)))))];rwa[Z b o v g e]
    ·let n:w.2=c:=by
      cases e:w.2=c
      ·rwa[e]
      ·cbv
     rwa[⟨25,y,Z⟩];rw[JC,hU];unfold jq
     cbv
   rintro eK H5 ⟨rfl,h5,hP5,kk5⟩;let⟨I,pG,qV⟩:=hP5
   let pH:⇑(I.map V.ref)<sizeLine:=by rw[ai6,qV.1,y8,ai3,ai6,ajD];rwa[aje (show _<=1100000 by omega) ⋯]
   rwa[⟨12,.inl ⟨21,aB.of pG⟩,121212,(Za4 3),λt nt=>?_⟩];generalize e_:upd H5 t _=H6;let⟨s6,JD⟩:=ej e_ nt;erw[p,1122,s6^pG,pH];let kp:∀b o,b≠p->H6 b\o->upd H6 p (.lst (I.map V.ref++[↑t])) b\o:=λb o v e=>by rw[ak v];rwa[e]
   let Vk:∀b R,H6 b\.tup R->upd H6 p (.lst (I.map V.ref++[↑t])) b\(.tup R):=λb R e=>kp _ _ (bS e (s6^pG) (by cbv)) e
   rwa[⟨112,(h5.same s6).keep (λb o f e=>kp b o (λz=>xk (z ▸ f)) e) Vk,⟨I++[t],55⟩,λb o v g e=>kp b o g (s6^kk5 b o v g e)⟩]
   ·rw[aj,ajt];rfl
   ·rw[JC,hU];rwa[(qV.imp λq w' _ _ e=>Vk^s6^e).snoc (Vk^JD)]
  ·intro σ G X;rwa[aT ?_];intro q_;let⟨v4,v5,rfl,N,y,Z⟩:=X;dsimp only[q_];clear q_;rw[hlen,akd]at N y;rwa[k a2 G (λb o v g e=>?_) N y J];let e2:=B2 b o v g e;rwa[Z b o (λz=>by cbv) g (s3^e2)]
def xl (h:n<⇑S.called):S.called[n]?\(S.cF n):=by unfold RS.cF;cbv
def pI (h:n<⇑S.aY):S.aY[n]?\(S.ax n):=by unfold RS.ax;cbv
def JF (h:∀l∈S.called,⇑l<=m):⇑(S.cF n)<=m:=by
 unfold RS.cF;rw[ai8]
 cases e:S.called[n]? with
 |none=>exact ajB _
 |some l=>exact h l (ai5 e)
theorem vo (x:Nat):∀(l a:Zh),⇑(l.foldl (λa n=>a.set n x) a)=⇑a
 |[],_=>rfl
 |n::l,a=>by rw[aln,vo x l,aju]
def ints_set (ns:Zg)(i:Nat)(z:Int):(ao ns).set i (.int z)=ao (ns.set i z):=by unfold ao;rw[List.map_set]
def jB:T.fF.Ok mg P w base 2 (EL A.aF):=by
 rwa[T.fF.on eB (λcw AA outer s H vs Q E hr h=>?_)]
 ·let⟨r,p,S,a,c,x,y,z,f,rfl,h,hw,hx,hy,hxy,ok,JG,sm,hP,np,iJ,k⟩:=h
  erw[_,{bE 6 eB.nd (bD (Hz rfl) rfl T.Yu PyProof.Rows.boot_min #[3,4]),bE 7 eB.nd (bD (Hy rfl) rfl T.Yv PyProof.Rows.boot_max #[3,4]),aS (cO ajj ajq ajr bJ (0<<<1) #[cC #[oF (l:=[109,101,101,116]) rfl,1,2,6,7]]),aS (cO ajj ajq ajr bJ (0<<<1) #[7]),b8 ajz rfl (cN ((0<<<1)|||7)) (dc 8 eB.nd)
    {lQ (pv 6) (oD (0<<<1) (pv 8) set_list)},aS (cO ajj PySem.F.slot_list_extend PySem.F.type_list_extend yS ((0<<<1)|||6) #[(0<<<1)|||7]),aS (pm (pv 0) (aJ T) T.k9 (vn T) hr #[7,5])}]
  rwa[qd ?_];intro Cm pD mQ iI eD fq;let C:(if (y:Int)<(x:Int) then (y:Int) else (x:Int))=((min x y:Nat):Int):=by split <;> ext
  let F:(if (y:Int) > (x:Int) then (y:Int) else (x:Int))=((max x y:Nat):Int):=by split <;> ext
  let hlm:min x y<max x y:=∅
  let I:max x y<S.q:=∅
  generalize ev:min x y=u at C hlm;let ek:∀a' O,qB a r p H O->ay A.aF O r ((S.joined c z u (max x y)).oN (max x y) f).1 a'->dg O p ((S.joined c z u (max x y)).oN (max x y) f).2->(∀b,a'.own r b->a.own r b\/H b=none)->Q .non O:=λa' O h1 N M g=>k a' O h1 (by unfold RS.meet;rw[ev];rwa[N]) (by unfold RS.meet;rw[ev];rwa[M]) g
  clear k;change max x y=v at F hlm I ok JG ek;erw[1212112];rw[C];erw[1212112];rw[F];let lR:⇑(a.rs.map V.ref)<sizeLine:=by rw[ai6,h.rR.1];rwa[aje sm.r ⋯]
  rwa[⟨12,r,_,a.dx,112,h.ins,aJ T,T.sF,tG^_,.inl ⟨21,aB.of h.hR⟩,12121212,(Za4 5),λt nt=>⟨a.aR,1122,aq.upd nt _ _ h.hR,lR,5⟩⟩];generalize e_:upd H t _=H1;let⟨s1,ht1⟩:=ej e_ nt
  let TR:bW H1 4 ↑t (gP c z u v):=by
   rwa[.t ht1 rfl λj w d C F=>?_]
   rcases j with _|_|_|_|_|j
   ·simp at C F;subst C F;rwa[.s]
   ·simp at C F;subst C F;rwa[.i]
   ·simp at C F;subst C F;rwa[.i]
   ·simp at C F;subst C F;rwa[.i]
   ·simp at C F;subst C F;rwa[.i]
   ·simp at C
  let nl:lZ (gP c z u v):=.t (by show 5<=100000;decide) λd hd=>by
   simp only[ajs,ajR,akW]at hd;rcases hd with rfl|rfl|rfl|rfl|rfl
   ·rwa[.s]
   ·rwa[.i]
   ·rwa[.i]
   ·rwa[.i]
   ·rwa[.i]
  let N:=(h.same s1).Be TR nl;let B2:qB a r p H (upd H1 a.aR (.lst (a.rs.map V.ref++[↑t]))):=λb o D _ e=>by rw[ak (λz=>D (.inr (.inl ([z]▸fV))))];rwa[s1^e]
  let npl:∀{b},b∈a.lists->p≠b:=λhb z=>np (.inr (.inl ([z]▸hb)))
  let P2:dg (upd H1 a.aR (.lst (a.rs.map V.ref++[↑t]))) p f:=hP.keep (λo e=>[ak (npl fV)]▸s1^e) (λb xs e=>[ak (h.tl e fV)]▸s1^e);change upd H1 a.aR _=H2 at N B2 P2 ⊢;generalize ER:({ a with rs:=a.rs++[t] }:RA)=a2 at N;let Y:∀b,a2.own r b↔a.own r b:=λb=>by rw[<-ER];rwa[Iff.rfl]
  let xk:¬a2.own r p:=λz=>np ((Y p).mp z)
  let G:∀{b},b∈a2.lists->p≠b:=λhb z=>xk (.inr (.inl ([z]▸hb)))
  let lN:⇑(ao (nI S.aZ))<sizeLine:=by rw[az,cD];rwa[aje sm.n ⋯]
  erw[12,r,_,a2.dx,112,N.ins,aJ T,T.sH,tI^_,.inl ⟨21,aB.of N.hN⟩,12,a2.aN,1122,N.hN,lN];let eN:ao (nI S.aZ)++[V.int (v:Int)]=ao (nI (S.aZ++[v])):=by rw[iQ,ints_app];rfl
  let M:=N.QM (S.aZ++[v]);rw[<-eN]at M;let B3:qB a r p H (upd H2 a2.aN (.lst (ao (nI S.aZ)++[V.int (v:Int)]))):=λb o D B e=>by rw[ak (λz=>D ((Y b).mp (.inr (.inl ([z]▸g6)))))];rwa[B2 b o D B e]
  let P3:dg (upd H2 a2.aN (.lst (ao (nI S.aZ)++[V.int (v:Int)]))) p f:=P2.keep (λo e=>[ak (G g6)]▸e) (λb xs e=>[ak (N.tl e g6)]▸e);show _;change upd H2 a2.aN _=H3 at M B3 P3 ⊢;let⟨pv,J,hPV⟩:=M.rC.at (show S.called[v]?=some (S.cF v) from xl ([hw.c]▸I));let mpv:=ai5 J;erw[12,r,_,a2.dx,112,M.ins,aJ T,T.mK,m7^_,12,a2.aC,11122,aB.of M.hC,cM J,pv,2,⟨_,aB.of hPV⟩];obtain⟨-,-,-,-,-,nc⟩:=vQ M.iH;let npE:pv≠a2.aE:=(nc pv mpv).2.2.2.1
  let' mR:Nat->St->Hp->Prop:=λi σ L=>∃v8,σ=#v[↑r,.int (c:Int),.int z,.int (x:Int),.int (y:Int),↑p,.int (u:Int),.int (v:Int),v8]/\ay A.aF L r { S with rows:=S.rows++[gP c z u v],aZ:=S.aZ++[v],aY:=((S.cF v).take i).foldl (λU n=>U.set n u) S.aY } a2/\qB a r p H L/\dg L p f
  rwa[dC (xs:=ao (nI (S.cF v))) mR ⟨none,2,M,B3,P3⟩ (λi σ L _ ⟨11,g,11⟩=>aB.of (g.rC.2 v pv _ J (show S.called[v]?=some (S.cF v) from xl ([hw.c]▸I)))) ?_ ?_]
  ·rintro i w σ L hw4 ⟨v8,rfl,g,B4,P4⟩;dsimp only[dJ];rwa[bH ?_];intro jX;let⟨m,rfl,Z⟩:=cf hw4;unfold nI at Z;rw[ajc]at Z
   cases hn:(S.cF v)[i]? with
   |none=>rw[hn]at Z;ext Z
   |some n=>
    rw[hn]at Z;obtain rfl:(n:Int)=m:=Za0 Z;let xm:=JG n (ai5 hn);let hel:⇑(((S.cF v).take i).foldl (λU n=>U.set n u) S.aY)=S.q:=by rw[vo,hw.e]
    erw[1212,r,_,a2.dx,112,g.ins,aJ T,T.jh,jm^_,12,a2.aE,11,n,22,g.hE,kh ([az,cD,hel]▸xm)];rw[ints_set,T9];let h5:=g.y7 ((((S.cF v).take i).foldl (λU n=>U.set n u) S.aY).set n u);rwa[⟨125,λb o D B e=>?_,P4.keep (λo e=>?_) (λb xs e=>?_)⟩]
    ·let JC:(S.cF v).take (i+ 1)=(S.cF v).take i++[n]:=by rw[akf,hn];rfl
     rw[JC,aj8];rwa[h5]
    ·rw[ak (λz=>D ((Y b).mp (.inr (.inl ([z]▸gG)))))];rwa[B4 b o D B e]
    ·rw[ak (G gG)];rwa[e]
    ·rw[ak (g.tl e gG)];rwa[e]
  ·rintro σ L ⟨v8,rfl,g,B4,P4⟩;rw[az,cD,akd]at g;let Pa:u<⇑S.called:=by rw[hw.c];ext
   let Pb:v<⇑S.called:=by rw[hw.c];rwa[I]
   let⟨pu,X,hPU⟩:=g.rC.at (show S.called[u]?=some (S.cF u) from xl Pa);let acy:=g.rC.2 v pv _ J (show S.called[v]?=some (S.cF v) from xl Pb);let b1:⇑(S.cF u)<=1000000:=JF sm.c;let b2:⇑(S.cF v)<=1000000:=JF sm.c;erw[12,r,_,a2.dx,112,g.ins,aJ T,T.mK,m7^_,12,a2.aC,11122,aB.of g.hC,cM X,.inl ⟨21,aB.of hPU⟩];erw[12,r,_,a2.dx,112,g.ins,aJ T,T.mK,m7^_,12,a2.aC,11122,aB.of g.hC,cM J,pu,pv,1122,hPU,acy,5]
   ·rw[az,az,cD,cD];rwa[ajl (show _<=2000000 by omega) ⋯]
   let eC:ao (nI (S.cF u))++ao (nI (S.cF v))=ao (nI (S.cF u++S.cF v)):=by rw[iQ,ints_app]
   rw[eC];let h5:=g.Iy X (S.cF u++S.cF v);let R:=fZ (ai5 X);let B5:qB a r p H (upd L pu (.lst (ao (nI (S.cF u++S.cF v))))):=λb o D B e=>by rw[ak (λz=>D ((Y b).mp (.inr (.inl ([z]▸R)))))];rwa[B4 b o D B e]
   let P5:dg (upd L pu (.lst (ao (nI (S.cF u++S.cF v))))) p f:=P4.keep (λo e=>[ak (G R)]▸e) (λb xs e=>[ak (g.tl e R)]▸e);change upd L pu _=H5 at h5 B5 P5 ⊢;let h5':ay A.aF H5 r (S.joined c z u v) a2:=h5;rwa[⟨12,r,a2.dx,12,h5'.ins,cS _ _ _ ⋯,1212,r,p,S.joined c z u v,a2,v,f,2,h5',⟨hw.w,hw.g,55⟩,I,⟨ok.nd,ok.lt,ok.bk⟩,sm.w,P5,xk,iJ,λa' O b' r' p' o'=>ek a' O (λb o D B e=>b' b o (λz=>D ((Y b).mp z)) B (B5 b o D B e)) r' p' (λb hb=>?_)⟩]
   ·show ⇑((S.cF v).foldl (λU n=>U.set n u) S.aY)=S.q;rw[vo];rwa[hw.e]
   ·show ⇑(S.called.set u (S.cF u++S.cF v))=S.q;rw[aju];rwa[hw.c]
   ·rcases o' b hb with q|q
    ·rwa[.inl ((Y b).mp q)]
    ·cases ho:a.own r b
     ·rwa[.inl ho]
     ·rwa[.inr ?_]
      cases e:H b with
      |none=>rfl
      |some o=>
       cases hbp:b=p
       ·let⟨qs,q1,_⟩:=P5
        cbv
       ·rw[B5 b o ho hbp e]at q;ext q
def vp:T.k8.Ok mg P w base 3 (Cr A.aF):=by
 rwa[T.k8.on dU (λcw AA O s H vs Q E L h=>?_)]
 ·let⟨r,t,p,S,a,w,i,rfl,h,ht,ok,G,y,hP,M,x,k⟩:=h;let B:=fA L
  erw[_,{bE 3 dU.nd ((0<<<1)|||(1&&&aw)),bE 4 dU.nd (1&&&aw),bE 5 dU.nd ((0<<<1)|||(1&&&aw)),bE 6 dU.nd (lY B ((0<<<1)|||3) (pv 4) (pv 5) ⟨2222⟩),bE 7 dU.nd (lY B ((0<<<1)|||5) (da cL (pv 4)) (pv 3) ⟨2222⟩),bL (bP (bf pS (pv 6) (pv 5) (bp _))
    {aS (pm (pv 0) (aJ T) T.fF (jB T) L #[3,4,6,5,2])}
    {bL (bP (bf pS (pv 7) (pv 3) (bp _))
     {aS (pm (pv 0) (aJ T) T.fF (jB T) L #[5,da cL (pv 4),7,3,2])}
     {aS (pm (pv 0) (aJ T) T.lG (qU T) L #[3,4,5])})})}]
  rwa[qc ?_];intro pD mQ iI eD fq;let R:bG K H t [.int (w.1:Int),.int w.2.1,.int (w.2.2:Int)]:=bG.of ht;let C:∀{c:Nat},c<S.q->S.aY[c]?\(S.ax c):=λ{c} j=>pI ([ok.wf.e]▸j)
  let j:=ok.el _ G;let u:=ok.el _ y;erw[12,r,_,a.dx,112,h.ins,aJ T,T.jh,jm^_,12,t,11122,R,(rfl:jI _ (0:Int)=_),a.aE,11122,aB.of h.hE,ck (bT (jL (C G)))];erw[12,t,11122,R,(rfl:jI _ (1:Int)=_)];erw[12,r,_,a.dx,112,h.ins,aJ T,T.jh,jm^_,12,t,11122,R,(rfl:jI _ (2:Int)=_),a.aE,11122,aB.of h.hE,ck (bT (jL (C y)))];let g:=k;clear k;unfold RS.takeIn at g;change S.ax w.1=c at j g ⊢;change S.ax w.2.2=d at u g ⊢;change w.2.1=z at g ⊢;let⟨pc,X,I⟩:=h.rW.at (pC (S:=S) (c:=c) ([ok.wf.w]▸j));let⟨pd,hpd,F⟩:=h.rW.at (pC (S:=S) (c:=d) ([ok.wf.w]▸u));let gd:∀(o:Zi)(n:Nat),(o.map λr:Nat=>V.int (r:Int)).getD (.int (n:Int))=V.int ((o.getD n:Nat):Int):=λo n=>by cases o <;> rfl
  erw[12,r,_,a.dx,112,h.ins,aJ T,T.iS,iu^_,12,a.aW,11122,aB.of h.hW,cM X,pc,2,.inl ⟨_,.inl I⟩,12121,eP.k (k:=Sum.inl z) I];rw[kJ,gd];show _;erw[12,r,_,a.dx,112,h.ins,aJ T,T.iS,iu^_,12,a.aW,11122,aB.of h.hW,cM hpd,pd,2,.inl ⟨_,.inl F⟩,1212121,eP.k (k:=Sum.inl (-z)) F];rw[kJ,gd];let e1:fu (S.way c) z=S.by c z:=rfl;let e2:fu (S.way d) (-z)=S.by d (-z):=rfl;rw[e1,e2]
  let hl:(S.by c z).getD d<S.q:=by
   cases e:S.by c z with
   |none=>exact u
   |some m=>exact ok.bl _ _ _ e
  let hf:(S.by d (-z)).getD c<S.q:=by
   cases e:S.by d (-z) with
   |none=>exact j
   |some m=>exact ok.bl _ _ _ e
  change (S.by c z).getD d=l at hl g ⊢;change (S.by d (-z)).getD c=f at hf g ⊢
  let ne:∀{m n:Nat},m≠n->(!decide (V.int (m:Int)=V.int (n:Int)))=true:=λ{m n} q=>by cbv
  rwa[⟨λ_ J=>Q .non J,5,λ_ _ q=>q⟩];cases D:l≠d
  ·rw[ajn D]at g;erw[1212212];rw[ne D];rwa[eV ?_];rwa[12,r,a.dx,12,h.ins,cS _ _ _ ⋯,1212121212,r,p,S,a,c,l,d,z,i,2,h,ok.wf,hl,u,D,ok.off _ ∅,λn Z=>ok.cl _ n Z,ok.sm,hP,M,x,g]
  ·let Y:l=d:=alU.mp D;rw[ajk D]at g;rwa[⟨1212212,pU (by rw[Y]) ?_⟩];rwa[⟨λ_ J=>Q .non J,5,λ_ _ q=>q⟩];cases v:f≠c
   ·rw[ajn v]at g;erw[1212212];rw[ne v];rwa[eV ?_];rwa[12,r,a.dx,12,h.ins,cS _ _ _ ⋯,121212121212,r,p,S,a,d,f,c,-z,i,2,h,ok.wf,hf,j,v,ok.off _ ∅,λn Z=>ok.cl _ n Z,ok.sm,hP,M,x,g]
   ·let U:f=c:=alU.mp v;rw[ajk v]at g;rwa[⟨1212212,pU (by rw[U]) ?_⟩];rwa[⟨12,r,a.dx,12,h.ins,cS _ _ _ ⋯,121212,r,S,a,c,d,z,2,h,ok.wf,j,u,ok.sm.w,λJ N r'=>g a J (λb o nb _ e=>N b o nb e) r' (hP.keep (λo e=>N _ _ M e) (λb xs e=>N _ _ (h.tJ e) e)) λb hb=>.inl hb⟩]
def Ct:T.sD.Ok mg P w base 5 (O8 A.aF):=by
 rwa[T.sD.on sI (λcw AA outer s H vs Q E hr h=>?_)]
 ·let⟨r,q,S,a,c,d,z,row,I,μ,rfl,h,pE,hq,x,hI,step,k⟩:=h
  erw[_,{aS (cO ajj ajq ajr bJ (0<<<1) #[pc T.own (zB T) hr #[4]]),bE 5 sI.nd (b9 #[cC #[1,2,3]]),bL (fJ ajz (uM (pv 5) (λ_=>rfl))
    {aS (pm (pv 0) (aJ T) T.k8 (vp T) hr #[AU ajj alP alQ AX (pv 5),5])})}]
  rwa[dN ?_];intro eD fq;let lR:⇑(a.rs.map V.ref)<sizeLine:=by rw[ai6,h.rR.1];rwa[aje pE ⋯]
  obtain⟨ds,rfl⟩:∃ds,row=.t ds:=by
   cases hq with
   |t=>rwa[12]
   |l=>ext x
  rwa[⟨12,r,_,a.dx,112,h.ins,aJ T,T.sF,tG^_,.inl ⟨21,aB.of h.hR⟩,12,↑q,.t ds,2,hq,x,λv' H1 s1 hv'=>?_⟩];obtain⟨q',rfl⟩:∃q',v'=↑q':=by cases hv' with|t=>exact⟨_,rfl⟩
  erw[a.aR,1122,s1^h.hR,lR];let h2:=(h.same s1).Be (hv'.le ⋯) x;let B2:cZ a r H (upd H1 a.aR (.lst (a.rs.map V.ref++[↑q']))):=λb o j e=>by rw[ak (λz=>j (.inr (.inl ([z]▸fV))))];rwa[s1^e]
  change upd H1 a.aR _=H2 at h2 B2 ⊢;generalize ER:({ a with rs:=a.rs++[q'] }:RA)=a2 at h2;let eo:∀b,a2.own r b↔a.own r b:=λb=>by rw[<-ER];rwa[Iff.rfl]
  rwa[⟨121212,(Za4 3),λt nt=>?_⟩];generalize e_:upd H2 t _=H3;let⟨s3,EW⟩:=ej e_ nt;rwa[⟨(Za4 1),λp O=>?_⟩];generalize e_:upd H3 p _=H4;let⟨s4,hp4⟩:=ej e_ O;let np0:¬a2.own r p:=(h2.same s3).Cp O
  let Z:H p=none:=by
   cases e:H p with
   |none=>rfl
   |some o=>have:=s3^(B2 p o (λz=>np0 ((eo p).mpr z)) e);rw[O]at this;ext this
  let B4:cZ a r H H4:=λb o j e=>s4^s3^B2 b o j e
  let P4:dg H4 p [(c,z,d)]:=⟨[t],hp4,Each.snoc (ps:=[]) (xs:=[]) ⟨2,λi p d h=>by simp at h⟩ (s4^EW)⟩;rwa[⟨λ_ Y=>Q .non Y,5,λ_ _ q=>q⟩];erw[λm σ n=>∃C J pend,m=μ C pend/\σ=#v[↑r,.int (c:Int),.int z,.int (d:Int),↑q,↑p]/\ay A.aF n r C J/\dg n p pend/\I C pend/\¬J.own r p/\(∀b o,¬a.own r b->b≠p->H b\o->n b\o)/\∀b,J.own r b->a.own r b\/H b=none,⟨11,a2,[(c,z,d)],22,(h2.same s3).same s4,P4,hI,np0,λb o j _ e=>B4 b o j e,λb G=>.inl ((eo b).mp G)⟩];intro m σ n JH;rwa[aT ?_];intro q_;let⟨C,J,pend,rfl,rfl,h5,P5,I5,R,B5,O5⟩:=JH;dsimp only[q_];clear q_;let⟨X,B,y⟩:=id P5;erw[12,!(X.map V.ref).isEmpty,.inl ⟨_,aB.of B,2⟩];cases F:pend=[]
  ·subst F;let eq0:X=[]:=alA y.1;subst eq0;rwa[dI ?_];rwa[k C J n (λb o j e=>B5 b o j (λz=>by rw[z,Z]at e;ext e) e) h5 I5 O5]
  ·let L:=akH F;change pend.getLast F=w at L;change pend.dropLast=pre at L;subst L;let N:⇑X=⇑pre+ 1:=by rw[y.1,ai3];rfl
   let hqn:X≠[]:=λz=>by rw[z]at N;ext N
   let v:=akH hqn;change X.getLast hqn=D at v;change X.dropLast=f at v;subst v;let iJ:⇑f=⇑pre:=by rw[ai3]at N;have:⇑([D]:Zn)=1:=rfl;ext
   let⟨ok,hw1,hw3,G,hI2,Pg⟩:=step C pre w I5;let htq:n D\(.tup [.int (w.1:Int),.int w.2.1,.int (w.2.2:Int)]):=y.2 ⇑pre D w (by rw[<-iJ,ajg (aja _),aks];rfl) (by rw[ajg (aja _),aks];rfl);let ht:(!((f++[D]).map V.ref).isEmpty)=true:=by simp
   rw[ht];rwa[eV ?_];erw[λ eK Y=>∃S6 a6 g,μ S6 g < μ C (pre++[w])/\eK=#v[↑r,.int (c:Int),.int z,.int (d:Int),↑q,↑p]/\ay A.aF Y r S6 a6/\dg Y p g/\I S6 g/\¬a6.own r p/\(∀b o,¬a.own r b->b≠p->H b\o->Y b\o)/\∀b,a6.own r b->a.own r b\/H b=none,λ eK Y ζ=>by let⟨S6,a6,g,lt,e1,e2,e3,e4,e5,e6,e7⟩:=ζ;rwa[⟨_,lt,S6,a6,g,2,e1,e2,e3,e4,e5,e6,e7⟩]];erw[12,r,J.dx,12,h5.ins,cS _ _ _ ⋯,12,.inl ⟨21,aB.of B⟩,p,_,↑D,22,B,5]
   ·rw[ajt,ai3];show ((f.map V.ref)++[V.ref D])[⇑(f.map V.ref)+ 1 - 1]?=_
    rw[amk,ajg (aja _),aks];rfl
   let Vl:((f++[D]).map V.ref).dropLast=f.map V.ref:=by rw[ajt];rwa[ali]
   rw[Vl];let kp:∀b o,b≠p->n b\o->upd n p (.lst (f.map V.ref)) b\o:=λb o j e=>by rw[ak j];rwa[e]
   let kt:∀b xs,n b\.tup xs->upd n p (.lst (f.map V.ref)) b\(.tup xs):=λb xs e=>kp b _ (bS e B f!"") e
   let h6:=h5.keep (λb o G e=>kp b o (λz=>R (z ▸ G)) e) kt;let P6:dg (upd n p (.lst (f.map V.ref))) p pre:=⟨f,aj,iJ,λi t' w' e1 e2=>kt^(y.2 i t' w' ([ajd (ai4.mp e1).1]▸e1) ([ajd (ai4.mp e2).1]▸e2))⟩;change upd n p _=H6 at kp kt h6 P6 ⊢;rwa[⟨12,r,D,p,C,J,w,pre,2,h6,kt^htq,ok,hw1,hw3,P6,R,G,λa7 H7 b7 h7 P7 o7=>?_⟩];rwa[⟨_,a7,_,Pg,2,h7,P7,hI2,λz=>?_,λb o j U e=>b7 b o (λz=>?_) U (kp b o U (B5 b o j U e)),λb G=>?_⟩]
   ·rcases o7 p z with u|u
    ·rwa[R u]
    ·let⟨_,q2,_⟩:=P6;rw[u]at q2;ext q2
   ·rcases O5 b z with u|u
    ·rwa[j u]
    ·rw[u]at e;ext e
   ·rcases o7 b G with u|u
    ·rwa[O5 b u]
    ·cases ho:a.own r b
     ·rwa[.inl ho]
     ·rwa[.inr ?_]
      cases e:H b with
      |none=>rfl
      |some o=>
       cases M:b=p
       ·rw[M,Z]at e;ext e
       ·rw[kp b o M (B5 b o ho M e)]at u;ext u
def Rt {a:Type}{ws:List a}{z:a}(h:ws[i]?\z):ws.drop i=z::ws.drop (i+ 1):=by let b:=(ai4.mp h).1;rw[alY b,(ai4.mp h).2]
inductive Cu (C:Zs)(vs:Zb)(H:Hp)(Q:VK)(E_:XK):Prop
 |mk (r:Zs)(S:RS)(a:RA)(c:Nat)(t:Zs)(ws:Zg):vs=[↑r,.int c,↑t]->ay C H r S a->S.Wf->c<S.q->(∀c z d,S.by c z=some d->d<S.q)->H t\.tup (ao ws)->⇑ws<=1000->(∀l H',aq H H'->H' l\.lst (ao (nI (c::cz S.by c ws)))->Q ↑l H')->Cu C vs H Q E_
def zE:T.walked.Ok P w base 2 (Cu A.aF):=by
 rwa[T.walked.on nT (λcw AA I s H vs Q E hr h=>?_)]
 ·let⟨r,S,a,c,t,ws,rfl,h,hw,hc,G,U,Z,k⟩:=h
  refine⟨_,{bE 3 nT.nd (b9 #[1]),b8 ajz rfl (oE (pv 2)) (dc 4 nT.nd)
    {bE 1 nT.nd (pm (pv 0) (aJ T) T.hY (gW T) hr #[1,4]),bP (bf kD (pv 1) dm (bp _))
     {uK}
     bC,aS (cO ajj ajq ajr bJ (pv 3) #[1])},bu (pv 3)},?_⟩
  rwa[dN ?_];intro eD fq;rwa[⟨12,(Za4 1),λl F=>?_⟩];generalize e_:upd H l _=Y;obtain⟨M,C⟩:_/\_\(.lst (ao (nI [c]))):=ej e_ F;let O:¬a.own r l:=h.Cp F;let y:=M^U;let J:t≠l:=av U F;erw[12,t,2,⟨_,bG.of y⟩]
  let fin:∀{f:Hp}{pre:Zh},(∀b o,b≠l->Y b\o->f b\o)->f l\.lst (ao (nI (c::pre)))->cz S.by c ws=pre->Q ↑l f:=λ{f pre} g d e=>by subst e;rwa[k l f (λb o e=>g b o (av e F) (M^e)) d]
  let' u:Nat->St->Hp->Prop:=λi D f=>∃cur:Nat,∃pre N,D=#v[↑r,.int (cur:Int),↑t,↑l,N]/\cur<S.q/\⇑pre=i/\cz S.by c ws=pre++cz S.by cur (ws.drop i)/\(∀b o,b≠l->Y b\o->f b\o)/\f l\(.lst (ao (nI (c::pre))))
  rwa[dC (xs:=ao ws) u ⟨c,[],none,2,hc,22,λ_ _ _ e=>e,C⟩ (λi D f _ ζ=>by let⟨_,_,_,_,_,_,_,g,_⟩:=ζ;rwa[bG.of (g _ _ J y)]) ?_ ?_]
  ·intro i x D f hx m;rwa[aT ?_];intro B;let⟨cur,pre,N,rfl,v,p,j,g,d⟩:=m;dsimp only[B];clear B;dsimp only[dJ];rwa[uX ?_];intro jX w_2 w_1;let⟨z,rfl,X⟩:=cf hx;let hi:i<⇑ws:=(ai4.mp X).1;let R:ay A.aF f r S a:=(h.same M).keep (λb o hb e=>g b o (λq=>O (q ▸ hb)) e) (λb xs e=>g b _ (bS e C (by cbv)) e);rw[Rt X]at j;erw[12,r,a.dx,12,R.ins,cS _ _ _ ⋯,1212,r,S,a,cur,z,2,R,by rw[hw.w];ext]
   cases L:S.by cur z with
   |none=>rwa[⟨12212,eV ?_⟩];rw[zi L,ajm]at j;rwa[12,fin g d j]
   |some b=>
    rw[show (Option.map (λn:Nat=>V.int (n:Int)) (some b)).getD V.non=V.int (b:Int) from rfl];rwa[⟨12212,dI ?_⟩];rw[nj L]at j;erw[12,.inl ⟨21,aB.of d⟩,12,l,1122,d,5]
    ·rw[az,cD,ajo,p];rwa[aje (show i+ 1<=1001 by omega) ⋯]
    erw[b,pre++[b],12,G _ _ _ L,by rw[ai3,p];rfl,by rw[j,ajK];rfl,λx o n e=>[ak n]▸g x o n e];rw[aj,<-alB,iQ,ints_app];rfl
  ·intro D f m;rwa[aT ?_];intro B;let⟨cur,pre,N,rfl,v,p,j,g,d⟩:=m;dsimp only[B];clear B;rw[az,List.drop_length]at j;rwa[12,fin g d ([j]▸ajm _)]
def ia (g:Gg)(a:Zs):List (Str×V):=[("which",.int g.which),("word",↑a),("start",.int g.start),("front",.int g.front),("first",.int g.first),("rear",.int g.bB),("last",.int g.last)]
def MX (g:Gg)(a:Zs):(ia g a).lookup ("which":Str)\(.int g.which):=by kernel_rfl
def ki (g:Gg)(a:Zs):(ia g a).lookup ("word":Str)\↑a:=by kernel_rfl
def vq (g:Gg)(a:Zs):(ia g a).lookup ("start":Str)\(.int g.start):=by kernel_rfl
def kj (g:Gg)(a:Zs):(ia g a).lookup ("front":Str)\(.int g.front):=by kernel_rfl
def gL (g:Gg)(a:Zs):(ia g a).lookup ("first":Str)\(.int g.first):=by kernel_rfl
def kl (g:Gg)(a:Zs):(ia g a).lookup ("rear":Str)\(.int g.bB):=by kernel_rfl
def km (g:Gg)(a:Zs):(ia g a).lookup ("last":Str)\(.int g.last):=by kernel_rfl
def Ph {g:Gg}(h:x∉(["which","word","start","front","first","rear","last"]:Zp)):(ia g a).lookup x=none:=by simp only[ajs,ajR,akW,not_or]at h;let⟨e,c,j,d,i,b,f⟩:=h;unfold ia;simp only[List.lookup,ajA.mpr e,ajA.mpr c,ajA.mpr j,ajA.mpr d,ajA.mpr i,ajA.mpr b,ajA.mpr f]
def Cv (g:Gg)(a:Zs)(n:Nat):bO "front" (.int n) (ia g a)=ia { g with front:=n } a:=by kernel_rfl
def MY (g:Gg)(a:Zs)(n:Nat):bO "first" (.int n) (ia g a)=ia { g with first:=n } a:=by kernel_rfl
def EX (g:Gg)(a:Zs)(n:Nat):bO "rear" (.int n) (ia g a)=ia { g with bB:=n } a:=by kernel_rfl
def Ru (g:Gg)(a:Zs)(n:Nat):bO "last" (.int n) (ia g a)=ia { g with last:=n } a:=by kernel_rfl
structure et (CG:Zs)(H:Hp)(p dx wa:Zs)(g:Gg):Prop where
 ins:H p\(.ins CG dx (ia g wa))
 wo:H wa\(.tup (ao g.word))
def et.same {dx:Zs}{g:Gg}(h:et a H b dx c g)(s:aq H I):et a I b dx c g:=⟨s^h.ins,s^h.wo⟩
def et.set {dx:Zs}{g g':Gg}(h:et a H b dx c g)(e:g'.word=g.word):et a (upd H b (.ins a dx (ia g' c))) b dx c g':=⟨aj,[ak (bS h.wo h.ins (by cbv)),e]▸h.wo⟩
def iK (a:List (Zg×Nat)):List (Zd×V):=a.map λp=>(p.1.map Sum.inl,V.int p.2)
structure yB (rs:Za3)(fp:List (Zg×Nat)):Prop where
 a:∀p∈fp,rs[p.2]?\p.1
 b:∀w∈rs,∃n,(w,n)∈fp
 n:(fp.map (·.1)).Nodup
def Cw {c:List (Zg×Nat)}(w:Zg):bz (iK c) (w.map Sum.inl)=((c.find? λp=>decide (p.1=w)).map λp=>V.int p.2):=by
 induction c with
 |nil=>rfl
 |cons p l d=>
  cases h:p.1=w
  ·rw[amn (by cbv)];rwa[cQ (p:=(p.1.map Sum.inl,V.int p.2)) (by rw[h])]
  ·rw[alG (by simpa using h)];rwa[(cI (p:=(p.1.map Sum.inl,V.int p.2)) (λz=>h ?_)).trans d]
   let inj:∀{a b:Zg},a.map (Sum.inl:Int->Key)=b.map Sum.inl->a=b:=λ{a b} e=>by
    induction a generalizing b with
    |nil=>cases b with|nil=>rfl|cons=>ext e
    |cons x a d=>cases b with
     |nil=>ext e
     |cons y b=>cbv
   rwa[inj z]
def MZ:Sp:=λc H Q _=>∃(l:Zs)(rs:Za3),c=[↑l]/\bN H l rs/\⇑rs<=1000/\∀d b a,aq H a->H d=none->a d\.dT (iK b)->yB rs b->Q ↑d a
def xn:T.mE.Ok P w base 1 MZ:=by
 rwa[T.mE.on g9 (λcw AA Z s H vs Q E hr h=>?_) (len:=by rintro _ _ _ _ ⟨l,rs,rfl,_⟩;rfl)]
 ·let⟨l,rs,rfl,hW,hl,k⟩:=h;let U:=fA hr
  erw[_,{bE 1 g9.nd A6,b8 ajz rfl (p7 rfl T.gT (pv 0)) (jF rfl (cy (dc 2 g9.nd) (cy (dc 3 g9.nd) ie)))
    {aS (LX U (pv 1) (pv 3) (pv 2) ⟨2222⟩)},bu (pv 1)}]
  rwa[dN ?_];intro eD fq;let⟨C,y,x⟩:=id hW;rwa[λd M=>?_]
  generalize e_:upd H d _=H1;obtain⟨s1,q1⟩:_/\_\(.dT (iK [])):=ej e_ M;let ndl:l≠d:=av y M;erw[12,l,2,⟨_,aB.of (s1^y)⟩]
  let' I:Nat->St->Hp->Prop:=λi N B=>∃a v2 R,N=#v[↑l,↑d,v2,R]/\aq H B/\B d\.dT (iK a)/\(∀p∈a,rs[p.2]?\p.1/\p.2<i)/\(∀(j:Nat)(w:Zg),j<i->rs[j]?\w->∃n,(w,n)∈a)/\(a.map (·.1)).Nodup/\⇑a<=i
  refine oJ (xs:=C.map V.ref) I
   ⟨[],none,none,2,s1,q1,(λp c=>by ext c),λj w D=>absurd D ∅,akQ,aja _⟩ (λi N B _ ζ=>by let⟨_,_,_,_,s2,_⟩:=ζ;rwa[aB.of (s2^y)]) ?_ ?_
  ·intro i v N B t hi nt g;rwa[aT ?_];intro J;let⟨a,v2,R,rfl,s2,O,F,S,hn,hlen⟩:=g;dsimp only[J];clear J
   let f:i<⇑C:=by have:=(ai4.mp hi).1;rw[ai6]at this;rwa[this]
   let r:i<⇑rs:=by rw[<-x.1];rwa[f]
   let g1:C[i]?\(C[i]'f):=ai1 f
   let X:rs[i]?\(rs[i]'r):=ai1 r
   rw[ajc,g1]at hi;obtain rfl:V.ref (C[i]'f)=v:=Za0 hi;change C[i]'f=q at g1;change rs[i]'r=w at X;let L:=aq.upd (o:=.tup [.int (i:Int),↑q]) nt;erw[t,12,bG.of aj,21121122];change upd B t _=H3 at L ⊢;let m:=L^O;let hq:H3 q\(.tup ((w.map (Sum.inl:Int->Key)).map kV)):=by rw[ajM];rwa[(s2.trans L) _ _ (x.2 i q w g1 X)]
   rwa[⟨12,d,2,.inr ⟨_,.inl m⟩,1212,iK a,w.map Sum.inl,q,m,2,hq,5,λv G=>?_,λG=>?_⟩]
   ·unfold iK;rw[ai6];rwa[aje (show ⇑a<=1000 by omega) ⋯]
   ·rw[Cw]at G;let⟨p,c,rfl⟩:=akn.mp G;let e:p.1=w:=by let h9:=List.find?_some c;simpa using h9
    let hm:=List.mem_of_find?_eq_some c;rwa[⟨a,112,s2.trans L,m,λp c=>⟨(F p c).1,by have:=(F p c).2;ext⟩,λj u D eu=>?_,hn,3⟩];cases Y:j<i
    ·rwa[S j u Y eu]
    ·cbv
   ·rw[Cw]at G
    let hno:∀p∈a,p.1≠w:=λp c e=>by
     have:=List.find?_eq_none.mp (amo.mp G) p c
     cbv
    let ep:putK (iK a) (w.map Sum.inl) (V.int (i:Int))=iK (a++[(w,i)]):=by rw[pY _ ([Cw]▸G)];unfold iK;rw[ajt];rfl
    rw[ep];let Vm:H d=none:=M;rwa[⟨a++[(w,i)],112,λb o e=>[ak (av e Vm)]▸(s2.trans L) _ _ e,aj,λp c=>?_,λj u D eu=>?_,5,by rw[ai3];show _+ 1<=_;ext⟩]
    ·rcases ajh.mp c with z|z
     ·rwa[⟨(F p z).1,by have:=(F p z).2;ext⟩]
     ·rw[ai9.mp z];rwa[X,by show i<i+ 1;ext]
    ·cbv
    cbv
  ·intro N B g;rwa[aT ?_];intro J;let⟨a,v2,R,rfl,s2,O,F,S,hn,hlen⟩:=g;dsimp only[J];clear J;rwa[⟨12,k d a B s2 M O ⟨λp c=>(F p c).1,λw hw=>?_,hn⟩⟩];let⟨j,D⟩:=aj1 hw;rwa[S j w ([ai6,x.1]▸(ai4.mp D).1) D]
def zF (a:Nat)(word:Zg)(start:Nat):Gg:=⟨a,word,start,start,(0),start,⇑word - 1⟩
inductive JK (CG:Zs)(vs:Zb)(H:Hp)(Q:VK)(E_:XK):Prop
 |mk (x dx wa:Zs)(which start:Nat)(word:Zg):vs=[↑x,.int which,↑wa,.int start]->H x\.ins CG dx []->H wa\.tup (ao word)->1<=⇑word->⇑word<=1000->(∀H',(∀b o,H b\o->b≠x->H' b\o)->et CG H' x dx wa (zF which word start)->Q .non H')->JK CG vs H Q E_
def Vn (a start:Nat)(b:Zs)(l:Int):List (Str×V):=[("which",.int a)]
def Vo (a start:Nat)(b:Zs)(l:Int):List (Str×V):=[("which",.int a),("word",↑b)]
def Vp (a start:Nat)(b:Zs)(l:Int):List (Str×V):=[("which",.int a),("word",↑b),("start",.int start)]
def Vq (a start:Nat)(b:Zs)(l:Int):List (Str×V):=[("which",.int a),("word",↑b),("start",.int start),("front",.int start)]
def Vr (a start:Nat)(b:Zs)(l:Int):List (Str×V):=[("which",.int a),("word",↑b),("start",.int start),("front",.int start),("first",.int 0)]
def Vs (a start:Nat)(b:Zs)(l:Int):List (Str×V):=[("which",.int a),("word",↑b),("start",.int start),("front",.int start),("first",.int 0),("rear",.int start)]
def gx7 (a start:Nat)(b:Zs)(l:Int):List (Str×V):=[("which",.int a),("word",↑b),("start",.int start),("front",.int start),("first",.int 0),("rear",.int start),("last",.int l)]
def gy2 (a start:Nat)(b:Zs)(l:Int):bO "word" ↑b (Vn a start b l)=Vo a start b l:=dM (by kernel_rfl)
def gy3 (a start:Nat)(b:Zs)(l:Int):bO "start" (.int start) (Vo a start b l)=Vp a start b l:=dM (by kernel_rfl)
def gy4 (a start:Nat)(b:Zs)(l:Int):bO "front" (.int start) (Vp a start b l)=Vq a start b l:=dM (by kernel_rfl)
def gy5 (a start:Nat)(b:Zs)(l:Int):bO "first" (.int 0) (Vq a start b l)=Vr a start b l:=dM (by kernel_rfl)
def gy6 (a start:Nat)(b:Zs)(l:Int):bO "rear" (.int start) (Vr a start b l)=Vs a start b l:=dM (by kernel_rfl)
def gy7 (a start:Nat)(b:Zs)(l:Int):bO "last" (.int l) (Vs a start b l)=gx7 a start b l:=dM (by kernel_rfl)
def uh:T.gk.Ok mg P w base 1 (JK A.aL):=by
 rwa[T.gk.on ub (λS AA m s H vs Q E hr h=>?_)]
 ·let⟨x,c,d,a,start,word,rfl,r,f,T4,N,k⟩:=h
  refine⟨_,{cq (pv 0) (pv 1) rfl,cq (pv 0) (pv 2) rfl,cq (pv 0) (pv 3) rfl,cq (pv 0) (pv 3) rfl,cq (pv 0) aw rfl,cq (pv 0) (pv 3) rfl,cq (pv 0) (aO hJ (2<<<0) aw) rfl},?_⟩
  rwa[qd ?_];intro R pD X U eD J;let st:∀{H0:Hp}{fs gs:List (Str×V)},H0 x\.ins A.aL c fs->(∀b o,H b\o->b≠x->H0 b\o)->upd H0 x (.ins A.aL c gs) x\.ins A.aL c gs/\∀b o,H b\o->b≠x->upd H0 x (.ins A.aL c gs) b\o:=λ_ h=>⟨aj,λb o e n=>[ak n]▸h b o e n⟩
  let g:d≠x:=bS f r (by cbv);let o0:∀b o,H b\o->b≠x->H b\o:=λb o e _=>e
  erw[1212,x,_,c,12,r,aP T,T.Ca,(by show 0<1000;decide)];rw[show bO "which" (.int a) []=Vn a start d (((⇑word - 1:Nat):Int)) from rfl];let⟨v,C⟩:=st (gs:=Vn a start d (((⇑word - 1:Nat):Int))) r o0;change upd H x _=Y at v C ⊢;erw[1212,x,_,c,12,v,aP T,T.jz,(by show 1<1000;decide)];rw[gy2];let⟨q,B⟩:=st (gs:=Vo a start d (((⇑word - 1:Nat):Int))) v C;change upd Y x _=Z at q B ⊢;erw[1212,x,_,c,12,q,aP T,T.qy,(by show 2<1000;decide)];rw[gy3];let⟨l,D⟩:=st (gs:=Vp a start d (((⇑word - 1:Nat):Int))) q B;change upd Z x _=L at l D ⊢;erw[1212,x,_,c,12,l,aP T,T.gI,(by show 3<1000;decide)];rw[gy4];let⟨j,F⟩:=st (gs:=Vq a start d (((⇑word - 1:Nat):Int))) l D;change upd L x _=O at j F ⊢;erw[12,x,_,c,12,j,aP T,T.e8,(by show 4<1000;decide)];rw[gy5];let⟨t,z⟩:=st (gs:=Vr a start d (((⇑word - 1:Nat):Int))) j F;change upd O x _=M at t z ⊢;erw[1212,x,_,c,12,t,aP T,T.gU,(by show 5<1000;decide)];rw[gy6];let⟨u,i⟩:=st (gs:=Vs a start d (((⇑word - 1:Nat):Int))) t z;change upd M x _=G at u i ⊢;erw[12,d,12,.inr (bG.of (i _ _ f g)),112212,x,_,c,12,u,aP T,T.iD,(by show 6<1000;decide)];rw[show V.int ((⇑(ao word):Int) - 1)=V.int (((⇑word - 1:Nat):Int)) by show V.int ((⇑(ao word):Int) - 1)=_;rw[az];congr 1;ext];rw[gy7];let⟨y,p⟩:=st (gs:=gx7 a start d (((⇑word - 1:Nat):Int))) u i;change upd G x _=I at y p ⊢;rwa[k I p ⟨y,p _ _ f g⟩]
structure sJ (S:RS)(g g':Gg):Prop where
 wh:g'.which=g.which
 wo:g'.word=g.word
 st:g'.start=g.start
 gi:GI S g'
 ef:S.ax g'.front=g'.front
 er:S.ax g'.bB=g'.bB
 k1:S.ax g.front=g.front->S.by g.front g.z1=none->g'.front=g.front/\g'.first=g.first
 k2:S.ax g.bB=g.bB->S.by g.bB g.z2=none->g'.bB=g.bB/\g'.last=g.last
def sJ.fwd {g g1:Gg}(h:sJ S g g1)(i:Good S [] R)(a:g1.first<g1.last){c:Nat}(hc:S.by g1.front g1.z1=some c):sJ S g { g1 with front:=c,first:=g1.first+ 1 }:=by
 let⟨_,b,_,e⟩:=i.st _ _ _ hc;let ll:=h.gi.ll;let hz:=Gg.mh (g:=g1) ∅;rwa[⟨h.wh,h.wo,h.st,⟨a,ll,h.gi.s,b,h.gi.r,5,h.gi.wr⟩,e,h.er,λf d=>?_,h.k2⟩]
 ·have:=h.gi.wf;rw[h.ef]at this;show wk S.by _ (g1.word.take (g1.first+ 1))=some (S.ax c);rw[take_snoc hz,rQ this,IE hc,e]
 ·let⟨j,k⟩:=h.k1 f d;unfold Gg.z1 at hc d;rw[j,k,h.wo,d]at hc;ext hc
def sJ.bwd {g g1:Gg}(h:sJ S g g1)(d:Good S [] R)(f:g1.first<g1.last){c:Nat}(hc:S.by g1.bB g1.z2=some c):sJ S g { g1 with bB:=c,last:=g1.last - 1 }:=by
 let⟨_,a,_,e⟩:=d.st _ _ _ hc;let ll:=h.gi.ll;let hz:=Gg.at2 (g:=g1) ll;rwa[⟨h.wh,h.wo,h.st,⟨by show g1.first<=g1.last - 1;ext,by show g1.last - 1<⇑g1.word;ext,h.gi.s,h.gi.f,a,h.gi.wf,5⟩,h.ef,e,h.k1,λi b=>?_⟩]
 ·have:=h.gi.wr;rw[h.er]at this;show wk S.by (S.ax c) (g1.word.drop (g1.last - 1+ 1))=some (S.ax g1.start);rw[show g1.last - 1+ 1=g1.last by ext,drop_cons hz,e,jv (d.sy _ _ _ hc)];ext
 ·let⟨j,k⟩:=h.k2 i b;unfold Gg.z2 at hc b;rw[j,k,h.wo,b]at hc;ext hc
inductive Pj (CR CG:Zs)(vs:Zb)(H:Hp)(Q:VK)(E_:XK):Prop
 |mk (p dx wa r:Zs)(g:Gg)(S:RS)(a:RA)(R:Za2):vs=[↑p,↑r]->et CG H p dx wa g->ay CR H r S a->Good S [] R->GI S g->¬a.own r p->⇑g.word<=1000->(∀g' H',(∀b o,b≠p->H b\o->H' b\o)->et CG H' p dx wa g'->YW S g g'->Q .non H')->Pj CR CG vs H Q E_
theorem vr:T.kZ.Ok mg P w base 2 (Pj A.aF A.aL):=by
 rwa[T.kZ.on ji (λcw AA outer s H vs Q E hr h=>?_)]
 ·let⟨p,d,C,r,g,S,a,R,rfl,Z,hR,F,y,Vt,O,k⟩:=h
  refine⟨_,{cq (pv 0) (pm (pv 1) (aJ T) T.gS (iF T) hr #[0<<<1]) rfl,cq (pv 0) (pm (pv 1) (aJ T) T.gS (iF T) hr #[0<<<1]) rfl,bL (fJ ajz (bf pT (0<<<1) (0<<<1) (bp _))
    {bE 2 ji.nd (pm (pv 1) (aJ T) T.hY (gW T) hr #[0<<<1,(0<<<1)&&&(0<<<1)]),bP (bf kD (pv 2) dm (bp _))
     {uK}
     bC,cq (pv 0) (pv 2) rfl,cq (pv 0) (aO du (0<<<1) aw) rfl}),bL (fJ ajz (bf pT (0<<<1) (0<<<1) (bp _))
    {bE 2 ji.nd (pm (pv 1) (aJ T) T.hY (gW T) hr #[0<<<1,da cL ((0<<<1)&&&(0<<<1))]),bP (bf kD (pv 2) dm (bp _))
     {uK}
     bC,cq (pv 0) (pv 2) rfl,cq (pv 0) (aO hJ (0<<<1) aw) rfl})},?_⟩
  rwa[hV ?_];intro iI eD fq;let eo:∀{c:Nat},c<S.q->S.aY[c]?\(S.ax c):=λ{c} hc=>pI ([F.wf.e]▸hc)
  let kp:∀{G:Hp},(∀b o,b≠p->H b\o->G b\o)->ay A.aF G r S a:=λ{G} f=>hR.keep (λb o hb e=>f b o (λz=>Vt (z ▸ hb)) e) (λb xs e=>f b _ (bS e Z.ins (by cbv)) e)
  let up:∀{G:Hp}{o2:HO},(∀b o,b≠p->H b\o->G b\o)->∀b o,b≠p->H b\o->upd G p o2 b\o:=λf b o n e=>by rw[ak n];rwa[f b o n e]
  erw[12,r,a.dx,12,hR.ins,cS _ _ _ ⋯,12,p,_,d,112,Z.ins,aP T,T.gI,kj _ _,r,S,a,g.front,S.ax g.front,2,hR,eo y.f,12,p,_,d,12,Z.ins,aP T,T.gI,(by show 7<1000;decide)];rw[Cv];let p1:=Z.set (g':={ g with front:=S.ax g.front }) rfl;let f1:=up (o2:=.ins A.aL d (ia { g with front:=S.ax g.front } C)) (λb o _ e=>e);change upd H p _=H1 at p1 f1 ⊢;let R1:=kp f1;erw[12,r,a.dx,12,R1.ins,cS _ _ _ ⋯,12,p,_,d,112,p1.ins,aP T,T.gU,kl _ _,r,S,a,g.bB,S.ax g.bB,2,R1,eo y.r,12,p,_,d,12,p1.ins,aP T,T.gU,(by show 7<1000;decide)];rw[EX];let p2:=p1.set (g':={ g with front:=S.ax g.front,bB:=S.ax g.bB }) rfl;let f2:=up (o2:=.ins A.aL d (ia { g with front:=S.ax g.front,bB:=S.ax g.bB } C)) f1;change upd H1 p _=G at p2 f2 ⊢;let e1:=(F.el _ y.f).2;let e2:=(F.el _ y.r).2;let I:sJ S g { g with front:=S.ax g.front,bB:=S.ax g.bB }:=⟨222,⟨y.fl,y.ll,y.s,F.lt y.f,F.lt y.r,by show wk _ _ _\S.ax (S.ax g.front);rw[e1];rwa[y.wf],by show wk _ (S.ax (S.ax g.bB)) _=_;rw[e2];rwa[y.wr]⟩,e1,e2,λe _=>⟨e,2⟩,λe _=>⟨e,2⟩⟩
  let' L:St->Hp->Prop:=λ B j=>∃g1 u,B=#v[↑p,↑r,u]/\(∀b o,b≠p->H b\o->j b\o)/\et A.aL j p d C g1/\sJ S g g1/\(g1.first<g1.last->S.by g1.front g1.z1=none)
  erw[L,5]
  ·rwa[bH ?_];intro jX;erw[λm N j=>∃g1 u,m=g1.last - g1.first/\N=#v[↑p,↑r,u]/\(∀b o,b≠p->H b\o->j b\o)/\et A.aL j p d C g1/\sJ S g g1,⟨11,none,22,f2,p2,I⟩];intro m N j t;rwa[aT ?_];intro v;let⟨g1,u,rfl,rfl,x,i,ad⟩:=t;dsimp only[v];clear v;let Y:=kp x;let ll:=ad.gi.ll;let fl:=ad.gi.fl;let lw:⇑g1.word<=1000:=by rw[ad.wo];rwa[O]
   erw[12,p,_,d,112,i.ins,aP T,T.e8,gL _ _,12,p,_,d,112,i.ins,aP T,T.iD,km _ _,112212];rwa[cP (λq=>?_) (λq=>?_)]
   ·let q:(g1.first:Int)<(g1.last:Int):=ajX q;erw[_,λ_ _ z=>z];let hz:=Gg.mh (g:=g1) ∅;erw[12,r,a.dx,12,Y.ins,cS _ _ _ ⋯,12,p,_,d,112,i.ins,aP T,T.gI,kj _ _,12,p,_,d,112,i.ins,aP T,T.jz,ki _ _,12,p,_,d,112,i.ins,aP T,T.e8,gL _ _,C,11,.int g1.z1,22,bG.of i.wo,ck (bT hz),r,S,a,g1.front,g1.z1,2,Y,[F.wf.w]▸ad.gi.f]
    cases U:S.by g1.front g1.z1 with
    |none=>rwa[12212,eV ⟨g1,12,x,i,ad,λ_=>U⟩]
    |some c=>rw[show (Option.map (λn:Nat=>V.int (n:Int)) (some c)).getD V.non=V.int (c:Int) from rfl];rwa[⟨12212,dI ?_⟩];erw[1212,p,_,d,12,i.ins,aP T,T.gI,(by show 7<1000;decide)];rw[Cv];let D:=i.set (g':={ g1 with front:=c }) rfl;let X:=up (o2:=.ins A.aL d (ia { g1 with front:=c } C)) x;change upd j p _=H3 at D X ⊢;erw[12,p,_,d,112,D.ins,aP T,T.e8,gL _ _,112212,p,_,d,12,D.ins,aP T,T.e8,(by show 7<1000;decide)];rw[show V.int ((({ g1 with front:=c }:Gg).first:Int)+ 1)=V.int ((g1.first+ 1:Nat):Int) from rfl,MY];rwa[_,by show g1.last - (g1.first+ 1)<_;ext,1122,up X,D.set rfl,ad.fwd F ∅ U]
   ·rwa[g1,u,2,x,i,ad,λz=>absurd (ajI (show (g1.first:Int)<(g1.last:Int) by omega)) q]
  intro B j t;rwa[aT ?_];intro v;let⟨g0,v0,rfl,f0,p0,I,n0⟩:=t;dsimp only[v];clear v
  let' J:St->Hp->Prop:=λ B j=>∃g1 u,B=#v[↑p,↑r,u]/\(∀b o,b≠p->H b\o->j b\o)/\et A.aL j p d C g1/\sJ S g g1/\(g1.first<g1.last->S.by g1.front g1.z1=none)/\(g1.first<g1.last->S.by g1.bB g1.z2=none)
  erw[J,5]
  ·rwa[bH ?_];intro jX;erw[λm N j=>∃g1 u,m=g1.last - g1.first/\N=#v[↑p,↑r,u]/\(∀b o,b≠p->H b\o->j b\o)/\et A.aL j p d C g1/\sJ S g g1/\(g1.first<g1.last->S.by g1.front g1.z1=none),⟨11,v0,22,f0,p0,I,n0⟩];intro m N j t;rwa[aT ?_];intro v;let⟨g1,u,rfl,rfl,x,i,ad,M⟩:=t;dsimp only[v];clear v;let Y:=kp x;let ll:=ad.gi.ll;let fl:=ad.gi.fl;let lw:⇑g1.word<=1000:=by rw[ad.wo];rwa[O]
   erw[12,p,_,d,112,i.ins,aP T,T.e8,gL _ _,12,p,_,d,112,i.ins,aP T,T.iD,km _ _,112212];rwa[cP (λq=>?_) (λq=>?_)]
   ·let q:(g1.first:Int)<(g1.last:Int):=ajX q;erw[_,λ_ _ z=>z];let hz:=Gg.at2 (g:=g1) ll;erw[12,r,a.dx,12,Y.ins,cS _ _ _ ⋯,12,p,_,d,112,i.ins,aP T,T.gU,kl _ _,12,p,_,d,112,i.ins,aP T,T.jz,ki _ _,12,p,_,d,112,i.ins,aP T,T.iD,km _ _,C,11,.int (-g1.z2),22,bG.of i.wo,ck (bT hz),12,r,S,a,g1.bB,g1.z2,(by cbv),Y,[F.wf.w]▸ad.gi.r]
    cases U:S.by g1.bB g1.z2 with
    |none=>rwa[12212,eV ⟨g1,12,x,i,ad,M,λ_=>U⟩]
    |some c=>rw[show (Option.map (λn:Nat=>V.int (n:Int)) (some c)).getD V.non=V.int (c:Int) from rfl];rwa[⟨12212,dI ?_⟩];erw[1212,p,_,d,12,i.ins,aP T,T.gU,(by show 7<1000;decide)];rw[EX];let D:=i.set (g':={ g1 with bB:=c }) rfl;let X:=up (o2:=.ins A.aL d (ia { g1 with bB:=c } C)) x;change upd j p _=H3 at D X ⊢;erw[12,p,_,d,112,D.ins,aP T,T.iD,km _ _,112212,p,_,d,12,D.ins,aP T,T.iD,(by show 7<1000;decide)];rw[show V.int ((({ g1 with bB:=c }:Gg).last:Int) - 1)=V.int ((g1.last - 1:Nat):Int) by show V.int ((g1.last:Int) - 1)=_;congr 1;ext,Ru];rwa[_,by show (g1.last - 1) - g1.first<_;ext,1122,up X,D.set rfl,ad.bwd F ∅ U,λz=>M (by let z:g1.first<g1.last - 1:=z;omega)]
   ·rwa[g1,u,2,x,i,ad,M,λz=>absurd (ajI (show (g1.first:Int)<(g1.last:Int) by omega)) q]
  intro B j t;rwa[aT ?_];intro v;let⟨g1,u,rfl,x,i,ad,M,n2⟩:=t;dsimp only[v];clear v;rwa[k g1 j x i ⟨ad.wh,ad.wo,ad.st,ad.gi,ad.ef,ad.er,M,n2,ad.k1,ad.k2⟩]
def YB (ns:Zg)(j:Nat):fY (ao ns) none (some (j:Int))=ao (ns.take j):=by
 rw[pW,HT.xO];show ao ((List.drop 0 ns).take (min j ⇑ns - 0))=_
 cbv
def Rw (ns:Zg)(j:Nat)(h:j<=⇑ns):fY (ao ns) (some (j:Int)) none=ao (ns.drop j):=by rw[pW,HT.xO,alv h];show ao ((ns.drop j).take (⇑ns - j))=_;rw[akx ([aj4]▸aja _)]
theorem pJ {by_:Nat->Int->Zi}:∀{ws:Zg}{r:Nat},⇑(cz by_ r ws)<=⇑ws
 |[],_=>aja _
 |z::ws,r=>by
  cases q:by_ r z with
  |none=>rw[zi q];rwa[ajB _]
  |some d=>rw[nj q,ajo,ajo];rwa[Nat.succ_le_succ pJ]
inductive JL (CR CG:Zs)(vs:Zb)(H:Hp)(Q:VK)(E_:XK):Prop
 |mk (p dx wa r:Zs)(g:Gg)(S:RS)(a:RA)(R:Za2):vs=[↑p,↑r]->et CG H p dx wa g->ay CR H r S a->Good S [] R->g.start<S.q->g.bB<S.q->g.last<⇑g.word->⇑g.word<=1000->(∀q H',aq H H'->bW H' 2 ↑q (lL g.which ((g.start::cz S.by g.start (g.word.take g.first))++(g.bB::cz S.by g.bB (g.word.drop (g.last+ 1)))) g.first)->Q ↑q H')->JL CR CG vs H Q E_
theorem Cy:T.sC.Ok mg P w base 3 (JL A.aF A.aL):=by
 rwa[T.sC.on mO (λcw AA O s H vs Q E hr h=>?_)]
 ·let⟨p,m,wa,r,g,S,a,R,rfl,t,hR,I,hs,U,hll,uF,k⟩:=h
  refine⟨_,{bE 2 mO.nd (pc T.walked (zE T) hr #[1,0<<<1,i9 pV (0<<<1) jl (ik (0<<<1))]),bE 3 mO.nd (pc T.walked (zE T) hr #[1,0<<<1,i9 pV (0<<<1) (ik (aO du (0<<<1) aw)) jl]),bu (cC #[oF (l:=[114,117,108,101]) rfl,0<<<1,dF iW rfl T.pk akY #[aO AY (pv 2) (pv 3)],0<<<1])},?_⟩
  rwa[dN ?_];intro eD fq;let B:∀c z d,S.by c z=some d->d<S.q:=λc z d e=>(I.st c z d e).2.1
  rwa[⟨1212,p,_,m,112,t.ins,aP T,T.qy,vq _ _,12,p,_,m,112,t.ins,aP T,T.jz,ki _ _,12,p,_,m,112,t.ins,aP T,T.e8,gL _ _,12,wa,12,t.wo,λt1 H1 s1 X=>?_⟩];rw[YB]at X;rwa[⟨r,S,a,g.start,t1,g.word.take g.first,2,hR.same s1,I.wf,hs,B,X,by rw[ajD];ext,λl1 H2 s2 h2=>?_⟩];let C:=s1.trans s2;let F:=t.same C;rwa[⟨1212,p,_,m,112,F.ins,aP T,T.gU,kl _ _,12,p,_,m,112,F.ins,aP T,T.jz,ki _ _,12,p,_,m,112,F.ins,aP T,T.iD,km _ _,112212,wa,12,F.wo,λt2 H3 s3 e3=>?_⟩];rw[show (g.last:Int)+ 1=((g.last+ 1:Nat):Int) by ext,Rw _ _ ∅]at e3;let D:=C.trans s3;rwa[⟨r,S,a,g.bB,t2,g.word.drop (g.last+ 1),2,hR.same D,I.wf,U,B,e3,by rw[aj4];ext,λl2 V s4 h4=>?_⟩];let y:=D.trans s4;let Y:=t.same y;let lx:=pJ (by_:=S.by) (ws:=g.word.take g.first) (r:=g.start);let ly:=pJ (by_:=S.by) (ws:=g.word.drop (g.last+ 1)) (r:=g.bB);rw[ajD]at lx;rw[aj4]at ly;rwa[⟨12,p,_,m,112,Y.ins,aP T,T.Ca,MX _ _,1212,l1,l2,1122,(s3.trans s4) _ _ h2,h4,5,λL n3=>?_⟩]
  ·rw[az,az,cD,cD,ajo,ajo];rwa[ajl (show _<=100000 by omega) ⋯]
  rwa[⟨L,12,.inl ⟨aB.of aj,λG n4=>?_⟩⟩];rw[<-ints_app,<-iQ]at n4 ⊢;let s5:=aq.upd (o:=.lst (ao (nI ((g.start::cz S.by g.start (g.word.take g.first))++(g.bB::cz S.by g.bB (g.word.drop (g.last+ 1))))))) n3;change (g.start::cz S.by g.start (g.word.take g.first))++(g.bB::cz S.by g.bB (g.word.drop (g.last+ 1)))=path at *;let N:=s5.trans (aq.upd (o:=.tup (ao (nI path))) n4);let e6:upd (upd V L (.lst (ao (nI path)))) G (.tup (ao (nI path))) G=_:=aj;change upd (upd V L (.lst (ao (nI path)))) G (.tup (ao (nI path)))=H6 at N e6 ⊢;rwa[⟨12,p,_,m,112,(N^Y.ins),aP T,T.e8,gL _ _,(Za4 4),λq nq=>?_⟩];let Z:=aq.upd (o:=.tup [.str (tx [114,117,108,101]),.int (g.which:Int),↑G,.int (g.first:Int)]) nq;rwa[k q _ (y.trans (N.trans Z)) (.t aj rfl λj v d b f=>?_)]
  match j,b,f with
  |0,b,f=>ext b;ext f;rwa[.s]
  |1,b,f=>ext b;ext f;rwa[.i]
  |2,b,f=>
   ext b;ext f;rwa[.t (Z^e6) (by rw[az,cD,ai6]) λi u x f1 M=>?_]
   let⟨z,rfl,n⟩:=cf f1;unfold nI at n;rw[ajc]at n M
   cases q1:path[i]? with
   |none=>rw[q1]at n;ext n
   |some c=>rw[q1]at n M;ext n;ext M;rwa[.i]
  |3,b,f=>ext b;ext f;rwa[.i]
  |j+ 4,b,f=>simp at b
def same_none (s:aq H I){b:Zs}(h:I b=none):H b=none:=by
 cases e:H b with
 |none=>rfl
 |some o=>rw[s^e]at h;ext h
structure KA where
 dx:Zs
 aQ:Zs
 aG:Zs
 aA:Zs
 aW:Zs
def pK (r:Zs)(c:KA)(a:Nat):List (Str×V):=[("rooms",↑r),("rules",↑c.aQ),("goings",↑c.aG),("agenda",↑c.aA),("waiting",↑c.aW),("heard",.int a)]
def fT (r:Zs)(c:KA)(a:Nat):(pK r c a).lookup ("rooms":Str)\↑r:=by kernel_rfl
def M0 (r:Zs)(c:KA)(a:Nat):(pK r c a).lookup ("rules":Str)\↑c.aQ:=by kernel_rfl
def kT (r:Zs)(c:KA)(a:Nat):(pK r c a).lookup ("goings":Str)\↑c.aG:=by kernel_rfl
def nU (r:Zs)(c:KA)(a:Nat):(pK r c a).lookup ("agenda":Str)\↑c.aA:=by kernel_rfl
def lH (r:Zs)(c:KA)(a:Nat):(pK r c a).lookup ("waiting":Str)\↑c.aW:=by kernel_rfl
def vt (r:Zs)(c:KA)(a:Nat):(pK r c a).lookup ("heard":Str)\(.int a):=by kernel_rfl
def fk {c:KA}(h:x∉(["rooms","rules","goings","agenda","waiting","heard"]:Zp)):(pK a c n).lookup x=none:=by simp only[ajs,ajR,akW,not_or]at h;let⟨f,d,i,e,g,b⟩:=h;unfold pK;simp only[List.lookup,ajA.mpr f,ajA.mpr d,ajA.mpr i,ajA.mpr e,ajA.mpr g,ajA.mpr b]
def M3 (r:Zs)(c:KA)(a n:Nat):bO "heard" (.int n) (pK r c a)=pK r c n:=by kernel_rfl
structure qC (CG:Zs)(H:Hp)(gv:Zb)(gs:Zf)(O:Zs->Prop):Prop where
 l:⇑gv=⇑gs
 n:∀(i:Nat)(v:V),gv[i]?\v->gs[i]?\none->v=.non
 s:∀(i:Nat)(v:V)(g:Gg),gv[i]?\v->gs[i]?\some g->∃p dx wa,v=↑p/\et CG H p dx wa g/\O p
 i:∀(i j:Nat)(p:Zs),gv[i]?\↑p->gv[j]?\↑p->i=j
structure cG (CG CC:Zs)(H:Hp)(x r:Zs)(c:KA)(gs:Zf)(ag:Zh)(W:bI)(hd:Nat)(fp:List (Zg×Nat))(O:Zs->Prop):Prop where
 ins:H x\(.ins CC c.dx (pK r c hd))
 hG:∃gv,H c.aG\.lst gv/\qC CG H gv gs O
 hA:H c.aA\(.lst (ao (nI ag)))
 wt:oQ H c.aW W O
 ne:c.aG≠c.aA
 ox:O x
 oG:O c.aG
 oA:O c.aA
 th:∀b,O b->∃o,H b\o/\(∀xs,o≠.tup xs)/\(∀kv,o≠.dT kv)/\(∀u v,o≠.df u v)/\∀ps,o≠.mZ ps
section
variable {CG CC:Zs}{H H':Hp}{x r:Zs}{c:KA}{gs:Zf}{ag:Zh}{W:bI}{hd:Nat}{fp:List (Zg×Nat)}{O:Zs->Prop}
def qC.keep (h:qC CG H L gs O)(f:∀b o,O b->H b\o->H' b\o)(ft:∀b a,H b\.tup a->H' b\.tup a):qC CG H' L gs O:=by rwa[⟨h.l,h.n,λi v g d k=>?_,h.i⟩];let⟨p,dx,j,e,q,o⟩:=h.s i v g d k;rwa[p,dx,j,e,⟨f _ _ o q.ins,ft^q.wo⟩,o]
def cG.keep (h:cG CG CC H x r c gs ag W hd fp O)(f:∀b o,O b->H b\o->H' b\o)(ft:∀b a,H b\.tup a->H' b\.tup a):cG CG CC H' x r c gs ag W hd fp O:=by let⟨i,g,g2⟩:=h.hG;rwa[⟨f _ _ h.ox h.ins,⟨i,f _ _ h.oG g,g2.keep f ft⟩,f _ _ h.oA h.hA,h.wt.keep f,h.ne,h.ox,h.oG,h.oA,λb d=>?_⟩];let⟨o,e,q⟩:=h.th b d;rwa[o,f _ _ d e,q]
def cG.same (h:cG CG CC H x r c gs ag W hd fp O)(s:aq H H'):cG CG CC H' x r c gs ag W hd fp O:=h.keep (λb o _ e=>s b o e) (λb o e=>s^e)
def cG.i6 (h:cG CG CC H x r c gs ag W hd fp O){b:Zs}{a:Zb}(e:H b\.tup a):¬O b:=λz=>by
 let⟨o,q,n,_⟩:=h.th b z
 cbv
def cG.JM (h:cG CG CC H x r c gs ag W hd fp O){b:Zs}{a:List (Zd×V)}(e:H b\.dT a):¬O b:=λz=>by
 let⟨o,q,_,n,_⟩:=h.th b z
 cbv
def cG.waits (h:cG CG CC H x r c gs ag W hd fp O){k:bI}{a:Zs->Prop}(f:∀b o,(∀j,o≠.dK j)->H b\o->H' b\o)(d:∀b,O b->a b)(w:oQ H' c.aW k a)(th:∀b,a b->∃o,H' b\o/\(∀t,o≠.tup t)/\(∀j,o≠.dT j)/\(∀u v,o≠.df u v)/\∀m,o≠.mZ m):cG CG CC H' x r c gs ag k hd fp a:=by let⟨l,s,g2⟩:=h.hG;rwa[⟨f _ _ (by cbv) h.ins,⟨l,f _ _ (by cbv) s,g2.l,g2.n,λi v g y n=>?_,g2.i⟩,f _ _ (by cbv) h.hA,w,h.ne,d _ h.ox,d _ h.oG,d _ h.oA,th⟩];let⟨p,dx,z,e,q,o⟩:=g2.s i v g y n;rwa[p,dx,z,e,⟨f _ _ (by cbv) q.ins,f _ _ (by cbv) q.wo⟩,d _ o]
def cG.agenda (h:cG CG CC H x r c gs ag W hd fp O)(a:Zh):cG CG CC (upd H c.aA (.lst (ao (nI a)))) x r c gs a W hd fp O:=by
 let⟨f,l,g2⟩:=h.hG;let k:∀b o,b≠c.aA->H b\o->upd H c.aA (.lst (ao (nI a))) b\o:=λb o n e=>by rw[ak n];rwa[e]
 let kn:∀b o,(∀m,o≠.lst m)->H b\o->upd H c.aA (.lst (ao (nI a))) b\o:=λb o n e=>k b o (λz=>by rw[z,h.hA]at e;cbv) e
 rwa[⟨kn _ _ (by cbv) h.ins,⟨f,k _ _ h.ne l,g2.l,g2.n,λi v g s j=>?_,g2.i⟩,aj,5,h.ne,h.ox,h.oG,h.oA,λb d=>?_⟩]
 ·let⟨p,dx,t,e,q,o⟩:=g2.s i v g s j;rwa[p,dx,t,e,⟨kn _ _ (by cbv) q.ins,kn _ _ (by cbv) q.wo⟩,o]
 ·let⟨D,E,k1,k2⟩:=h.wt;rwa[D,E,k1.keep λb o d e=>by let⟨u,q⟩:=k1.there d;cbv,k2]
 ·cases e:b=c.aA
  ·rwa[_,[e]▸aj,(by cbv),(by cbv),(by cbv),by cbv]
  ·let⟨o,q,n⟩:=h.th b d;rwa[o,k _ _ e q,n]
end
def Bt (O:Zs->Prop)(H a:Hp):Prop:=∀b o,¬O b->H b\o->a b\o
def Bt.trans {O a:Zs->Prop}(h:Bt O H I)(c:Bt a I J)(f:∀b,a b->O b\/H b=none):Bt O H J:=λb o n e=>c b o (λz=>(f b z).elim n λq=>by cbv) (h b o n e)
def Bt.of {O:Zs->Prop}(s:aq H I):Bt O H I:=λb o _ e=>s b o e
inductive JN (CR CG CC:Zs)(vs:Zb)(H:Hp)(Q:VK)(E_:XK):Prop
 |mk (x r:Zs)(c:KA)(gs:Zf)(ag:Zh)(W:bI)(hd:Nat)(fp:List (Zg×Nat))(O:Zs->Prop)(n m:Nat)(s:Int):vs=[↑x,.int n,.int m,.int s]->cG CG CC H x r c gs ag W hd fp O->m<100000->n<100000->(-1000<=s/\s<=1000)->(∀O' H',Bt O H H'->(∀b o,(∀kv,o≠.dK kv)->H b\o->H' b\o)->(∀b,O b->O' b)->(∀b,O' b->O b\/H b=none)->cG CG CC H' x r c gs ag (addW W m s n) hd fp O'->Q .non H')->JN CR CG CC vs H Q E_
structure jY (H:Hp)(O:Zs->Prop)(H1:Hp)(O1:Zs->Prop):Prop where
 f:∀b o,(∀kv,o≠.dK kv)->H b\o->H1 b\o
 bt:Bt O H H1
 le:∀b,O b->O1 b
 nw:∀b,O1 b->O b\/H b=none
 th:∀b,O1 b->∃o,H1 b\o/\(∀xs,o≠.tup xs)/\(∀kv,o≠.dT kv)/\(∀u v,o≠.df u v)/\∀ps,o≠.mZ ps
def jY.new {O a:Zs->Prop}(h:jY H O I a){p:Zs}{c:List (Key×V)}(d:I p=none):jY H O (upd I p (.dK c)) a:=by let s:=aq.upd (o:=.dK c) d;rwa[⟨λb o n e=>s^h.f b o n e,λb o n e=>s^h.bt b o n e,h.le,h.nw,λb f=>?_⟩];let⟨o,e,q⟩:=h.th b f;rwa[o,s^e,q]
def jY.put {O a:Zs->Prop}(h:jY H O I a){d:Zs}(hd:a d){f kv':List (Key×V)}(ed:I d\.dK f):jY H O (upd I d (.dK kv')) a:=by
 let k:∀b o,b≠d->I b\o->upd I d (.dK kv') b\o:=λb o n e=>by rw[ak n];rwa[e]
 rwa[⟨λb o n e=>k _ _ (λz=>by have:=h.f b o n e;cbv) (h.f b o n e),λb o n e=>k _ _ (λz=>?_) (h.bt b o n e),h.le,h.nw,λb c=>?_⟩]
 ·rcases h.nw d hd with q|q
  ·cbv
  cbv
 ·cases e:b=d
  ·rwa[⟨_,by rw[e];rwa[aj],(by cbv),(by cbv),(by cbv),by cbv⟩]
  ·let⟨o,q,m⟩:=h.th b c;rwa[o,k _ _ e q,m]
def jY.or1 {O a:Zs->Prop}(h:jY H O I a){p:Zs}(d:H p=none){o:HO}(l:I p\o)(g:∀i,o≠.tup i)(c:∀k,o≠.dT k)(j:∀u v,o≠.df u v)(f:∀e,o≠.mZ e):jY H O I (IQ a p):=by
 rwa[⟨h.f,h.bt,λb z=>.inl (h.le b z),λb z=>z.elim (h.nw b) λq=>.inr ([q]▸d),λb z=>?_⟩];rcases z with z|z
 ·rwa[h.th b z]
 ·rw[z];rwa[o,l,g,c,j,f]
def jY.no {O b:Zs->Prop}(h:jY H O I b){p:Zs}(a:I p=none):H p=none:=by
 cases e:H p with
 |none=>rfl
 |some o=>
  cases q:O p
  ·let⟨d,c,_⟩:=h.th p (h.le p q);cbv
  ·rw[h.bt p o q e]at a;ext a
def cG.mid {x:Zs}{c:KA}{gs:Zf}{W:bI}{hd:Nat}{f:List (Zg×Nat)}{O:Zs->Prop}(h:cG a b H x d c gs B W hd f O):jY H O H O:=⟨λ_ _ _ e=>e,λ_ _ _ e=>e,λ_ z=>z,λ_ z=>.inl z,h.th⟩
def nV:T.jQ.Ok mg P w base 1 (JN A.aF A.aL A.aI):=by
 rwa[T.jQ.on jV (λY AA J s H vs Q E Z h=>?_)]
 ·let⟨x,r,c,gs,ag,W,F,fp,O,n,m,s,rfl,h,hm,hn,hs,k⟩:=h;let I:=fA Z
  erw[_,{bL (bE 4 jV.nd (ni (0<<<1) (pv 2) fK ⟨2222⟩)),bL (bE 5 jV.nd (ni (pv 4) (pv 3) fK ⟨2222⟩)),j9 I (pv 5) (pv 1) sZ rfl}]
  rwa[dN ?_];intro eD X
  let' t:St->Hp->Prop:=λ f M=>∃d C,f=#v[↑x,.int (n:Int),.int (m:Int),.int s,↑d,none]/\jY H O M C/\fE M c.aW W C m d
  erw[t,5]
  ·rwa[bH ?_];intro R;rwa[⟨12,x,_,c.dx,112,h.ins,aK T,T.jT,lH^_,c.aW,2,h.wt.qJ,12,λp a=>?_⟩];let⟨b,g,u,q,L⟩:=h.wt.room a (c:=(m:Int)) ∅;rwa[⟨b,Sum.inl (m:Int),g,2,u,λv j=>?_,λj=>?_⟩]
   ·let⟨d,rfl,w⟩:=q v j;rwa[d,O,2,h.mid.new a,w]
   ·let w:=L j;let S:O c.aW:=by let⟨D,E,_,z⟩:=h.wt;rwa[z.o _ (.inl rfl)]
    rwa[p,12,((h.mid.new a).put S g).or1 a ([ak (λz=>by rw[z]at a;let⟨o,e,_⟩:=h.th _ S;rw[a]at e;ext e)]▸aj) s!"" s!"" (by intro _ _ z;ext z) s!"",w]
  rintro f M ⟨d,C,rfl,B,G⟩
  let' l:St->Hp->Prop:=λ f N=>∃e y,f=#v[↑x,.int (n:Int),.int (m:Int),.int s,↑d,↑e]/\jY H O N y/\qg N c.aW W y m s e
  erw[l,5]
  ·rwa[bH ?_];intro R;rwa[⟨12,d,2,G.qJ,12,λp a=>?_⟩];let⟨b,g,u,q,L⟩:=G.cell a hs;rwa[⟨b,Sum.inl s,g,2,u,λv j=>?_,λj=>?_⟩]
   ·let⟨e,rfl,w⟩:=q v j;rwa[e,C,2,B.new a,w]
   ·let w:=L j;let F:=G.own;rwa[p,12,((B.new a).put F g).or1 (B.no a) ([ak (λz=>by rw[z]at a;let⟨o,e,_⟩:=B.th _ F;rw[a]at e;ext e)]▸aj) s!"" s!"" (by intro _ _ z;ext z) s!"",w]
  rintro f N ⟨e,y,rfl,V,U⟩;let⟨b,g,u,q⟩:=U.put (n:=(n:Int)) ∅;erw[1212,e,12,j7.k (k:=Sum.inl (n:Int)) g u];let i:=V.put (kv':=putK b (Sum.inl (n:Int)) (.bl true)) U.own g;rwa[k y _ i.bt i.f i.le i.nw (h.waits i.f i.le q i.th)]
inductive JP (CR CG CC:Zs)(vs:Zb)(H:Hp)(Q:VK)(E_:XK):Prop
 |mk (x r:Zs)(c:KA)(gs:Zf)(ag:Zh)(W:bI)(hd:Nat)(fp:List (Zg×Nat))(O:Zs->Prop)(m:Nat)(s:Int):vs=[↑x,.int m,.int s]->cG CG CC H x r c gs ag W hd fp O->(∀ns:Zh,ns.Nodup->(∀n:Nat,n∈ns↔W m s n=true)->⇑ag+ ⇑ns<=13000000)->(∀ns H',Bt O H H'->ns.Nodup->(∀n:Nat,n∈ns↔W m s n=true)->cG CG CC H' x r c gs (ag++ns) (gf W m s) hd fp O->Q .non H')->JP CR CG CC vs H Q E_
def fH:T.eZ.Ok mg P w base 1 (JP A.aF A.aL A.aI):=by
 rwa[T.eZ.on w9 (λcw AA C s H vs Q E hr h=>?_)]
 ·let⟨x,r,c,gs,ag,W,hd,fp,O,m,s,rfl,h,hz,k⟩:=h;let B:=fA hr;erw[_,{aS (cO ajj PySem.F.slot_list_extend PySem.F.type_list_extend yS (0<<<1) #[dF (jN rfl) rfl T.jS aky #[uU (lY B (0<<<1) (pv 1) fK ⟨2222⟩) (pv 2) fK ⟨2222⟩]])}]
  let rest:∀{g:Hp}{L:bI}{l:Zs}{ns:Zh},cG A.aL A.aI g x r c gs ag L hd fp O->Bt O H g->g l=none->ns.Nodup->(∀n:Nat,n∈ns↔W m s n=true)->L=gf W m s->xR (V.ref c.aA) [V.ref l] (upd g l (.lst (ao (nI ns)))) (λ_ H'=>Q .non H'):=λ{g L l ns} j b2 f N Y eW=>by
   subst eW;let J:=aq.upd (o:=.lst (ao (nI ns))) f;erw[c.aA,l,1122,J^j.hA,aj,5]
   ·rw[az,az,cD,cD];rwa[ajl (hz ns N Y) ⋯]
   ·rw[<-ints_app,<-iQ];rwa[k ns _ (λb o n e=>[ak (λz=>n ([z]▸h.oA))]▸J^b2 b o n e) N Y ((j.same J).agenda (ag++ns))]
  rwa[⟨12,x,_,c.dx,112,h.ins,aK T,T.kQ,nU^_,.inl ⟨21,aB.of h.hA⟩,12,x,_,c.dx,112,h.ins,aK T,T.jT,lH^_,c.aW,2,h.wt.qJ,12,λU I=>?_⟩];generalize u:upd H U _=X;let⟨s1,R⟩:=ej u I;let D:=h.same s1;let⟨o,g1,g2⟩:=D.wt.get (c:=(m:Int));erw[o,g1];rcases g2 with ⟨rfl,no⟩|⟨d,rfl,w⟩
  ·rwa[⟨U,rfl,.inl ⟨_,.inl R⟩,_,rfl,λt i=>?_⟩];generalize u:upd X t _=g;let⟨a,M⟩:=ej u i;rwa[⟨[],Sum.inl s,a^R,2,(λv p=>by ext p),λ_=>⟨t,[],2,M,λl f=>?_⟩⟩];rwa[rest (ns:=[]) (D.same a) (.of (s1.trans a)) f akQ (λn=>⟨(λz=>by ext z),λz=>by cbv⟩) (ya (no s)).symm]
  ·rwa[⟨d,2,w.qJ,12,λt i=>?_⟩];generalize u:upd X t _=g;let⟨a,M⟩:=ej u i;let j:=D.same a;let⟨q,Z,S,e3⟩:=(w.same a).pop s;rwa[⟨q,Sum.inl s,Z,2,λv p=>?_,λp=>⟨t,[],2,M,λl f=>?_⟩⟩]
   ·let⟨e,G,ns,rfl,F,f1,f2,f3,f4,f5⟩:=e3 v p;rwa[⟨e,G,2,[ak F]▸f1,λl f=>?_⟩];let y:=(j.mid.put (kv':=fe q (Sum.inl s)) w.own Z);rw[f2];rwa[rest (j.waits y.f y.le f5 y.th) (Bt.trans (.of (s1.trans a)) y.bt λb z=>.inl z) f f3 f4 rfl]
   ·rwa[rest (ns:=[]) j (.of (s1.trans a)) f akQ (λn=>⟨(λz=>by ext z),λz=>by rw[S p]at z;ext z⟩) (ya (S p)).symm]
def _root_.Lake.L2.CI.Vu {bs:List (Nat×Zg×Nat)}{gs:Zf}{W:bI}{d:Nat->Int->Prop}{x:Zi}(h:CI S bs gs B W d x){m:Nat}{s:Int}{ns:Zh}(nd:ns.Nodup)(c:∀n:Nat,n∈ns↔W m s n=true):⇑ns+ vT S.q ⇑gs (gf W m s)<=vT S.q ⇑gs W:=by
 cases ns with
 |nil=>
  have:∀n,W m s n=false:=λn=>by
   cases q:W m s n with
   |false=>rfl
   |true=>
    let⟨_,b,_,e,_⟩:=h.en _ _ _ q
    cbv
  rw[ya this,ajQ,aly];rwa[aja _]
 |cons n r=>
  let⟨k,b,l,_,a,_,f,_⟩:=h.en _ _ _ ((c n).mp (aji ..));let a:m<S.q:=∅
  let i:=QY (G:=⇑gs) (W:=W) a f
  let g:=IU (P:=λn:Nat=>W m s n) (G:=⇑gs) nd λn a=>by let w:=(c n).mp a;let⟨_,b,_,e,_,j,_⟩:=h.en _ _ _ w;rwa[3,w]
  ext
def _root_.Lake.L2.CI.two {bs:List (Nat×Zg×Nat)}{gs:Zf}{W:bI}{a:Nat->Int->Prop}{x:Zi}(h:CI S bs gs B W a x):vT S.q ⇑gs W<=2* ⇑gs:=Q0 λn=>by let⟨p,q,e,_⟩:=h.sl n;rwa[p,q,e]
def _root_.Lake.L2.fE.keys {k:Zs}{W:bI}{O:Zs->Prop}(h:fE H k W O z d):∃(a:List (Key×V))(zs:Zg),H d\.dK a/\a.map (λb=>kV b.1)=ao zs/\⇑zs<=2001/\∀s n,W z s n=true->s∈zs:=by
 let⟨D,E,l,p,hd⟩:=h;let⟨a,j,o,c,f⟩:=l.LV hd
 let q:⇑a<=2001:=vS (n:=2001) (lo:=-1000) o c f λi v m=>by
  cases e:E z i with
  |none=>rw[e]at m;ext m
  |some x=>have:=p.e z i x e;ext
 let ex:∃zs:Zg,a.map (·.1)=zs.map Sum.inl:=by
  clear j o f q
  induction a with
  |nil=>rwa[[],2]
  |cons b r t=>
   let⟨zs,e⟩:=t λx g=>c x (ajw _ g)
   let⟨i,u⟩:=c b (aji ..);rwa[i::zs,by cbv]
 let⟨zs,e⟩:=ex;rwa[⟨a,zs,j,55,λs n w=>?_⟩]
 ·rw[show (λb:Key×V=>kV b.1)=kV ∘ (·.1) from rfl,<-ajM,e,ajM];rfl
 ·have:=ajY List.length e;rw[ai6,ai6]at this;ext
 ·let⟨x,g⟩:=l.se _ _ _ w;have:Sum.inl s∈a.map (·.1):=Ez (v:=↑x) (by rw[f,g];rfl)
  cbv
structure kU (CG CC:Zs)(S:RS)(bs:List (Nat×Zg×Nat))(gs:Zf)(W0:bI)(Ex:Nat->Int->Prop)(B:Nat)(x r:Zs)(c:KA)(hd:Nat)(fp:List (Zg×Nat))(O:Zs->Prop)(H:Hp)(ag:Zh)(W:bI):Prop where
 c:cG CG CC H x r c gs ag W hd fp O
 i:CI S bs gs ag W Ex none
 s:∀r s n,W r s n=true->W0 r s n=true
 b:⇑ag+ vT S.q ⇑gs W<=B
def kU.wake {bs:List (Nat×Zg×Nat)}{gs:Zf}{g:bI}{i:Nat->Int->Prop}{x:Zs}{e:KA}{hd:Nat}{f:List (Zg×Nat)}{O:Zs->Prop}{W:bI}(h:kU a b S bs gs g i n x c e hd f O H B W){m:Nat}{s:Int}{ns:Zh}(nd:ns.Nodup)(j:∀d:Nat,d∈ns↔W m s d=true)(q:cG a b I x c e gs (B++ns) (gf W m s) hd f O):kU a b S bs gs g i n x c e hd f O I (B++ns) (gf W m s):=⟨q,h.i.wake j,λc s d w=>h.s _ _ _ (dh.mp w).1,by have:=h.i.Vu nd j;have:=h.b;rw[ai3];ext⟩
def kU.fits {bs:List (Nat×Zg×Nat)}{gs:Zf}{f:bI}{g:Nat->Int->Prop}{x:Zs}{e:KA}{hd:Nat}{i:List (Zg×Nat)}{O:Zs->Prop}{W:bI}(h:kU a b S bs gs f g n x c e hd i O H B W)(k:n<=13000000){m:Nat}{s:Int}:∀ns:Zh,ns.Nodup->(∀d:Nat,d∈ns↔W m s d=true)->⇑B+ ⇑ns<=13000000:=λns nd j=>by have:=h.i.Vu nd j;have:=h.b;ext
inductive EY (CR CG CC:Zs)(vs:Zb)(H:Hp)(Q:VK)(E_:XK):Prop
 |mk (x r:Zs)(c:KA)(S:RS)(a:RA)(bs:List (Nat×Zg×Nat))(gs:Zf)(ag:Zh)(W:bI)(Ex:Nat->Int->Prop)(B hd:Nat)(fp:List (Zg×Nat))(O:Zs->Prop)(m:Nat):vs=[↑x,.int m]->kU CG CC S bs gs W Ex B x r c hd fp O H ag W->B<=13000000->ay CR H r S a->S.Wf->(∀b,a.own r b->¬O b)->m<S.q->S.ax m<S.q->(∀iL W' H',Bt O H H'->kU CG CC S bs gs W Ex B x r c hd fp O H' iL W'->(∀s n,W' m s n=false)->(∀s n,W' (S.ax m) s n=true->S.by (S.ax m) s=none)->Q .non H')->EY CR CG CC vs H Q E_
def rh:T.jg.Ok mg P w base 2 (EY A.aF A.aL A.aI):=by
 rwa[T.jg.on fj (λcw AA outer s H vs Q E hr h=>?_)]
 ·let⟨x,r,c,S,a,bs,gs,ag,W,Ex,B,hd,fp,O,m,rfl,h,hB,hR,wf,dj,hm,he,k⟩:=h;let m5:=fA hr
  erw[_,{b8 ajz rfl (cN (dF (jN rfl) rfl T.jS aky #[lY m5 (0<<<1) (pv 1) fK ⟨2222⟩])) (dc 2 fj.nd)
   {aS (pm (pv 0) (aK T) T.eZ (fH T) hr #[1,2])},bE 3 fj.nd (pm (0<<<1) (aJ T) T.gS (iF T) hr #[1]),b8 ajz rfl (cN (dF (jN rfl) rfl T.jS aky #[lY m5 (0<<<1) (pv 3) fK ⟨2222⟩])) (dc 2 fj.nd)
    {bL (bP (bf xM (pm (0<<<1) (aJ T) T.hY (gW T) hr #[3,2]) dm (bp _))
     {aS (pm (pv 0) (aK T) T.eZ (fH T) hr #[3,2])}
     bC)}}]
  rwa[dN ?_];intro eD fq;let rk:∀{F:Hp},Bt O H F->ay A.aF F r S a:=λ{F} b=>hR.keep (λb' o hb e=>b b' o (dj b' hb) e) (λb' xs e=>b b' _ (h.c.i6 e) e)
  let get:∀{U:Hp}{ag1:Zh}{W1:bI}(m1:Nat),kU A.aL A.aI S bs gs W Ex B x r c hd fp O U ag1 W1->∀N,U N=none->∃(o:Zc)(d:Zs)(y:List (Key×V))(J:Zg),eP (upd U N (.dK [])) c.aW (.int (m1:Int)) o/\o.getD ↑N=↑d/\upd U N (.dK []) d\.dK y/\y.map (λkv=>kV kv.1)=ao J/\∀s n,W1 m1 s n=true->s∈J:=λ{U ag1 W1} m1 h1 N I=>by
   let s1:=aq.upd (o:=.dK []) I;let⟨o,Y,g2⟩:=(h1.c.same s1).wt.get (c:=(m1:Int));rcases g2 with ⟨rfl,no⟩|⟨d,rfl,w⟩
   ·rwa[⟨none,N,[],[],Y,rfl,aj,rfl,λs n z=>by cbv⟩]
   ·let⟨y,J,e1,e2,_,e4⟩:=w.keys;rwa[_,d,y,J,Y,2,e1,e2,e4]
  rwa[⟨12,x,_,c.dx,112,h.c.ins,aK T,T.jT,lH^_,c.aW,2,h.c.wt.qJ,12,λN I=>?_⟩];let⟨o,d,y,J,Y,g2,g3,g4,Ob⟩:=get m h N I;rwa[⟨o,Y,d,y,(by rw[g2]),g3,λl nl=>?_⟩];rw[g4];let s1:=(aq.upd (o:=.dK []) I).trans (aq.upd (o:=.lst (ao J)) nl);let hl:upd (upd H N (.dK [])) l (.lst (ao J)) l\(.lst (ao J)):=aj;replace nl:=same_none (aq.upd (o:=.dK []) I) nl;change upd (upd H N (.dK [])) l (.lst (ao J))=U at s1 hl ⊢;clear Y g2 g3 g4;let nol:¬O l:=λz=>by let⟨o,e,_⟩:=h.c.th l z;cbv
  let h1:kU A.aL A.aI S bs gs W Ex B x r c hd fp O U ag W:=⟨h.c.same s1,h.i,h.s,h.b⟩;erw[l,2,⟨_,aB.of hl⟩]
  let' mR:Nat->St->Hp->Prop:=λi R F=>∃u L v2,R=#v[↑x,.int (m:Int),v2,none]/\Bt O U F/\kU A.aL A.aI S bs gs W Ex B x r c hd fp O F u L/\∀(j:Nat)(s:Int),j<i->J[j]?\s->∀n,L m s n=false
  refine dC (xs:=ao J) mR
   ⟨ag,W,none,2,λ_ _ _ e=>e,h1,λj s D=>absurd D ∅⟩ (λi R F _ ζ=>by let⟨_,_,_,_,b2,_⟩:=ζ;rwa[aB.of (b2 _ _ nol hl)]) ?_ ?_
  ·intro i v R F hi g;rwa[aT ?_];intro G;let⟨u,L,v2,rfl,b2,p,D⟩:=g;dsimp only[G];clear G;dsimp only[dJ];rwa[bH ?_];intro jX;let⟨s,rfl,hs⟩:=cf hi;rwa[⟨12,x,c.dx,12,p.c.ins,fk ⋯,1212,x,r,c,gs,u,L,hd,fp,O,m,s,2,p.c,p.fits hB,λns H3 b3 nd hn h3=>?_⟩];rwa[⟨1112,b2.trans b3 λb z=>.inl z,p.wake nd hn h3,λj s' f e n=>?_⟩]
   cases q:gf L m s m s' n with
   |false=>rfl
   |true=>
    let⟨q1,q2⟩:=dh.mp q
    cbv
  intro R F g;rwa[aT ?_];intro G;let⟨u,L,v2,rfl,b2,p,D⟩:=g;dsimp only[G];clear G;rw[az]at D;let Vv:Bt O H F:=Bt.trans (.of s1) b2 λb z=>.inl z
  let off:∀s n,L m s n=false:=λs n=>by
   cases q:L m s n with
   |false=>rfl
   |true=>let⟨j,f,e⟩:=akV.mp (Ob s n (p.s _ _ _ q));rw[D j s f (by rw[ai1 f,e]) n]at q;ext q
  clear D Ob hl nol h1;let R2:=rk Vv;erw[12,x,_,c.dx,112,p.c.ins,aK T,T.e9,fT^_,r,a.dx,12,R2.ins,cS _ _ _ ⋯,12,r,S,a,m,S.ax m,2,R2,pI ([wf.e]▸hm)];change S.ax m=e at he k ⊢;rwa[⟨12,x,_,c.dx,112,p.c.ins,aK T,T.jT,lH^_,c.aW,2,p.c.wt.qJ,12,λp2 xk=>?_⟩];let⟨o2,d2,acz,C,Y,g2,g3,g4,acA⟩:=get e p p2 xk;rwa[⟨o2,Y,d2,acz,(by rw[g2]),g3,λl2 EV=>?_⟩];rw[g4];let s3:=(aq.upd (o:=.dK []) xk).trans (aq.upd (o:=.lst (ao C)) EV);let vN:upd (upd F p2 (.dK [])) l2 (.lst (ao C)) l2\(.lst (ao C)):=aj;replace EV:=same_none (aq.upd (o:=.dK []) xk) EV;change upd (upd F p2 (.dK [])) l2 (.lst (ao C))=H3 at s3 vN ⊢;clear Y g2 g3 g4;let acB:¬O l2:=λz=>by let⟨o,e,_⟩:=p.c.th l2 z;cbv
  let h3:kU A.aL A.aI S bs gs W Ex B x r c hd fp O H3 u L:=⟨p.c.same s3,p.i,p.s,p.b⟩;erw[l2,2,⟨_,aB.of vN⟩]
  let' ko:Nat->St->Hp->Prop:=λi R Z=>∃M W4 v2,R=#v[↑x,.int (m:Int),v2,.int (e:Int)]/\Bt O H3 Z/\kU A.aL A.aI S bs gs W Ex B x r c hd fp O Z M W4/\(∀r s n,W4 r s n=true->L r s n=true)/\∀(j:Nat)(s:Int),j<i->C[j]?\s->∀n,W4 e s n=true->S.by e s=none
  refine dC (xs:=ao C) ko
   ⟨u,L,12,λ_ _ _ q=>q,h3,λ_ _ _ q=>q,λj s D=>absurd D ∅⟩ (λi R Z _ ζ=>by let⟨_,_,_,_,b4,_⟩:=ζ;rwa[aB.of (b4 _ _ acB vN)]) ?_ ?_
  ·intro i v R Z hi g;rwa[aT ?_];intro G;let⟨M,W4,v4,rfl,b4,X,t,D⟩:=g;dsimp only[G];clear G;dsimp only[dJ];rwa[bH ?_];intro jX;let⟨s,rfl,hs⟩:=cf hi;let b04:Bt O H Z:=Vv.trans (Bt.trans (.of s3) b4 λb z=>.inl z) λb z=>.inl z
   let R4:=rk b04;rwa[⟨15,λ_ _ z=>z⟩];erw[12,x,_,c.dx,112,X.c.ins,aK T,T.e9,fT^_,r,a.dx,12,R4.ins,cS _ _ _ ⋯,1212,r,S,a,e,s,2,R4,[wf.w]▸he]
   cases eb:S.by e s with
   |none=>
    erw[212];rwa[cP (λz=>absurd z ⋯) (λ_=>?_)];rwa[⟨1112,b4,X,t,λj s' f q n w=>?_⟩]
    cbv
   |some d=>
    rw[show (Option.map (λn:Nat=>V.int (n:Int)) (some d)).getD V.non=V.int (d:Int) from rfl];erw[212];rwa[cP (λ_=>?_) (λz=>absurd rfl z)];rwa[⟨12,x,c.dx,12,X.c.ins,fk ⋯,1212,x,r,c,gs,M,W4,hd,fp,O,e,s,2,X.c,X.fits hB,λns H5 b5 nd hn h5=>?_⟩];rwa[⟨1112,b4.trans b5 λb z=>.inl z,X.wake nd hn h5,λr s n w=>t _ _ _ (dh.mp w).1,λj s' f q n w=>?_⟩];let⟨w1,w2⟩:=dh.mp w
    cbv
  intro R Z g;rwa[aT ?_];intro G;let⟨M,W4,v4,rfl,b4,X,t,D⟩:=g;dsimp only[G];clear G;rw[az]at D;rwa[k M W4 Z (Vv.trans (Bt.trans (.of s3) b4 λb z=>.inl z) λb z=>.inl z) X (λs n=>?_) λs n w=>?_]
  ·cbv
  ·let⟨j,f,q⟩:=akV.mp (acA s n (t _ _ _ w));rwa[D j s f (by rw[ai1 f,q]) n w]
def cG.YC {x:Zs}{j:KA}{gs:Zf}{W:bI}{hd:Nat}{r:List (Zg×Nat)}{O:Zs->Prop}(h:cG a b H x c j gs B W hd r O)(F:∀(n:Nat) (g:Gg) (p dx k:Zs),gs[n]?\some g->et a H p dx k g->p≠x)(n:Nat):cG a b (upd H x (.ins b j.dx (pK c j n))) x c j gs B W n r O:=by
 let kn:∀f o,(∀C d fs,o≠.ins C d fs)->H f\o->upd H x (.ins b j.dx (pK c j n)) f\o:=λf o q e=>by rw[ak (λz=>by rw[z,h.ins]at e;cbv)];rwa[e]
 let⟨t,u,g2⟩:=h.hG;rwa[⟨aj,⟨t,kn _ _ (by cbv) u,g2.l,g2.n,λi v g y s=>?_,g2.i⟩,kn _ _ (by cbv) h.hA,5,h.ne,h.ox,h.oG,h.oA,λf l=>?_⟩]
 ·let⟨p,dx,k,e,q,o⟩:=g2.s i v g y s;rwa[p,dx,k,e,⟨[ak (F i g p dx k s q)]▸q.ins,kn _ _ (by cbv) q.wo⟩,o]
 ·let⟨D,E,k1,k2⟩:=h.wt;rwa[D,E,k1.keep λf o l e=>by let⟨G,q⟩:=k1.there l;rw[q]at e;ext e;rwa[kn _ _ (by cbv) q],k2]
 ·cases e:f=x
  ·rwa[_,[e]▸aj,(by cbv),(by cbv),(by cbv),by cbv]
  ·let⟨o,q,m⟩:=h.th f l;rwa[o,[ak e]▸q,m]
def Cz {x:Zs}{d:KA}{i:Zf}{W:bI}{f:List (Zg×Nat)}{O:Zs->Prop}(h:cG a b H x c d i B W n f O){p j k:Zs}{g:Gg}(q:et a H p j k g):p≠x:=λz=>by have:=q.ins;rw[z,h.ins]at this;let e:=ajY (λo:Option HO=>match o with|some (.ins _ _ fs)=>⇑fs|_=>0) this;rwa[absurd (show 6=7 from e) ⋯]
def Pk (S:RS)(a:Nat):Nat->Int->Prop:=λr _=>∃m∈S.aZ.drop a,r=m\/r=S.ax m
inductive JQ (CR CG CC:Zs)(vs:Zb)(H:Hp)(Q:VK)(E_:XK):Prop
 |mk (x r:Zs)(c:KA)(S:RS)(a:RA)(R:Za2)(bs:List (Nat×Zg×Nat))(gs:Zf)(ag:Zh)(W:bI)(B hd:Nat)(fp:List (Zg×Nat))(O:Zs->Prop):vs=[↑x]->kU CG CC S bs gs W (Pk S hd) B x r c hd fp O H ag W->B<=13000000->hd<=⇑S.aZ->ay CR H r S a->Good S [] R->(∀m∈S.aZ,m<S.q)->(∀b,a.own r b->¬O b)->(∀iL W' H',Bt O H H'->kU CG CC S bs gs W fM B x r c ⇑S.aZ fp O H' iL W'->Q .non H')->JQ CR CG CC vs H Q E_
def xo:T.mI.Ok mg P w base 3 (JQ A.aF A.aL A.aI):=by
 rwa[T.mI.on xa (λcw AA L s H vs Q E N h=>?_)]
 ·let⟨x,r,c,S,a,R,bs,gs,ag,W,B,hd,fp,O,rfl,h,hB,Y,hR,J,X,dj,k⟩:=h
  refine⟨_,{bL (fJ ajz (bf pT (0<<<1) (((0<<<1)<<<1)<<<0) (bp _))
   {aS (pm (pv 0) (aK T) T.jg (rh T) N #[((0<<<1)<<<1)|||(0<<<1)]),cq (pv 0) (aO du (0<<<1) aw) rfl})},?_⟩
  let rk:∀{u:Hp},Bt O H u->ay A.aF u r S a:=λ{u} b=>hR.keep (λF o hb e=>b F o (dj F hb) e) (λF xs e=>b F _ (h.c.i6 e) e)
  rwa[⟨λ eK H'=>Q .non H',5,λ_ _ q=>q⟩];erw[λm σ u=>∃d j G,m=⇑S.aZ - d/\σ=#v[↑x]/\d<=⇑S.aZ/\Bt O H u/\kU A.aL A.aI S bs gs W (Pk S d) B x r c d fp O u j G,⟨_,hd,ag,W,22,Y,λ_ _ _ e=>e,h⟩];intro m σ u I;rwa[aT ?_];intro q_;let⟨d,j,G,rfl,rfl,vN,U,i⟩:=I;dsimp only[q_];clear q_;let R2:=rk U;let t:=R2.ins;erw[12,x,_,c.dx,112,i.c.ins,aK T,T.mM,vt^_,12,x,_,c.dx,112,i.c.ins,aK T,T.e9,fT^_,r,_,a.dx,112,t,aJ T,T.sH,tI^_,a.aN,12,.inl (aB.of R2.hN),112212];rwa[cP (λq=>?_) (λq=>?_)]
  ·let q:(d:Int)<(⇑(ao (nI S.aZ)):Int):=ajX q;rw[az,cD]at q;let f:d<⇑S.aZ:=∅
   let D:S.aZ[d]?\(S.aZ[d]'f):=ai1 f
   change S.aZ[d]'f=m at D;let y:=X m (ai5 D);erw[_,λ_ _ z=>z];erw[12,x,c.dx,12,i.c.ins,fk ⋯,12,x,_,c.dx,112,i.c.ins,aK T,T.e9,fT^_,r,_,a.dx,112,t,aJ T,T.sH,tI^_,12,x,_,c.dx,112,i.c.ins,aK T,T.mM,vt^_,a.aN,11,.int (m:Int),22,aB.of R2.hN,ck (bT (jL D))];rwa[⟨x,r,c,S,a,bs,gs,j,G,Pk S d,B,d,fp,O,m,2,⟨i.c,i.i,λ_ _ _ z=>z,i.b⟩,hB,R2,J.wf,dj,y,J.lt y,λM W3 H3 b3 l w1 w2=>?_⟩];erw[12,x,_,c.dx,112,l.c.ins,aK T,T.mM,vt^_,112212,x,_,c.dx,12,l.c.ins,aK T,T.mM,(by show 6<1000;decide)];rw[show V.int ((d:Int)+ 1)=V.int ((d+ 1:Nat):Int) from rfl,M3];let c4:=l.c.YC (λn g p dx wa _ z=>Cz l.c z) (d+ 1);rwa[⟨⇑S.aZ - (d+ 1),3,d+ 1,M,W3,22,f,5,c4,l.i.ex λr' s n w N ex=>?_,λr s n w=>i.s _ _ _ (l.s _ _ _ w),l.b⟩]
   ·rwa[(U.trans b3 λb z=>.inl z).trans (λb o n e=>by rw[ak (λz=>n ([z]▸l.c.ox))];rwa[e]:Bt O H3 _) λb z=>.inl z]
   ·let⟨Z,v,C⟩:=ex;rw[alY f]at v;rcases ajs.mp v with z|z
    ·let em:Z=m:=by rw[z];rw[ai1 f]at D;rwa[Za0 D]
     subst em;rcases C with C|C
     ·rw[C,w1]at w;ext w
     ·subst C;rwa[.inl ⟨(J.el _ y).2,w2 s n w⟩]
    ·rwa[.inr ⟨Z,z,C⟩]
  ·let q:¬(d:Int)<(⇑(ao (nI S.aZ)):Int):=λz=>q (ajI z)
   rw[az,cD]at q;let e:d=⇑S.aZ:=∅
   subst e;rwa[k j G u U ⟨i.c,i.i.ex λr' s n w N ex=>?_,i.s,i.b⟩];let⟨Z,v,_⟩:=ex
   cbv
def zG {h:Ze}(g:Good S h R)(o:∀a z b,R a z b->z∈l)(r:S.q<=100000)(m:⇑l<=100000)(s:⇑S.rows<=1000000)(p:⇑S.aZ<=1000000):xj S:=by
 rwa[⟨g.wf,λc i=>g.lt i,λc z d e=>(g.st c z d e).2.1,λc n t=>g.cb c n t,λc _=>⟨g.kn c,λq j=>(g.st c q.1 q.2 (jt (g.kn c) j)).2.1,λq j _=>?_⟩,⟨r,λf k=>?_,s,p,λf k=>?_⟩⟩]
 ·rw[g.sy c q.1 q.2 (jt (g.kn c) j)];rfl
 ·let⟨c,i⟩:=aj1 k;have:S.way c=f:=by unfold RS.way;rw[ai8,i];rfl
  rw[<-this];rwa[ajl (g.IB o c) m]
 ·let⟨c,i⟩:=aj1 k;have:S.cF c=f:=by unfold RS.cF;rw[ai8,i];rfl
  rw[<-this];rwa[ajl (g.Ui c) ∅]
def CB (S:RS):S.stand<=S.q:=by unfold RS.stand;rwa[ajl List.countP_le_length (by cbv)]
def Vw (R:Za2)(m L B f M:Nat)(e:Zg)(d:RS)(c:Ze)(S:RS)(a:Ze):Prop:=Good S a R/\S.q=m/\S.L=L/\⇑S.rows+ S.stand<=B/\⇑S.aZ+ S.stand<=f/\mu ⇑e S a<=M/\∀b,kb S a b->kb d c b
def M4 {T:RS}{M:Nat}{r:Ze}(p:∀a z b,R a z b->z∈l)(J:m<=100000)(s:⇑l<=100000)(N:i<=1000000)(L:j<=1000000)(I:M<=1000000)(S:RS)(pend:Ze)(w:Way)(h:Vw R m n i j M l T r S (pend++[w])):
 xj S/\w.1<S.q/\w.2.2<S.q/\⇑pend<=1000000/\Vw R m n i j M l T r (S.takeIn pend w).1 (S.takeIn pend w).2/\mu ⇑l (S.takeIn pend w).1 (S.takeIn pend w).2<mu ⇑l S (pend++[w]):=by
 let⟨g,D,v,E,H,o,t⟩:=h;let⟨F,G,u,B,q⟩:=g.take p;let hw:=g.pl w (ajf _ aji);rwa[⟨zG g p ∅ s ∅ ∅,hw.1,hw.2,5,⟨F,by rw[u,D],by rw[B,v],553,λC d=>t C (.take d)⟩,G⟩]
 ·unfold mu at o;rw[ai3]at o;ext
 ·rcases q with ⟨e,k,f⟩|⟨e,c,z,x,y,_,_,_,_,_,k,f,_⟩
  ·rw[e,k];rwa[E]
  ·rw[k,ai3];have:⇑([gP c z (min x y) (max x y)]:List Dt)=1:=rfl;ext
 ·rcases q with ⟨e,k,f⟩|⟨e,c,z,x,y,_,_,_,_,_,k,f,_⟩
  ·rw[e,f];rwa[H]
  ·rw[f,ai3];have:⇑([max x y]:Zh)=1:=rfl;ext
def iG:z∈bA (2* n)↔z≠0/\z.natAbs<=n:=by
 unfold bA;rw[ajN];constructor
 ·rintro ⟨i,a,rfl⟩;rwa[M12.tM (ajJ.mp a)]
 ·rintro ⟨d,c⟩;cases b:0<z
  ·erw[2* (z.toNat - 1),ajJ.mpr ∅];unfold M12.st;rw[ajn ∅];ext
  ·erw[2* (z.natAbs - 1)+ 1,ajJ.mpr ∅];unfold M12.st;rw[ajk ∅];ext
structure iM (CR:Zs)(H:Hp)(r:Zs)(S:RS)(a:RA)(R:Za2)(ks:Zg)(B:Nat):Prop where
 at_:ay CR H r S a
 g:Good S [] R
 w:fD S
 k:∀a z b,R a z b->z∈ks
 m:S.q<=2000
 l:⇑ks<=400
 rb:⇑S.rows+ S.stand<=B
 wb:⇑S.aZ+ S.stand<=900000
def iM.keep {CR:Zs}(h:iM CR H a S O R l n)(k:∀b o,O.own a b->H b\o->I b\o)(d:∀b c,H b\.tup c->I b\.tup c):iM CR I a S O R l n:=⟨h.at_.keep k d,h.g,h.w,h.k,h.m,h.l,h.rb,h.wb⟩
def iM.same {CR:Zs}(h:iM CR H a S O R l n)(s:aq H I):iM CR I a S O R l n:=h.keep (λb o _ e=>s^e) (λb o e=>s^e)
def yC (h:ay a H b S O){c:Zs}{f:List (Zd×V)}(e:H c\.dT f):¬O.own b c:=λz=>by
 rcases z with z|z|z
 ·rw[z,h.ins]at e;ext e
 ·let⟨d,q⟩:=h.Og z;cbv
 ·let⟨d,q⟩:=h.qJ z;cbv
def M5 (w:Nat)(p:Zh)(k:Nat)(h:⇑p<=100000):lZ (lL w p k):=by
 rwa[.t (by show 4<=100000;decide) λd a=>?_]
 simp only[ajs,ajR,akW]at a;rcases a with rfl|rfl|rfl|rfl
 ·rwa[.s]
 ·rwa[.i]
 ·rwa[.t (by rw[ai6];rwa[h]) λd a=>?_]
  let⟨c,_,rfl⟩:=ajN.mp a;rwa[.i]
 ·rwa[.i]
inductive JR (CR CG CC:Zs)(vs:Zb)(H:Hp)(Q:VK)(E_:XK):Prop
 |mk (x r p dx wa:Zs)(c:KA)(S:RS)(a:RA)(R:Za2)(ks:Zg)(B:Nat)(ws:Za3)(nr:Nat)(bs:List (Nat×Zg×Nat))(gs:Zf)(ag:Zh)(W:bI)(fp:List (Zg×Nat))(O:Zs->Prop)(n:Nat)(g:Gg):vs=[↑x,↑p]->cG CG CC H x r c gs ag W ⇑S.aZ fp O->iM CR H r S a R ks B->B<900000->(∀b,a.own r b->¬O b)->CI S bs gs ag W fM (some n)->gs[n]?\none->bs[n]?\(g.which,g.word,g.start)->et CG H p dx wa g->¬O p->¬a.own r p->GI S g->g.first=g.last->S.ax g.start=g.start->S.ax g.front=g.front->S.ax g.bB=g.bB->ws[g.which]?\g.word->(g.which<nr\/g.start=0)->(∀z∈g.word,z∈ks/\-z∈ks)->⇑g.word<=1000->⇑ag+ 2* ⇑gs<=13000000->(∀S' a' R' iL W' H',(∀b o,¬O b->¬a.own r b->H b\o->H' b\o)->cG CG CC H' x r c gs iL W' ⇑S'.aZ fp O->iM CR H' r S' a' R' ks (B+ 1)->(∀b,a'.own r b->a.own r b\/H b=none)->CI S' bs gs iL W' fM none->⇑iL<=⇑ag+ 2* ⇑gs->(∀a z b,R a z b->R' a z b)->S'.q=S.q->S'.L=S.L->Tr ws nr S S'->Q .non H')->JR CR CG CC vs H Q E_
def yD:T.om.Ok mg P w base 6 (JR A.aF A.aL A.aI):=by
 rwa[T.om.on pA (λcw AA outer s H vs Q E U h=>?_)]
 ·let⟨x,r,p,t,wa,c,S,a,R,ks,B,ws,nr,bs,I,ag,W,fp,O,n,g,rfl,Z,f,hB,dj,ci,hgn,JS,v,CD,Vt,i,F,es,ef,er,Pl,Vx,hks,uF,L,k⟩:=h
  refine⟨_,{bE 2 pA.nd ((1<<<1)&&&(1<<<1)),bP (bf fU (pm (0<<<1) (aJ T) T.hY (gW T) U #[1<<<1,2]) (1<<<1) (bp _))
    {xK}
    bC,aS (pm (0<<<1) (aJ T) T.sD (Ct T) U #[1<<<1,2,1<<<1,pm (pv 1) (aP T) T.sC (Cy T) U #[0<<<1]]),aS (pm (pv 0) (aK T) T.eZ (fH T) U #[1<<<1,2]),aS (pm (pv 0) (aK T) T.eZ (fH T) U #[1<<<1,da cL (pv 2)]),aS (BF (pv 0) (aK T) T.mI (xo T) U)},?_⟩
  rwa[qc ?_];intro pD mQ iI eD fq;let hz:=Gg.mh (g:=g) ([F]▸i.ll);let mh:jI (ao g.word) (g.first:Int)\(.int g.z1):=ck (bT hz);let gd:=f.g;erw[12,p,_,t,112,v.ins,aP T,T.jz,ki _ _,12,p,_,t,112,v.ins,aP T,T.e8,gL _ _,wa,11,.int g.z1,22,bG.of v.wo,mh];erw[12,x,_,c.dx,112,Z.ins,aK T,T.e9,fT^_,r,a.dx,12,f.at_.ins,cS _ _ _ ⋯,12,p,_,t,112,v.ins,aP T,T.gI,kj _ _,12,r,S,a,g.front,g.z1,2,f.at_,[gd.wf.w]▸i.f,12,p,_,t,112,v.ins,aP T,T.gU,kl _ _]
  let fin:S.by g.front g.z1=some g.bB->Q .non H:=λj=>by rwa[k S a R ag W H (λ_ _ _ _ e=>e) Z ⟨f.at_,f.g,f.w,f.k,f.m,f.l,by have:=f.rb;ext,f.wb⟩ (λb z=>.inl z) (ci.done hgn λb eb=>?_) ∅ (λ_ _ _ z=>z) rfl rfl (.refl S)];rw[JS]at eb;obtain rfl:=Za0 eb;rwa[.inr (i.whole F es ef er j)]
  cases j:S.by g.front g.z1=some g.bB
  ·rw[j];erw[212];rwa[cP (λ_=>fin j) (λz=>absurd (ajI rfl) z)]
  let N:KZ (((S.by g.front g.z1).map λn:Nat=>V.int (n:Int)).getD .non) (.int (g.bB:Int))=true/\decide ((((S.by g.front g.z1).map λn:Nat=>V.int (n:Int)).getD .non)=V.int (g.bB:Int))=false:=by
   cases q:S.by g.front g.z1 with
   |none=>rwa[2,ajV f!""]
   |some d=>rwa[2,ajV (λz=>j (by rw[q];have:=V.int.inj z;congr 1;omega))]
  erw[N.1,12];rw[N.2];rwa[dI ?_];clear fin N;rwa[⟨12,x,_,c.dx,112,Z.ins,aK T,T.e9,fT^_,r,a.dx,12,f.at_.ins,cS _ _ _ ⋯,12,p,_,t,112,v.ins,aP T,T.gI,kj _ _,1212,p,_,t,112,v.ins,aP T,T.gU,kl _ _,12,p,t,12,v.ins,Ph ⋯,12,x,_,c.dx,112,Z.ins,aK T,T.e9,fT^_,p,t,wa,r,g,S,a,R,2,v,f.at_,gd,i.s,i.r,i.ll,uF,λq H1 s1 dt=>?_⟩];let lx:=pJ (by_:=S.by) (ws:=g.word.take g.first) (r:=g.start);let ly:=pJ (by_:=S.by) (ws:=g.word.drop (g.last+ 1)) (r:=g.bB);rw[ajD]at lx;rw[aj4]at ly;let f1:=i.wf;let f2:=i.wr;rw[es,ef]at f1;rw[es,er,<-F]at f2;rw[<-F]at dt ly;let ra:Bp ws nr S g.which g.word g.start g.first g.front g.bB g.z1:=⟨Pl,Vx,⟨i.s,es⟩,hz,f1,f2,⟨i.f,ef⟩,⟨i.r,er⟩,j⟩
  let C:∀a y b,fx R g.front g.z1 g.bB a y b->y∈ks:=by
   have:=hks g.z1 (ai5 hz);rintro a y b (z|⟨_,e,_⟩|⟨_,e,_⟩)
   ·rwa[f.k _ _ _ z]
   ·rw[e];rwa[this.1]
   ·rw[e];rwa[this.2]
  let stl:=CB S
  let Pg:mu ⇑ks (qf S g.which g.word g.start g.first g.bB) [(g.front,g.z1,g.bB)]<=1000000:=by unfold mu;let h1:(qf S g.which g.word g.start g.first g.bB).stand=S.stand:=rfl;have:S.stand* (⇑ks+ 1)<=2000* 401:=ak1 (by have:=f.m;omega) (by have:=f.l;omega);rw[h1];show S.stand* (⇑ks+ 1)+ 1<=_;ext
  let gl:=gd.lay g.z1 i.f i.r (qf S g.which g.word g.start g.first g.bB).rows;rwa[⟨r,q,S,a,g.front,g.bB,g.z1,_,Vw (fx R g.front g.z1 g.bB) S.q S.L (B+ 1) 900000 1000000 ks (qf S g.which g.word g.start g.first g.bB) [(g.front,g.z1,g.bB)],mu ⇑ks,2,f.at_.same s1,by have:=f.rb;ext,dt,M5 _ _ _ (by rw[ai3,ajo,ajo];omega),⟨gl,225,f.wb,Pg,λ_ z=>z⟩,M4 C (by have:=f.m;omega) (by have:=f.l;omega) ∅ ⋯ ⋯,λu a' H2 b2 h2 i2 o2=>?_⟩]
  ·show ⇑(S.rows++[_])+ S.stand<=_;rw[ai3];have:=f.rb;show _+ 1+ _<=_;ext
  let⟨g2,em,eL,rb2,wb2,_,re⟩:=i2;let lay:=re u (.nil u);let⟨_,w2,_,_,l,el⟩:=lay.all gl C (⟨f.w.a,f.w.b,f.w.c⟩:fD (qf S g.which g.word g.start g.first g.bB));let el:u.aZ=S.aZ++l:=el;let D:∀b o,¬a.own r b->H b\o->H2 b\o:=λb o nb e=>b2 b o nb (s1^e)
  let o02:∀b,a'.own r b->a.own r b\/H b=none:=λb z=>(o2 b z).imp id (same_none s1)
  let M:∀b,a'.own r b->¬O b:=λb z y=>by
   rcases o02 b z with q|q
   ·rwa[dj b q y]
   ·let⟨o,e,_⟩:=Z.th b y;cbv
  let X:cG A.aL A.aI H2 x r c I ag W ⇑S.aZ fp O:=Z.keep (λb o j e=>D b o (λz=>dj b z j) e) (λb xs e=>D b _ (f.at_.tJ e) e);let p2:et A.aL H2 p t wa g:=⟨D _ _ Vt v.ins,D _ _ (f.at_.tJ v.wo) v.wo⟩;let lt:=Later.of gd g2 jc (al8 em.symm)
  let CF:=ci.lay hgn gd g2 em f.w w2 el i.f ef i.r er λb eb=>by
   rw[JS]at eb;obtain rfl:=Za0 eb;show u.ax g.start≠g.start\/wk u.by g.start g.word=some g.start;cases Y:u.ax g.start=g.start
   ·right
    let h1:=lt.wk f1;let h3:=lt.wk f2;let hbb:=g2.vR.mpr ⟨g.front,g.bB,p8,22⟩;rw[Y]at h1 h3;have:g.word=g.word.take g.first++(g.z1::g.word.drop (g.first+ 1)):=by rw[<-drop_cons hz,List.take_append_drop]
    rw[this,rQ h1,jv hbb];rwa[h3]
   ·rwa[.inl Y]
  let JT:kU A.aL A.aI u bs I W _ (⇑ag+ 2* ⇑I) x r c ⇑S.aZ fp O H2 ag W:=⟨X,CF,λ_ _ _ z=>z,by have:=CF.two;ext⟩;rwa[⟨12,x,c.dx,12,X.ins,fk ⋯,12,p,_,t,112,p2.ins,aP T,T.gI,kj _ _,12,x,r,c,I,ag,W,⇑S.aZ,fp,O,g.front,g.z1,2,X,JT.fits L,λns H3 b3 nd hn c3=>?_⟩];let wk1:=JT.wake nd hn c3;let p3:et A.aL H3 p t wa g:=⟨b3 _ _ CD p2.ins,b3 _ _ (X.i6 p2.wo) p2.wo⟩;rwa[⟨12,x,c.dx,12,c3.ins,fk ⋯,12,p,_,t,112,p3.ins,aP T,T.gU,kl _ _,1212,x,r,c,I,11,⇑S.aZ,fp,O,g.bB,-g.z1,2,c3,wk1.fits L,λns2 H4 b4 Vm hn2 c4=>?_⟩];let wk2:=wk1.wake Vm hn2 c4;let G:Bt O H2 H4:=b3.trans b4 λb z=>.inl z
  let R4:ay A.aF H4 r u a':=h2.keep (λb o j e=>G b o (M b j) e) (λb xs e=>G b _ (X.i6 e) e)
  let i4:CI u bs I (ag++ns++ns2) (gf (gf W g.front g.z1) g.bB (-g.z1)) (Pk u ⇑S.aZ) none:=wk2.i.ex λr' s n' w U ex=>by
   let⟨w1,n1⟩:=dh.mp w;let⟨w2,n2⟩:=dh.mp w1;rcases ex with ⟨Y,e2⟩|⟨Y,e2⟩|⟨m,hm,e⟩
   ·rwa[absurd ⟨by rw[Y],e2⟩ n2]
   ·rwa[absurd ⟨by rw[Y],e2⟩ n1]
   ·rwa[.inr ⟨m,by cbv,e⟩]
  rwa[⟨_,rfl,x,c.dx,_,rfl,c4.ins,fk (by decide),x,r,c,u,a',_,bs,I,_,_,_,⇑S.aZ,fp,O,rfl,⟨c4,i4,λ_ _ _ z=>z,wk2.b⟩,L,by rw[el,ai3];ext,R4,g2,w2.c,M,λVy W5 H5 b5 h5=>?_⟩];let J:Bt O H2 H5:=G.trans b5 λb z=>.inl z
  rwa[k u a' _ Vy W5 H5 (λb o n1 n2 e=>J b o n1 (D b o n2 e)) h5.c ⟨h2.keep (λb o j e=>J b o (M b j) e) (λb xs e=>J b _ (X.i6 e) e),g2,w2,C,[em]▸f.m,f.l,rb2,wb2⟩ o02 h5.i (by have:=h5.b;omega) jc em eL (.step (.refl S) ra lay)]
def YD {x:V}{A B:Prop}(h:x=q)(k:B):if (!decide (x=q))=true then A else B:=by cbv
section
variable {CG CC:Zs}{H H':Hp}{x r:Zs}{c:KA}{gs:Zf}{ag:Zh}{W:bI}{hd:Nat}{fp:List (Zg×Nat)}{O:Zs->Prop}{gv:Zb}{n:Nat}{p dx wa:Zs}{g g':Gg}
def cG.YF (h:cG CG CC H x r c gs ag W hd fp O)(hG:H c.aG\.lst gv)(j:qC CG H gv gs O)(I:gv[n]?\↑p)(N:O p)(q:et CG H p dx wa g)(f:∀b o,b≠p->H b\o->H' b\o)(L:et CG H' p dx wa g'):cG CG CC H' x r c (gs.set n (some g')) ag W hd fp O/\qC CG H' gv (gs.set n (some g')) O:=by
 let kn:∀b o,(∀C d fs,o≠.ins C d fs)->H b\o->H' b\o:=λb o w e=>f b o (λz=>by rw[z,q.ins]at e;cbv) e
 let a:qC CG H' gv (gs.set n (some g')) O:=by
  rwa[⟨[aju]▸j.l,λi v y l=>?_,λi v u y l=>?_,j.i⟩]
  ·rcases eX l with ⟨_,z⟩|⟨_,z⟩
   ·ext z
   ·rwa[j.n i v y z]
  ·rcases eX l with ⟨z1,z⟩|⟨z1,z⟩
   ·cbv
   ·let⟨F,t,s,e,B,J⟩:=j.s i v u y z;let G:F≠p:=λz=>z1 (j.i i n p (by cbv) I)
    rwa[F,t,s,e,⟨f _ _ G B.ins,kn _ _ (by cbv) B.wo⟩,J]
 rwa[⟨⟨f _ _ (Cz h q).symm h.ins,⟨gv,kn _ _ (by cbv) hG,a⟩,kn _ _ (by cbv) h.hA,5,h.ne,h.ox,h.oG,h.oA,λb k=>?_⟩,a⟩]
 ·let⟨D,E,k1,k2⟩:=h.wt;rwa[D,E,k1.keep λb o k e=>by let⟨M,q⟩:=k1.there k;cbv,k2]
 ·cases e:b=p
  ·rwa[_,[e]▸L.ins,(by cbv),(by cbv),(by cbv),by cbv]
  ·let⟨o,q,m⟩:=h.th b k;rwa[o,f _ _ e q,m]
theorem cG.EZ (h:cG CG CC H x r c gs ag W hd fp O)(hG:H c.aG\.lst gv)(f:qC CG H gv gs O)(M:gv[n]?\↑p)(q:et CG H p dx wa g):cG CG CC (upd H c.aG (.lst (gv.set n .non))) x r c (gs.set n none) ag W hd fp (λb=>O b/\b≠p):=by
 let k:∀b o,b≠c.aG->H b\o->upd H c.aG (.lst (gv.set n .non)) b\o:=λb o n e=>by rw[ak n];rwa[e]
 let kn:∀b o,(∀s,o≠.lst s)->H b\o->upd H c.aG (.lst (gv.set n .non)) b\o:=λb o w e=>k b o (λz=>by cbv) e
 let I:∀{b s},H b\.lst s->b≠p:=λ{b s} e z=>by rw[z,q.ins]at e;ext e
 rwa[⟨kn _ _ (by cbv) h.ins,⟨_,aj,[aju,aju]▸f.l,λi v l d=>?_,λi v u l d=>?_,λi j R l d=>?_⟩,k _ _ h.ne.symm h.hA,5,h.ne,⟨h.ox,(Cz h q).symm⟩,⟨h.oG,I hG⟩,⟨h.oA,I h.hA⟩,λb a=>?_⟩]
 ·rcases eX l with ⟨z1,z⟩|⟨z1,z⟩
  ·rwa[z]
  ·rcases eX d with ⟨t,_⟩|⟨_,y⟩
   ·rwa[absurd t z1]
   ·rwa[f.n i v z y]
 ·rcases eX d with ⟨_,z⟩|⟨z1,z⟩
  ·ext z
  ·rcases eX l with ⟨t,_⟩|⟨_,y⟩
   ·rwa[absurd t z1]
   ·let⟨G,C,B,e,F,N⟩:=f.s i v u y z;let L:G≠p:=λw=>z1 (f.i i n p (by cbv) M)
    rwa[G,C,B,e,⟨kn _ _ (by cbv) F.ins,kn _ _ (by cbv) F.wo⟩,N,L]
 ·rcases eX l with ⟨_,z⟩|⟨_,z⟩
  ·ext z
  ·rcases eX d with ⟨_,y⟩|⟨_,y⟩
   ·ext y
   ·rwa[f.i i j R z y]
 ·let⟨D,E,k1,k2⟩:=h.wt;rwa[⟨D,E,k1.keep λb o a e=>by let⟨Q,q⟩:=k1.there a;cbv,λb a=>⟨k2.o b a,λz=>?_⟩,k2.d,k2.e,k2.w⟩];let⟨Q,J⟩:=k1.there a;rw[z,q.ins]at J;ext J
 ·cases e:b=c.aG
  ·rwa[_,[e]▸aj,(by cbv),(by cbv),(by cbv),by cbv]
  ·let⟨o,q,m⟩:=h.th b a.1;rwa[o,k _ _ e q,m]
end
structure CH (ws:Za3)(nr:Nat)(ks:Zg)(bs:List (Nat×Zg×Nat)):Prop where
 w:∀b∈bs,ws[b.1]?\b.2.1
 n:∀b∈bs,b.1<nr\/b.2.2=0
 l:∀b∈bs,⇑b.2.1<=1000
 k:∀b∈bs,∀z∈b.2.1,z∈ks/\-z∈ks
 c:⇑bs<100000
def live (a:Zf):Nat:=a.countP (·.isSome)
def CJ {a:Zf}{g:Gg}(h:a[n]?\some g):(∀u:Gg,live (a.set n (some u))=live a)/\live (a.set n none)+ 1=live a:=by
 unfold live
 induction a generalizing n with
 |nil=>simp at h
 |cons y r c=>
  cases n with
  |zero=>
   have:y\g:=by simpa using h
   subst this;simp[List.countP_cons]
  |succ n=>let⟨b,d⟩:=c (n:=n) (by simpa using h);simp only[List.set_cons_succ,List.countP_cons];rwa[λu=>by rw[b u],3]
inductive JV (CR CG CC:Zs)(vs:Zb)(H:Hp)(Q:VK)(E_:XK):Prop
 |mk (x r:Zs)(c:KA)(S:RS)(a:RA)(R:Za2)(ks:Zg)(B:Nat)(ws:Za3)(nr:Nat)(bs:List (Nat×Zg×Nat))(gs:Zf)(ag:Zh)(W:bI)(fp:List (Zg×Nat))(O:Zs->Prop)(n:Nat):vs=[↑x,.int n]->cG CG CC H x r c gs ag W ⇑S.aZ fp O->iM CR H r S a R ks B->B<900000->(∀b,a.own r b->¬O b)->CI S bs gs (ag++[n]) W fM none->CH ws nr ks bs->⇑ag+ 2* ⇑gs<=13000000->(∀S' a' R' iT iL W' O' B' H',(∀b o,¬O b->¬a.own r b->H b\o->H' b\o)->cG CG CC H' x r c iT iL W' ⇑S'.aZ fp O'->iM CR H' r S' a' R' ks B'->(∀b,a'.own r b->a.own r b\/H b=none)->(∀b,O' b->O b\/H b=none)->(∀b,a'.own r b->¬O' b)->CI S' bs iT iL W' fM none->(∀a z b,R a z b->R' a z b)->S'.q=S.q->S'.L=S.L->Tr ws nr S S'->(live iT=live gs/\⇑iL=⇑ag/\B'=B)\/(live iT+ 1=live gs/\⇑iL<=⇑ag+ 2* ⇑gs/\B'<=B+ 1)->Q .non H')->JV CR CG CC vs H Q E_
theorem vu:T.k6.Ok mg P w base 7 (JV A.aF A.aL A.aI):=by
 rwa[T.k6.on mP (λcw AA outer s H vs Q E hr h=>?_)]
 ·let⟨x,r,c,S,a,R,ks,B,ws,nr,bs,F,ag,W,fp,O,n,rfl,h,J,hB,Z,ci,m,hag,k⟩:=h
  refine⟨_,{bE 2 mP.nd ((0<<<1)|||1),bP (bf kD (pv 2) dm (bp _))
    {xK}
    bC,bP (bf pS (pm (0<<<1) (aJ T) T.gS (iF T) hr #[2<<<1]) (2<<<1) (bp _))
    {lQ dm (oD (0<<<1) (pv 1) set_list),xK}
    bC,aS (pm (pv 2) (aP T) T.kZ (vr T) hr #[0<<<1]),bL (bP (bf pT (2<<<1) (2<<<1) (bp _))
    {aS (pm (pv 0) (aK T) T.jQ (nV T) hr #[1,2<<<1,(2<<<1)&&&(2<<<1)]),aS (pm (pv 0) (aK T) T.jQ (nV T) hr #[1,2<<<1,da cL ((2<<<1)&&&(2<<<1))])}
    {lQ dm (oD (0<<<1) (pv 1) set_list),aS (pm (pv 0) (aK T) T.om (yD T) hr #[2])})},?_⟩
  rwa[p9 ?_];intro mQ iI eD fq;let U:n<⇑F:=ci.ab n (ajf _ (ai9.mpr rfl));let⟨I,hG,hs⟩:=h.hG;let hv:I[n]?\(I[n]'([hs.l]▸U)):=ai1 _
  change I[n]'(by cbv)=v at hv;let gd:=J.g;erw[12,x,_,c.dx,112,h.ins,aK T,T.jA,kT^_,12,c.aG,11,v,22,aB.of hG,ck hv];let f:F[n]?\(F[n]'U):=ai1 U
  change F[n]'U=og at f
  cases og with
  |none=>obtain rfl:=hs.n n v hv f;rwa[⟨12212,eV ?_⟩];rwa[k S a R F ag W O B H (λ_ _ _ _ e=>e) h J (λb z=>.inl z) (λb z=>.inl z) Z (ci.pop.done f λb eb=>ci.de n b f (by cbv) eb) (λ_ _ _ z=>z) rfl rfl (.refl S) (.inl ⟨222⟩)]
  |some g=>
   let⟨p,i,wa,rfl,N,op⟩:=hs.s n v g hv f;let⟨JS,gi,_⟩:=ci.al n g f;let D:=ai5 JS;let uF:⇑g.word<=1000:=m.l _ D;let V:¬a.own r p:=λz=>Z p z op
   rwa[⟨12212,dI ?_⟩];erw[12,x,_,c.dx,112,h.ins,aK T,T.e9,fT^_,r,a.dx,12,J.at_.ins,cS _ _ _ ⋯,12,p,_,i,112,N.ins,aP T,T.qy,vq _ _,r,S,a,g.start,S.ax g.start,2,J.at_,pI ([gd.wf.e]▸gi.s),12,p,_,i,112,N.ins,aP T,T.qy,vq _ _,212];let Y:∀b,a.own r b->¬(O b/\b≠p):=λb z y=>Z b z y.1
   cases es:S.ax g.start=g.start
   ·rwa[YD (by rw[es]) ?_];rwa[⟨12,p,i,12,N.ins,Ph ⋯,12,x,_,c.dx,112,h.ins,aK T,T.e9,fT^_,p,i,wa,r,g,S,a,R,2,N,J.at_,gd,gi,V,uF,λd j f1 l ad=>?_⟩];let R1:iM A.aF j r S a R ks B:=J.keep (λb o hb e=>f1 b o (λz=>V (z ▸ hb)) e) (λb xs e=>f1 b _ (bS e N.ins (by cbv)) e);let⟨c1,gs1⟩:=h.YF hG hs hv op N f1 l;let hG1:j c.aG\(.lst I):=f1 _ _ (bS hG N.ins (by cbv)) hG;let t:=ad.gi;let hll:=t.ll;let Pn:=t.fl;let acC:⇑d.word<=1000:=by rw[ad.wo];rwa[uF]
    let z1:=Gg.mh (g:=d) ∅;let z2:=Gg.at2 (g:=d) hll;let ahT:(F.set n (some d))[n]?\(some d):=ajE U
    let lv:=CJ f;let lm:=J.m;rwa[⟨λ_ H'=>Q .non H',5,λ_ _ q=>q⟩];erw[12,p,_,i,112,l.ins,aP T,T.e8,gL _ _,12,p,_,i,112,l.ins,aP T,T.iD,km _ _,112212];rwa[cP (λq=>?_) (λq=>?_)]
    ·let q:(d.first:Int)<(d.last:Int):=ajX q;let bw:∀z∈d.word,-1000<=z/\z<=1000:=λz hz=>ci.bd _ D z (by rw[<-ad.wo];rwa[hz])
     let b1:=bw _ (ai5 z1);let b2:=bw _ (ai5 z2);let hf:=t.f;let Vz:=t.r;let hnb:n<100000:=by have:=ci.len;have:=m.c;ext
     rwa[⟨12,x,c.dx,12,c1.ins,fk ⋯,1212,p,_,i,112,l.ins,aP T,T.gI,kj _ _,12,p,_,i,112,l.ins,aP T,T.jz,ki _ _,12,p,_,i,112,l.ins,aP T,T.e8,gL _ _,wa,11,.int d.z1,22,bG.of l.wo,ck (bT z1),x,r,c,_,ag,W,⇑S.aZ,fp,O,n,d.front,d.z1,2,c1,3,hnb,b1,λO2 H2 bt2 f2 Pp CK u=>?_⟩];let L:et A.aL H2 p i wa d:=⟨f2 _ _ (by cbv) l.ins,f2 _ _ (by cbv) l.wo⟩;rwa[⟨12,x,c.dx,12,u.ins,fk ⋯,1212,p,_,i,112,L.ins,aP T,T.gU,kl _ _,12,p,_,i,112,L.ins,aP T,T.jz,ki _ _,12,p,_,i,112,L.ins,aP T,T.iD,km _ _,wa,11,.int (-d.z2),22,bG.of L.wo,ck (bT z2),12,x,r,c,_,ag,_,⇑S.aZ,fp,O2,n,d.bB,d.z2,(by cbv),u,3,hnb,3,λO3 H3 bt3 f3 le3 nw3 c3=>?_⟩]
     let acD:∀b,O3 b->O b\/j b=none:=λb z=>by
      rcases nw3 b z with y|y
      ·rwa[CK b y]
      ·cases w:O b
       ·rwa[.inl w]
       ·rwa[.inr ?_]
        cases e:j b with
        |none=>rfl
        |some o=>rw[bt2 b o w e]at y;ext y
     let nw:∀b,O3 b->O b\/H b=none:=λb z=>by
      rcases acD b z with y|y
      ·rwa[.inl y]
      ·cases w:b=p
       ·cbv
       ·rwa[.inr ?_]
        cases e:H b with
        |none=>rfl
        |some o=>rw[f1 b o w e]at y;ext y
     let C:Bt O j H3:=bt2.trans bt3 CK
     let dj3:∀b,a.own r b->¬O3 b:=λb z y=>by
      rcases nw b y with w|w
      ·rwa[Z b z w]
      ·let⟨o,e⟩:=J.at_.there z;cbv
     rwa[k S a R _ ag _ O3 B H3 (λb o G _ e=>C b o G (f1 b o (λz=>G ([z]▸op)) e)) c3 (R1.keep (λb o hb e=>C b o (Z b hb) e) (λb xs e=>C b _ (c1.i6 e) e)) (λb z=>.inl z) nw dj3 (ci.pop.waits f ad ∅) (λ_ _ _ z=>z) rfl rfl (.refl S) (.inl ⟨lv.1 d,22⟩)]
    ·let q:¬(d.first:Int)<(d.last:Int):=λz=>q (ajI z)
     let efl:d.first=d.last:=∅
     erw[12,x,_,c.dx,112,c1.ins,aK T,T.jA,kT^_,12,c.aG,11,n,22,hG1,kh ([hs.l]▸U)];let u:=c1.EZ hG1 gs1 hv l;let kn:∀b o,(∀xs,o≠.lst xs)->j b\o->upd j c.aG (.lst (I.set n .non)) b\o:=λb o w e=>by rw[ak (λz=>by cbv)];rwa[e]
     let L:et A.aL (upd j c.aG (.lst (I.set n .non))) p i wa d:=⟨kn _ _ (by cbv) l.ins,kn _ _ (by cbv) l.wo⟩;let X:¬a.own r c.aG:=λz=>Z _ z h.oG
     let R2:iM A.aF (upd j c.aG (.lst (I.set n .non))) r S a R ks B:=R1.keep (λb o hb e=>[ak (λz=>X (by cbv))]▸e) (λb xs e=>kn _ _ (by cbv) e);let ess:(F.set n (some d)).set n none=F.set n none:=List.set_set ..;rw[ess]at u;let VA:∀b o,¬O b->H b\o->upd j c.aG (.lst (I.set n .non)) b\o:=λb o G e=>by rw[ak (λz=>G ([z]▸h.oG))];cbv
     let M:∀b,upd j c.aG (.lst (I.set n .non)) b=none->H b=none:=λb z=>by
      cases e:H b with
      |none=>rfl
      |some o=>
       cases w:O b
       ·cases y:b=p
        ·rw[y,L.ins]at z;ext z
        ·let⟨o2,e2,_⟩:=u.th b ⟨w,y⟩;cbv
       ·rw[VA b o w e]at z;ext z
     change upd j c.aG _=H2 at u L R2 VA M ⊢;rwa[⟨12,x,c.dx,12,u.ins,fk ⋯,12,x,r,p,i,wa,c,S,a,R,ks,B,ws,nr,bs,F.set n none,ag,W,fp,_,n,d,2,u,R2,hB,Y,ci.pop.kill,ajE U,by rw[JS,ad.wh,ad.wo,ad.st],L,(λz=>z.2 rfl),V,t,efl,[ad.st]▸es,ad.ef,ad.er,[ad.wh,ad.wo]▸m.w _ D,[ad.wh,ad.st]▸m.n _ D,[ad.wo]▸m.k _ D,acC,[aju]▸hag,λS' a' R' iL W' H' f3 c3 R3 o3 VB la rr em eL tr=>?_⟩];let o03:∀b,a'.own r b->a.own r b\/H b=none:=λb z=>(o3 b z).imp id (M b)
     rw[aju]at la;rwa[k S' a' R' _ iL W' _ (B+ 1) H' (λb o G n2 e=>f3 b o (λz=>G z.1) n2 (VA b o G e)) c3 R3 o03 (λb z=>.inl z.1) (λb z y=>?_) VB rr em eL tr (.inr ⟨lv.2,la,aja _⟩)];rcases o3 b z with w|w
     ·rwa[Y b w y]
     ·let⟨o2,e2,_⟩:=u.th b y;cbv
   ·rwa[cP (λ_=>?_) (λz=>absurd (by cbv) z)];erw[12,x,_,c.dx,112,h.ins,aK T,T.jA,kT^_,12,c.aG,11,n,22,hG,kh (by cbv)];let u:=h.EZ hG hs hv N;let X:¬a.own r c.aG:=λz=>Z _ z h.oG
    rwa[k S a R _ ag W _ B _ (λb o G _ e=>[ak (λz=>G ([z]▸h.oG))]▸e) u (J.keep (λb o hb e=>[ak (λz=>X (by cbv))]▸e) (λb xs e=>[ak (λz=>by cbv)]▸e)) (λb z=>.inl z) (λb z=>.inl z.1) Y (ci.pop.kill.done (ajE U) λb eb=>?_) (λ_ _ _ z=>z) rfl rfl (.refl S) (.inr ⟨(CJ f).2,33⟩)]
    cbv
def _root_.Lake.L2.Tr.trans {T:RS}{ws:Za3}{c:RS}(h:Tr ws n S T)(k:Tr ws n T c):Tr ws n S c:=by
 induction k with
 |refl=>exact h
 |step _ a b d=>exact .step d a b
inductive CL (CR CG CC:Zs)(vs:Zb)(H:Hp)(Q:VK)(E_:XK):Prop
 |mk (x r:Zs)(c:KA)(S:RS)(a:RA)(R:Za2)(ks:Zg)(B:Nat)(ws:Za3)(nr:Nat)(bs:List (Nat×Zg×Nat))(gs:Zf)(ag:Zh)(W:bI)(fp:List (Zg×Nat))(O:Zs->Prop):vs=[↑x]->cG CG CC H x r c gs ag W ⇑S.aZ fp O->iM CR H r S a R ks B->B+ live gs<900000->(∀b,a.own r b->¬O b)->CI S bs gs ag W fM none->CH ws nr ks bs->live gs* (2* ⇑bs+ 1)+ ⇑ag+ 2* ⇑bs<=13000000->(∀S' a' R' iT W' O' B' H',(∀b o,¬O b->¬a.own r b->H b\o->H' b\o)->cG CG CC H' x r c iT [] W' ⇑S'.aZ fp O'->iM CR H' r S' a' R' ks B'->(∀b,a'.own r b->a.own r b\/O b\/H b=none)->(∀b,O' b->O b\/a.own r b\/H b=none)->(∀b,a'.own r b->¬O' b)->CI S' bs iT [] W' fM none->(∀a z b,R a z b->R' a z b)->S'.q=S.q->S'.L=S.L->Tr ws nr S S'->B'+ live iT<=B+ live gs->Q .non H')->CL CR CG CC vs H Q E_
theorem lz:T.iB.Ok mg P w base 8 (CL A.aF A.aL A.aI):=by
 rwa[T.iB.on uc (λcw AA outer s H vs Q E hr h=>?_)]
 ·let⟨x,r,c,S,a,R,ks,B,ws,nr,bs,gs,ag,W,fp,O,rfl,h,hR,hB,dj,ci,Pq,hm,k⟩:=h
  refine⟨_,{bL (fJ ajz (uM (0<<<1) (λ_=>rfl))
   {aS (pm (pv 0) (aK T) T.k6 (vu T) hr #[AU ajj alP alQ AX (0<<<1)])})},?_⟩
  let hgl:=ci.len;rwa[⟨λ_ H'=>Q .non H',5,λ_ _ q=>q⟩];erw[λm σ g=>∃j a2 R2 f d Y L J,m=live f* (2* ⇑bs+ 1)+ ⇑d/\σ=#v[↑x]/\(∀b o,¬O b->¬a.own r b->H b\o->g b\o)/\cG A.aL A.aI g x r c f d Y ⇑j.aZ fp L/\iM A.aF g r j a2 R2 ks J/\(∀b,a2.own r b->a.own r b\/O b\/H b=none)/\(∀b,L b->O b\/a.own r b\/H b=none)/\(∀b,a2.own r b->¬L b)/\CI j bs f d Y fM none/\(∀a z b,R a z b->R2 a z b)/\j.q=S.q/\j.L=S.L/\Tr ws nr S j/\J+ live f<=B+ live gs/\live f* (2* ⇑bs+ 1)+ ⇑d+ 2* ⇑bs<=13000000,⟨_,S,a,R,gs,ag,W,O,B,22,λ_ _ _ _ e=>e,h,hR,λb z=>.inl z,λb z=>.inl z,dj,ci,λ_ _ _ z=>z,22,.refl S,aja _,hm⟩];intro m σ g JH;rwa[aT ?_];intro q_;let⟨j,a2,R2,f,d,Y,L,J,rfl,rfl,f2,i,r2,C,l,v,F,Z,X,M,V,U,O9⟩:=JH;dsimp only[q_];clear q_;erw[12,x,_,c.dx,112,i.ins,aK T,T.kQ,nU^_,!(ao (nI d)).isEmpty,.inl ⟨_,aB.of i.hA,2⟩];cases p:d=[]
  ·subst p;rwa[dI ?_];rwa[k j a2 R2 f Y L J g f2 i r2 C l v F Z X M V U]
  ·let D:=akH p;change d.getLast p=n at D;change d.dropLast=pre at D;subst D;rw[show (!(ao (nI (pre++[n]))).isEmpty)=true by unfold ao nI;simp];rwa[eV ?_];erw[_,λ_ _ z=>z];erw[12,x,c.dx,12,i.ins,fk ⋯,12,x,_,c.dx,112,i.ins,aK T,T.kQ,nU^_,.inl ⟨21,aB.of i.hA⟩,c.aA,_,.int (n:Int),22,i.hA,5]
   ·rw[az,cD,ai3];rwa[bT (jL (by show (pre++[n])[⇑pre+ 1 - 1]?\n;rw[amk,ajg (aja _),aks];rfl))]
   let Vl:(ao (nI (pre++[n]))).dropLast=ao (nI pre):=by rw[iQ,ints_app];rwa[ali]
   rw[Vl];let c3:=i.agenda pre;let noA:¬a2.own r c.aA:=λz=>v _ z i.oA
   let f3:∀b o,b≠c.aA->g b\o->upd g c.aA (.lst (ao (nI pre))) b\o:=λb o I e=>by rw[ak I];rwa[e]
   let r3:iM A.aF (upd g c.aA (.lst (ao (nI pre)))) r j a2 R2 ks J:=r2.keep (λb o hb e=>f3 b o (λz=>noA (by rw[<-z];rwa[hb])) e) (λb xs e=>f3 b _ (λz=>by rw[z,i.hA]at e;ext e) e)
   let t:∀b,upd g c.aA (.lst (ao (nI pre))) b=none->g b=none:=λb z=>by
    cases e:b=c.aA
    ·rw[e,aj]at z;ext z
    ·rw[ak e]at z;rwa[z]
   change upd g c.aA _=H3 at c3 f3 r3 t ⊢;let ln2:=F.len;rw[ai3]at O9;have:⇑([n]:Zh)=1:=rfl
   let N:∀b,g b=none->a.own r b\/O b\/H b=none:=λb z=>by
    cases w:a.own r b
    ·rwa[.inl w]
    ·cases w2:O b
     ·rwa[.inr (.inl w2)]
     ·rwa[.inr (.inr ?_)]
      cases e:H b with
      |none=>rfl
      |some o=>rw[f2 b o w2 w e]at z;ext z
   rwa[⟨x,r,c,j,a2,R2,ks,J,ws,nr,bs,f,pre,Y,fp,L,n,2,c3,r3,3,v,F,Pq,3,λS4 a4 R4 u ag4 W4 O4 B4 H4 f4 c4 r4 ow4 oo4 dj4 E3 rr4 em4 eL4 tr4 ms=>?_⟩];let ow:∀b,a4.own r b->a.own r b\/O b\/H b=none:=λb z=>(ow4 b z).elim (C b) λw=>N b (t b w)
   let oo:∀b,O4 b->O b\/a.own r b\/H b=none:=λb z=>(oo4 b z).elim (l b) λw=>by
    rcases N b (t b w) with y|y|y
    ·rwa[.inr (.inl y)]
    ·rwa[.inl y]
    ·rwa[.inr (.inr y)]
   let G:B4+ live u<=B+ live gs/\live u* (2* ⇑bs+ 1)+ ⇑ag4<live f* (2* ⇑bs+ 1)+ ⇑(pre++[n]):=by
    rw[ai3];rcases ms with ⟨e1,e2,e3⟩|⟨e1,e2,e3⟩
    ·rw[e1,e2,e3];rwa[U,3]
    ·rw[<-e1,alz];rwa[33]
   rwa[⟨_,G.2,S4,a4,R4,u,ag4,W4,O4,B4,22,λb o I n2 e=>?_,c4,r4,ow,oo,dj4,E3,λa z b q=>rr4 _ _ _ (Z _ _ _ q),em4.trans X,eL4.trans M,V.trans tr4,G.1,by have:=G.2;rw[ai3]at this;ext⟩];rwa[f4 b o (λz=>?_) (λz=>?_) (f3 b o (λz=>I ?_) (f2 b o I n2 e))]
   ·rcases l b z with w|w|w
    ·rwa[I w]
    ·rwa[n2 w]
    ·rw[w]at e;ext e
   ·rcases C b z with w|w|w
    ·rwa[n2 w]
    ·rwa[I w]
    ·rw[w]at e;ext e
   ·subst z;rcases l c.aA i.oA with w|w|w
    ·rwa[w]
    ·rwa[absurd w n2]
    ·rw[w]at e;ext e
theorem _root_.Lake.L2.CI.begin {bs:List (Nat×Zg×Nat)}{gs:Zf}{W:bI}{t:Nat->Int->Prop}(h:CI S bs gs B W t none){which m:Nat}{word:Zg}(D:word≠[])(l:m<S.q)(x:∀z∈word,-1000<=z/\z<=1000):CI S (bs++[(which,word,m)]) (gs++[some (zF which word m)]) (B++[⇑gs]) W t none:=by
 let E:=List.length_pos_iff.mpr D
 let old:∀{k:Nat}{y:Option Gg},(gs++[some (zF which word m)])[k]?\y->(k<⇑gs/\gs[k]?\y)\/(k=⇑gs/\y\zF which word m):=λ{k y} e=>by
  cases a:k<⇑gs
  ·rw[ajd a]at e;rwa[.inl ⟨a,e⟩]
  ·rw[ajg ∅]at e;have:=(ai4.mp e).1;let f:k=⇑gs:=by simp at this;ext
   subst f;rw[aks]at e;rwa[.inr ⟨2,(Za0 e).symm⟩]
 let c:∀{k:Nat},k<⇑gs->(bs++[(which,word,m)])[k]?=bs[k]?:=λ{k} a=>ajd (by rw[<-h.len];rwa[a])
 rwa[⟨by rw[ai3,ai3,h.len];rfl,λk g e=>?_,λk b e G o=>?_,λk a=>?_,λr s k q=>?_,λk=>?_,λb n=>?_⟩]
 ·rcases old e with ⟨a,e⟩|⟨a,e⟩
  ·let⟨j,i,F⟩:=h.al k g e;rwa[[c a]▸j,i,F.imp (ajx _) id]
  ·ext e;rwa[⟨5,⟨ajB _,by show ⇑word - 1<⇑word;ext,l,l,l,25⟩,.inl (ajf _ (ai9.mpr a))⟩]
   ·rw[ajg ([a,h.len]▸aja _),a,h.len,aks];rfl
   ·show wk S.by _ (word.drop (⇑word - 1+ 1))=_;rw[show ⇑word - 1+ 1=⇑word by ext,List.drop_length];rfl
 ·rcases old e with ⟨a,e⟩|⟨a,e⟩
  ·rw[c a]at o;rwa[h.de k b e G o]
  ·ext e
 ·rw[ai3];rcases ajh.mp a with q|q
  ·have:=h.ab k q;show k<_+ 1;ext
  ·rw[ai9.mp q];show _<_+ 1;ext
 ·let⟨v,d,H,C,I,J,u⟩:=h.en r s k q;rwa[v,d,H,C,I,by rw[ai3];show d<_+ 1;ext,u]
 ·cases a:k<⇑gs
  ·let⟨p,q,j,i⟩:=h.sl k;rwa[⟨p,q,j,λg e=>i g ?_⟩];rw[ajd a]at e;rwa[e]
  ·rwa[⟨((zF which word m).front,(zF which word m).z1),((zF which word m).bB,(zF which word m).z2),λr s w=>?_,λg e=>?_⟩]
   ·let⟨_,d,_,e,_,E,_⟩:=h.en r s k w;ext
   cbv
 ·rcases ajh.mp n with q|q
  ·rwa[h.bd b q]
  ·rw[ai9.mp q];rwa[x]
def cG.YG {x:Zs}{l:KA}{gs:Zf}{W:bI}{hd:Nat}{Q:List (Zg×Nat)}{O:Zs->Prop}{dx X:Zs}{g:Gg}(h:cG a b H x c l gs B W hd Q O)(hG:H l.aG\.lst L)(r:qC a H L gs O)(np:H d=none)(s:aq H I)(q:et a I d dx X g):cG a b (upd I l.aG (.lst (L++[↑d]))) x c l (gs++[some g]) B W hd Q (IQ O d):=by
 let k:∀f o,f≠l.aG->I f\o->upd I l.aG (.lst (L++[↑d])) f\o:=λf o n e=>by rw[ak n];rwa[e]
 let kn:∀f o,(∀Z,o≠.lst Z)->I f\o->upd I l.aG (.lst (L++[↑d])) f\o:=λf o w e=>k f o (λz=>by rw[z,s^hG]at e;cbv) e
 let fresh:∀(i:Nat),L[i]?≠some ↑d:=λi e=>by
  let t:i<⇑gs:=by rw[<-r.l];rwa[(ai4.mp e).1]
  cases U:gs[i]? with
  |none=>cbv
  |some y=>
   cases y with
   |none=>cases r.n i _ e U
   |some u=>let⟨T,_,_,F,G,_⟩:=r.s i _ u e U;ext F;have:=G.ins;cbv
 let old:∀{i:Nat}{v:V},(L++[↑d])[i]?\v->(i<⇑L/\L[i]?\v)\/(i=⇑L/\v=↑d):=λ{i v} e=>by
  cases R:i<⇑L
  ·rw[ajd R]at e;rwa[.inl ⟨R,e⟩]
  ·rw[ajg ∅]at e;have:=(ai4.mp e).1;let J:i=⇑L:=by simp at this;ext
   subst J;rw[aks]at e;rwa[.inr ⟨2,(Za0 e).symm⟩]
 rwa[⟨kn _ _ (by cbv) (s^h.ins),⟨_,aj,by rw[ai3,ai3,r.l];rfl,λi v F p=>?_,λi v u F p=>?_,λi j p' F p=>?_⟩,k _ _ h.ne.symm (s^h.hA),5,h.ne,.inl h.ox,.inl h.oG,.inl h.oA,λf C=>?_⟩]
 ·rcases old F with ⟨t,e⟩|⟨t,e⟩
  ·rw[ajd (by rw[<-r.l];rwa[t])]at p;rwa[r.n i v e p]
  ·rw[t,r.l,ajg (aja _),aks]at p;cases Za0 p
 ·rcases old F with ⟨t,e⟩|⟨t,e⟩
  ·rw[ajd (by rw[<-r.l];rwa[t])]at p;let⟨T,N,M,e3,G,Y⟩:=r.s i v u e p;rwa[T,N,M,e3,⟨kn _ _ (by cbv) (s^G.ins),kn _ _ (by cbv) (s^G.wo)⟩,.inl Y]
  ·rw[t,r.l,ajg (aja _),aks]at p;cases Za0 p;rwa[d,dx,X,e,⟨kn _ _ (by cbv) q.ins,kn _ _ (by cbv) q.wo⟩,.inr rfl]
 ·rcases old F with ⟨t,e⟩|⟨t,e⟩
  ·rcases old p with ⟨hj,S⟩|⟨hj,S⟩
   ·rwa[r.i i j p' e S]
   cbv
  cbv
 ·let⟨D,E,k1,k2⟩:=h.wt;rwa[D,E,(k1.same s).keep λf o C e=>by let⟨kv,q⟩:=(k1.same s).there C;cbv,λf C=>.inl (k2.o f C),k2.d,k2.e,k2.w]
 ·rcases C with C|C
  ·cases e:f=l.aG
   ·rwa[⟨_,by rw[e];rwa[aj],(by cbv),(by cbv),(by cbv),by cbv⟩]
   ·let⟨o,q,m⟩:=h.th f C;rwa[o,k _ _ e (s^q),m]
  ·rw[C];rwa[_,kn _ _ (by cbv) q.ins,(by cbv),(by cbv),(by cbv),by cbv]
def nz (b:Nat)(a:Zg)(m:Nat):List (Nat×Zg×Nat):=if a=[] then [] else [(b,a,m)]
inductive E4 (CR CG CC:Zs)(vs:Zb)(H:Hp)(Q:VK)(E_:XK):Prop
 |mk (x r wa:Zs)(c:KA)(S:RS)(bs:List (Nat×Zg×Nat))(gs:Zf)(ag:Zh)(W:bI)(hd:Nat)(fp:List (Zg×Nat))(O:Zs->Prop)(Ex:Nat->Int->Prop)(which m:Nat)(word:Zg):vs=[↑x,.int which,↑wa,.int m]->cG CG CC H x r c gs ag W hd fp O->CI S bs gs ag W Ex none->H wa\.tup (ao word)->⇑word<=1000->(∀z∈word,-1000<=z/\z<=1000)->m<S.q->⇑bs<100000->⇑ag<=⇑bs->(∀iT iL O' H',Bt O H H'->(∀b,O b->O' b)->(∀b,O' b->O b\/H b=none)->cG CG CC H' x r c iT iL W hd fp O'->CI S (bs++nz which word m) iT iL W Ex none->⇑iL<=⇑(bs++nz which word m)->Q .non H')->E4 CR CG CC vs H Q E_
def mS:T.i3.Ok mg P w base 3 (E4 A.aF A.aL A.aI):=by
 rwa[T.i3.on vl (λcw AA I s H vs Q E hr h=>?_)]
 ·let⟨x,r,X,c,S,bs,l,j,W,hd,fp,O,Ex,d,m,a,rfl,h,ci,g,D,F,hm,Z,N,k⟩:=h
  refine⟨_,{bL (bP (bf tj (2<<<0) aw (bp _))
   {aS (cO ajj ajq ajr bJ (0<<<1) #[(0<<<1)<<<0]),aS (cO ajj ajq ajr bJ (0<<<1) #[xN (vk T) (uh T) hr.Za5 rfl T.Rn T.gk.b .nil oR #[1,2,3]])}
   bC)},?_⟩
  let hgl:=ci.len;rwa[⟨λ_ H'=>Q .non H',5,λ_ _ q=>q⟩];erw[12,X,12,.inr (bG.of g),112212];rwa[cP (λq=>?_) (λq=>?_)]
  ·let q:(0:Int)<(⇑(ao a):Int):=ajX q;rw[az]at q;let f:a≠[]:=λz=>by cbv
   let⟨gv,hG,hs⟩:=h.hG;erw[12,x,_,c.dx,112,h.ins,aK T,T.kQ,nU^_,.inl ⟨21,aB.of h.hA⟩,12,x,_,c.dx,112,h.ins,aK T,T.jA,kT^_,c.aG,12,.inl (aB.of hG),c.aA,1122,h.hA,5]
   ·rw[az,cD];rwa[aje (show ⇑j<=100000 by omega) ⋯]
   let ea:ao (nI j)++[V.int (⇑gv:Int)]=ao (nI (j++[⇑l])):=by rw[iQ,ints_app,hs.l];rfl
   rw[ea];let B:=h.agenda (j++[⇑l]);let C:∀b o,b≠c.aA->H b\o->upd H c.aA (.lst (ao (nI (j++[⇑l])))) b\o:=λb o n e=>by rw[ak n];rwa[e]
   let Y:∀b,upd H c.aA (.lst (ao (nI (j++[⇑l])))) b=none->H b=none:=λb z=>by
    cases e:b=c.aA
    ·rw[e,aj]at z;ext z
    ·rw[ak e]at z;rwa[z]
   change upd H c.aA _=L at B C Y ⊢;let v:=C _ _ (bS g h.hA (by cbv)) g;let⟨gv1,i,t⟩:=B.hG;rwa[⟨12,x,_,c.dx,112,B.ins,aK T,T.jA,kT^_,.inl ⟨21,aB.of i⟩,121212,λp R y G J=>?_⟩];let U:aq L (upd (upd L R (.own p)) p (.ins A.aL R [])):=(aq.upd G).trans (aq.upd ([ak J.symm]▸y));rwa[⟨p,R,X,d,m,a,2,aj,U^v,3,D,λH3 f3 g3=>⟨25⟩⟩];let M:aq L H3:=λb o e=>f3 b o (U^e) (av e y)
   erw[c.aG,1122,M^i,([t.l]▸aje (show ⇑l<=100000 by omega) ⋯)];let u:nz d a m=[(d,a,m)]:=ajk f;rwa[k _ _ (IQ O p) _ (λb o n e=>?_) (λb z=>.inl z) (λb z=>z.imp id λw=>[w]▸Y p y) (B.YG i t y M g3) ([u]▸ci.begin f hm F) (by rw[u,ai3,ai3];show _+ 1<=_+ 1;omega)];rw[ak (λz=>n ([z]▸h.oG))];rwa[M^(C b o (λz=>n ([z]▸h.oA)) e)]
  ·let q:¬(0:Int)<(⇑(ao a):Int):=λz=>q (ajI z)
   rw[az]at q;let f:a=[]:=aml.mp ∅;let u:nz d a m=[]:=ajn f;rwa[k l j O H (λ_ _ _ e=>e) (λb z=>z) (λb z=>.inl z) h ([u,ajm]▸ci) ([u,ajm]▸N)]
def gx (a:List (Zg×Nat))(m:Nat):List (Nat×Zg×Nat):=a.flatMap λp=>nz p.2 p.1 m
def Pu (w:Nat)(u:Zg)(m:Nat):⇑(nz w u m)<=1:=by
 unfold nz;split
 ·rwa[ajB _]
 ·rwa[aja _]
theorem qD (m:Nat):∀a:List (Zg×Nat),⇑(gx a m)<=⇑a
 |[]=>aja _
 |p::l=>by have:=qD m l;have:=Pu p.2 p.1 m;unfold gx at *;rw[amu,ai3,ajo];ext
def JW {a:List (Zg×Nat)}{p:Zg×Nat}(h:a[i]?\p)(m:Nat):gx (a.take (i+ 1)) m=gx (a.take i) m++nz p.2 p.1 m:=by unfold gx;rw[akf,h,akj];show _++(nz p.2 p.1 m++[])=_;rw[ajm]
def VC {a:List (Zg×Nat)}{b:Zd×V}(h:(iK a)[i]?\b):∃p,a[i]?\p/\b=(p.1.map Sum.inl,.int p.2):=by
 unfold iK at h
 cbv
inductive JX (CR CG CC:Zs)(vs:Zb)(H:Hp)(Q:VK)(E_:XK):Prop
 |mk (x r:Zs)(c:KA)(S:RS)(bs:List (Nat×Zg×Nat))(gs:Zf)(ag:Zh)(W:bI)(hd:Nat)(fp:List (Zg×Nat))(O:Zs->Prop)(Ex:Nat->Int->Prop)(m:Nat):vs=[↑x,.int m]->cG CG CC H x r c gs ag W hd fp O->H c.aQ\.dT (iK fp)->CI S bs gs ag W Ex none->(∀p∈fp,⇑p.1<=1000/\∀z∈p.1,-1000<=z/\z<=1000)->m<S.q->⇑bs+ ⇑fp<100000->⇑ag<=⇑bs->(∀iT iL O' H',Bt O H H'->(∀b,O b->O' b)->(∀b,O' b->O b\/H b=none)->cG CG CC H' x r c iT iL W hd fp O'->CI S (bs++gx fp m) iT iL W Ex none->⇑iL<=⇑(bs++gx fp m)->Q .non H')->JX CR CG CC vs H Q E_
def iU:T.fh.Ok mg P w base 4 (JX A.aF A.aL A.aI):=by
 rwa[T.fh.on fS (λcw AA outer s H vs Q E hr h=>?_)]
 ·let⟨x,r,c,S,bs,gs,ag,W,hd,f,O,Ex,m,rfl,h,C,ci,hfp,hm,Pw,Px,k⟩:=h
  refine⟨_,{Es (b8 ajz rfl (Ya (0<<<1) rfl rfl) (jF rfl (cy (dc 2 fS.nd) (cy (dc 3 fS.nd) ie)))
   {aS (pm (pv 0) (aK T) T.i3 (mS T) hr #[3,2,1])})},?_⟩
  let nQ:¬O c.aQ:=h.JM C;let nxQ:x≠c.aQ:=bS h.ins C f!"";rwa[⟨c.aQ,_,C,trivial,12,x,_,c.dx,112,h.ins,aK T,T.Cb,M0^_,c.aQ,iK f,2,C,λY=>?_⟩];let k0:∀b o,b≠c.aQ->H b\o->upd H c.aQ (.df Y (.dT (iK f))) b\o:=λb o n e=>by rw[ak n];rwa[e]
  let h0:cG A.aL A.aI (upd H c.aQ (.df Y (.dT (iK f)))) x r c gs ag W hd f O:=h.keep (λb o L e=>k0 b o (λz=>nQ (by rw[<-z];rwa[L])) e) (λb xs e=>k0 b _ (bS e C f!"") e)
  let' R:Nat->St->Hp->Prop:=λi σ B=>∃g a v v2 v3,σ=#v[↑x,.int (m:Int),v2,v3]/\B c.aQ\.df Y (.dT (iK f))/\(∀b o,b≠c.aQ->¬O b->H b\o->B b\o)/\(∀b,O b->v b)/\(∀b,v b->O b\/H b=none)/\cG A.aL A.aI B x r c g a W hd f v/\CI S (bs++gx (f.take i) m) g a W Ex none/\⇑a<=⇑(bs++gx (f.take i) m)
  refine Uk (d:=c.aQ) (o:=Y) (kvs:=iK f) R
   ⟨gs,ag,O,none,none,2,aj,λb o n _ e=>k0 b o n e,λb z=>z,λb z=>.inl z,h0,by rw[List.take_zero];show CI S (bs++[]) _ _ _ _ _;rw[ajm];rwa[ci],by rw[List.take_zero];show _<=⇑(bs++[]);rw[ajm];rwa[Px]⟩ (λi σ B _ ζ=>by let⟨_,_,_,_,_,_,q,_⟩:=ζ;rwa[q]) ?_ ?_
  ·intro i kv σ B t kp hkv nt F J;rwa[aT ?_];intro N;let⟨g,a,v,v2,v3,rfl,V,Z,D,j,c5,u,l⟩:=J;dsimp only[N];clear N;let⟨p,hp,rfl⟩:=VC hkv;let hi:=(ai4.mp hp).1
   replace F:B kp\(.tup (ao p.1)):=by rw[F];show some (HO.tup (((p.1.map (Sum.inl:Int->Key)).map kV)))=_;rw[ajM];rfl
   let G:=aq.upd (o:=.tup [↑kp,.int (p.2:Int)]) nt;erw[t,12,bG.of aj,21121122];change upd B t _=H6 at G ⊢;let L:=hfp p (ai5 hp);let bl:=qD m (f.take i);rw[ajD]at bl;let c6:=c5.same G;rwa[⟨12,x,c.dx,12,c6.ins,fk ⋯,121212,x,r,kp,c,S,_,g,a,W,hd,f,v,Ex,p.2,m,p.1,2,c6,u,G^F,L.1,L.2,hm,by rw[ai3];ext,l,λgs7 ag7 O7 H7 X le7 nw7 c7 M U=>?_⟩];let I:¬v c.aQ:=λz=>(j _ z).elim nQ λq=>by rw[C]at q;ext q
   rw[ajK,<-JW hp]at M U;rwa[⟨gs7,ag7,O7,112,X _ _ I (G^V),λb o n1 n2 e=>X b o (λz=>(j b z).elim n2 λq=>by rw[q]at e;ext e) (G^Z b o n1 n2 e),λb z=>le7 b (D b z),λb z=>?_,c7,M,U⟩];rcases nw7 b z with w|w
   ·rwa[j b w]
   ·cases y:O b
    ·rwa[.inl y]
    ·rwa[.inr ?_]
     cases e:H b with
     |none=>rfl
     |some o=>
      cases y2:b=c.aQ
      ·rw[y2,G^V]at w;ext w
      ·rw[G^Z b o y2 y e]at w;ext w
  ·intro σ B J;rwa[aT ?_];intro N;let⟨g,a,v,v2,v3,rfl,V,Z,D,j,c5,u,l⟩:=J;dsimp only[N];clear N;rw[show ⇑(iK f)=⇑f by unfold iK;rw[ai6],akd]at u l;let I:¬v c.aQ:=λz=>(j _ z).elim nQ λq=>by rw[C]at q;ext q
   rwa[⟨Y,V,k g a v _ (λb o n e=>?_) D j (c5.keep (λb o L e=>[ak (λz=>I (by rw[<-z];rwa[L]))]▸e) (λb xs e=>[ak (λz=>by rw[z,V]at e;ext e)]▸e)) u l⟩];cases z:b=c.aQ
   ·rw[z,aj,<-C,<-z];rwa[e]
   ·rw[ak z];rwa[Z b o z n e]
def VD (r:Zs):List (Str×V):=[("rooms",↑r)]
def VF (r q:Zs):List (Str×V):=[("rooms",↑r),("rules",↑q)]
def VG (r q g:Zs):List (Str×V):=[("rooms",↑r),("rules",↑q),("goings",↑g)]
def VH (r q g e:Zs):List (Str×V):=[("rooms",↑r),("rules",↑q),("goings",↑g),("agenda",↑e)]
def VJ (r q g e w:Zs):List (Str×V):=[("rooms",↑r),("rules",↑q),("goings",↑g),("agenda",↑e),("waiting",↑w)]
def cy6 (r q g e w:Zs)(n:Int):List (Str×V):=[("rooms",↑r),("rules",↑q),("goings",↑g),("agenda",↑e),("waiting",↑w),("heard",.int n)]
def cz2 (r q:Zs):bO "rules" ↑q (VD r)=VF r q:=dM (by kernel_rfl)
def cz3 (r q g:Zs):bO "goings" ↑g (VF r q)=VG r q g:=dM (by kernel_rfl)
def cz4 (r q g e:Zs):bO "agenda" ↑e (VG r q g)=VH r q g e:=dM (by kernel_rfl)
def cz5 (r q g e w:Zs):bO "waiting" ↑w (VH r q g e)=VJ r q g e w:=dM (by kernel_rfl)
def cz6 (r q g e w:Zs)(n:Int):bO "heard" (.int n) (VJ r q g e w)=cy6 r q g e w n:=dM (by kernel_rfl)
def kat_nil {k:Zs}(h:H k\.dK []):dX H k (λ_=>none) (λ_ _=>none) (λ_ _ _=>false):=⟨⟨[],h,by simp,(λa z=>by ext z),λ_=>rfl⟩,(λ_ _ z=>by ext z),(λ_ _ _ z=>by ext z),(λ_ _ _ z=>by ext z),(λ_ _ _ z=>by ext z),(λ_ _ z=>by ext z),(λ_ _ _ z=>by ext z),(λ_ _ _ z=>by ext z),(λ_ _ _ _ z=>by ext z),(λ_ _ _ _ _ z=>by ext z)⟩
def dk (S:RS):Zh:=(~~~S.q).filter λc=>decide (S.aY[c]?\c)
def dB (a:List (Zg×Nat))(st:Zh):List (Nat×Zg×Nat):=st.flatMap λm=>gx a m
def fI (a:Za3)(b i:Nat):List (Nat×Zg×Nat):=(~~~i).flatMap λj=>nz (b+ j) (a.getD j []) 0
theorem lI (a:List (Zg×Nat)):∀st:Zh,⇑(dB a st)<=⇑st* ⇑a
 |[]=>ajB _
 |m::st=>by have:=lI a st;have:=qD m a;unfold dB at *;rw[amu,ai3,ajo,alz];ext
theorem sL (a:Za3)(b:Nat):∀i,⇑(fI a b i)<=i
 |0=>aja _
 |i+ 1=>by have:=sL a b i;have:=Pu (b+ i) (a.getD i []) 0;unfold fI at *;rw[aj3,akj,ai3];show _+ ⇑(nz _ _ 0++[])<=_;rw[ajm];ext
def sM:bI:=λ_ _ _=>false
def VL:CI S [] [] [] sM fM none:=⟨2,(λn g e=>by simp at e),(λn b e=>by simp at e),(λn z=>by ext z),(λr s n z=>by ext z),λn=>⟨(0,0),(0,0),(λr s z=>by ext z),λg e=>by simp at e⟩,(λb z=>by ext z)⟩
inductive JY (CR CG CC:Zs)(vs:Zb)(H:Hp)(Q:VK)(E_:XK):Prop
 |mk (x dx r ru pa:Zs)(S:RS)(a:RA)(R:Za2)(rs ps:Za3):vs=[↑x,↑r,↑ru,↑pa]->H x\.ins CC dx []->ay CR H r S a->Good S [] R->0<S.q->S.q<=2000->¬a.own r x->bN H ru rs->bN H pa ps->⇑rs<=400->⇑ps<=400->(∀u∈rs++ps,⇑u<=1000/\∀z∈u,-1000<=z/\z<=1000)->(∀fp,yB rs fp->S.q* ⇑fp+ ⇑ps<50000)->(∀c gs ag fp O H',(∀b o,H b\o->b≠x->H' b\o)->cG CG CC H' x r c gs ag sM ⇑S.aZ fp O->H' c.aQ\.dT (iK fp)->(∀b,O b->b=x\/H b=none)->CI S (dB fp (dk S)++fI ps ⇑rs ⇑ps) gs ag sM fM none->⇑ag<=⇑(dB fp (dk S)++fI ps ⇑rs ⇑ps)->yB rs fp->Q .non H')->JY CR CG CC vs H Q E_
structure StX (H H0 H1:Hp)(x:Zs)(o:HO):Prop where
 s:H1 x\o
 o:∀b o,H b\o->b≠x->H1 b\o
 k:∀b o,b≠x->H0 b\o->H1 b\o
 n:∀b,H1 b=none->H0 b=none
def stx {H0:Hp}{x:Zs}{u o:HO}(h:H0 x\u)(f:∀b o,H b\o->b≠x->H0 b\o):StX H H0 (upd H0 x o) x o:=⟨aj,λb o e n=>by rw[ak n];rwa[f b o e n],λb o n e=>by rw[ak n];rwa[e],λb z=>by
 cases e:b=x
 ·rw[e,aj]at z;ext z
 ·rw[ak e]at z;rwa[z]⟩
def ri:T.eY.Ok mg P w base 5 (JY A.aF A.aL A.aI):=by
 rwa[T.eY.on fi (λcw AA outer s H vs Q E hr h=>?_)]
 ·let⟨x,M,r,ru,pa,S,a,R,rs,ps,rfl,hx,hR,gd,hm0,hm,E5,JZ,xq,pE,iJ,hwb,CM,k⟩:=h
  refine⟨_,{cq (pv 0) (pv 1) rfl,cq (pv 0) (pc T.mE (xn T) hr #[2]) rfl,cq (pv 0) (b9 ai) rfl,cq (pv 0) (b9 ai) rfl,cq (pv 0) fK rfl,cq (pv 0) ((1<<<1)<<<0) rfl,b8 ajz rfl (cN (BF (pv 1) (aJ T) T.iC (lu T) hr)) (dc 4 fi.nd)
    {aS (pm (pv 0) (aK T) T.fh (iU T) hr #[4])},b8 ajz rfl (IL rfl T.gT (pv 3) (2<<<0) rfl rfl) (jF rfl (cy (dc 5 fi.nd) (cy (dc 6 fi.nd) ie)))
    {aS (pm (pv 0) (aK T) T.i3 (mS T) hr #[5,6,aw])}},?_⟩
  rwa[Bl ?_];intro OJ Cm pD mQ iI eD fq;let⟨VM,Py,Pz⟩:=id JZ;let⟨I,PB,VN⟩:=id xq;let o0:∀b o,H b\o->b≠x->H b\o:=λb o e _=>e
  let VP:ru≠x:=bS Py hx (by cbv);let VQ:pa≠x:=bS PB hx (by cbv);erw[1212,x,_,M,12,hx,aK T,T.e9,(by show 0<1000;decide)];rw[show bO "rooms" ↑r []=VD r from rfl];let S1:=stx (o:=.ins A.aI M (VD r)) hx o0;change upd H x _=H1 at S1 ⊢;let wr1:bN H1 ru rs:=⟨VM,S1.o _ _ Py VP,Pz.1,λi q u e1 e2=>S1.o _ _ (Pz.2 i q u e1 e2) (bS (Pz.2 i q u e1 e2) hx f!"")⟩;rwa[⟨12,ru,rs,2,wr1,3,λq d H2 s2 nq hq VR=>?_⟩];let x2:=s2^S1.s;let o2:∀b o,H b\o->b≠x->H2 b\o:=λb o e n=>s2^S1.o b o e n
  let n2:∀b,H2 b=none->H b=none:=λb z=>S1.n b (same_none s2 z)
  erw[12,x,_,M,12,x2,aK T,T.Cb,(by show 1<1000;decide)];rw[cz2];let J0:q≠x:=bS hq x2 (by cbv);let S3:=stx (o:=.ins A.aI M (VF r q)) x2 o2;change upd H2 x _=Y at S3 ⊢;let q3:=S3.k _ _ J0 hq;rwa[⟨ajB _,λg ng=>?_⟩];let N:=aq.upd (o:=.lst []) ng;let g4:upd Y g (.lst []) g\(.lst []):=aj;let n4:∀b,upd Y g (.lst []) b=none->H b=none:=λb z=>n2 b (S3.n b (same_none N z))
  let ng0:=n2 g (S3.n g ng);change upd Y g _=H4 at N g4 n4 ⊢;erw[12,x,_,M,12,N^S3.s,aK T,T.jA,(by show 2<1000;decide)];rw[cz3];let S5:=stx (o:=.ins A.aI M (VG r q g)) (N^S3.s) (λb o e n=>N^S3.o b o e n);change upd H4 x _=H5 at S5 ⊢;let J1:g≠x:=bS g4 (N^S3.s) f!"";let q5:=S5.k _ _ J0 (N^q3);let g5:=S5.k _ _ J1 g4;rwa[⟨ajB _,λe ne=>?_⟩];let s6:=aq.upd (o:=.lst []) ne;let e6:upd H5 e (.lst []) e\(.lst []):=aj;let n6:∀b,upd H5 e (.lst []) b=none->H b=none:=λb z=>n4 b (S5.n b (same_none s6 z))
  let E6:=n4 e (S5.n e ne);let nge:g≠e:=av g5 ne;change upd H5 e _=H6 at s6 e6 n6 ⊢;erw[12,x,_,M,12,s6^S5.s,aK T,T.kQ,(by show 3<1000;decide)];rw[cz4];let S7:=stx (o:=.ins A.aI M (VH r q g e)) (s6^S5.s) (λb o e n=>s6^S5.o b o e n);change upd H6 x _=H7 at S7 ⊢;let vW:e≠x:=bS e6 (s6^S5.s) f!"";let q7:=S7.k _ _ J0 (s6^q5);let g7:=S7.k _ _ J1 (s6^g5);let e7:=S7.k _ _ vW e6;rwa[λw nw=>?_]
  let Z:=aq.upd (o:=.dK []) nw;let w8:upd H7 w (.dK []) w\(.dK []):=aj;let n8:∀b,upd H7 w (.dK []) b=none->H b=none:=λb z=>n6 b (S7.n b (same_none Z z))
  let nw0:=n6 w (S7.n w nw);change upd H7 w _=H8 at Z w8 n8 ⊢;erw[12,x,_,M,12,Z^S7.s,aK T,T.jT,(by show 4<1000;decide)];rw[cz5];let S9:=stx (o:=.ins A.aI M (VJ r q g e w)) (Z^S7.s) (λb o e n=>Z^S7.o b o e n);change upd H8 x _=H9 at S9 ⊢;let VS:w≠x:=bS w8 (Z^S7.s) f!"";let R9:ay A.aF H9 r S a:=hR.keep (λb o hb e=>S9.o b o e (λz=>E5 (by rw[<-z];rwa[hb]))) (λb xs e=>S9.o b _ e (bS e hx f!""));erw[12,r,_,a.dx,112,R9.ins,aJ T,T.sH,tI^_,a.aN,12,.inl (aB.of R9.hN),12,x,_,M,12,S9.s,aK T,T.mM,(by show 5<1000;decide)];rw[az,cD,cz6];let Sa:=stx (o:=.ins A.aI M (cy6 r q g e w ⇑S.aZ)) S9.s S9.o;change upd H9 x _=Ha at Sa ⊢;let up:∀b o,b≠x->H8 b\o->Ha b\o:=λb o n z=>Sa.k b o n (S9.k b o n z)
  let cA:cG A.aL A.aI Ha x r ⟨M,q,g,e,w⟩ [] [] sM ⇑S.aZ d (λb=>b=x\/b=g\/b=e\/b=w):=by
   rwa[⟨Sa.s,⟨[],up _ _ J1 (Z^g7),2,(λi v z=>by simp at z),(λi v u z=>by simp at z),(λi j p z=>by simp at z)⟩,up _ _ vW (Z^e7),⟨11,kat_nil (up _ _ VS w8),⟨λb hb=>?_,(λ_ _ z=>by ext z),(λ_ _ _ z=>by ext z),(λ_ _ _ z=>by ext z)⟩⟩,nge,.inl rfl,.inr (.inl rfl),.inr (.inr (.inl rfl)),λb hb=>?_⟩]
   ·rcases hb with z|⟨_,z⟩|⟨_,_,z⟩
    ·rwa[.inr (.inr (.inr z))]
    ·ext z
    ·ext z
   ·rcases hb with z|z|z|z
    ·rw[z];rwa[_,Sa.s,s!"",s!"",(by intro _ _ z;ext z),s!""]
    ·rw[z];rwa[_,up _ _ J1 (Z^g7),s!"",s!"",(by intro _ _ z;ext z),s!""]
    ·rw[z];rwa[_,up _ _ vW (Z^e7),s!"",s!"",(by intro _ _ z;ext z),s!""]
    ·rw[z];rwa[_,up _ _ VS w8,s!"",s!"",(by intro _ _ z;ext z),s!""]
  let qa:=up _ _ J0 (Z^q7)
  let Oa:∀b,(b=x\/b=g\/b=e\/b=w)->b=x\/H b=none:=λb z=>by
   rcases z with z|z|z|z
   ·rwa[.inl z]
   ·rw[z];rwa[.inr ng0]
   ·rw[z];rwa[.inr E6]
   ·rw[z];rwa[.inr nw0]
  let Ra:ay A.aF Ha r S a:=hR.keep (λb o hb e=>Sa.o b o e (λz=>E5 (by rw[<-z];rwa[hb]))) (λb xs e=>Sa.o b _ e (bS e hx f!""));let nA:∀b,Ha b=none->H b=none:=λb z=>n8 b (S9.n b (Sa.n b z))
  obtain⟨O,eO⟩:∃O:Zs->Prop,O=λb=>b=x\/b=g\/b=e\/b=w:=⟨12⟩
  rw[<-eO]at cA;replace Oa:∀b,O b->b=x\/H b=none:=by rw[eO];rwa[Oa]
  clear eO;generalize ec:(⟨M,q,g,e,w⟩:KA)=c at cA;let qa:Ha c.aQ\(.dT (iK d)):=by rw[<-ec];rwa[qa]
  clear g7 e7 w8 S9 Z n8 S7 s6 n6 e6 S5 N g4 n4 S3 S1 x2 o2 n2 up q7 q5 q3 g5 R9 nw0 E6 ng0 nw ne ng nge vW J1 VS hq nq s2 J0 wr1;let hfb:∀p∈d,⇑p.1<=1000/\∀z∈p.1,-1000<=z/\z<=1000:=λp hp=>hwb _ (ajx _ (ai5 (VR.a p hp)))
  let CM:=CM d VR;rwa[⟨12,r,a.dx,12,Ra.ins,cS _ _ _ ⋯,r,S,a,2,Ra,gd.wf,3,λl nl=>?_⟩];let sl:⇑(dk S)<=S.q:=ajl (alc _ _) (by cbv);let stm:∀m∈dk S,m<S.q:=λm hm=>ajJ.mp (akk.mp hm).1
  let hmf:⇑(dk S)* ⇑d<=S.q* ⇑d:=akm _ sl;let sb:=aq.upd (o:=.lst (ao (nI (dk S)))) nl;let hl:upd Ha l (.lst (ao (nI (dk S)))) l\(.lst (ao (nI (dk S)))):=aj;show ∃a_1,_;rw[show (~~~S.q).filter (λc=>decide (S.aY[c]?\c))=dk S from rfl];let nl0:=nA l nl;let nlO:¬O l:=λz=>by let⟨o,e,_⟩:=cA.th l z;cbv
  change upd Ha l _=Hb at sb hl ⊢;let cB:=cA.same sb;erw[l,2,⟨_,aB.of hl⟩]
  let' mR:Nat->St->Hp->Prop:=λi σ H2=>∃X D O2 v4,σ=#v[↑x,↑r,↑ru,↑pa,v4,none,none]/\(∀b o,¬O b->Hb b\o->H2 b\o)/\(∀b,O b->O2 b)/\(∀b,O2 b->O b\/Hb b=none)/\cG A.aL A.aI H2 x r c X D sM ⇑S.aZ d O2/\CI S (dB d ((dk S).take i)) X D sM fM none/\⇑D<=⇑(dB d ((dk S).take i))
  refine dC (xs:=ao (nI (dk S))) mR
   ⟨[],[],O,none,2,λ_ _ _ e=>e,λb z=>z,λb z=>.inl z,cB,VL,aja _⟩ (λi σ H2 _ ζ=>by let⟨_,_,_,_,_,f,_⟩:=ζ;rwa[aB.of (f _ _ nlO hl)]) ?_ ?_
  ·intro i v σ H2 hi J;rwa[aT ?_];intro q_;let⟨X,D,O2,v4,rfl,f2,Pp,CK,c2,CF,J2⟩:=J;dsimp only[q_];clear q_;dsimp only[dJ];rwa[bH ?_];intro jX;let⟨z,rfl,hz⟩:=cf hi
   obtain⟨m,VW,rfl⟩:∃m,(dk S)[i]?\m/\z=(m:Int):=by
    unfold nI at hz
    cbv
   let L:=(ai4.mp VW).1;let nQ:¬O c.aQ:=cA.JM qa;let q2:=f2 _ _ nQ (sb^qa);let ll:=lI d ((dk S).take i);rw[ajD,alv ∅]at ll;let li:(i+ 1)* ⇑d<=⇑(dk S)* ⇑d:=akm _ L;rw[alz]at li;rwa[⟨12,x,c.dx,12,c2.ins,fk ⋯,12,x,r,c,S,_,X,D,sM,⇑S.aZ,d,O2,fM,m,2,c2,q2,CF,hfb,stm m (ai5 VW),3,J2,λC B O3 Y b3 le3 U c3 F G=>?_⟩]
   let es:dB d ((dk S).take (i+ 1))=dB d ((dk S).take i)++gx d m:=by unfold dB;rw[akf,VW,akj];show _++(gx d m++[])=_;rw[ajm]
   rw[<-es]at F G;rwa[⟨C,B,O3,12,λb o n e=>b3 b o (λz=>(CK b z).elim n λy=>by cbv) (f2 b o n e),λb z=>le3 b (Pp b z),λb z=>?_,c3,F,G⟩];rcases U b z with y|y
   ·rwa[CK b y]
   ·cases y2:O b
    ·rwa[.inl y2]
    ·rwa[.inr ?_]
     cases e:Hb b with
     |none=>rfl
     |some o=>rw[f2 b o y2 e]at y;ext y
  intro σ H2 J;rwa[aT ?_];intro q_;let⟨X,D,O2,v4,rfl,f2,Pp,CK,c2,CF,J2⟩:=J;dsimp only[q_];clear q_;rw[az,cD,akd]at CF J2;let ll:=lI d (dk S);let VX:Hb pa\(.lst (I.map V.ref)):=sb^Sa.o _ _ PB VQ;let CD:∀{b o},H b\o->b≠x->¬O b:=λ{b o} e n z=>(Oa b z).elim n λy=>by cbv
  let acE:=f2 _ _ (CD PB VQ) VX;let acF:=f2 _ _ (CD Py VP) (sb^Sa.o _ _ Py VP);let lr:⇑(VM.map V.ref)=⇑rs:=by rw[ai6,Pz.1]
  erw[1212,ru,12,.inl (aB.of acF),pa,(⇑(VM.map V.ref):Int),2233,⟨_,aB.of acE⟩];rw[lr]
  let' ko:Nat->St->Hp->Prop:=λi σ Y=>∃C B O3 v5 v6,σ=#v[↑x,↑r,↑ru,↑pa,v4,v5,v6]/\(∀b o,¬O b->Hb b\o->Y b\o)/\(∀b,O3 b->O b\/Hb b=none)/\cG A.aL A.aI Y x r c C B sM ⇑S.aZ d O3/\CI S (dB d (dk S)++fI ps ⇑rs i) C B sM fM none/\⇑B<=⇑(dB d (dk S)++fI ps ⇑rs i)
  refine oJ (xs:=I.map V.ref) ko
   ⟨X,D,O2,none,none,2,f2,CK,c2,by show CI S (_++[]) _ _ _ _ _;rw[ajm];rwa[CF],by show _<=⇑(_++[]);rw[ajm];rwa[J2]⟩ (λi σ Y _ ζ=>by let⟨_,_,_,_,_,_,f,_⟩:=ζ;rwa[aB.of (f _ _ (CD PB VQ) VX)]) ?_ ?_
  ·intro i v σ Y t hi nt J;rwa[aT ?_];intro q_;let⟨C,B,O3,v5,v6,rfl,f3,U,c3,F,G⟩:=J;dsimp only[q_];clear q_
   let L:i<⇑I:=by have:=(ai4.mp hi).1;rw[ai6]at this;rwa[this]
   let E7:i<⇑ps:=by rw[<-VN.1];rwa[L]
   let g1:I[i]?\(I[i]'L):=ai1 L
   let g2:ps[i]?\(ps[i]'E7):=ai1 E7
   rw[ajc,g1]at hi;obtain rfl:V.ref (I[i]'L)=v:=Za0 hi;change I[i]'L=wa at g1;change ps[i]'E7=u at g2;let sN:=VN.2 i wa u g1 g2;let hwx:wa≠x:=bS sN hx (by cbv);let acG:=f3 _ _ (CD sN hwx) (sb^Sa.o _ _ sN hwx);let N:=aq.upd (o:=.tup [.int ((⇑rs:Int)+ (i:Int)),↑wa]) nt;erw[t,12,bG.of aj,21121122];change upd Y t _=H4 at N ⊢;let c4:=c3.same N;let pl:=sL ps ⇑rs i;let hub:=hwb u (ajf _ (ai5 g2));rwa[⟨12,x,c.dx,12,c4.ins,fk ⋯,1212,x,r,wa,c,S,_,C,B,sM,⇑S.aZ,d,O3,fM,⇑rs+ i,(0),u,2,c4,F,N^acG,hub.1,hub.2,hm0,by rw[ai3];ext,G,λgs5 Vy O5 H5 b5 le5 nw5 c5 J9 al5=>?_⟩]
   let ep:fI ps ⇑rs (i+ 1)=fI ps ⇑rs i++nz (⇑rs+ i) u 0:=by unfold fI;rw[aj3,akj];show _++(nz (⇑rs+ i) (ps.getD i []) 0++[])=_;rw[ajm,ai8,g2];rfl
   rw[ajK,<-ep]at J9 al5;rwa[⟨gs5,Vy,O5,112,λb o n e=>b5 b o (λz=>(U b z).elim n λy=>by cbv) (N^f3 b o n e),λb z=>?_,c5,J9,al5⟩];rcases nw5 b z with y|y
   ·rwa[U b y]
   ·cases y2:O b
    ·rwa[.inl y2]
    ·rwa[.inr ?_]
     cases e:Hb b with
     |none=>rfl
     |some o=>rw[N^f3 b o y2 e]at y;ext y
  ·intro σ Y J;rwa[aT ?_];intro q_;let⟨C,B,O3,v5,v6,rfl,f3,U,c3,F,G⟩:=J;dsimp only[q_];clear q_;rw[ai6,VN.1]at F G;rwa[k c C B d O3 Y (λb o e n=>f3 b o (CD e n) (sb^Sa.o b o e n)) c3 (f3 _ _ (cA.JM qa) (sb^qa)) (λb z=>?_) F G VR];rcases U b z with y|y
   ·rwa[Oa b y]
   ·rwa[.inr (nA b (same_none sb y))]
def CN {rs:Za3}{b:List (Zg×Nat)}(h:yB rs b):⇑b<=⇑rs:=by
 let c:(b.map (·.2)).Nodup:=by
  have:=h.n;unfold List.Nodup at this ⊢;rw[akG]at this ⊢
  exact this.imp_of_mem λ{p q} a d n e=>n (by
   let i:=h.a p a;let g:=h.a q d
   cbv)
 have:=lC ⇑rs _ c λn f=>by let⟨p,a,rfl⟩:=ajN.mp f;rwa[(ai4.mp (h.a p a)).1]
 rw[ai6]at this;rwa[this]
def xr {b:Nat×Zg×Nat}{w:Nat}(h:b∈nz w l m):b=(w,l,m)/\l≠[]:=by
 unfold nz at h
 cbv
def G6 {w:Nat}(h:l≠[]):(w,l,m)∈nz w l m:=by unfold nz;cbv
def Rx {c:List (Zg×Nat)}{st:Zh}{a:Za3}{b:Nat×Zg×Nat}(h:b∈dB c st++fI a n ⇑a):(∃p∈c,b.1=p.2/\b.2.1=p.1/\b.2.2∈st)\/∃j u,a[j]?\u/\b=(n+ j,u,0):=by
 rcases ajh.mp h with q|q
 ·let⟨m,e,q⟩:=aj9.mp q;let⟨p,d,q⟩:=aj9.mp q;let⟨rfl,_⟩:=xr q;rwa[.inl ⟨p,d,22,e⟩]
 ·let⟨j,f,q⟩:=aj9.mp q;let⟨rfl,_⟩:=xr q
  cbv
def ends {bs:List (Nat×Zg×Nat)}{d:Zf}{W:bI}(ci:CI S bs d [] W fM none)(x:Good S [] R){b:Nat×Zg×Nat}(p:b∈bs)(a:S.ax b.2.2=b.2.2):Oh S b.2.2 b.2.1:=by
 let⟨n,f⟩:=aj1 p;let B:n<⇑d:=by rw[ci.len];rwa[(ai4.mp f).1]
 cases q:d[n]? with
 |none=>cbv
 |some y=>
  cases y with
  |none=>
   rcases ci.de n b q (by cbv) f with z|z
   ·rwa[absurd a z]
   ·rwa[.inl z]
  |some g=>
   let⟨e,c,z⟩:=ci.al n g q;rw[f]at e;obtain rfl:=Za0 e;rcases z with z|z|⟨lt,l,v⟩
   ·ext z
   ·ext z
   ·let⟨o,_,k,_,_,_,_,f1⟩:=ci.en _ _ _ l;let⟨s,_,j,_,_,_,_,f2⟩:=ci.en _ _ _ v;let k:o=g.front:=∅
    let j:s=g.bB:=∅
    subst k j;rcases f1 with ⟨t,u⟩|f1
    ·rcases f2 with ⟨m,r⟩|f2
     ·let i:=c.wf;let h:=c.wr;let a:S.ax g.start=g.start:=a;rw[a,t]at i;rw[a,m]at h;rwa[.inr ⟨g.first,g.last,g.front,g.bB,g.z1,-g.z2,lt,Gg.mh (by have:=c.ll;omega),Gg.at2 c.ll,i,u,h,[ako]▸r⟩]
     ·rwa[f2.elim]
    ·rwa[f1.elim]
inductive Rz (CR CG CC:Zs)(vs:Zb)(H:Hp)(Q:VK)(E_:XK):Prop
 |mk (r ru pa:Zs)(S:RS)(a:RA)(R:Za2)(ks:Zg)(B:Nat)(rs ps:Za3):vs=[↑r,↑ru,↑pa]->iM CR H r S a R ks B->0<S.q->B<800000->bN H ru rs->bN H pa ps->⇑rs<=400->⇑ps<=400->S.q* ⇑rs+ ⇑ps<=2500->(∀u∈rs++ps,⇑u<=1000/\∀z∈u,(-1000<=z/\z<=1000)/\z∈ks/\-z∈ks)->(∀S' a' R' B' H',(∀b o,¬a.own r b->H b\o->H' b\o)->iM CR H' r S' a' R' ks B'->(∀b,a'.own r b->a.own r b\/H b=none)->(∀a z b,R a z b->R' a z b)->S'.q=S.q->S'.L=S.L->Tr (rs++ps) ⇑rs S S'->Bq rs ps S'->B'<=B+ 700->Q .non H')->Rz CR CG CC vs H Q E_
def lJ (S:RS)(L c:Nat)(z:Int):Prop:=c<S.q/\S.aY[c]?\c/\z∈bA (2* L)/\S.by c z=none
structure GL (S:RS)(L:Nat):Prop where
 wf:S.Wf
 m:S.q<=100000
 l2:L<=200
 gp:∀c,c<S.q->S.aY[c]?\c->S.gap c=(bA (2* L)).filter λz=>(S.by c z).isNone
def GL.mem (g:GL S n)(hc:m<S.q)(c:S.aY[m]?\m){y:Int}:lJ S n m y↔y∈S.gap m:=by
 rw[g.gp m hc c,akk];constructor
 ·rintro ⟨_,_,b,a⟩;rwa[b,by rw[a];rfl]
 ·rintro ⟨b,a⟩;rwa[hc,c,b,by simpa using a]
def G7 (S:RS):Zh:=(~~~S.q).filter λc=>decide (S.aY[c]?\c)
def vw:n∈G7 S↔n<S.q/\S.aY[n]?\n:=by unfold G7;rw[akk,ajJ];simp
inductive G8 (C D:Zs)(vs:Zb)(H:Hp)(Q:VK)(E_:XK):Prop
 |mk (o dx r:Zs)(S:RS)(a:RA)(L:Nat):vs=[↑o,↑r]->H o\.ins D dx []->ay C H r S a->GL S L->((∀c z,¬lJ S L c z)->∀H',aq H H'->Q .non H')->(∀(c:Nat)(z:Int),lJ S L c z->∀t H',aq H H'->H' t\.tup [.int (c:Int),.int z]->Q ↑t H')->G8 C D vs H Q E_
inductive E8 (C:Zs)(vs:Zb)(H:Hp)(Q:VK)(E_:XK):Prop
 |mk (r l:Zs)(S:RS)(a:RA)(cs:Zh):vs=[↑r,↑l]->ay C H r S a->H l\.lst (ao (nI cs))->(∀c∈cs,c<⇑S.gaps)->((∀c∈cs,S.gap c=[])->Q .non H)->(∀(c:Nat)(z:Int),c∈cs->z∈S.gap c->∀t,H t=none->Q ↑t (upd H t (.tup [.int (c:Int),.int z])))->E8 C vs H Q E_
def Ka (l:Zg):V:=(l.head?.map V.int).getD .non
inductive VY (C:Zs)(vs:Zb)(H:Hp)(Q:VK)(E_:XK):Prop
 |mk (r:Zs)(S:RS)(a:RA)(c:Nat):vs=[↑r,.int c]->ay C H r S a->c<⇑S.gaps->Q (Ka (S.gap c)) H->VY C vs H Q E_
def sO:T.jR.Ok mg P w base 1 (VY A.aF):=by
 rwa[T.jR.on kS (λB L n s H J Q E M h=>?_)]
 ·let⟨r,S,a,c,rfl,h,I,k⟩:=h
  refine⟨_,{Es (b8 ajz rfl (X8 ((0<<<1)|||1)) (dc 2 kS.nd)
   {bu (pv 2)}),bu dm},?_⟩
  rwa[jd ?_];intro x;let y:=xi I;let⟨p,C,m⟩:=h.rG.at y;erw[p,.dK (gK (S.gap c)),m,True.intro];rwa[⟨12,r,_,a.dx,112,h.ins,aJ T,T.sG,tH^_,12,a.aG,11122,aB.of h.hG,cM C,p,gK (S.gap c),2,m,λo=>?_⟩]
  let back:upd (upd H p (.df o (.dK (gK (S.gap c))))) p (.dK (gK (S.gap c)))=H:=by
   rw[Qh]
   funext b
   cases u:b=p
   ·rw[u,aj,m]
   ·rw[ak u]
  let' g:Nat->St->Hp->Prop:=λi j l=>j=#v[↑r,.int c,none]/\l=upd H p (.df o (.dK (gK (S.gap c))))/\i=0
  rwa[Uj (d:=p) (o:=o) (kvs:=gK (S.gap c)) g ⟨222⟩ (λi j l _ q=>[q.2.1]▸aj) ?_ ?_]
  ·rintro i D j l f ⟨rfl,rfl,rfl⟩;dsimp only[dJ];rwa[bH ?_];intro G
   let e:∃z,(S.gap c).head?\z/\kV D.1=.int z:=by
    unfold gK at f;rw[ajc]at f
    cases q:(S.gap c)[0]? with
    |none=>rw[q]at f;ext f
    |some z=>rw[q]at f;erw[z,[List.head?_eq_getElem?]▸q];rw[<-Za0 f];rfl
   let⟨z,F,t⟩:=e;rw[t];erw[12,o,aj];rw[back];have:Ka (S.gap c)=.int z:=by unfold Ka;rw[F];rfl
   rw[<-this];rwa[k]
  ·rintro j l ⟨rfl,rfl,e⟩;erw[o,aj];rw[back];have:S.gap c=[]:=alA (by unfold gK at e;rw[ai6]at e;rwa[e]);let t:Ka (S.gap c)=.non:=by rw[this];rfl
   show Q V.non H;rw[<-t];rwa[k]
def DQ:T.p6.Ok P w base 2 (E8 A.aF):=by
 rwa[T.p6.on ot (λL R p s H O Q E M h=>?_)]
 ·let⟨r,l,S,a,cs,rfl,h,D,u,J,G⟩:=h
  erw[_,{b8 ajz rfl (cN (pv 1)) (dc 2 ot.nd)
   {bE 3 ot.nd (pm (pv 0) (aJ T) T.jR (sO T) M #[2]),bP (bf xM (pv 3) dm (bp _))
    {bu (cC #[2,3])}
    bC},bu dm}]
  rwa[jd ?_];intro F;erw[12,l,2,⟨_,aB.of D⟩];rwa[dC (xs:=ao (nI cs)) (λi j n=>∃v o,j=#v[↑r,↑l,v,o]/\n=H/\∀c∈cs.take i,S.gap c=[]) ⟨none,none,22,λc u=>by ext u⟩ (λi j n _ ζ=>by let⟨_,_,_,e,_⟩:=ζ;rwa[[e]▸aB.of D]) ?_ ?_]
  ·rintro i x j n N ⟨v,o,rfl,rfl,k⟩;let⟨z,rfl,d⟩:=cf N
   obtain⟨c,g,rfl⟩:∃c:Nat,cs[i]?\c/\z=(c:Int):=by
    unfold nI at d;rw[ajc]at d
    cases q:cs[i]? with
    |none=>rw[q]at d;ext d
    |some c=>rw[q]at d;rwa[c,2,(Za0 d).symm]
   let f:=ai5 g;erw[12,r,a.dx,12,h.ins,212,r,S,a,c,2,h,u c f];erw[12212];unfold Ka
   cases C:S.gap c with
   |nil=>
    rwa[⟨some (.int c),some .non,22,λb B=>?_⟩];rw[List.take_add_one,g]at B;rcases ajh.mp B with q|q
    ·rwa[k b q]
    ·rw[ai9.mp q];rwa[C]
   |cons y m=>rwa[1212,Za4 2,λt I=>G c y f ([C]▸aji) t I]
  ·rintro j n ⟨v,o,rfl,rfl,k⟩;rw[az,cD,akd]at k;rwa[J k]
def sP:T.nS.Ok mg P w base 3 (G8 A.aF A.dv):=by
 rwa[T.nS.on Cj (λn B d s H y Q E e h=>?_)]
 ·let⟨o,D,r,S,a,L,rfl,C,h,g,k,j⟩:=h;erw[_,{bu (pc T.p6 (DQ T) e #[1,BF (pv 1) (aJ T) T.iC (lu T) e])}];rwa[⟨1212,r,a.dx,12,h.ins,2,r,S,a,2,h,g.wf,g.m,λl p=>?_⟩];let s1:aq H (upd H l (.lst (ao (nI (G7 S))))):=aq.upd p;rwa[⟨r,l,S,a,G7 S,2,h.same s1,aj,λc x=>[g.wf.g]▸(vw.mp x).1,λu=>k (λc z b=>?_) _ s1,λc z v m t i=>?_⟩]
  ·have:=(g.mem b.1 b.2.1).mp b;rw[u c (vw.mpr ⟨b.1,b.2.1⟩)]at this;ext this
  ·let⟨q,f⟩:=vw.mp v;rwa[j c z ((g.mem q f).mpr m) t _ (s1.trans (aq.upd i)) aj]
def Kb:Zh:=[114,111,111,109,115]
def Kc (b:Zs):Sp:=λa H Q _=>a=[.str (tx Kb)]/\∀x d,H x=none->H d=none->d≠x->Q ↑x (upd (upd H d (.own x)) x (.ins b d []))
def DR:T.vh.Ok P w base 1 (Kc A.dv):=by
 rwa[T.vh.on DM (λb i a s H f Q E g h=>?_) (len:=by rintro _ _ _ _ ⟨rfl,_⟩;rfl)]
 ·let⟨rfl,k⟩:=h
  erw[_,{bP (bf fU (pv 0) (oF (l:=[114,111,111,109,115]) rfl) (bp _))
   {bu (LZ T.MB T.MD T.MC rfl T.Rl (by decide))}
   bC,lP,lP,lP}]
  rwa[hV ?_];intro c d e;rwa[12212,eV k]
def M6 (h:ay a H b S O){d:Zs}{o:HO}(i:H d\o)(k:∀p q f,o≠.ins p q f)(j:∀c,o≠.lst c)(l:∀c,o≠.dK c):¬O.own b d:=λg=>by
 rcases g with q|q|q
 ·have:=h.ins;cbv
 ·let⟨c,e⟩:=h.Og q;cbv
 ·let⟨c,e⟩:=h.qJ q;cbv
def RB (h:ay a H b S O){p:Zs}{d:Zb}(c:H p\.tup d):¬O.own b p:=M6 h c (by cbv) (by cbv) (by cbv)
def RC {C x:Zs}(nx:H x=none)(c:H a=none)(d:a≠x)(k:∀b o,upd (upd H a (.own x)) x (.ins C a []) b\o->b≠x->I b\o)(g:∀b,O.own x b->b=x\/upd (upd H a (.own x)) x (.ins C a []) b=none):aq H I/\∀b,O.own x b->H b=none:=by let f:aq H (upd (upd H a (.own x)) x (.ins C a [])):=(aq.upd c).trans (aq.upd ([ak d.symm]▸nx));rwa[λb o e=>k b o (f^e) (av e nx),λb z=>(g b z).elim (λe=>[e]▸nx) (same_none f)]
def PD (p:Zs)(H a:Hp):Prop:=∀q o,q≠p->H q\o->a q\o
def PD.upd {o:HO}:PD a H (upd H a o):=λq u n e=>[ak n]▸e
def _root_.Lake.L2.cR.but {rs:Zn}{rows:Za3}{w:Zs}(h:cR H rs rows)(b:PD w H I)(c:w∉rs):cR I rs rows:=⟨h.1,λi r ns a d=>b _ _ (λz=>c (by rw[<-z];rwa[ai5 a])) (h.2 i r ns a d)⟩
def kr {rows:Za3}(h:cR H F rows){r:Zs}(c:r∈F):∃d,H r\(.lst (ao d)):=by
 let⟨i,b,e⟩:=akV.mp c;let a:i<⇑rows:=by rw[<-h.1];rwa[b]
 rwa[_,h.2 i r _ (by rw[ai1 b,e]) (ai1 a)]
def _root_.Lake.L2.cR.snoc {rs:Zn}{rows:Za3}{ns:Zg}(h:cR H rs rows)(f:H a\.lst (ao ns)):cR H (rs++[a]) (rows++[ns]):=by
 rwa[⟨by rw[ai3,ai3,h.1];rfl,λi q e c b=>?_⟩];cases d:i<⇑rs
 ·rw[ajd d]at c;rw[ajd (by rw[<-h.1];rwa[d])]at b;rwa[h.2 i q e c b]
 ·rw[ajg ∅]at c;rw[ajg (by rw[<-h.1];omega)]at b;rw[ai9.mp (ai5 c),ai9.mp (ai5 b)];rwa[f]
def bM (S:RS)(k c:Nat):Nat:=(S.by c (M12.st k)).getD 0
inductive xt (C:Zs)(vs:Zb)(H:Hp)(Q:VK)(E_:XK):Prop
 |mk (r:Zs)(S:RS)(a:RA)(Z:Nat->Prop):vs=[↑r]->ay C H r S a->1<=S.L->S.L<=40->S.q<=300->⇑S.ways=S.q->Z 0->(∀c,Z c->c<S.q/\∀k,k<2* S.L->∃d,S.by c (M12.st k)=some d/\Z d)->(∀l N H',aq H H'->H l=none->TabAt H' l (M24.gj (bM S) (2* S.L) (M24.bj (bM S) (2* S.L) 0 N))->⇑(M24.bj (bM S) (2* S.L) 0 N)=N->Q ↑l H')->xt C vs H Q E_
def vx (a:List (Key×V))(found:Zh):Prop:=⇑a<=⇑found/\∀c:Nat,bz a (Sum.inl (c:Int))=if c∈found then some (V.int (M24.ix found c:Int)) else none
def vx.one:vx [(Sum.inl 0,.int 0)] [0]:=⟨aja _,λc=>by
 cases h:c=0
 ·subst h;rfl
 ·rw[ajk (λq=>h (ai9.mp q))];show bz (putK [] (Sum.inl 0) (.int 0)) (Sum.inl (c:Int))=none;rw[lV,ajk (λq=>by injection q with q;omega)];rfl⟩
def vx.put {c:List (Key×V)}{found:Zh}(h:vx c found)(nd:found.Nodup)(hc:n∉found):vx (putK c (Sum.inl (n:Int)) (.int (⇑found:Int))) (found++[n]):=by
 let g:(found++[n]).Nodup:=by rw[aj0];rwa[nd,by simp,λa i b j=>by cbv]
 rwa[⟨5,λf=>?_⟩]
 ·have:=gO c (Sum.inl (n:Int)) (.int (⇑found:Int));have:=h.1;rw[ai3,aj2];ext
 rw[lV];cases e:f=n
 ·subst e;rw[ajn rfl,ajn (ajf _ aji),M24.Jf hc]
 ·rw[ajk (λq=>e (by injection q with q;omega)),h.2];cases d:f∈found
  ·rw[ajn d,ajn (ajx _ d),M24.wm g d]
  cbv
structure NS (H0 H:Hp)(lf d lr:Zs)(ts:Zn)(kvs:List (Key×V))(found:Zh)(Tb:Za3):Prop where
 same:aq H0 H
 f1:H lf\(.lst (ao (nI found)))
 d1:H d\(.dK kvs)
 nm:vx kvs found
 r1:H lr\(.lst (ts.map V.ref))
 r2:cR H ts Tb
 un:(lf::lr::ts).Nodup
 new:∀x∈lf::lr::ts,H0 x=none
 dn:H0 d=none
section
variable {H0 H H':Hp}{lf d lr:Zs}{ts:Zn}{kvs:List (Key×V)}{found:Zh}{Tb:Za3}
def NS.more (h:NS H0 H lf d lr ts kvs found Tb)(s:aq H H'):NS H0 H' lf d lr ts kvs found Tb:=⟨h.same.trans s,s^h.f1,s^h.d1,h.nm,s^h.r1,h.r2.same s,h.un,h.new,h.dn⟩
def NS.ne (h:NS H0 H lf d lr ts kvs found Tb):lf≠lr/\lf∉ts/\lr∉ts/\ts.Nodup:=by
 let a:=ajO.mp h.un
 cbv
def NS.add (h:NS H0 H lf d lr ts kvs found Tb)(nd:found.Nodup){c:Nat}(hc:c∉found):NS H0 (upd (upd H d (.dK (putK kvs (Sum.inl (c:Int)) (.int (⇑found:Int))))) lf (.lst (ao (nI found)++[.int (c:Int)]))) lf d lr ts (putK kvs (Sum.inl (c:Int)) (.int (⇑found:Int))) (found++[c]) Tb:=by
 let⟨j,k,n,m⟩:=h.ne;let dl:∀b g,H b\.lst g->b≠d:=λb g e=>bS e h.d1 (by cbv)
 rwa[⟨λb o e=>?_,55,h.nm.put nd hc,5,⟨h.r2.1,λi q ns f l=>?_⟩,h.un,h.new,h.dn⟩]
 ·rw[ak (av e (h.new lf aji)),ak (av e h.dn)];rwa[h.same^e]
 ·rw[aj,iQ,ints_app];rfl
 ·rw[ak (akg (dl lf _ h.f1)),aj]
 ·rw[ak (akg j),ak (dl lr _ h.r1)];rwa[h.r1]
 ·let a:=h.r2.2 i q ns f l;rw[ak (λe=>k (by rw[<-e];rwa[ai5 f])),ak (dl q _ a)];rwa[a]
def NS.row (h:NS H0 H lf d lr ts kvs found Tb){q:Zs}{row:Zg}(f:H q\.lst (ao row))(p:H0 q=none)(c:q∉lf::lr::ts):NS H0 (upd H lr (.lst ((ts++[q]).map V.ref))) lf d lr (ts++[q]) kvs found (Tb++[row]):=by
 let⟨g,k,m,i⟩:=h.ne;simp only[ajs,not_or]at c;let⟨j,l,n⟩:=c;rwa[⟨λb o e=>?_,55,h.nm,aj,55,λx a=>?_,h.dn⟩]
 ·rw[ak (av e (h.new lr (ajw _ aji)))];rwa[h.same^e]
 ·rw[ak g];rwa[h.f1]
 ·rw[ak (bS h.d1 h.r1 (by cbv))];rwa[h.d1]
 ·rwa[cR.but (w:=lr) (h.r2.snoc f) PD.upd ?_]
  cbv
 ·cbv
 ·rw[<-alB,<-alB]at a;rcases ajh.mp a with a|a
  ·rwa[h.new x a]
  cbv
end
def DS:T.numbered.Ok P w base 2 (xt A.aF):=by
 rwa[T.numbered.on fP (λcw AA outer s H vs Q E hr h=>?_)]
 ·let⟨r,S,a,Z,rfl,hR,jW,zC,hm,hw,hZ0,hZ,k⟩:=h;let m5:=fA hr
  erw[_,{bE 1 fP.nd (pc T.mD (oy T) hr #[0<<<1]),bE 2 fP.nd (b9 #[aw]),bE 3 fP.nd (xZ (uT aw aw xY) rfl rfl (by simp) ⋯),bE 4 fP.nd (b9 ai),bL (fJ ajz (bf pT (4<<<0) (2<<<0) (bp _))
    {gQ (iy:=5) fP.nd rfl (Or.inl rfl) (fns:=["rows","rooms","found"]) (ixs:=[4,0,2]) (cl:=_) rfl (cN (pv 1)) (cu [(_,_),(_,_),(_,_)] rfl ⟨222222222222222,True.intro⟩ rfl) (λC s H ex=>(pm (pv 2) (aJ T) T.hY (gW T) hr #[bx (Ba (K:=K) rfl) (pv 3) (bD (qI (K:=K) rfl) rfl T.cV ajL #[1]) (λ_ _=>rfl),0])),b8 ajz rfl (cN (pv 5)) (dc 6 fP.nd)
     {bL (bP (Ax (rH m5 (pv 6) (pv 3)))
      {j9 m5 (pv 3) (pv 6) (2<<<0) rfl,aS (cO ajj ajq ajr bJ (pv 2) #[6])}
      bC)},aS (cO ajj ajq ajr bJ (pv 4) #[fN (fns:=["numbers"]) (ixs:=[3]) (cl:=_) rfl (cN (pv 5)) (cu [(_,_)] rfl ⟨22222,True.intro⟩ rfl) (λC s H ex=>(lK m5 (pv 1) (pv 0) (λ_ _=>rfl)))])}),bu (pv 4)}]
  rwa[qc ?_];intro pD mQ iI eD fq;rwa[⟨12,r,_,a.dx,112,hR.ins,aJ T,T.sE,vP^_,S.L,2,jW,3,λsl H1 s1 PF=>?_⟩];rwa[⟨Za4 1,λu VZ=>?_⟩];generalize e_:upd H1 u _=H2;obtain⟨s2,E9⟩:_/\_\(.lst (ao (nI [0]))):=ej e_ VZ;intro d hd;erw[aj,[(Sum.inl 0,.int 0)],2,by show 1<=15;decide];generalize Bw:upd (upd H2 d (.dK [])) d _=H3;let Fb:H3 d\(.dK [(Sum.inl 0,.int 0)]):=by rw[<-Bw,aj];rfl
  let s3:aq H2 H3:=λb o e=>by rw[<-Bw,ak (av e hd),ak (av e hd)];rwa[e]
  clear Bw;rwa[⟨ajB _,λp V0=>?_⟩];generalize e_:upd H3 p _=H4;obtain⟨s4,hr4⟩:_/\_\(.lst (([]:Zn).map V.ref)):=ej e_ V0
  let B4:NS H1 H4 u d p [] [(Sum.inl 0,.int 0)] (M24.bj (bM S) (2* S.L) 0 0) (M24.kg (bM S) (2* S.L) 0 0):=by
   let V1:H2 p=none:=s3.free V0;let e:u≠p:=λz=>by cbv
   rwa[⟨(s2.trans s3).trans s4,(s3.trans s4) _ _ E9,s4^Fb,vx.one,hr4,⟨2,λi r ns h1=>by simp at h1⟩,by simp[e],λx hx=>?_,s2.free hd⟩];simp only[ajs,ajR,akW]at hx;rcases hx with e|e
   ·rw[e];rwa[VZ]
   ·rw[e];rwa[s2.free V1]
  clear s2 s3 s4 E9 Fb hr4 VZ hd V0
  let JG:∀y i,Z y->i<2* S.L->Z (bM S i y):=λy i hy B=>by let⟨d,e1,e2⟩:=(hZ y hy).2 i B;unfold bM;rw[e1];rwa[e2]
  let oZ:∀n,∀z∈M24.bj (bM S) (2* S.L) 0 n,Z z:=M24.oT hZ0 JG;let Y:∀n,⇑(M24.bj (bM S) (2* S.L) 0 n)<=300:=λn=>ajl (M11.gB S.q _ (M24.hX _ _ _ n) λz R=>(hZ z (oZ n z R)).1) hm
  erw[λ eK H'=>∃(N:Nat)(G:Zn)(f:List (Key×V))(v5 M:Zc),eK=#v[↑r,↑sl,↑u,↑d,↑p,v5,M]/\NS H1 H' u d p G f (M24.bj (bM S) (2* S.L) 0 N) (M24.kg (bM S) (2* S.L) 0 N)/\⇑(M24.bj (bM S) (2* S.L) 0 N)=N,5]
  ·erw[λm σ H'=>∃(n:Nat)(G:Zn)(f:List (Key×V))(v5 M:Zc),m=300 - n/\σ=#v[↑r,↑sl,↑u,↑d,↑p,v5,M]/\NS H1 H' u d p G f (M24.bj (bM S) (2* S.L) 0 n) (M24.kg (bM S) (2* S.L) 0 n)/\n<=⇑(M24.bj (bM S) (2* S.L) 0 n),⟨_,(0),[],_,none,none,22,B4,ajB _⟩];rintro m σ H5 ⟨n,G,f,v5,M,rfl,rfl,O,hn⟩;let hop:=Y n
   let U:⇑G=n:=by rw[O.r2.1];unfold M24.kg;rw[ai6,ajD];ext
   erw[12,p,12,.inl (aB.of O.r1),12,u,12,.inl (aB.of O.f1),112212];rwa[cP (λh=>?_) (λh=>?_)]
   ·let m4:n<⇑(M24.bj (bM S) (2* S.L) 0 n):=by let h':(⇑(G.map V.ref):Int)<(⇑(ao (nI (M24.bj (bM S) (2* S.L) 0 n))):Int):=ajX h;rw[az,cD,ai6,U]at h';ext
    clear h;let F:=ai1 m4;change (M24.bj (bM S) (2* S.L) 0 n)[n]=c at F;let V2:=oZ n c (ai5 F);let V3:=(hZ c V2).1;erw[_,λ eK H' h=>h];let R5:ay A.aF H5 r S a:=hR.same (s1.trans O.same);let D:=O.same^PF;erw[12,sl,2,⟨_,aB.of D⟩];rwa[gy (ao ((~~~(2* S.L)).map M12.st)) (λv=>match v with|.int z=>.int (((S.by c z).getD 0:Nat):Int)|v=>v) (jJ (aB.of D)) (il (aB.of D)) (gF (aB.of D)) ([az,ai6,ajP]▸ajl (show 2* S.L<=1000 by omega) ⋯) (λi v hv Rr J=>?_) (λlo V4=>?_)]
    ·let⟨z,rfl,R⟩:=cf hv
     let B:i<2* S.L:=by have:=(ai4.mp R).1;rw[ai6,ajP]at this;rwa[this]
     let ez:M12.st i=z:=Za0 ((pB B).symm.trans R);let⟨dd,e1,e2⟩:=(hZ c V2).2 i B;rw[ez]at e1;erw[12,r,a.dx,12,R5.ins,cS _ _ _ ⋯,1212,p,12,.inl (aB.of O.r1),u,11122,aB.of O.f1,([ai6,U]▸ck (bT (jL F))),12,r,S,a,c,z,2,R5,[hw]▸V3]
     cbv
    let eo:(ao ((~~~(2* S.L)).map M12.st)).map (λv=>match v with|.int z=>V.int (((S.by c z).getD 0:Nat):Int)|v=>v)=ao (nI ((~~~(2* S.L)).map λi=>bM S i c)):=by unfold ao nI;rw[ajM,ajM,ajM,ajM];rfl
    rw[eo];clear eo;generalize e_:upd H5 lo _=H6;let⟨s6,ho6⟩:=ej e_ V4;let n1:lo≠u:=λz=>by rw[z,O.f1]at V4;ext V4
    let hod:∀i,i<2* S.L->((~~~(2* S.L)).map λi=>bM S i c)[i]?\(bM S i c):=λi B=>by rw[ajc,akD B];rfl
    erw[12,lo,2,⟨_,aB.of ho6⟩];rwa[dC (xs:=ao (nI ((~~~(2* S.L)).map λi=>bM S i c))) (λi σ X=>∃(f:List (Key×V))(M:Zc),σ=#v[↑r,↑sl,↑u,↑d,↑p,↑lo,M]/\NS H1 X u d p G f (M24.dP (bM S) c (M24.bj (bM S) (2* S.L) 0 n) i) (M24.kg (bM S) (2* S.L) 0 n)/\X lo\.lst (ao (nI ((~~~(2* S.L)).map λi=>bM S i c)))) ⟨f,M,2,O.more s6,ho6⟩ (λi σ X _ ζ=>by let⟨_,_,_,_,h⟩:=ζ;rwa[aB.of h]) ?_ ?_]
    ·rintro i y σ X B ⟨f,M,rfl,g,l⟩
     let PH:i<2* S.L:=by have:=(ai4.mp B).1;rw[az,cD,ai6,ajP]at this;rwa[this]
     rw[bT (jL (hod i PH))]at B;let ey:=Za0 B;subst ey
     let Px:⇑(M24.dP (bM S) c (M24.bj (bM S) (2* S.L) 0 n) i)<=300:=ajl (M11.gB S.q _ (M24.tQ (M24.hX _ _ _ n) i) λz R=>by
      rcases M24.kf.mp R with q|⟨j,hj,rfl⟩
      ·rwa[(hZ z (oZ n z q)).1]
      ·rwa[(hZ _ (JG c j V2 (by omega))).1]) hm
     let Kd:(M24.dP (bM S) c (M24.bj (bM S) (2* S.L) 0 n) i).Nodup:=M24.tQ (M24.hX _ _ _ n) i;let V5:=M24.jx (bM S) c (M24.bj (bM S) (2* S.L) 0 n) i;change M24.dP (bM S) c (M24.bj (bM S) (2* S.L) 0 n) i=come at V5 g Px Kd;rw[V5];clear V5;change bM S i c=o;rwa[⟨15,λ_ _ h=>h⟩];erw[1212,d,12,eP.k (k:=Sum.inl (o:Int)) g.d1,12];rw[g.nm.2 o];cases L:o∈come
     ·rw[ajn L];rwa[dI ⟨f,125,l⟩];unfold M24.add;rw[ajn L];rwa[g]
     ·rw[ajk L];rwa[eV ?_];let B8:=g.add Kd L;let acH:(⇑(ao (nI come)):Int)=(⇑come:Int):=by rw[az,cD]
      erw[12,u,12,.inl (aB.of g.f1),1212,d,12,j7.k (k:=Sum.inl (o:Int)) g.d1 (aje (show ⇑f<=300 by have:=g.nm.1;omega) ⋯)];let hfd:upd X d (.dK (putK f (Sum.inl (o:Int)) (.int (⇑(ao (nI come)):Int)))) u\(.lst (ao (nI come))):=by rw[ak (bS g.f1 g.d1 (by cbv))];rwa[g.f1]
      erw[12,.inl ⟨21,aB.of hfd⟩,12,u,1122,hfd,5]
      ·rw[az,cD];rwa[aje Px ⋯]
      rw[acH];erw[putK f (Sum.inl (o:Int)) (.int (⇑come:Int)),125]
      ·unfold M24.add;rw[ajk L];rwa[B8]
      ·rw[ak n1,ak (bS l g.d1 (by cbv))];rwa[l]
    ·rintro σ X ⟨f,M,rfl,g,l⟩;rw[az,cD,ai6,ajP,<-M24.fO F]at g;let ahJ:=Y (n+ 1);let⟨t,ht⟩:=M24.u9 (bM S) (2* S.L) 0 n;let xm:n+ 1<=⇑(M24.bj (bM S) (2* S.L) 0 (n+ 1)):=by rw[ht,ai3];ext
     let hin:∀i,i<2* S.L->bM S i c∈M24.bj (bM S) (2* S.L) 0 (n+ 1):=λi B=>by rw[M24.fO F];rwa[M24.kf.mpr (.inr ⟨i,B,2⟩)]
     erw[12,.inl ⟨21,aB.of g.r1⟩,12,lo,2,⟨_,aB.of l⟩];rwa[gy (ao (nI ((~~~(2* S.L)).map λi=>bM S i c))) (λv=>match v with|.int z=>.int ((M24.ix (M24.bj (bM S) (2* S.L) 0 (n+ 1)) z.toNat:Nat):Int)|v=>v) (jJ (aB.of l)) (il (aB.of l)) (gF (aB.of l)) ([az,cD,ai6,ajP]▸ajl (show 2* S.L<=1000 by omega) ⋯) (λi v hv Rr J=>?_) (λlq I=>?_)]
     ·let⟨z,rfl,R⟩:=cf hv
      let B:i<2* S.L:=by have:=(ai4.mp R).1;rw[cD,ai6,ajP]at this;rwa[this]
      let ez:((bM S i c:Nat):Int)=z:=Za0 ((jL (hod i B)).symm.trans R);subst ez;let J:Rr (.int ((M24.ix (M24.bj (bM S) (2* S.L) 0 (n+ 1)) (((bM S i c:Nat):Int)).toNat:Nat):Int)) X:=J;rw[ajG]at J;rwa[⟨1212,d,125,J⟩];have:=eP.k (k:=Sum.inl ((bM S i c:Nat):Int)) g.d1;rw[g.nm.2,ajn (hin i B)]at this;rwa[this]
     let eo:(ao (nI ((~~~(2* S.L)).map λi=>bM S i c))).map (λv=>match v with|.int z=>V.int ((M24.ix (M24.bj (bM S) (2* S.L) 0 (n+ 1)) z.toNat:Nat):Int)|v=>v)=ao ((~~~(2* S.L)).map λi=>((M24.ix (M24.bj (bM S) (2* S.L) 0 (n+ 1)) (bM S i c):Nat):Int)):=by unfold ao nI;rw[ajM,ajM,ajM,ajM];rfl
     rw[eo];clear eo;generalize e_:upd X lq _=H8;let⟨s8,V6⟩:=ej e_ I
     let nq:lq∉u::p::G:=by
      simp only[ajs,not_or];rwa[⟨λz=>?_,λz=>?_,λz=>?_⟩]
      ·rw[z,g.f1]at I;ext I
      ·rw[z,g.r1]at I;ext I
      ·let⟨ns,e⟩:=kr g.r2 z
       cbv
     let B8:=(g.more s8).row V6 (g.same.free I) nq;rw[<-M24.zu F]at B8;erw[p,1122,s8^g.r1,5]
     ·rw[ai6,U];rwa[aje (show n<=300 by omega) ⋯]
     rw[ajt]at B8;rwa[300 - (n+ 1),3,n+ 1,G++[lq],f,1122,B8,xm]
   ·erw[n,G,f,112,O];let h':¬(⇑(G.map V.ref):Int)<(⇑(ao (nI (M24.bj (bM S) (2* S.L) 0 n))):Int):=λq=>h (ajI q)
    rw[az,cD,ai6,U]at h';ext
  rintro eK H' ⟨N,G,f,v5,M,rfl,B',hN⟩;rwa[⟨12,k p N H' (s1.trans B'.same) (s1.free (B'.new p (ajw _ aji))) ⟨G,B'.r1,5⟩ hN⟩];rw[<-M24.BL hN];rwa[B'.r2]
structure CS (CR CG CC:Zs)(H:Hp)(x r:Zs)(q:KA)(S:RS)(a:RA)(R:Za2)(ks:Zg)(B:Nat)(rs ps:Za3)(fp:List (Zg×Nat))(bs:List (Nat×Zg×Nat))(gs:Zf)(ag:Zh)(W:bI)(O:Zs->Prop):Prop where
 c:cG CG CC H x r q gs ag W ⇑S.aZ fp O
 q:H q.aQ\(.dT (iK fp))
 rm:iM CR H r S a R ks B
 dj:∀b,a.own r b->¬O b
 ci:CI S bs gs ag W fM none
 bo:CH (rs++ps) ⇑rs ks bs
 pl:yB rs fp
 br:∀b∈bs,b.2.2<S.q
 ra:∀w∈rs,w≠[]->∀c,c<S.q->S.ax c=c->∃n,(n,w,c)∈bs
 pa:∀w∈ps,w≠[]->∃n,(n,w,0)∈bs
 ln:⇑bs<=S.q* ⇑fp+ ⇑ps
 wb:∀u∈rs++ps,⇑u<=1000/\∀z∈u,(-1000<=z/\z<=1000)/\z∈ks/\-z∈ks
def CS.V7 {CR x:Zs}{q:KA}{rs o:Za3}{p:List (Zg×Nat)}{bs:List (Nat×Zg×Nat)}{gs:Zf}{W:bI}{d:Zs->Prop}(h:CS CR a b H x c q S O R l n rs o p bs gs [] W d)(r:0<S.q):Bq rs o S:=by
 rwa[⟨λw j g hc m=>?_,λw j=>?_⟩]
 ·cases i:w=[]
  ·rw[i];rwa[.inl rfl]
  ·let⟨e,k⟩:=h.ra w j i g hc m;rwa[ends (b:=(e,w,g)) h.ci h.rm.g k m]
 ·cases i:w=[]
  ·rw[i];rwa[.inl rfl]
  ·let⟨e,k⟩:=h.pa w j i;rwa[ends (b:=(e,w,0)) h.ci h.rm.g k (by have:=(h.rm.g.el 0 r).1;rwa[Nat.le_zero.mp this])]
inductive Fd (CR CG CC:Zs)(vs:Zb)(H:Hp)(Q:VK)(E_:XK):Prop
 |mk (x r:Zs)(q:KA)(S:RS)(a:RA)(R:Za2)(B:Nat)(rs ps:Za3)(fp:List (Zg×Nat))(bs:List (Nat×Zg×Nat))(gs:Zf)(W:bI)(O:Zs->Prop)(c:Nat)(z:Int):vs=[↑x,.int c,.int z]->CS CR CG CC H x r q S a R (bA (2* S.L)) B rs ps fp bs gs [] W O->1<=S.L->S.L<=200->c<S.q->S.ax c=c->S.by c z=none->z∈bA (2* S.L)-> -z∈bA (2* S.L)->S.q<1000->(S.q+ 1)* ⇑fp+ ⇑ps<=2500->B<800000->⇑S.aZ+ S.stand<=800000->(∀S' a' R' bs' iT W' O' B' H',(∀b o,¬O b->¬a.own r b->H b\o->H' b\o)->CS CR CG CC H' x r q S' a' R' (bA (2* S.L)) B' rs ps fp bs' iT [] W' O'->(∀b,a'.own r b\/O' b->a.own r b\/O b\/H b=none)->Tr (rs++ps) ⇑rs (S.make c z (bA (2* S.L))) S'->S'.q=S.q+ 1->S'.L=S.L->B'<=B+ 2502->Q .non H')->Fd CR CG CC vs H Q E_
def xu:T.mH.Ok mg P w base 9 (Fd A.aF A.aL A.aI):=by
 rwa[T.mH.on wZ (λcw AA outer s H vs Q E hr h=>?_)]
 ·let⟨x,r,q,S,a,R,B,rs,ps,i,bs,gs,W,O,c,z,rfl,h,jW,zC,hc,ec,d,hz,I,hm,CM,hB,hwn,k⟩:=h
  refine⟨_,{aS (pm (pv 0) (aK T) T.fh (iU T) hr #[pm (0<<<1) (aJ T) T.qx (Aj T) hr #[1,2]]),aS (pm (pv 0) (aK T) T.eZ (fH T) hr #[1,2]),aS (BF (pv 0) (aK T) T.iB (lz T) hr)},?_⟩
  rwa[dN ?_];intro eD fq;let l:=h.rm.g;let rb:=h.rm.rb;let ok:=zG l h.rm.k ∅ (by have:=h.rm.l;omega) ∅ ∅;rwa[⟨12,x,q.dx,12,h.c.ins,fk ⋯,12,x,_,q.dx,112,h.c.ins,aK T,T.e9,fT^_,r,a.dx,12,h.rm.at_.ins,cS _ _ _ ⋯,1212,r,S,a,c,z,2,h.rm.at_,l.wf,jW,zC,hc,33,ok.sm.w,λa1 H1 X mh G=>?_⟩];let oth:∀b,O b->∃o,H b\o:=λb y=>by let⟨o,e,_⟩:=h.c.th b y;rwa[o,e]
  let tno:∀b Z,H b\.tup Z->H1 b\(.tup Z):=λb Z e=>X b _ (λy=>RB h.rm.at_ e y) e
  let c1:=h.c.keep (λb o y e=>X b o (λw=>h.dj b w y) e) tno;let q1:H1 q.aQ=_:=X _ _ (yC h.rm.at_ h.q) h.q;let ci1:=h.ci.make l hc ec d h.br (bA (2* S.L))
  let Y:∀b,a1.own r b->¬O b:=λb y w=>by
   rcases G b y with v|v
   ·rwa[h.dj b v w]
   ·let⟨o,e⟩:=oth b w;rw[v]at e;ext e
  let Pn:⇑bs+ ⇑i<=2500:=by have:=h.ln;rw[alz,Nat.one_mul]at CM;ext
  rwa[⟨x,r,q,S.make c z (bA (2* S.L)),bs,gs,[],W,⇑S.aZ,i,O,_,S.q,2,c1,q1,ci1,λp hp=>?_,akA _,3,ajB _,λf j N H2 C Pp J c2 M J2=>?_⟩]
  ·have:=h.wb p.1 (ajx _ (ai5 (h.pl.a p hp)));rwa[this.1,λy hy=>(this.2 y hy).1]
  let bl:=qD S.q i;let l2:⇑(bs++gx i S.q)<=2500:=by rw[ai3];ext
  let bo2:CH (rs++ps) ⇑rs (bA (2* S.L)) (bs++gx i S.q):=by
   let nw:∀b∈gx i S.q,(rs++ps)[b.1]?\b.2.1/\b.1<⇑rs:=λb d=>by let⟨p,hp,d⟩:=aj9.mp d;let⟨rfl,_⟩:=xr d;let h1:=h.pl.a p hp;let h2:=(ai4.mp h1).1;rwa[[ajd h2]▸h1,h2]
   rwa[⟨λb d=>?_,λb d=>?_,λb d=>?_,λb d=>?_,3⟩]
   ·rwa[(ajh.mp d).elim (h.bo.w b) λy=>(nw b y).1]
   ·rwa[(ajh.mp d).elim (h.bo.n b) λy=>.inl (nw b y).2]
   ·rwa[(ajh.mp d).elim (h.bo.l b) λy=>(h.wb _ (ai5 (nw b y).1)).1]
   ·rwa[(ajh.mp d).elim (h.bo.k b) λy z' I=>((h.wb _ (ai5 (nw b y).1)).2 z' I).2]
  let g2:⇑f<=2500:=by rw[M.len];rwa[l2]
  let JT:kU A.aL A.aI (S.make c z (bA (2* S.L))) (bs++gx i S.q) f W (λr s=>r=c/\s=z) (⇑j+ 2* ⇑f) x r q ⇑S.aZ i N H2 j W:=⟨c2,M,λ_ _ _ z=>z,by have:=M.two;ext⟩;rwa[⟨12,x,q.dx,12,c2.ins,fk ⋯,1212,x,r,q,f,j,W,⇑S.aZ,i,N,c,z,2,c2,JT.fits ∅,λns H3 u nd3 V8 c3=>?_⟩];let V:=JT.wake nd3 V8 c3;let VB:CI (S.make c z (bA (2* S.L))) (bs++gx i S.q) f (j++ns) (gf W c z) fM none:=V.i.ex λr' s' n' w' _ e=>absurd ⟨ajY Nat.cast e.1,e.2⟩ (dh.mp w').2
  let dj2:∀b,a1.own r b->¬N b:=λb y w=>by
   rcases J b w with v|v
   ·rwa[Y b y v]
   ·let⟨o,e⟩:=mh.there y;rw[v]at e;ext e
  let rm1:iM A.aF H1 r (S.make c z (bA (2* S.L))) a1 (fx R c z S.q) (bA (2* S.L)) (B+ 2):=by
   let es:=Gp (c:=c) (z:=z) (g:=bA (2* S.L)) l.wf;let U:(S.make c z (bA (2* S.L))).aZ=S.aZ:=rfl;rwa[⟨mh,l.make hc ec d _,rV h.rm.w l.wf _ _ _,λa y b e=>?_,by show S.q+ 1<=_;ext,h.rm.l,5,by rw[U];ext⟩]
   ·rcases e with e|⟨_,e,_⟩|⟨_,e,_⟩
    ·rwa[h.rm.k _ _ _ e]
    ·rw[e];rwa[hz]
    ·rw[e];rwa[I]
   ·show ⇑(S.rows++[_])+ _<=_;rw[ai3,es];show ⇑S.rows+ 1+ _<=_;ext
  let rm3:=(rm1.keep (λb o y e=>C b o (Y b y) e) (λb Z e=>C b _ (c1.i6 e) e)).keep (λb o y e=>u b o (dj2 b y) e) (λb Z e=>u b _ (c2.i6 e) e);let lv:live f<=2500:=ajl List.countP_le_length g2;let hmul:live f* (2* ⇑(bs++gx i S.q)+ 1)<=2500* 5001:=ak1 lv ∅;let hag:⇑(j++ns)<=7500:=by have:=V.b;ext
  rwa[⟨12,x,q.dx,12,c3.ins,fk ⋯,x,r,q,S.make c z (bA (2* S.L)),a1,fx R c z S.q,bA (2* S.L),B+ 2,rs++ps,⇑rs,bs++gx i S.q,f,j++ns,gf W c z,i,N,2,c3,rm3,3,dj2,VB,bo2,3,λS' a' R' iT W' O' B' H' f' c' r' ow oo dj' ci' rr em eL tr O6=>?_⟩];let L:S'.q=S.q+ 1:=em
  let out:∀{b o},¬O b->¬a.own r b->H b\o->H' b\o:=λ{b o} D F e=>by
   let t:=X b o F e;let e2:=C b o D t;let n3:¬N b:=λy=>(J b y).elim D λv=>by rw[v]at t;ext t
   rwa[f' b o n3 (λy=>(G b y).elim F λv=>by rw[v]at e;ext e) (u b o n3 e2)]
  let non:∀b,a1.own r b\/N b\/H3 b=none->a.own r b\/O b\/H b=none:=λb y=>by
   cases F:a.own r b
   ·rwa[.inl F]
   cases D:O b
   ·rwa[.inr (.inl D)]
   rwa[.inr (.inr ?_)]
   cases e:H b with
   |none=>rfl
   |some o=>
    exfalso
    let t:=X b o F e;let n3:¬N b:=λy=>(J b y).elim D λv=>by rw[v]at t;ext t
    rcases y with y|y|y
    ·rcases G b y with v|v
     ·rwa[F v]
     ·rw[v]at e;ext e
    ·rwa[n3 y]
    ·rw[u b o n3 (C b o D t)]at y;ext y
  let lt:=Later.of l (l.make hc ec d (bA (2* S.L))) jc (amr _);let lt2:=Later.of rm1.g r'.g rr (al8 em.symm);let el1:∀b,b<S.q->(S.make c z (bA (2* S.L))).ax b=S.ax b:=λb m4=>(fB l.wf c z (bA (2* S.L)) b).trans (ajk ∅)
  rwa[k S' a' R' (bs++gx i S.q) iT W' O' B' H' (λb o D F e=>out D F e) ⟨c',out (h.c.JM h.q) (yC h.rm.at_ h.q) h.q,r',dj',ci',bo2,h.pl,λb d=>?_,λw U m b d eb=>?_,λw U m=>?_,5,h.wb⟩ (λb y=>?_) tr L (eL.trans rfl) ∅]
  ·rw[L];rcases ajh.mp d with y|y
   ·have:=h.br b y;ext
   ·let⟨p,_,d⟩:=aj9.mp y;let⟨rfl,_⟩:=xr d;rwa[akA _]
  ·cases e:b<S.q
   ·let t:=lt2.el b (by show b<S.q+ 1;omega);rw[el1 b e,eb]at t;let l1:=(l.el b e).1;let l2:=(r'.g.el (S.ax b) ∅).1;let⟨n,hn⟩:=h.ra w U m b e ∅;rwa[n,ajx _ hn]
   ·let e:b=S.q:=∅
    subst e;let⟨n,hn⟩:=h.pl.b w U;rwa[n,ajf _ (aj9.mpr ⟨(w,n),hn,G6 m⟩)]
  ·let⟨n,hn⟩:=h.pa w U m;rwa[n,ajx _ hn]
  ·have:=h.ln;rw[ai3,L,alz,Nat.one_mul];ext
  ·rwa[non b ?_];rcases y with y|y
   ·rcases ow b y with v|v|v
    ·rwa[.inl v]
    ·rwa[.inr (.inl v)]
    ·rwa[.inr (.inr v)]
   ·rcases oo b y with v|v|v
    ·rwa[.inr (.inl v)]
    ·rwa[.inl v]
    ·rwa[.inr (.inr v)]
def PL:BD K A.bK:=⟨T.GX,T.GY,T.GZ,T.G0,T.G3,T.G4⟩
def V9 (n:Nat)(l:Zs):List (Str×V):=[("made",.int n),("rows",↑l)]
inductive PN (C:Zs)(vs:Zb)(H:Hp)(Q:VK)(E_:XK):Prop
 |mk (x l:Zs)(n:Nat)(xs:Zb):vs=[↑x,.int n,↑l]->H x\XO x C none true->n<100000->H l\.lst xs->⇑xs<=1000000->(∀d l2 H',H d=none->H l2=none->d≠x->(∀b o,b≠x->H b\o->H' b\o)->H' x\XO x C (some d) true->H' d\XD d (V9 n l2)->H' l2\.lst xs->l2≠x->Q .non H')->PN C vs H Q E_
def rj:T.dQ.Ok mg P w base 1 (PN A.bK):=by
 rwa[T.dQ.on q9 (λL Y C s H X Q E Z h=>?_)]
 ·let⟨x,l,n,N,rfl,u,hn,F,I,k⟩:=h
  refine⟨_,{aS (Mb (ED T.wX T.dQ.m.at_) ⟨T.ace,T.acf,T.acg⟩ rfl T.DK #[0,Ic (Em (QC (pv 1)) (Em (oF (l:=[32,114,111,111,109,115,32,119,101,114,101,32,109,97,100,101,44,32,97,110,100,32,116,104,101,114,101,32,97,114,101,32,103,97,112,115,32,108,101,102,116]) rfl) TK)) rfl] (by decide) rfl rfl rfl),EC (pv 0) (pv 1) rfl,EC (pv 0) (dF (AQ) rfl T.jS aky #[2]) rfl},?_⟩
  rwa[dN ?_];intro S J;let U:=Lf (n:=(n:Int)) ∅ ∅;erw[1212,(n:Int),2312,by show 0+ _<=1000000;ext,1255,x,none,12,u]
  ·rw[alp];let e:∀m:Nat,m<=100->⇑(A3 (n:Int))+ m<=1000000:=λm O=>∅
   rwa[e _ ⋯]
  ·rw[alp,ai3];let e:∀m:Nat,m<=100->⇑(A3 (n:Int))+ m<=1000000:=λm O=>∅
   rwa[e _ ⋯]
  rwa[⟨1212,x,A.bK,none,true,2,u,PL T,T.Ro,λd p=>?_⟩];let a:d≠x:=(av u p).symm;let c:upd (upd H d (XD d [("made",V.int n)])) x (XO x A.bK (some d) true) x\(XO x A.bK (some d) true):=aj;let g:upd (upd H d (XD d [("made",V.int n)])) x (XO x A.bK (some d) true) d\(XD d [("made",V.int n)]):=by rw[ak a,aj]
  let B:∀b o,b≠x->H b\o->upd (upd H d (XD d [("made",V.int n)])) x (XO x A.bK (some d) true) b\o:=λb o v e=>by rw[ak v,ak (av e p)];rwa[e]
  let v:∀b,upd (upd H d (XD d [("made",V.int n)])) x (XO x A.bK (some d) true) b=none->H b=none:=λb e=>by
   cases q:b=x
   ·cbv
   ·rw[ak q]at e;cases G:b=d
    ·rw[G];rwa[p]
    ·rw[ak G]at e;rwa[e]
  change upd (upd H d (XD d [("made",V.int n)])) x (XO x A.bK (some d) true)=M at c g B v ⊢;let D:l≠x:=bS F u f!"";rwa[⟨12,l,N,2,.inl (aB.of (B _ _ D F)),λi f=>?_⟩];generalize R:upd M i _=H2;let⟨t,y⟩:=ej R f;let j:i≠x:=(av c f).symm;let r:i≠d:=(av g f).symm;erw[12,x,A.bK,some d,true,2,t^c,PL T,T.Rp,_,a,t^g,by show 1<1000;decide];rw[show bO "rows" (V.ref i) [("made",V.int n)]=V9 n i from dM (by kernel_rfl)];rwa[k d i _ p (v _ f) a (λb o q e=>?_) ?_ aj ?_ j]
  ·rw[ak (av e p)];rwa[t^B b o q e]
  ·rw[ak a.symm];rwa[t^c]
  ·rw[ak r];rwa[y]
inductive Fl (rs ps:Za3)(L lim:Nat):RS->Prop
 |start {S:RS}:Tr (rs++ps) ⇑rs (RS.new L (bA (2* L))) S->Bq rs ps S->Fl rs ps L lim S
 |next {S S':RS} {c:Nat} {z:Int}:Fl rs ps L lim S->S.q<lim->lJ S L c z->Tr (rs++ps) ⇑rs (S.make c z (bA (2* L))) S'->Bq rs ps S'->Fl rs ps L lim S'
def Wa (L:Nat)(u:Zg):Prop:=⇑u<=1000/\∀z∈u,z≠0/\z.natAbs<=L
def sQ (d:n<=200){u:Zg}(h:Wa n u):⇑u<=1000/\∀z∈u,(-1000<=z/\z<=1000)/\z∈bA (2* n)/\-z∈bA (2* n):=by rwa[⟨h.1,λz c=>?_⟩];let⟨b,a⟩:=h.2 z c;rwa[3,iG.mpr ⟨b,a⟩,iG.mpr ⟨33⟩]
def sR (h:S.aY[n]?\n):S.ax n=n:=by unfold RS.ax;rw[ai8,h];rfl
def Fl.ys {rs a:Za3}(h:Fl rs a n m S)(b:∀u∈rs++a,∀z∈u,z∈bA (2* n)/\-z∈bA (2* n)):∃R,YS S n (bA (2* n)) R:=by
 induction h with
 |start t _=>let⟨R,y,_⟩:=YS.new.tr t b;rwa[R,y]
 |next _ _ l t _ i=>let⟨R,y⟩:=i;let⟨f,d,c,e⟩:=l;let⟨k,o⟩:=iG.mp c;let⟨j,g,_⟩:=(y.make f (sR d) e c (iG.mpr ⟨33⟩)).tr t b;rwa[j,g]
def _root_.Lake.L2.YS.gl (y:YS S n (bA (2* n)) R)(a:S.q<=100000)(d:n<=200):GL S n:=⟨y.g.wf,a,d,λc hc b=>y.gi.fin y.g (Js _) hc (sR b)⟩
def Ans (S:RS)(L:Nat)(H:Hp)(v:V):Prop:=(v=.non/\∀c z,¬lJ S L c z)\/∃(c:Nat)(z:Int)(t:Zs),v=↑t/\lJ S L c z/\H t\(.tup [.int (c:Int),.int z])
def PQ (H:Hp)(l:Zs)(S:RS):Prop:=∃a:Zn,H l\.lst (a.map V.ref)/\Each (λp d=>bW H 4 ↑p d) a S.rows/\⇑S.rows<=1000000
inductive Ke (cT:Zs)(vs:Zb)(H:Hp)(Q:VK)(E:XK):Prop
 |mk (ru pa:Zs)(L lim:Nat)(rs ps:Za3):vs=[.int L,↑ru,↑pa,.int lim,.str (tx Kb)]->1<=L->L<=40->1<=lim->lim<=300->bN H ru rs->bN H pa ps->(∀u∈rs++ps,Wa L u)->lim* ⇑rs+ ⇑ps<=2500->⇑rs<=400->⇑ps<=400->(∀t tb pp S N H',aq H H'->Fl rs ps L lim S->(∀c z,¬lJ S L c z)->H' t\.tup [↑tb,↑pp]->TabAt H' tb (M24.gj (bM S) (2* S.L) (M24.bj (bM S) (2* S.L) 0 N))->⇑(M24.bj (bM S) (2* S.L) 0 N)=N->PQ H' pp S->Q ↑t H')->(∀d pp S H',aq H H'->Fl rs ps L lim S->S.q=lim->H' d\XD d (V9 S.q pp)->PQ H' pp S->E ↑cT (some d) H')->Ke cT vs H Q E
section
variable {CR CG CC:Zs}{H H':Hp}{x r:Zs}{q:KA}{S:RS}{a:RA}{R:Za2}{ks:Zg}{B:Nat}{rs ps:Za3}{fp:List (Zg×Nat)}{bs:List (Nat×Zg×Nat)}{gs:Zf}{ag:Zh}{W:bI}{O:Zs->Prop}
def CS.keep (h:CS CR CG CC H x r q S a R ks B rs ps fp bs gs ag W O)(f:aq H H'):CS CR CG CC H' x r q S a R ks B rs ps fp bs gs ag W O:=⟨h.c.same f,f^h.q,h.rm.same f,h.dj,h.ci,h.bo,h.pl,h.br,h.ra,h.pa,h.ln,h.wb⟩
end
structure xA (A:uD)(H0 H:Hp)(x r:Zs)(L lim:Nat)(rs ps:Za3)(S:RS):Prop where
 k:aq H0 H
 cs:∃q a R B fp bs gs W O,CS A.aF A.aL A.aI H x r q S a R (bA (2* L)) B rs ps fp bs gs [] W O/\(∀b,a.own r b\/O b->H0 b=none)/\B<=2502* S.q
 f:Fl rs ps L lim S
 m:S.q<=lim
 l:S.L=L
def xA.kp {H0:Hp}{x:Zs}{rs c:Za3}(h:xA A H0 H x a n m rs c S)(k:aq H I):xA A H0 I x a n m rs c S:=by let⟨q,b,R,B,d,bs,gs,W,O,cs,f,e⟩:=h.cs;rwa[h.k.trans k,⟨q,b,R,B,d,bs,gs,W,O,cs.keep k,f,e⟩,h.f,h.m,h.l]
theorem RD(T:Txt K mg A):dZ P w K mg base (dG P w) 11 A.Jo A.Jp ["letters","rules","part","limit","order"] (Ke A.bK):=by
 rwa[T.fill.okD lM (λvs H Q E h=>?_) (λcw AA outer s H vs Q E hr h=>?_)]
 ·let⟨ru,pa,L,i,rs,f,rfl,_⟩:=h;rfl
 ·let⟨ru,pa,L,i,rs,f,rfl,jW,zC,T4,vN,JZ,xq,Z,CM,pE,iJ,kq,ke⟩:=h
  erw[_,{bE 5 lM.nd (pc T.vh (DR T) hr #[4]),bE 6 lM.nd (xN (vj T) (ug T) hr.Za5 rfl T.Rm T.gn.b .nil oR #[0]),bE 7 lM.nd (xN (qz T) (ri T) hr.Za5 rfl T.Jr T.eY.b .nil oR #[6,1,2]),aS (BF (pv 7) (aK T) T.iB (lz T) hr),bE 8 lM.nd (pm (pv 5) (Cd T) T.nS (sP T) hr #[6]),bL (fJ PassesOwn.leaving (bf xM (pv 8) dm (bp _))
    {bP (bf XA (6<<<1) (pv 3) (bp _))
     {I7 (E:=E) (rj T) hr.Za5 T.dQ.b rfl rfl T.zA (ED T.wX T.dQ.m.at_) T.dQ.m.fn T.GW #[6<<<1,BF (pv 6) (aJ T) T.kz (pF T) hr] lvD rfl (by decide) (by decide) rfl rfl}
     bC,aS (pm (pv 7) (aK T) T.mH (xu T) hr #[8&&&aw,8&&&aw]),bE 8 lM.nd (pm (pv 5) (Cd T) T.nS (sP T) hr #[6])}),bu (cC #[pc T.numbered (DS T) hr #[6],BF (pv 6) (aJ T) T.kz (pF T) hr])}]
  rwa[qd ?_];intro Cm pD mQ iI eD fq;let PR:∀u∈rs++f,∀z∈u,z∈bA (2* L)/\-z∈bA (2* L):=λu hu z hz=>((sQ ∅ (Z u hu)).2 z hz).2
  suffices main:∀o d G,aq H G->G o\.ins A.dv d []->fq { nx:=λ_ H'=>Q .non H',rt:=Q } #v[.int L,↑ru,↑pa,.int i,.str (tx Kb),↑o,none,none,none] G from
   ⟨122,λx d nx nd U=>main x d _ ((aq.upd nd).trans (aq.upd ([ak U.symm]▸nx))) aj⟩
  intro o dO G s1 ho;replace JZ:=JZ.same s1;replace xq:=xq.same s1;rwa[⟨12,λr X nx M U=>⟨r,X,L,2,aj,jW,3,λra H2 k2 h2 Wb=>⟨25⟩⟩⟩];let⟨s2,Wc⟩:=RC (C:=A.aF) nx M U k2 Wb;clear k2 Wb nx M U;rwa[⟨121212,λx X nx M U=>?_⟩];let s0:aq H2 (upd (upd H2 X (.own x)) x (.ins A.aI X [])):=(aq.upd M).trans (aq.upd ([ak U.symm]▸nx));let PV:upd (upd H2 X (.own x)) x (.ins A.aI X []) x\(.ins A.aI X []):=aj;let E5:¬ra.own r x:=λz=>by let⟨o,e⟩:=h2.there z;cbv
  let n0:∀b,upd (upd H2 X (.own x)) x (.ins A.aI X []) b=none->H2 b=none:=λb z=>same_none s0 z
  change upd (upd H2 X (.own x)) x (.ins A.aI X [])=H3 at s0 PV n0 ⊢;let gd:=uW L (bA (2* L))
  let fit:∀D,yB rs D->1* ⇑D+ ⇑f<=2500:=λD h=>by have:=akm ⇑rs T4;have:=CN h;ext
  let sl:0+ (RS.new L (bA (2* L))).stand<=1:=by rw[aly];rwa[CB (RS.new L (bA (2* L)))]
  let y0:=YS.new (L:=L) (ks:=bA (2* L));let rm0:iM A.aF H2 r (RS.new L (bA (2* L))) ra (λ_ _ _=>False) (bA (2* L)) 1:=⟨h2,gd,y0.w,y0.k,by show 1<=2000;decide,by rw[tU];ext,sl,ajl sl ⋯⟩;rwa[⟨x,X,r,ru,pa,RS.new L (bA (2* L)),ra,λ_ _ _=>False,rs,f,2,PV,h2.same s0,gd,Nat.one_pos,by show 1<=2000;decide,E5,(JZ.same s2).same s0,(xq.same s2).same s0,pE,iJ,λu hu=>⟨(sQ ∅ (Z u hu)).1,λz hz=>((sQ ∅ (Z u hu)).2 z hz).1⟩,λD h=>by have:=fit D h;show 1* ⇑D+ ⇑f<50000;ext,λq gs ag D O H4 f4 c4 q4 o4 E3 al4 hp=>⟨25⟩⟩];let hf:=fit D hp;let sd:⇑(dk (RS.new L (bA (2* L))))<=1:=ajl (alc _ _) ([ajP]▸aja _);let hmf:⇑(dk (RS.new L (bA (2* L))))* ⇑D<=1* ⇑D:=akm _ sd;let l1:=lI D (dk (RS.new L (bA (2* L))));let l2:=sL f ⇑rs ⇑f;let Pw:⇑(dB D (dk (RS.new L (bA (2* L))))++fI f ⇑rs ⇑f)<=1* ⇑D+ ⇑f:=by rw[ai3];ext
  let hlv:live gs<=⇑(dB D (dk (RS.new L (bA (2* L))))++fI f ⇑rs ⇑f):=by rw[<-E3.len];rwa[List.countP_le_length]
  let r4:iM A.aF H4 r (RS.new L (bA (2* L))) ra (λ_ _ _=>False) (bA (2* L)) 1:=(rm0.same s0).keep (λb o J e=>f4 b o e (λz=>E5 (by rw[<-z];rwa[J]))) (λb xs e=>f4 b _ e (bS e PV f!""))
  let dj:∀b,ra.own r b->¬O b:=λb z y=>by
   let⟨o,e⟩:=(h2.same s0).there z
   cbv
  let bin:∀b∈dB D (dk (RS.new L (bA (2* L))))++fI f ⇑rs ⇑f,((rs++f)[b.1]?\b.2.1/\(b.1<⇑rs\/b.2.2=0))/\b.2.2<1:=λb J=>by
   rcases Rx J with ⟨p,UD,e1,e2,e3⟩|⟨j,u,hj,rfl⟩
   ·let h1:=hp.a p UD;let h2:=(ai4.mp h1).1;rw[e1,e2,ajd h2];rwa[⟨h1,.inl h2⟩,ajJ.mp (akk.mp e3).1]
   ·rwa[⟨by show (rs++f)[⇑rs+ j]?=_;rw[ajg ∅,Nat.add_sub_cancel_left];rwa[hj],.inr rfl⟩,Nat.one_pos]
  let I:CH (rs++f) ⇑rs (bA (2* L)) (dB D (dk (RS.new L (bA (2* L))))++fI f ⇑rs ⇑f):=⟨λb J=>(bin b J).1.1,λb J=>(bin b J).1.2,λb J=>(Z _ (ai5 (bin b J).1.1)).1,λb J z hz=>PR _ (ai5 (bin b J).1.1) z hz,3⟩
  let Wd:∀w∈rs,w≠[]->∃n,(n,w,0)∈dB D (dk (RS.new L (bA (2* L))))++fI f ⇑rs ⇑f:=λw hw Y=>by let⟨n,hn⟩:=hp.b w hw;let hcs:0∈dk (RS.new L (bA (2* L))):=akk.mpr ⟨ajJ.mpr Nat.one_pos,ajI rfl⟩;rwa[n,ajx _ (aj9.mpr ⟨(0),hcs,aj9.mpr ⟨(w,n),hn,G6 Y⟩⟩)]
  let Wg:∀w∈f,w≠[]->∃n,(n,w,0)∈dB D (dk (RS.new L (bA (2* L))))++fI f ⇑rs ⇑f:=λw hw Y=>by let⟨j,hj⟩:=aj1 hw;rwa[⟨⇑rs+ j,ajf _ (aj9.mpr ⟨j,ajJ.mpr (ai4.mp hj).1,5⟩)⟩];rw[ai8,hj];rwa[G6 Y]
  change dB D (dk (RS.new L (bA (2* L))))++fI f ⇑rs ⇑f=bs at E3 al4 Pw hlv bin I Wd Wg;let hmul:live gs* (2* ⇑bs+ 1)<=2500* 5001:=ak1 ∅ ∅;clear l1 l2 hmf sd;rwa[⟨12,x,q.dx,12,c4.ins,fk ⋯,x,r,q,RS.new L (bA (2* L)),ra,λ_ _ _=>False,bA (2* L),(1),rs++f,⇑rs,bs,gs,ag,sM,D,O,2,c4,r4,3,dj,E3,I,3,λS' a' R' iT W' O' B' H5 f5 c5 r5 ow oo dj5 J9 rr em eL tr hb5=>?_⟩];let PX:S'.q=1:=em
  let Oq:∀b o,G b\o->H5 b\o:=λb o e=>by
   let e2:=s2^e
   let nO:¬O b:=λy=>by cbv
   rwa[f5 b o nO (λy=>by rw[Wc b y]at e;ext e) (f4 b o (s0^e2) (av e2 nx))]
  let U5:∀b,a'.own r b\/O' b->G b=none:=λb y=>by
   let nn:ra.own r b\/O b\/H4 b=none->G b=none:=λy=>by
    rcases y with y|y|y
    ·rwa[Wc b y]
    ·cases e:G b with
     |none=>rfl
     |some u=>
      let e2:=s2^e
      cbv
    ·cases e:G b with
     |none=>rfl
     |some u=>let e2:=s2^e;rw[f4 b u (s0^e2) (av e2 nx)]at y;ext y
   cbv
  let Wh:CS A.aF A.aL A.aI H5 x r q S' a' R' (bA (2* L)) B' rs f D bs iT [] W' O':=by
   rwa[⟨c5,f5 _ _ (c4.JM q4) (yC r4.at_ q4) q4,r5,dj5,J9,I,hp,λb J=>[PX]▸(bin b J).2,λw hw Y c hc _=>?_,Wg,[PX]▸Pw,λu hu=>sQ ∅ (Z u hu)⟩];have:c=0:=∅
   subst this;rwa[Wd w hw Y]
  let fl5:xA A G H5 x r L i rs f S':=⟨Oq,⟨q,a',R',B',D,bs,iT,W',O',Wh,U5,by rw[PX];ext⟩,.start tr (Wh.V7 ∅),3,eL.trans rfl⟩;clear Wh U5 Oq hmul Wg Wd I bin dj r4 hlv Pw hf rm0 y0 sl c5 r5 ow oo dj5 J9 rr f5 hb5 PX em eL tr c4 q4 o4 E3 al4 hp f4 PV E5 n0 s0 gd fit
  let look:∀{H5:Hp}{S:RS}{σ:St}{Qv:VK},xA A G H5 x r L i rs f S->σ[5]?\some ↑o->σ[6]?\some ↑r->(∀v H6,xA A G H6 x r L i rs f S->Ans S L H6 v->Qv v H6)->vJ A.dv "gap" (G8 A.aF A.dv) [] (λ_ _ _=>False) (Aw 5) (tq (Aw 6) rB) σ H5 Qv:=λ{H5 S σ Qv} F e5 e6 kk=>by let⟨Ry,y⟩:=F.f.ys PR;let⟨q,a,R,B,D,bs,gs,W,O,cs,_⟩:=F.cs;rwa[_,e5,o,dO,[],2,F.k^ho,21,e6,o,dO,r,S,a,L,2,F.k^ho,cs.rm.at_,y.gl (by have:=F.m;omega) ∅,λhn H' k1=>kk _ _ (F.kp k1) (.inl ⟨2,hn⟩),λc z hl t H' k1 ht=>kk _ _ (F.kp k1) (.inr ⟨c,z,t,2,hl,ht⟩)]
  rwa[look fl5 rfl rfl λv H6 fl6 an=>?_]
  clear fl5
  let' qE:St->Hp->Prop:=λ eK H'=>∃S,eK=#v[.int L,↑ru,↑pa,.int i,.str (tx Kb),↑o,↑r,↑x,some .non]/\xA A G H' x r L i rs f S/\∀c z,¬lJ S L c z
  erw[qE,5]
  ·rwa[bH ?_];intro jX;erw[λm σ H'=>∃S v,m=i+ 1 - S.q/\σ=#v[.int L,↑ru,↑pa,.int i,.str (tx Kb),↑o,↑r,↑x,some v]/\xA A G H' x r L i rs f S/\Ans S L H' v,⟨_,S',v,22,fl6,an⟩];clear fl6 an;intro m σ H7 JH;rwa[aT ?_];intro q_;let⟨S,v,rfl,rfl,F,an⟩:=JH;dsimp only[q_];clear q_;erw[12212];rcases an with ⟨rfl,hn⟩|⟨c,z,t,rfl,hl,ht⟩
   ·rwa[pU rfl ⟨S,rfl,F,hn⟩]
   rwa[cP (λ_=>?_) (λh=>absurd rfl h)];erw[_,λ eK H' h=>h];let⟨Ry,y⟩:=F.f.ys PR;let⟨q,a,R,B,D,bs,gs,W,O,cs,n0,hB⟩:=F.cs;let hm:=F.m;let eL:=F.l;let rb:=cs.rm.rb;let wr:=y.wr;let hBm:B<=2502* 300:=ajl hB (Nat.mul_le_mul_left _ ∅);erw[12,r,_,a.dx,112,cs.rm.at_.ins,aJ T,T.pz,tF^_,12112212];rwa[cP (λh=>?_) (λh=>?_)]
   ·let h:(i:Int)<=(S.q:Int):=ajX h;rwa[⟨12,r,_,a.dx,112,cs.rm.at_.ins,aJ T,T.pz,tF^_,12,r,a.dx,12,cs.rm.at_.ins,cS _ _ _ ⋯,r,S,a,2,cs.rm.at_,3,λp d hd e=>(y.d d hd).low e,λl qs H8 s8 nl hl8 vY=>?_⟩];intro xx nxx;let s9:=aq.upd (o:=XO xx A.bK none true) nxx;let eln:⇑(qs.map V.ref)<=1000000:=by rw[ai6,vY.1];ext
    rwa[⟨xx,l,S.q,qs.map V.ref,2,aj,3,s9^hl8,eln,λd l2 H9 nd EV M f9 hx9 hd9 PY nlx=>⟨2,some d,hx9,5⟩⟩]
    let PZ:aq H8 (del H9 xx):=λb u e=>by let nb:=av e nxx;rw[rT nb];rwa[f9 b u nb (s9^e)]
    rwa[ke d l2 S _ (λb u e=>PZ^(s8^(F.k b u (s1^e)))) F.f ∅ ([rT M]▸hd9) ⟨qs,[rT nlx]▸PY,vY.imp (λp d _ _ e=>e.same PZ),3⟩]
   let h:S.q<i:=Nat.lt_of_not_le λw=>h (ajI ∅)
   let⟨g1,g2,g3,g4⟩:=id hl;let⟨z1,z2⟩:=iG.mp g3;let Pn:⇑D<=⇑rs:=CN cs.pl;let Pg:(S.q+ 1)* ⇑D<=i* ⇑rs:=ak1 h Pn;rw[<-eL]at cs;rwa[⟨12,x,q.dx,12,cs.c.ins,fk ⋯,12,t,11122,bG.of ht,212,t,11122,bG.of ht,2,x,r,q,S,a,R,B,rs,f,D,bs,gs,W,O,c,z,2,cs,33,g1,sR g2,g4,[eL]▸g3,iG.mpr ⟨33⟩,3333,λS2 a2 R2 bs2 gs2 W2 O2 B2 H8 f8 Wi ow8 tr8 em8 el8 hb8=>?_⟩]
   let fl8:xA A G H8 x r L i rs f S2:=by
    rw[eL]at Wi tr8;rwa[⟨λb u e=>f8 b u (λw=>by rw[n0 b (.inr w)]at e;ext e) (λw=>by rw[n0 b (.inl w)]at e;ext e) (F.k b u e),⟨q,a2,R2,B2,D,bs2,gs2,W2,O2,Wi,λb w=>?_,by rw[em8];ext⟩,.next F.f h hl tr8 (Wi.V7 ∅),3,el8.trans eL⟩];rcases ow8 b w with v|v|v
    ·rwa[n0 b (.inl v)]
    ·rwa[n0 b (.inr v)]
    ·cases e:G b with
     |none=>rfl
     |some u=>rw[F.k b u e]at v;ext v
   rwa[look fl8 rfl rfl λv H9 fl9 an=>⟨i+ 1 - S2.q,3,S2,v,22,fl9,an⟩]
  rintro σ H7 ⟨S,rfl,F,hn⟩;let⟨Ry,y⟩:=F.f.ys PR;let⟨q,a,R,B,D,bs,gs,W,O,cs,n0,hB⟩:=F.cs;let hm:=F.m;let eL:=F.l;let rb:=cs.rm.rb;let g:=y.g;let hBm:B<=2502* 300:=ajl hB (Nat.mul_le_mul_left _ ∅);rwa[⟨12,r,S,a,λc=>c<S.q/\S.ax c=c,2,cs.rm.at_,333,g.wf.w,⟨y.m,by have:=(g.el 0 y.m).1;ext⟩,λc hc=>⟨hc.1,λk hk=>?_⟩,λtb N H8 s8 nt h8 hN=>?_⟩]
  ·cases e:S.by c (M12.st k) with
   |some d=>let⟨_,d2,_,d4⟩:=g.st _ _ _ e;rwa[d,2,d2,d4]
   |none=>rw[eL]at hk;rwa[absurd ⟨hc.1,5,ai5 (pB hk),e⟩ (hn c _)];rw[pI ([g.wf.e]▸hc.1),hc.2]
  rwa[⟨12,r,a.dx,12,(cs.rm.at_.same s8).ins,cS _ _ _ ⋯,r,S,a,2,cs.rm.at_.same s8,3,λp d hd e=>(y.d d hd).low e,λpp qs H9 s9 np hp9 vY=>?_⟩];rwa[⟨Za4 2,λt nt=>?_⟩];let sA:=aq.upd (o:=.tup [↑tb,↑pp]) nt;rwa[kq t tb pp S N _ (λb u e=>sA^(s9^(s8^(F.k b u (s1^e))))) F.f hn aj ((h8.same s9).same sA) hN ⟨qs,sA^hp9,vY.imp (λp d _ _ e=>e.same sA),3⟩]
def gw (g:Nat->Nat->Nat)(w:Zg)(p:Nat):Nat:=w.foldl (λp s=>g (M11.pl s) p) p
def ib (g:Nat->Nat->Nat)(w u:Zg)(i:Nat):gw g (w++u) i=gw g u (gw g w i):=aj8 ..
structure Mv (rs ps:Za3)(L:Nat)(D:Nat->Prop)(g:Nat->Nat->Nat)(x:Nat):Prop where
 o:D x
 d:∀p k,D p->k<2* L->D (g k p)
 b:∀p k,D p->k<2* L->g (M11.flip k) (g k p)=p
 r:∀w∈rs,∀p,D p->gw g w p=p
 p:∀w∈ps,gw g w x=x
def Ap (h:z≠0):M12.st (M11.pl z)=z:=by
 unfold M11.pl M12.st;split
 ·rw[ajn ∅];ext
 ·rw[ajk ∅];ext
def gC {v:Zg}(b:M11.aV n l)(a:M11.aV n v):M11.aV n (l++v):=λs c=>(ajh.mp c).elim (b s) (a s)
section
variable {rs ps:Za3}{L lim x:Nat}{S:RS}{D:Nat->Prop}{g:Nat->Nat->Nat}
def tV (h:z∈bA (2* L)):M11.pl z<2* L/\M11.pl (-z)=M11.flip (M11.pl z)/\-z∈bA (2* L):=by let⟨a,b⟩:=iG.mp h;rwa[M11.eA ⟨a,b⟩,M11.yd a,iG.mpr ⟨33⟩]
theorem Mv.inj (m:Mv rs ps L D g x):∀(w:Zg){p q:Nat},(∀z∈w,z∈bA (2* L))->D p->D q->gw g w p=gw g w q->p=q
 |[],_,_,_,_,_,e=>e
 |z::w,p,q,h,a,b,e=>by let hz:=(tV (h z aji)).1;have:=m.inj w (λy c=>h y (ajw _ c)) (m.d p _ a hz) (m.d q _ b hz) e;rw[<-m.b p _ a hz,this,m.b q _ b hz]
theorem Mv.uw (m:Mv rs ps L D g x):∀{w:Zg}{p q:Nat},UW (λp z q=>D p/\z∈bA (2* L)/\q=g (M11.pl z) p) p w q->q=gw g w p/\(D p->D q)/\(D q->D p)
 |[],p,q,h=>by rw[show p=q from h];rwa[2,id,id]
 |z::w,p,q,⟨r,⟨c,d,f⟩,e⟩=>by let⟨a,b,_⟩:=m.uw e;rw[f]at a b;rwa[a,λ_=>b (m.d p _ c (tV d).1),λ_=>c]
def Mv.md (m:Mv rs ps L D g x)(G:∀u∈rs++ps,∀z∈u,z∈bA (2* L)/\-z∈bA (2* L))(i:Nat->Nat)(M:Nat)(v:i 0=x)(C:∀c,c<M->D (i c)):YX (rs++ps) ⇑rs M i λp z q=>D p/\z∈bA (2* L)/\q=g (M11.pl z) p:=by
 rwa[⟨λp z q ⟨f,k,l⟩=>?_,λp z q O ζ ξ=>by let⟨_,_,h⟩:=ζ;let⟨_,_,E⟩:=ξ;rwa[h.trans E.symm],λwhich word start n c d z f k l r F I=>?_⟩]
 ·let⟨a,b,c⟩:=tV k;rw[l];rwa[m.d p _ f a,c,by rw[b,m.b p _ f a]]
 let ps:=C start l
 let e:gw g word (i start)=i start:=by
  cases j:which<⇑rs
  ·rw[ajd j]at f;rwa[m.r word (ai5 f) _ ps]
  ·rw[ajg ∅]at f;rw[k.resolve_left j,v];rwa[m.p word (ai5 f)]
 let s:=G _ (ai5 f);let⟨J,N,_⟩:=m.uw F;let⟨t,_,B⟩:=m.uw I;let hz:=(s z (ai5 r)).1;let o:=N ps;rwa[⟨o,hz,m.inj (word.drop (n+ 1)) (λy H=>(s y (List.mem_of_mem_drop H)).1) (B ps) (m.d _ _ o (tV hz).1) ?_⟩];let q:gw g (word.take n++(z::word.drop (n+ 1))) (i start)=i start:=by rw[<-drop_cons r,List.take_append_drop];rwa[e]
 rw[ib,<-J]at q;rwa[t.symm.trans q.symm]
def Fl.mv (m:Mv rs ps L D g x)(l:∀u∈rs++ps,∀z∈u,z∈bA (2* L)/\-z∈bA (2* L))(h:Fl rs ps L lim S):∃ f:Nat->Nat,f 0=x/\∀c z d,S.by c z=some d->D (f c)/\z∈bA (2* L)/\f d=g (M11.pl z) (f c):=by
 suffices ∃(f:Nat->Nat)(R:Za2),f 0=x/\(∀c,c<S.q->D (f c))/\0<S.q/\Good S [] R/\fD S/\(∀a z b,R a z b->z∈bA (2* L))/\∀a z b,R a z b->D (f a)/\z∈bA (2* L)/\f b=g (M11.pl z) (f a) by let⟨f,R,s,v,_,j,_,_,u⟩:=this;rwa[f,s,λc z d q=>IK (U:=λp z q=>D p/\z∈bA (2* L)/\q=g (M11.pl z) p) j (m.md l f _ s v).fn u q]
 induction h with
 |start t _=>
  let⟨R,g,w,e,_,_,k,u⟩:=t.sound (R:=λ_ _ _=>False) (m.md l (λ_=>x) 1 rfl λ_ _=>m.o) l (uW L _) YS.new.w (aja _) (λ_ _ _ q=>q.elim) λ_ _ _ q=>q.elim
  let e:_=1:=e;rwa[λ_=>x,R,2,λ_ _=>m.o,3,g,w,k,u]
 | @next i Z c z _ _ gp t _ Y=>
   let⟨f,R,s,v,X,j,w,k,u⟩:=Y;let⟨B,I,C,Q⟩:=gp;let⟨z1,z2,V⟩:=tV C;let E:=v c B;let dq:=m.d _ _ E z1;let e:∀a,a<i.q->(if a=i.q then g (M11.pl z) (f c) else f a)=f a:=λa G=>ajk ∅
   let o:∀a,a<i.q+ 1->D (if a=i.q then g (M11.pl z) (f c) else f a):=λa G=>by
    split
    ·rwa[dq]
    ·rwa[v a ∅]
   let n:(if 0=i.q then g (M11.pl z) (f c) else f 0)=x:=by rw[e 0 X];rwa[s]
   let md:=m.md l (λa=>if a=i.q then g (M11.pl z) (f c) else f a) (i.q+ 1) n o;let J:D (f c)/\z∈bA (2* L)/\g (M11.pl z) (f c)=g (M11.pl z) (f c):=⟨E,C,2⟩
   let⟨T,M,H,F,_,_,N,O⟩:=t.sound (R:=fx R c z i.q) md l (j.make B (sR I) Q _) (rV w j.wf _ _ _) (aja _) (λa y b r=>by
    rcases r with r|⟨_,e,_⟩|⟨_,e,_⟩
    ·rwa[k _ _ _ r]
    ·rw[e];rwa[C]
    ·rw[e];rwa[V]) λa y b r=>by
    rcases r with r|⟨rfl,rfl,rfl⟩|⟨rfl,rfl,rfl⟩
    ·let⟨l1,l2,_⟩:=j.rl _ _ _ r;simp only[e a l1,e b l2];rwa[u _ _ _ r]
    ·simp only[e _ B,amx];rwa[E,C,True.intro]
    ·simp only[e _ B,amx];rwa[md.sy _ _ _ J]
   let F:Z.q=i.q+ 1:=F;rwa[_,T,n,λa G=>o a ∅,3,M,H,N,O]
end
def Fl.cl {rs a:Za3}(h:Fl rs a n m S):Bq rs a S:=by cases h <;> ext
structure FT (rs ps:Za3)(L N:Nat)(T:Za3):Prop where
 t:M11.Tab L T
 f:M12.Fc (2* L) T.flatten ⇑T
 n:⇑T=N
 s:∀w∈rs++ps,M11.aV L w
 r:∀w∈rs,∀i,i<N->M11.walk T w i=i
 p:∀w∈ps,M11.walk T w 0=0
 c:∀i,i<N->∃u,M11.aV L u/\M11.walk T u 0=i
 u:∀D g x,Mv rs ps L D g x->∃ φ:Nat->Nat,φ 0=x/\∀i,i<N->D (φ i)/\∀k,k<2* L->φ (M11.nx T k i)=g k (φ i)
def Fl.ft {rs M:Za3}(h:Fl rs M n m S)(E:∀u∈rs++M,∀z∈u,z∈bA (2* n)/\-z∈bA (2* n))(hn:∀c z,¬lJ S n c z)(G:S.q<=300)(U:1<=n)(Z:n<=40)(hN:⇑(M24.bj (bM S) (2* n) 0 i)=i):
 i<=S.q/\FT rs M n i (M24.gj (bM S) (2* n) (M24.bj (bM S) (2* n) 0 i)):=by
 let⟨R,y⟩:=h.ys E;let g:=y.g
 let st:∀c k,c<S.q/\S.ax c=c->k<2* n->∃d,S.by c (M12.st k)=some d/\bM S k c=d/\d<S.q/\S.ax d=d:=λc k hc C=>by
  cases e:S.by c (M12.st k) with
  |some d=>let⟨_,d2,_,d4⟩:=g.st _ _ _ e;rwa[d,2,by unfold bM;rw[e];rfl,d2,d4]
  |none=>exact absurd ⟨hc.1,by rw[pI ([g.wf.e]▸hc.1),hc.2],ai5 (pB C),e⟩ (hn c _)
 let d0:0<S.q/\S.ax 0=0:=⟨y.m,by have:=(g.el 0 y.m).1;ext⟩
 let fw:∀(u:Zg){c:Nat},M11.aV n u->c<S.q/\S.ax c=c->∃d,wk S.by c u=some d/\d<S.q/\S.ax d=d:=λu=>by
  induction u with
  |nil=>exact λ_ hc=>⟨12,hc⟩
  |cons s u Y=>intro c F hc;let v:=F s aji;let⟨d,B,_,hd⟩:=st c _ hc (M11.eA v);rw[Ap v.1]at B;rw[jv B];rwa[Y (λt L=>F t (ajw _ L)) hd]
 let all:=M24.oT (f:=bM S) (k:=2* n) (x0:=0) (P:=λc=>(c<S.q/\S.ax c=c)/\∃u,M11.aV n u/\wk S.by 0 u=some c) ⟨d0,[],λ_ z=>(by ext z),2⟩ (λc k ζ C=>by
  let⟨hc,u,v,Q⟩:=ζ
  let⟨d,B,e,h3⟩:=st c k hc C;rw[e];rwa[h3,u++[M12.st k],gC v (λs F=>[ai9.mp F]▸M12.tM C),[rQ Q]▸IE B]) i
 let T:i<=S.q:=by rw[<-hN];rwa[M11.gB S.q _ (M24.hX _ _ _ i) λc hc=>(all c hc).1.1]
 let O:(M24.bj (bM S) (2* n) 0 i)[0]?\0:=by let⟨t,L⟩:=M24.EH (bM S) (2* n) 0 0 i;rw[aly]at L;rw[L];rfl
 let X:1<=i:=by have:=(ai4.mp O).1;ext
 let at_:∀o,o<i->∃c,(M24.bj (bM S) (2* n) 0 i)[o]?\c/\(c<S.q/\S.ax c=c)/\∃u,M11.aV n u/\wk S.by 0 u=some c:=λo J=>⟨_,ai1 ∅,all _ (List.getElem_mem _)⟩
 let tb:=M55.U4 hN (λc hc j hj=>by let⟨d,B,I,Q⟩:=st c j (all c hc).1 hj;let q:=g.sy _ _ _ B;rw[I];unfold bM;rw[show M12.st (M11.flip j)= -M12.st j by unfold M11.flip M12.st;split <;> split <;> ext,q];rfl) U Z X ∅
 let wt:∀{u:Zg}{o c d:Nat},M11.aV n u->(M24.bj (bM S) (2* n) 0 i)[o]?\c->wk S.by c u=some d->(M24.bj (bM S) (2* n) 0 i)[M11.walk (M24.gj (bM S) (2* n) (M24.bj (bM S) (2* n) 0 i)) u o]?\d:=λ{u}=>by
  induction u with
  |nil=>exact λ_ hc e=>by rw[<-Za0 e];rwa[hc]
  |cons s u Y=>intro o c d F hc e;let⟨f,B,I⟩:=oO e;let v:=F s aji;let q:=M55.qm hN (M11.eA v) hc;rw[show bM S (M11.pl s) c=f by unfold bM;rw[Ap v.1,B];rfl]at q;rwa[Y (λt L=>F t (ajw _ L)) q I]
 let inj:∀{o j c:Nat},(M24.bj (bM S) (2* n) 0 i)[o]?\c->(M24.bj (bM S) (2* n) 0 i)[j]?\c->o=j:=λ{o j c} a b=>(ak2 (ai4.mp a).1 (M24.hX _ _ _ i)).mp (a.trans b.symm)
 let p:∀w∈rs++M,M11.aV n w:=λw h z hz=>iG.mp (E w h z hz).1
 let rd:∀{w:Zg}{c:Nat},w∈rs++M->c<S.q/\S.ax c=c->Oh S c w->wk S.by c w=some c:=λ{w c} G hc h=>by
  rcases h with h|⟨o,j,f,r,y,z',_,J,_,w1,n1,_⟩
  ·rwa[h]
  ·let⟨d,e,hd⟩:=fw (w.take o) (λs F=>p w G s (alj F)) hc;rw[w1]at e;rw[<-Za0 e]at hd;let hy:=p w G y (ai5 J);let⟨_,I,_⟩:=st f _ hd (M11.eA hy);rw[Ap hy.1,n1]at I;ext I
 rwa[⟨T,tb,M55.fc hN,by unfold M24.gj;rw[ai6,hN],p,λw E o J=>?_,λw E=>?_,λo J=>?_,λD g x l=>?_⟩]
 ·let⟨c,hc,N,_⟩:=at_ o J;let G:=ajx M E;rwa[inj (wt (p w G) hc (rd G N (h.cl.r w E c N.1 N.2))) hc]
 ·let G:=ajf rs E;rwa[inj (wt (p w G) O (rd G d0 (h.cl.p w E))) O]
 ·let⟨c,hc,_,u,v,Q⟩:=at_ o J;rwa[u,v,inj (wt v O Q) hc]
 ·let⟨H,p0,ph⟩:=h.mv l E;let V:∀{o c:Nat},(M24.bj (bM S) (2* n) 0 i)[o]?\c->(M24.bj (bM S) (2* n) 0 i).getD o 0=c:=λ{o c} h=>by rw[ai8,h];rfl
  rwa[⟨λo=>H ((M24.bj (bM S) (2* n) 0 i).getD o 0),(ajY H (V O)).trans p0,λo J=>?_⟩];let⟨c,hc,N,_⟩:=at_ o J
  let main:∀k,k<2* n->D (H c)/\H ((M24.bj (bM S) (2* n) 0 i).getD (M11.nx (M24.gj (bM S) (2* n) (M24.bj (bM S) (2* n) 0 i)) k o) 0)=g k (H c):=λk C=>by let⟨d,B,I,_⟩:=st c k N C;let⟨a,_,b⟩:=ph _ _ _ B;rw[M12.qi]at b;rw[V (M55.qm hN C hc),I];rwa[a,b]
  show D (H _)/\∀k,k<2* n->H _=g k (H _);rw[V hc];rwa[(main 0 ∅).1,λk C=>(main k C).2]
def Fl.mL {rs d:Za3}(h:Fl rs d n m S)(b:∀u∈rs++d,∀z∈u,z∈bA (2* n)/\-z∈bA (2* n))(p:1<=m):S.q<=m/\S.L=n:=by
 rwa[⟨5,by let⟨R,y⟩:=h.ys b;rwa[y.l]⟩]
 cases h with
 |start t _=>let⟨_,_,a,_⟩:=YS.new.tr t b;let a:S.q=1:=a;ext
 | @next g _ c z f o l t _=>let⟨R,y⟩:=f.ys b;let⟨k,i,e,j⟩:=l;let⟨_,_,a,_⟩:=(y.make k (sR i) j e (tV e).2.2).tr t b;let a:S.q=g.q+ 1:=a;ext
theorem words_of {H:Hp}{P:Zg->Prop}:∀{ps:Zn},(∀(i:Nat)(p:Zs),ps[i]?\p->∃w,H p\.tup (ao w)/\P w)->∃a,bR H ps a/\∀w∈a,P w
 |[],_=>⟨[],⟨2,(λi p w e=>by simp at e)⟩,(λw f=>by ext f)⟩
 |p::ps,h=>by
  let⟨a,d,j⟩:=words_of (ps:=ps) λi q e=>h (i+ 1) q (by simpa using e)
  let⟨w,g,l⟩:=h 0 p rfl;rwa[⟨w::a,⟨by rw[ajo,ajo,d.1],λi q u b c=>?_⟩,λu k=>?_⟩]
  ·cases i with
   |zero=>ext b;ext c;rwa[g]
   |succ i=>exact d.2 i q u (by simpa using b) (by simpa using c)
  cbv
inductive Kf (K:Za1)(vs:Zb)(H:Hp)(Q:VK)(E_:XK):Prop
 |mk (a:Zs)(ns:Zg)(k:Nat):vs=[↑a,.int k]->aB K H a (ao ns)->k<=1000->(∀z,Q (.int z) H)->Kf K vs H Q E_
def Wj:Sp:=λa H Q _=>∃(z:Int)(L:Nat),a=[.int z,.int L]/\1<=L/\L<=200/\∀s:Int,s≠0->s.natAbs<=L->Q (.int s) H
def bQ:T.bX.Ok P w base 1 (Kf K):=by
 rwa[T.bX.on wY (λi l c s H j Q E m h=>?_)]
 ·let⟨a,b,n,rfl,d,o,k⟩:=h
  erw[_,{bP (bf pT (pv 1) (0<<<0) (bp _))
   {bu (0|||1)}
   bC,bu aw}]
  rwa[jd ?_];intro f;erw[1212,a,12,.inl d,112212];rwa[cP (λh=>?_) (λh=>?_)]
  ·let g:(n:Int)<(⇑(ao b):Int):=ajX h;rw[az]at g;let e:b[n]?=some b[n]:=ai1 ∅
   rwa[1212,a,11122,d,ck (bT e),k _]
  ·rwa[k _]
def sS:T.nP.Ok P w base 1 Wj:=by
 rwa[T.nP.on Ci (λd j a s H g Q E l h=>?_) (len:=by rintro _ _ _ _ ⟨z,L,rfl,_⟩;rfl)]
 ·let⟨z,L,rfl,c,f,k⟩:=h
  erw[_,{bP (bf fU (aO cK (pv 0) aw) aw (bp _))
   {bu (da cL (aO du aw (aO cK (aO ew (pv 0) aw) (pv 1))))}
   bC,bu (aO du aw (aO cK (aO ew (pv 0) aw) (pv 1)))}]
  rwa[jd ?_];intro b;let e:∀y:Int,0<=y % (L:Int)/\y % (L:Int)<L:=λy=>⟨akS _ ∅,akJ _ ∅⟩
  let i:=e (z / 2);rwa[⟨121122,(by show (0:Int)<2;decide),212,cP (λh=>?_) (λh=>?_)⟩]
  ·refine⟨121122,⟨44⟩,121122,(by show (0:Int)<(L:Int);omega),112212,k _ ?_ ?_⟩ <;> ext
  ·refine⟨121122,⟨44⟩,12112231122,k _ ?_ ?_⟩ <;> ext
def iN (n:Nat):Zb:=(~~~n).map λi:Nat=>V.int (i:Int)
def ic (n:Nat):⇑(iN n)=n:=by unfold iN;cbv
def tW (h:i<n):(iN n)[i]?\(V.int (i:Int)):=by unfold iN;rw[ajc,akD h];rfl
def RG {x:V}(h:(iN n)[i]?\x):i<n/\x=V.int (i:Int):=by
 let a:i<n:=by have:=(ai4.mp h).1;rw[ic]at this;rwa[this]
 rw[tW a]at h;rwa[a,(Za0 h).symm]
def xB {Q:VK}(g:Nat->Int)(h:n<=1000)(j:∀i:Nat,i<n->∀R:VK,R (.int (g i)) H->r (some (.int (i:Int))::D) H R)(c:∀a,H a=none->Q ↑a (upd H a (.lst (ao ((~~~n).map g))))):kI r D Q (yM 0 n) H:=by
 rwa[gy (iN n) (λv=>match v with|.int z=>.int (g z.toNat)|v=>v) (λi b=>by rw[ic]at b;rwa[b]) (λi x l b y=>?_) ([ic]▸aja _) ([ic]▸ajl h ⋯) (λi x f R k=>?_) (λa d=>?_)]
 ·rw[ic]at b;let⟨o,m⟩:=y;erw[3];rw[tW b]
  cbv
 ·let⟨b,rfl⟩:=RG f;rwa[j i b R ?_];have:R (V.int (g ((i:Int)).toNat)) H:=k;rw[ajG]at this;rwa[this]
 ·let e:((iN n).map λv=>match v with|.int z=>V.int (g z.toNat)|v=>v)=ao ((~~~n).map g):=by unfold iN ao;rw[ajM,ajM];rfl
  rw[e];rwa[c a d]
def qF {a:Za3}(h:bR H F a){w:Zs}{c:Zb}{o:HO}(b:H w\.lst c):bR (upd H w o) F a:=h.keep λp d e=>by rw[ak (bS e b (by cbv))];rwa[e]
def sf (rows:Za3)(x:Nat)(s:Int):Nat:=if 0<s then ((rows.getD (s.natAbs - 1) []).getD x 0).toNat else (rows.getD (s.natAbs - 1) []).findIdx (λz=>z==(x:Int))
inductive yE (vs:Zb)(H:Hp)(Q:VK)(E_:XK):Prop
 |mk (a wa:Zs)(rows:Za3)(p x:Nat)(w:Zg):vs=[↑a,.int x,↑wa]->TabAt H a rows->(∀r∈rows,M11.Pm p r)->x<p->p<=1000->H wa\.tup (ao w)->M11.aV ⇑rows w->⇑rows<=1000->Q (.int ((w.foldl (sf rows) x:Nat):Int)) H->yE vs H Q E_
theorem Fe:∀{r:Zg}{i:Nat}{x:Int},r.Nodup->r[i]?\x->r.findIdx (λz=>z==x)=i
 |[],i,x,_,h=>by simp at h
 |a::r,0,x,_,h=>by cbv
 |a::r,i+ 1,x,c,h=>by
  let b:a≠x:=λz=>(ajO.mp c).1 ([z]▸ai5 (l:=r) (i:=i) h)
  rw[List.findIdx_cons,show (a==x)=false from ajA.mpr b,Fe (ajO.mp c).2 h];rfl
def CP {rows:Za3}{x:Nat}(h:0<z)(b:rows[z.natAbs - 1]?\l)(a:l[x]?\(n:Int)):sf rows x z=n:=by unfold sf;rw[ajn h,ai8,ai8,b,Option.getD_some,a,Option.getD_some];rfl
def CQ {rows:Za3}{x:Nat}(h:¬ 0<z)(b:rows[z.natAbs - 1]?\l)(c:l.Nodup)(a:l[n]?\(x:Int)):sf rows x z=n:=by unfold sf;rw[ajk h,ai8,b,Option.getD_some];rwa[Fe c a]
def qW:T.lF.Ok P w base 1 yE:=by
 rwa[T.lF.on i5 (λZ AA J s H vs Q E hr h=>?_)]
 ·let⟨a,X,rows,p,x,w,rfl,N,M,hx,hp,o,G,pE,k⟩:=h
  erw[_,{b8 ajz rfl (oE (pv 2)) (dc 3 i5.nd)
   {bL (bP (bf tj (pv 3) aw (bp _))
    {bE 1 i5.nd ((0|||(aO hJ (pv 3) aw))|||1)}
    {bE 1 i5.nd (cO ajj PySem.F.slot_list_index PySem.F.type_list_index zQ (0|||(aO hJ (da cL (pv 3)) aw)) #[1])})},bu (pv 1)}]
  rwa[jd ?_];intro Y;let⟨rs,m,g⟩:=id N;erw[12,X,2,⟨_,bG.of o⟩];rwa[dC (xs:=ao w) (λn u B=>∃v:Zc,u=#v[↑a,.int (((w.take n).foldl (sf rows) x:Nat):Int),↑X,v]/\B=H/\(w.take n).foldl (sf rows) x<p) ⟨none,22,hx⟩ (λn u B _ ζ=>by let⟨_,_,e,_⟩:=ζ;rwa[[e]▸bG.of o]) ?_ ?_]
  ·rintro n y u B hn ⟨v,rfl,rfl,b⟩;let⟨z,rfl,S⟩:=cf hn;let hs:=G z (ai5 S)
   let d:(w.take (n+ 1)).foldl (sf rows) x=sf rows ((w.take n).foldl (sf rows) x) z:=by rw[akf,S,aj8];rfl
   rw[d];change (w.take n).foldl (sf rows) x=pt at b ⊢;let U:z.natAbs - 1<⇑rows:=∅
   let l:rows[z.natAbs - 1]?=some rows[z.natAbs - 1]:=ai1 U
   let L:z.natAbs - 1<⇑rs:=by rw[g.1];rwa[U]
   let t:rs[z.natAbs - 1]?=some rs[z.natAbs - 1]:=ai1 L
   change rows[z.natAbs - 1]=row at l;change rs[z.natAbs - 1]=f at t;let c:=g.2 _ _ _ t l;let C:=M row (ai5 l);rwa[⟨15,λ_ _ h=>h⟩];erw[12112212];rwa[cP (λh=>?_) (λh=>?_)]
   ·let I:(0:Int)<z:=ajX h;let⟨j,D,r⟩:=C.at b
    let O:jI (rs.map V.ref) (z - 1)\↑f:=by rw[show z - 1=((z.natAbs - 1:Nat):Int) by ext];rwa[cM t]
    erw[12121122,a,11,↑f,22,aB.of m,O,12,f,11122,aB.of c,ck (bT D)];rw[CP I l D];rwa[122,r]
   ·let I:¬(0:Int)<z:=λq=>h (ajI q)
    let⟨j,D,r⟩:=C.UX b
    let O:jI (rs.map V.ref) (-z - 1)\↑f:=by rw[show -z - 1=((z.natAbs - 1:Nat):Int) by ext];rwa[cM t]
    rwa[⟨1212121122,a,11,↑f,22,aB.of m,O,.inl ⟨21,aB.of c⟩,12,f,row,(pt:Int),22,c,ai5 D,λi R _=>?_⟩];rw[CQ I l C.nd R]
    let F:i<p:=by have:=(ai4.mp R).1;rw[C.len]at this;rwa[this]
    rwa[122,F]
  ·rintro u B ⟨v,rfl,rfl,b⟩;rw[az,akd];rwa[12,k]
def G9 {rows:Za3}{x:Nat}(d:∀r∈rows,M11.Pm n r)(e:x<n)(i:z≠0)(f:z.natAbs<=⇑rows):sf rows x z<n/\sf rows (sf rows x z) (-z)=x:=by
 let g:rows[z.natAbs - 1]?\(rows[z.natAbs - 1]'∅):=ai1 ∅
 change rows[z.natAbs - 1]'∅=r at g;let c:=d r (ai5 g);cases h:0<z
 ·let⟨j,a,b⟩:=c.at e;rw[CP h g a];rwa[b,CQ ∅ ([Int.natAbs_neg]▸g) c.nd a]
 ·let⟨j,a,b⟩:=c.UX e;rw[CQ h g c.nd a];rwa[b,CP ∅ ([Int.natAbs_neg]▸g) a]
def eS {w:Zg}(h:M11.aV n (z::w)):(z≠0/\z.natAbs<=n)/\M11.aV n w:=⟨h z (aji ..),λx a=>h x (ajw _ a)⟩
theorem Hc {rows:Za3}{p:Nat}(a:∀r∈rows,M11.Pm p r):∀{w:Zg}{x:Nat},M11.aV ⇑rows w->x<p->w.foldl (sf rows) x<p
 |[],x,_,c=>c
 |s::w,x,e,c=>by let⟨d,b⟩:=eS e;rwa[Hc a (w:=w) b (G9 a c d.1 d.2).1]
theorem CT {rows:Za3}{p:Nat}(a:∀r∈rows,M11.Pm p r):∀{w:Zg}{x y:Nat},M11.aV ⇑rows w->x<p->y<p->w.foldl (sf rows) x=w.foldl (sf rows) y->x=y
 |[],x,y,_,_,_,e=>e
 |s::w,x,y,d,g,f,e=>by let⟨b,c⟩:=eS d;let a1:=G9 a g b.1 b.2;let a2:=G9 a f b.1 b.2;have:=CT a (w:=w) c a1.1 a2.1 e;rw[<-a1.2,<-a2.2,this]
def Wk:M11.Pm n (fy 0 n):=by
 rwa[⟨oH 0 n,5,λz d=>?_⟩]
 ·unfold fy;rwa[List.Pairwise.map _ (λa b (c:a≠b) (z:(0:Int)+ (a:Int)=0+ (b:Int))=>c ∅) alD]
 ·unfold fy at d;let⟨i,e,rfl⟩:=ajN.mp d;have:=ajJ.mp e;ext
def Wm {f:Nat->Nat}{xs:Zh}(h:∀x∈xs,x<n)(a:∀x,x<n->M17.it f 60 x=x):xs.map (M17.it f 60)=xs.map (M17.it f 0):=aj5 λx b=>a x (h x b)
def gE (xs:Zh):Zg:=xs.map λx:Nat=>(x:Int)
def RH (xs:Zh):⇑(gE xs)=⇑xs:=by unfold gE;cbv
theorem Ff:∀{a ys:Zh},gE a=gE ys->a=ys
 |[],[],_=>rfl
 |[],_::_,h=>by ext h
 |_::_,[],h=>by ext h
 |x::a,y::ys,h=>by
  let b:(x:Int)::gE a=(y:Int)::gE ys:=h;injection b with d c
  rw[show x=y by ext,Ff c]
def Wn (h:(gE B)[i]?\z):∃x,B[i]?\x/\z=(x:Int):=by
 unfold gE at h
 cbv
def Aq (f:Nat->Nat):V->V
 |.int z=>.int ((f z.toNat:Nat):Int)
 |v=>v
def zH (f:Nat->Nat)(xs:Zh):(ao (gE xs)).map (Aq f)=ao (gE (xs.map f)):=by
 unfold ao gE;rw[ajM,ajM,ajM,ajM];rwa[aj5 λx _=>?_]
 show V.int ((f ((x:Int)).toNat:Nat):Int)=V.int ((f x:Nat):Int);rw[ajG]
def zI {rows:Za3}(h:cR H F rows)(b:H a\.lst (ao l)):cR H (F++[a]) (rows++[l]):=h.snoc b
inductive Fg (vs:Zb)(H:Hp)(Q:VK)(E_:XK):Prop
 |mk (z:Int)(m:Nat)(b:Bool):vs=[.int z,.int m,.bl b]->1<=m->m<=100->0<=z->(∀l r H',aq H H'->H' l\.lst (ao r)->M11.Pm m r->Q ↑l H')->Fg vs H Q E_
def CV (d:n<m)(f:i<m)(h:(z+ (n:Int)) % (m:Int)=(z+ (i:Int)) % (m:Int)):n=i:=by
 let e:=Int.emod_emod_of_dvd (z+ (n:Int)) (Int.dvd_refl (m:Int));let b:(m:Int)∣(z+ (n:Int)) - (z+ (i:Int)):=Int.dvd_of_emod_eq_zero (by rw[Int.sub_emod,h,Int.sub_self];rfl);let⟨q,c⟩:=b
 let a:q=0:=by
  rwa[akl λg=>?_]
  have:(m:Int)<=((m:Int)* q).natAbs:=by
   rw[Int.natAbs_mul];have:1<=q.natAbs:=∅
   have:=Nat.mul_le_mul_left m this;rw[Nat.mul_one]at this;show (m:Int)<=((m* q.natAbs:Nat):Int);ext
  ext
 rw[a,Int.mul_zero]at c;ext
def P0 {g:Nat->Int}(b:∀i,i<m->0<=g i/\g i<(m:Int))(d:∀i j,i<m->j<m->g i=g j->i=j):M11.Pm m ((~~~m).map g):=by
 rwa[⟨by cbv,5,λz c=>?_⟩]
 ·rwa[akG.mpr (alw ?_ alD)]
  cbv
 ·let⟨i,a,rfl⟩:=ajN.mp c;rwa[b i (ajJ.mp a)]
def RJ (h:l.Perm (fy 0 m)):M11.Pm m l:=by let a:M11.Pm m (fy 0 m):=Wk;rwa[by rw[h.length_eq,a.len],h.nodup_iff.mpr a.nd,λz b=>a.rg z (h.mem_iff.mp b)]
theorem erase_cons:∀{s:Zg}{k:Nat}{x:Int},s[k]?\x->(x::s.eraseIdx k).Perm s
 |[],k,x,h=>by simp at h
 |a::s,0,x,h=>by cbv
 |a::s,k+ 1,x,h=>(List.Perm.swap a x (s.eraseIdx k)).trans ((erase_cons (s:=s) h).cons a)
def Hd {t:Zg}{k:Nat}{x:Int}(h:l[k]?\x):((t++[x])++l.eraseIdx k).Perm (t++l):=by rw[ajK];rwa[List.Perm.append_left t (erase_cons h)]
def YH {k:Nat}(h:k<n):seqIndex? (k:Int) n\k:=(xP (kh h)).1
theorem xC:∀(ns:Zg)(k:Nat),(ao ns).eraseIdx k=ao (ns.eraseIdx k)
 |[],_=>rfl
 |a::ns,0=>rfl
 |a::ns,k+ 1=>by show V.int a::(ao ns).eraseIdx k=V.int a::ao (ns.eraseIdx k);rw[xC ns k]
def xD:T.mF.Ok P w base 1 Fg:=by
 rwa[T.mF.on fG (λcw AA outer s H vs Q E hr h=>?_)]
 ·let⟨z,m,b,rfl,hm1,O9,hz,k⟩:=h;let hu:=alW (fA hr)
  erw[_,{bE 3 fG.nd (aO cK (aO ew (pv 0) aw) (pv 1)),bL (bP (PW.pt (vE (kA (pv 2)) (tf (bf fU (aO cK (pv 0) aw) aw (bp _)))))
    {bu (fN (fns:=["_law_many","_law_by"]) (ixs:=[1,3]) (cl:=_) rfl (jj rfl T.eT #[1]) (cu [(_,_),(_,_)] rfl ⟨2222222222,True.intro⟩ rfl) (λC s H ex=>(aO cK (aO hJ (pv 2) (pv 0)) (pv 1))))}
    bC),bP (kA (pv 2))
    {bu (fN (fns:=["_law_many","_law_by"]) (ixs:=[1,3]) (cl:=_) rfl (jj rfl T.eT #[1]) (cu [(_,_),(_,_)] rfl ⟨2222222222,True.intro⟩ rfl) (λC s H ex=>(aO cK (aO du (pv 2) (pv 0)) (pv 1))))}
    bC,bE 4 fG.nd (qH rfl rfl T.jS rfl T.eT #[1]),bE 5 fG.nd (b9 ai),bL (fJ ajz (bf (Ep hu) (pv 4) (b9 ai) (bp _))
    {aS (cO ajj ajq ajr bJ (pv 5) #[cO ajj alP alQ K9 (pv 4) #[aO cK (pv 0) (4<<<0)]]),bE 0 fG.nd (aO ew (pv 0) (aO du (4<<<0) aw))}),bu (pv 5)}]
  rwa[qd ?_];intro Cm pD mQ iI eD fq;let b1:=akS (z / 2) (show (m:Int)≠0 by omega);let b2:=akJ (z / 2) (show (0:Int)<(m:Int) by omega);erw[121122,⟨44⟩,1211223];obtain⟨y,hy⟩:∃y,z / 2 % (m:Int)=y:=⟨12⟩;rw[hy]at b1 b2;simp only[hy]
  let' X:St->Hp->Prop:=λ p q=>p=#v[.int z,.int m,.bl b,.int y,none,none]/\q=H
  erw[X,5]
  ·rwa[bH ?_];intro jX;erw[1212];rwa[cP (λ_=>?_) (λ_=>dI ⟨22⟩)];erw[121122,(by show (0:Int)<2;decide),212];rwa[cP (λ_=>?_) (λ_=>⟨22⟩)];erw[12,(m:Int),233];rw[ajG];rwa[xB (λi=>(y - (i:Int)) % (m:Int)) ∅ (λi I R hR=>?_) (λD hD=>?_)]
   ·rwa[12121122121122,(by show (0:Int)<(m:Int);omega),hR]
   ·rwa[k D _ _ (aq.upd hD) aj (P0 (λi I=>⟨akS _ ∅,akJ _ ∅⟩) λi j I hj e=>?_)]
    let e2:((y - (m:Int)+ 1)+ (((m - 1 - i:Nat)):Int)) % (m:Int)=((y - (m:Int)+ 1)+ (((m - 1 - j:Nat)):Int)) % (m:Int):=by rw[show (y - (m:Int)+ 1)+ (((m - 1 - i:Nat)):Int)=y - (i:Int) by ext,show (y - (m:Int)+ 1)+ (((m - 1 - j:Nat)):Int)=y - (j:Int) by ext];rwa[e]
    have:=CV ∅ ∅ e2;ext
  rintro p q ⟨rfl,rfl⟩;erw[1212];rwa[cP (λ_=>?_) (λ_=>?_)]
  ·erw[12,(m:Int),233];rw[ajG];rwa[xB (λi=>(y+ (i:Int)) % (m:Int)) ∅ (λi I R hR=>?_) (λD hD=>?_)]
   ·rwa[121211221211223,hR]
   ·rwa[k D _ _ (aq.upd hD) aj (P0 (λi I=>⟨akS _ ∅,akJ _ ∅⟩) λi j I hj e=>CV I hj e)]
  rwa[⟨12,m,23,λd hls=>?_⟩];let s1:aq q (upd q d (.lst (ao (fy 0 m)))):=aq.upd hls;let h1:upd q d (.lst (ao (fy 0 m))) d\(.lst (ao (fy 0 m))):=aj;change upd q d _=H1 at s1 h1 ⊢;rwa[⟨ajB _,λlt t=>?_⟩];let s2:aq H1 (upd H1 lt (.lst [])):=aq.upd t;let h2:upd H1 lt (.lst []) lt\(.lst (ao [])):=aj;let M:d≠lt:=λe=>by rw[<-e,h1]at t;ext t
  let P1:q lt=none:=s1.free t;change upd H1 lt _=H2 at s2 h2 ⊢
  let' N:St->Hp->Prop:=λ p l=>∃(g:Zg)(v0:Zc),p=#v[v0,.int m,.bl b,.int y,↑d,↑lt]/\aq q l/\l lt\.lst (ao g)/\g.Perm (fy 0 m)
  erw[N,5]
  ·rwa[bH ?_];intro jX;erw[λn σ l=>∃(g a:Zg)(x:Int),n=⇑a/\σ=#v[.int x,.int m,.bl b,.int y,↑d,↑lt]/\aq q l/\l lt\.lst (ao g)/\l d\.lst (ao a)/\(g++a).Perm (fy 0 m),⟨_,[],fy 0 m,z,22,s1.trans s2,h2,s2^h1,List.Perm.refl _⟩];intro n σ l v;rwa[aT ?_];intro U;let⟨g,a,x,rfl,rfl,s3,B,Wo,J⟩:=v;dsimp only[U];clear U;let hlen:=J.length_eq;rw[ai3,oH]at hlen;rwa[⟨12,ajB _,λL he0=>?_⟩];let s4:aq l (upd l L (.lst [])):=aq.upd he0;let h4:upd l L (.lst []) L\(.lst (ao [])):=aj;change upd l L _=H4 at s4 h4 ⊢;let G:=s4^B;let u:=s4^Wo;erw[d,L,a,[],22,u,h4,12];cases r:a=[]
   ·rwa[pU r ?_];rw[r,ajm]at J;rwa[g,12,s3.trans s4,G,J]
   ·let Z:0<⇑a:=List.length_pos_iff.mpr r;rwa[cP (λ_=>?_) (λh=>?_)]
    ·erw[_,λ p q h=>h];let⟨f,TY,F⟩:=pX x (n:=⇑a) Z;let hx:a[f]?=some a[f]:=ai1 F
     change a[f]=c at hx;let ekk:x % (⇑(ao a):Int)=(f:Int):=by rw[az];rwa[TY]
     erw[12,.inl ⟨21,aB.of G⟩,12,.inl ⟨21,aB.of u⟩,1212,d,12,.inl (aB.of u),1122,(by show (0:Int)<(⇑(ao a):Int);rw[az];omega)];simp only[ekk];erw[d,_,(f:Int),f,.int c,22,u,33,YH ([az]▸F),bT hx];rw[xC];let O:upd H4 d (.lst (ao (a.eraseIdx f))) lt\(.lst (ao g)):=by rw[ak (akg M)];rwa[G]
     let Y:upd H4 d (.lst (ao (a.eraseIdx f))) d\(.lst (ao (a.eraseIdx f))):=aj;let nls:q d=none:=hls;let s5:aq q (upd H4 d (.lst (ao (a.eraseIdx f)))):=λb o e=>by rw[ak (av e nls)];rwa[s4^s3^e]
     change upd H4 d _=H5 at O Y s5 ⊢;erw[lt,1122,O,5]
     ·rw[az];rwa[aje (show ⇑g<=100 by omega) ⋯]
     let hel:⇑(a.eraseIdx f)=⇑a - 1:=List.length_eraseIdx_of_lt F;let S:upd H5 lt (.lst (ao g++[.int c])) d\(.lst (ao (a.eraseIdx f))):=by rw[ak M];rwa[Y]
     erw[1212,d,12,.inl (aB.of S),11221122,⟨by show (0:Int)<(⇑(ao (a.eraseIdx f)):Int)+ 1;ext,by show (⇑(ao (a.eraseIdx f)):Int)+ 1<1073741824;rw[az];ext⟩];rwa[⟨⇑(a.eraseIdx f),3,g++[c],a.eraseIdx f,122,λb o e=>?_,by rw[aj,ints_app];rfl,S,(Hd hx).trans J⟩];rw[ak (av e P1)];rwa[s5^e]
    ·rwa[absurd (by rw[ajV r];rfl) h]
  intro p l v;rwa[aT ?_];intro U;let⟨g,v0,rfl,s3,B,J⟩:=v;dsimp only[U];clear U;rwa[12,k lt g l s3 B (RJ J)]
def Kg {lt:Zs}{rs:Zn}(h:H a\.lst (ao l))(c:l≠[])(b:H lt\.lst (rs.map V.ref)):a≠lt:=λe=>by
 rw[e,b]at h;injection h with h
 injection h with h
 cases l with
 |nil=>exact c rfl
 |cons z l=>
  cases rs with
  |nil=>ext h
  |cons q rs=>ext h
def RK (p:Nat):fy 0 p=gE (~~~p):=by
 unfold fy gE
 cbv
inductive CW (vs:Zb)(H:Hp)(Q:VK)(E_:XK):Prop
 |mk (ta pa wa:Zs)(rows:Za3)(p:Nat)(xs:Zh)(w:Zg):vs=[↑ta,↑pa,↑wa]->TabAt H ta rows->(∀r∈rows,M11.Pm p r)->p<=6->H pa\.lst (ao (gE xs))->(∀x∈xs,x<p)->⇑xs<=6->H wa\.tup (ao w)->M11.aV ⇑rows w->⇑rows<=40->(∀(n:Nat) H',1<=n->n<=60->(∀x∈xs,M17.it (λx=>w.foldl (sf rows) x) n x=x)->(∀c,1<=c->c<n->¬ ∀x∈xs,M17.it (λx=>w.foldl (sf rows) x) c x=x)->aq H H'->Q (.int (n:Int)) H')->CW vs H Q E_
def pL:T.ky.Ok P w base 2 CW:=by
 rwa[T.ky.on gq (λcw AA outer s H vs Q E hr h=>?_)]
 ·let⟨Y,M,Z,rows,p,xs,w,rfl,qX,v,zJ,S,N,P8,sN,B,pE,k⟩:=h;let hu:=alW (fA hr)
  erw[_,{bE 3 gq.nd aw,gQ (iy:=4) gq.nd rfl (Or.inl rfl) (fns:=["_law_word","_law_turns"]) (ixs:=[2,0]) (cl:=_) rfl (cN (pv 1)) (cu [(_,_),(_,_)] rfl ⟨2222222222,True.intro⟩ rfl) (λC s H ex=>(pc T.lF (qW T) hr #[2,0,1])),bL (fJ ajz (bf (Ep hu) (pv 4) (pv 1) (bp _))
    {gQ (iy:=4) gq.nd rfl (Or.inl rfl) (fns:=["_law_word","_law_turns"]) (ixs:=[2,0]) (cl:=_) rfl (cN (pv 4)) (cu [(_,_),(_,_)] rfl ⟨2222222222,True.intro⟩ rfl) (λC s H ex=>(pc T.lF (qW T) hr #[2,0,1])),bE 3 gq.nd (aO du (pv 3) aw)}),bu (pv 3)}]
  rwa[hV ?_];intro iI eD fq;obtain⟨f,hf⟩:∃f:Nat->Nat,f=λx=>w.foldl (sf rows) x:=⟨12⟩
  rw[<-hf]at k;let u:∀x,w.foldl (sf rows) x=f x:=λx=>by rw[hf]
  let U:∀x,x<p->f x<p:=λx a=>by rw[<-u];rwa[Hc v B a]
  let E9:∀x y,x<p->y<p->f x=f y->x=y:=λx y a L e=>by rw[<-u,<-u]at e;rwa[CT v B a L e]
  let h60:=Wm N (M17.Yr zJ U E9);let hit:=λ(n x:Nat)(a:x<p)=>M17.tO U n x a
  let e0:xs.map (M17.it f 0)=xs:=(aj5 λx _=>rfl).trans (List.map_id xs);let step:∀c,(xs.map (M17.it f c)).map f=xs.map (M17.it f (c+ 1)):=λc=>by rw[ajM];rwa[aj5 λx _=>rfl]
  let lt:∀c,∀x∈xs.map (M17.it f c),x<p:=λc x a=>by let⟨y,L,rfl⟩:=ajN.mp a;rwa[hit c y (N y L)]
  let body:∀{j:Hp}{R:VK}{i c:Nat}{x:V},aq H j->(ao (gE (xs.map (M17.it f c))))[i]?\x->R (Aq f x) j->yE [↑Y,x,↑Z] j R E0:=λ{j R i c x} s2 a X=>by let⟨z,rfl,hz⟩:=cf a;let⟨y,L,rfl⟩:=Wn hz;let hyp:=lt c y (ai5 L);erw[Y,Z,rows,p,y,w,2,qX.same s2,v,hyp,3,s2^sN,B,3];let o:R (V.int ((f ((y:Nat):Int).toNat:Nat):Int)) j:=X;rw[ajG]at o;rw[u];rwa[o]
  let ln:∀c,⇑(ao (gE (xs.map (M17.it f c))))<=sizeLine:=λc=>by rw[az,RH,ai6];rwa[ajl P8 ⋯]
  let g:H M\(.lst (ao (gE (xs.map (M17.it f 0))))):=by rw[e0];rwa[S]
  erw[12,M,2,⟨_,aB.of g⟩];rwa[gy (ao (gE (xs.map (M17.it f 0)))) (Aq f) (jJ (aB.of g)) (il (aB.of g)) (gF (aB.of g)) (ln 0) (λi x a R X=>⟨121212,body (aq.refl H) a X⟩) (λb hsl=>?_)];rw[zH,step];let s1:aq H (upd H b (.lst (ao (gE (xs.map (M17.it f 1)))))):=aq.upd hsl;let o:upd H b (.lst (ao (gE (xs.map (M17.it f 1))))) b\(.lst (ao (gE (xs.map (M17.it f 1))))):=aj;change upd H b _=H1 at s1 o ⊢
  let' J:St->Hp->Prop:=λ O j=>∃(b:Zs)(c:Nat),O=#v[↑Y,↑M,↑Z,.int (c:Int),↑b]/\aq H j/\1<=c/\c<=60/\xs.map (M17.it f c)=xs/\(∀d,1<=d->d<c->xs.map (M17.it f d)≠xs)
  erw[J,5]
  ·rwa[bH ?_];intro jX;erw[λm σ j=>∃(b:Zs)(c:Nat),m=60 - c/\σ=#v[↑Y,↑M,↑Z,.int (c:Int),↑b]/\aq H j/\j b\.lst (ao (gE (xs.map (M17.it f c))))/\1<=c/\c<=60/\(∀d,1<=d->d<c->xs.map (M17.it f d)≠xs),⟨_,b,(1),22,s1,o,aja _,3,λd o t=>∅⟩];intro m σ j F;rwa[aT ?_];intro I;let⟨b,c,rfl,rfl,s2,t,G,D,r⟩:=F;dsimp only[I];clear I;erw[1212,b,M,1122,t,s2^S,12];cases e:gE (xs.map (M17.it f c))=gE xs
   ·rwa[pU e ⟨b,c,2,s2,G,D,Ff e,r⟩]
   ·rwa[cP (λ_=>?_) (λh=>absurd (by rw[ajV e];rfl) h)]
    let hc3:c<60:=by
     rcases amc c 60 with q|q
     ·rwa[q]
     ·rwa[absurd (by rw[show c=60 by ext,h60,e0]) e]
    rwa[⟨_,λ_ _ h=>h,?_⟩];erw[12,b,2,⟨_,aB.of t⟩];rwa[gy (ao (gE (xs.map (M17.it f c)))) (Aq f) (jJ (aB.of t)) (il (aB.of t)) (gF (aB.of t)) (ln c) (λi x a R X=>⟨121212,body s2 a X⟩) (λs3 Wo=>?_)];rw[zH,step];rwa[⟨121122,60 - (c+ 1),3,s3,c+ 1,25,s2.trans (aq.upd Wo),aj,33,λd o t=>?_⟩]
    ·rw[show ((c+ 1:Nat):Int)=(c:Int)+ 1 by ext];rfl
    ·cases q:d=c
     ·rw[q];rwa[λz=>e (by rw[z])]
     ·rwa[r d o ∅]
  intro O j F;rwa[aT ?_];intro I;let⟨b,c,rfl,s2,G,D,hxc,r⟩:=F;dsimp only[I];clear I;rwa[⟨12,k c j G D (λx a=>?_) (λd o t z=>r d o t ((aj5 λx a=>z x a).trans (List.map_id xs))) s2⟩];let⟨i,hi,rfl⟩:=akV.mp a;let h9:=ajY (λl=>l[i]?) hxc;simp only[ajc,ai1 hi]at h9;rwa[Za0 h9]
def Kh {Q:VK}(lo:Int)(y:n<=1000)(t:∀(i:Nat) (c:Hp) (R:VK),i<n->(∀q,c q=none->R ↑q (upd c q (.tup (ao [lo+ (i:Int)]))))->r (some (.int (lo+ (i:Int)))::D) c R)(k:∀b c d,aq H c->c b=none->bR c d ((~~~n).map λi:Nat=>[lo+ (i:Int)])->Q ↑b (upd c b (.lst (d.map V.ref)))):kI r D Q (yM lo n) H:=by
 erw[λi m ys c=>m=n - i/\i<=n/\∃d:Zn,ys=d.map V.ref/\aq H c/\bR c d ((~~~i).map λi:Nat=>[lo+ (i:Int)]),⟨n,by simp,ajB _,[],2,λ_ _ e=>e,⟨2,λi a u p=>by simp at p⟩⟩];rintro i m ys c ⟨rfl,v,d,rfl,s2,g⟩;let h:⇑d=i:=by have:=g.1;rw[ai6,ajP]at this;rwa[this]
 cases f:i<n
 ·rwa[.inr ⟨f,[ai6,h]▸aje (show i<=1000 by omega) ⋯,λx o s=>?_⟩];let⟨rfl,rfl⟩:=s;rwa[t i o _ f λq j=>?_]
  erw[n - (i+ 1),32,f,d++[q],by cbv,s2.trans (aq.upd j)];rw[aj3,ajt];rwa[(g.same (aq.upd j)).snoc aj]
 ·let e:i=n:=∅
  subst e;rwa[.inl ⟨aja _,[ai6,h]▸ajl (show i<=1000 by omega) ⋯,λb l=>k b c d s2 l g⟩]
def vy {f:Zn}{d e:Za3}(h:bR H F d)(c:bR H f e):bR H (F++f) (d++e):=by
 rwa[⟨by rw[ai3,ai3,h.1,c.1],λi p w b a=>?_⟩];cases g:i<⇑F
 ·rw[ajd g]at b;rw[ajd (by rw[<-h.1];rwa[g])]at a;rwa[h.2 i p w b a]
 ·rw[ajg ∅]at b;rw[ajg (by rw[<-h.1];omega),<-h.1]at a;rwa[c.2 _ p w b a]
def CY (w:Zg)(n:Nat):(List.replicate n (ao w)).flatten=ao ((List.replicate n w).flatten):=by
 induction n with
 |zero=>rfl
 |succ n a=>rw[akN,alm,a,akN,alm,ints_app]
def CZ {w:Zg}(h:z∈(List.replicate n w).flatten):z∈w:=by
 let⟨u,a,b⟩:=List.mem_flatten.mp h
 cbv
def zK (w:Zg)(n:Nat):(List.replicate n w).flatten.length=⇑w* n:=by
 induction n with
 |zero=>rfl
 |succ n a=>cbv
theorem C0 {a:Type}(g:Nat->a->Nat)(w:List a):∀(n x:Nat),((List.replicate n w).flatten).foldl g x=M17.it (λx=>w.foldl g x) n x
 |0,x=>rfl
 |n+ 1,x=>by let e:=M17.wg (λx=>w.foldl g x) 1 n x;rw[show n+ 1=1+ n by ext,e,show 1+ n=n+ 1 by ext,akN,alm,aj8,C0 g w n];rfl
def Fh (rows:Za3)(p:Nat)(u:Zg):Prop:=M11.aV ⇑rows u/\⇑u<=24/\∀x,x<p->u.foldl (sf rows) x=x
inductive Fi (vs:Zb)(H:Hp)(Q:VK)(E_:XK):Prop
 |mk (ta:Zs)(rows:Za3)(p:Nat)(z:Int):vs=[↑ta,.int ⇑rows,.int z,.int 24]->TabAt H ta rows->1<=⇑rows->⇑rows<=3->(∀r∈rows,M11.Pm p r)->p<=6->(∀l R H',aq H H'->bN H' l R->(∀u∈R,Fh rows p u)->⇑R<=15->H l=none->Q ↑l H')->Fi vs H Q E_
def Ak:T.qv.Ok P w base 3 Fi:=by
 rwa[T.qv.on cX (λcw AA outer s H vs Q E hr h=>?_)]
 ·let⟨ta,rows,p,z0,rfl,qX,jW,Wq,P9,zJ,k⟩:=h
  refine⟨_,{gQ (iy:=4) cX.nd rfl (Or.inl rfl) (fns:=[]) (ixs:=[]) (cl:=[]) rfl (kB rfl T.eT #[aw,aO du (pv 1) aw]) (cu [] rfl True.intro rfl) (λC s H ex=>(cC #[0])),b8 ajz rfl (kB rfl T.eT #[aw,aO du (pv 1) aw]) (dc 5 cX.nd)
    {b8 ajz rfl (kB rfl T.eT #[aw,5]) (dc 6 cX.nd)
     {bE 4 cX.nd (aO AY (pv 4) (b9 #[cC #[6,5],cC #[6,da cL (pv 5)],cC #[6,5,da cL (pv 6),da cL (pv 5)]]))}},bE 7 cX.nd (b9 ai),b8 ajz rfl (cN (pv 4)) (dc 8 cX.nd)
    {bE 9 cX.nd (pc T.ky (pL T) hr #[0,qH rfl rfl T.jS rfl T.eT #[(0|||aw)<<<0],8]),bL (bP (PW.pt (vE (bf tj (aO cK (pv 2) aw) aw (bp _)) (tf (bf Xz (aO jG (8<<<0) (pv 9)) (pv 3) (bp _)))))
     {aS (cO ajj ajq ajr bJ (pv 7) #[aO Ei (pv 8) (pv 9)]),bE 3 cX.nd (aO hJ (pv 3) (aO jG (8<<<0) (pv 9)))}
     bC),bE 2 cX.nd (aO ew (pv 2) aw)},bu (pv 7)},?_⟩
  rwa[p9 ?_];intro mQ iI eD fq;let⟨Wr,acI,m⟩:=id qX;let O:0<⇑rows:=∅
  let c0:rows[0]?=some rows[0]:=ai1 O
  let U:=P9 _ (ai5 c0);change rows[0]=M7 at c0 U;let d0:Wr[0]?\(Wr[0]'(by rw[m.1];omega)):=ai1 (by rw[m.1];omega)
  change Wr[0]'([m.1]▸O)=Wt at d0;let acJ:=m.2 0 Wt M7 d0 c0;erw[121122,(1),(⇑rows:Int)+ 1,2,⟨3333⟩];rwa[Kh 1 (n:=((⇑rows:Int)+ 1 - 1).toNat) ∅ (λi H2 R hi hR=>⟨12,Za4 1,λq hq=>hR q hq⟩) (λd H1 a s1 hlw vY=>?_)];let Wu:aq H1 (upd H1 d (.lst (a.map V.ref))):=aq.upd hlw;let h2:upd H1 d (.lst (a.map V.ref)) d\(.lst (a.map V.ref)):=aj;change upd H1 d _=H2 at Wu h2 ⊢;let S:=vY.same Wu
  let hW0:∀u∈(List.range ((⇑rows:Int)+ 1 - 1).toNat).map (λi:Nat=>[(1:Int)+ (i:Int)]),M11.aV ⇑rows u/\⇑u<=4:=λu j=>by let⟨i,hi,rfl⟩:=ajN.mp j;have:=ajJ.mp hi;rwa[λs l=>[ai9.mp l]▸⟨33⟩,by show 1<=4;decide]
  let hl0:⇑((List.range ((⇑rows:Int)+ 1 - 1).toNat).map (λi:Nat=>[(1:Int)+ (i:Int)]))<=3:=by rw[ai6,ajP];ext
  change (List.range ((⇑rows:Int)+ 1 - 1).toNat).map (λi:Nat=>[(1:Int)+ (i:Int)])=W0 at S hW0 hl0;let s02:=s1.trans Wu;erw[121122,(2),(⇑rows:Int)+ 1,2,⟨3333⟩]
  let' mR:Nat->St->Hp->Prop:=λi B G=>∃(d:Zs)(a:Zn)(g:Za3)(v5 L:Zc),B=#v[↑ta,.int (⇑rows:Int),.int z0,.int 24,↑d,v5,L,none,none,none]/\aq H G/\G d\.lst (a.map V.ref)/\bR G a g/\(∀u∈g,M11.aV ⇑rows u/\⇑u<=4)/\⇑g<=3+ 6* i
  rwa[jk (lo:=2) (n:=((⇑rows:Int)+ 1 - 2).toNat) mR ⟨d,a,W0,none,none,2,s02,h2,S,hW0,3⟩ ?_ ?_]
  ·intro i B G hi c;rwa[aT ?_];intro f;let⟨d,a,g,v5,L,rfl,s3,h3,t3,Wv,Qa⟩:=c;dsimp only[f];clear f;dsimp only[dJ];rwa[bH ?_];intro jX;erw[12,(1),2+ (i:Int),2,⟨3333⟩]
   let' ko:Nat->St->Hp->Prop:=λn B Y=>∃(d:Zs)(a:Zn)(g:Za3)(L:Zc),B=#v[↑ta,.int (⇑rows:Int),.int z0,.int 24,↑d,.int (2+ (i:Int)),L,none,none,none]/\aq H Y/\Y d\.lst (a.map V.ref)/\bR Y a g/\(∀u∈g,M11.aV ⇑rows u/\⇑u<=4)/\⇑g<=3+ 6* i+ 3* n
   rwa[jk (lo:=1) (n:=(2+ (i:Int) - 1).toNat) ko ⟨d,a,g,L,2,s3,h3,t3,Wv,3⟩ ?_ ?_]
   ·intro n B Y hn c;rwa[aT ?_];intro f;let⟨d,a,g,L,rfl,s4,h4,t4,Ww,Ki⟩:=c;dsimp only[f];clear f;dsimp only[dJ];rwa[bH ?_];intro jX;rwa[⟨121212,Za4 2,λq1 pG=>?_⟩];generalize e_:upd Y q1 _=v;obtain⟨s5,a5⟩:_/\_\(.tup (ao [1+ (n:Int),2+ (i:Int)])):=ej e_ pG;rwa[⟨121212,Za4 2,λq2 qV=>?_⟩];generalize e_:upd v q2 _=H6;obtain⟨s6,a6⟩:_/\_\(.tup (ao [1+ (n:Int),-(2+ (i:Int))])):=ej e_ qV;rwa[⟨121212121212,Za4 4,λq3 hq3=>?_⟩];generalize e_:upd H6 q3 _=H7;obtain⟨s7,a7⟩:_/\_\(.tup (ao [1+ (n:Int),2+ (i:Int),-(1+ (n:Int)),-(2+ (i:Int))])):=ej e_ hq3;rwa[⟨Za4 3,λql pH=>?_⟩];generalize e_:upd H7 ql _=H8;obtain⟨s8,a8⟩:_/\_\(.lst ([q1,q2,q3].map V.ref)):=ej e_ pH;let Wx:=((s5.trans s6).trans s7).trans s8
    let t8:bR H8 [q1,q2,q3] [[1+ (n:Int),2+ (i:Int)],[1+ (n:Int),-(2+ (i:Int))],[1+ (n:Int),2+ (i:Int),-(1+ (n:Int)),-(2+ (i:Int))]]:=by let b0:bR H8 [] []:=⟨2,λi p w h1=>by simp at h1⟩;rwa[((b0.snoc (s8^s7^s6^a5)).snoc (s8^s7^a6)).snoc (s8^a7)]
    let iJ:⇑a=⇑g:=t4.1;rwa[⟨d,ql,1122,Wx^h4,a8,5,λl9 PY=>?_⟩]
    ·rw[ai6,ai6];rwa[ajl (show ⇑a+ 3<=1000 by omega) ⋯]
    erw[l9,a++[q1,q2,q3],112,(s4.trans Wx).trans (aq.upd PY),by rw[aj,ajt],(vy (t4.same Wx) t8).same (aq.upd PY),λu j=>?_]
    ·rcases ajh.mp j with j|j
     ·rwa[Ww u j]
     ·let ok:∀s:Int,s=1+ (n:Int)\/s=2+ (i:Int)\/s= -(1+ (n:Int))\/s= -(2+ (i:Int))->s≠0/\s.natAbs<=⇑rows:=λs l=>by
       rcases l with rfl|rfl|rfl|rfl
       ·rwa[⟨by ext,by ext⟩]
       ·rwa[⟨by ext,by ext⟩]
       ·rwa[⟨by ext,by ext⟩]
       ·rwa[⟨by ext,by ext⟩]
      simp only[ajs,ajR,akW]at j;rcases j with rfl|rfl|rfl
      ·rwa[⟨λs l=>ok s ?_,by show 2<=4;decide⟩];simp only[ajs,ajR,akW]at l;rcases l with h|h
       ·rwa[.inl h]
       ·rwa[.inr (.inl h)]
      ·rwa[⟨λs l=>ok s ?_,by show 2<=4;decide⟩];simp only[ajs,ajR,akW]at l;rcases l with h|h
       ·rwa[.inl h]
       ·rwa[.inr (.inr (.inr h))]
      ·rwa[⟨λs l=>ok s ?_,by show 4<=4;decide⟩];simp only[ajs,ajR,akW]at l;rwa[l]
    ·rw[ai3];simp only[ajo,ajQ];ext
   ·intro B Y c;rwa[aT ?_];intro f;let⟨d,a,g,L,rfl,s4,h4,t4,Ww,Ki⟩:=c;dsimp only[f];clear f;rwa[d,a,g,112,s4,h4,t4,Ww,3]
  intro B G c;rwa[aT ?_];intro f;let⟨d,a,g,v5,L,rfl,s3,h3,t3,Wv,Qa⟩:=c;dsimp only[f];clear f;rwa[⟨ajB _,λI Z=>?_⟩];let Wz:aq G (upd G I (.lst [])):=aq.upd Z;let h4:upd G I (.lst []) I\(.lst (([]:Zn).map V.ref)):=aj;change upd G I _=Y at Wz h4 ⊢;erw[12,d,2,⟨_,aB.of (Wz^h3)⟩]
  let' acK:Nat->St->Hp->Prop:=λn B v=>∃(fs:Zn)(R:Za3)(zm D:Int)(v8 v9:Zc),B=#v[↑ta,.int (⇑rows:Int),.int zm,.int D,↑d,v5,L,↑I,v8,v9]/\aq G v/\v I\.lst (fs.map V.ref)/\bR v fs R/\(∀u∈R,Fh rows p u)/\⇑R<=n/\D<=24
  rwa[dC (xs:=a.map V.ref) acK ⟨[],[],z0,(24),none,none,2,Wz,h4,⟨2,λi p w h1=>by simp at h1⟩,(λu j=>by ext j),ajB _,3⟩ (λn B v _ ζ=>by let⟨_,_,_,_,_,_,_,s,_⟩:=ζ;rwa[aB.of (s^h3)]) ?_ ?_]
  ·intro n y B v hn c;rwa[aT ?_];intro f;let⟨fs,R,zm,D,v8,v9,rfl,s5,h5,t5,J,Fj,WB⟩:=c;dsimp only[f];clear f;dsimp only[dJ];rwa[uX ?_];intro jX w_2 w_1;rw[ajc]at hn
   let xm:n<⇑a:=by
    cases e:a[n]? with
    |none=>rw[e]at hn;ext hn
    |some r=>cbv
   let g1:a[n]?=some a[n]:=ai1 xm
   rw[g1]at hn;let ey:V.ref a[n]=y:=Za0 hn;subst ey;change a[n]=wa at g1;let iJ:⇑a=⇑g:=t3.1;let g2:g[n]?\(g[n]'∅):=ai1 ∅
   change g[n]'∅=w at g2;let sN:=t3.2 n wa w g1 g2;let⟨Pl,hw4⟩:=Wv w (ai5 g2);let WC:=s3.trans s5;let YJ:=WC^acI;rwa[⟨1212,ta,11,↑Wt,22,aB.of YJ,cM (i:=0) d0,Wt,12,.inl (aB.of (WC^acJ)),p,by rw[az,U.1],3,λlp hlp=>?_⟩];let M:aq v (upd v lp (.lst (ao (fy 0 p)))):=aq.upd hlp;let h6:upd v lp (.lst (ao (fy 0 p))) lp\(.lst (ao (fy 0 p))):=aj;change upd v lp _=H6 at M h6 ⊢;rw[RK]at h6;rwa[⟨12,ta,lp,wa,rows,p,List.range p,w,2,qX.same (WC.trans M),P9,zJ,h6,λx hx=>ajJ.mp hx,[ajP]▸zJ,M^s5^sN,Pl,3,λon H7 ho1 Wb ho3 _ zL=>?_⟩];let N:=M.trans zL;let t:=N^s5^sN;let h7:=N^h5;let t7:=t5.same N;let X:=s5.trans N
   let' M8:St->Hp->Prop:=λ eK H'=>∃(fs:Zn)(R:Za3)(D:Int),eK=#v[↑ta,.int (⇑rows:Int),.int zm,.int D,↑d,v5,L,↑I,↑wa,.int (on:Int)]/\aq G H'/\H' I\.lst (fs.map V.ref)/\bR H' fs R/\(∀u∈R,Fh rows p u)/\⇑R<=n+ 1/\D<=24
   erw[M8,5]
   ·rwa[bH ?_];intro jX;rwa[⟨121122,(by show (0:Int)<3;decide),112212,cP (λ_=>?_) (λ_=>dI ⟨fs,R,D,2,X,h7,t7,J,3,WB⟩)⟩];rwa[⟨12,wa,12,.inr (bG.of t),121122,.inr ⟨33⟩,12112212,cP (λh=>?_) (λ_=>⟨fs,R,D,2,X,h7,t7,J,3,WB⟩)⟩];let hle:(⇑(ao w):Int)* (on:Int)<=D:=ajX h;rw[az]at hle
    let hmul:⇑w* on<=24:=by have:((⇑w* on:Nat):Int)=(⇑w:Int)* (on:Int):=Int.natCast_mul ..;ext
    rwa[⟨12,.inl ⟨21,aB.of h7⟩,1212,wa,1122,t,335,λq8 H8 F h8=>?_⟩]
    ·rw[az,ajG];rwa[ajl hmul ⋯]
    rw[ajG,CY]at h8;let WD:=F^h7;let Pn:⇑fs=⇑R:=t5.1;erw[I,1122,WD,5]
    ·rw[ai6];rwa[aje (show ⇑fs<=1000 by omega) ⋯]
    let acL:upd H8 I (.lst (fs.map V.ref++[V.ref q8])) wa\(.tup (ao w)):=by rw[ak (bS (F^t) WD f!"")];rwa[F^t]
    erw[1212,wa,12,.inr (bG.of acL),121122,.inr ⟨33⟩,1122];erw[fs++[q8],R++[(List.replicate on w).flatten],12,λb o e=>[ak (av e Z)]▸F^X^e,by rw[aj,ajt];rfl,qF ((t7.same F).snoc h8) WD,λu j=>?_,by rw[ai3];simp only[ajo,ajQ];ext]
    ·rcases ajh.mp j with j|j
     ·rwa[J u j]
     ·rw[ai9.mp j];rwa[λs l=>Pl s (CZ l),by rw[zK];ext,λx hx=>[C0]▸ho3 x (ajJ.mpr hx)]
    ·rw[az];have:(0:Int)<=(⇑w:Int)* (on:Int):=Int.mul_nonneg ∅ ∅;ext
   intro eK H8 c;rwa[aT ?_];intro f;let⟨fs,R,D,rfl,s8,h8,t8,hR8,acM,acN⟩:=c;dsimp only[f];clear f;rwa[121122,⟨44⟩,fs,R,_,D,112,s8,h8,t8,hR8,acM,acN]
  ·intro B v c;rwa[aT ?_];intro f;let⟨fs,R,zm,D,v8,v9,rfl,s5,h5,t5,J,Fj,WB⟩:=c;dsimp only[f];clear f;let iJ:⇑a=⇑g:=t3.1;rw[ai6]at Fj;rwa[12,k I R v (s3.trans s5) ⟨fs,h5,t5⟩ J ∅ (same_none s3 Z)]
def Qb (rows:Za3)(x:Nat)(u:Zg):Prop:=M11.aV ⇑rows u/\⇑u<=1000/\u.foldl (sf rows) x=x
inductive Kj (K:Za1)(vs:Zb)(H:Hp)(Q:VK)(E_:XK):Prop
 |mk (a ta:Zs)(ns:Zg)(rows:Za3)(p x:Nat):vs=[↑a,↑ta,.int ⇑rows,.int x]->aB K H a (ao ns)->⇑ns<=63->TabAt H ta rows->1<=⇑rows->⇑rows<=3->(∀r∈rows,M11.Pm p r)->p<=6->x<p->(∀l P H',aq H H'->bN H' l P->(∀u∈P,Qb rows x u)->⇑P<=3->Q ↑l H')->Kj K vs H Q E_
structure lA (H H':Hp)(l:Zs)(L n m:Nat)(Ws:Za3):Prop where
 s:aq H H'
 f:H l=none
 h:bN H' l Ws
 w:∀u∈Ws,M11.aV L u/\⇑u<=m
 c:⇑Ws<=n
def lA.same {b:Za3}(h:lA H I a n m i b)(s:aq I J):lA H J a n m i b:=⟨h.s.trans s,h.f,h.h.same s,h.w,h.c⟩
def lA.le {n' m':Nat}{b:Za3}(h:lA H I a n m i b)(e:m<=n')(d:i<=m'):lA H I a n n' m' b:=⟨h.s,h.f,h.h,λu c=>⟨(h.w u c).1,ajl (h.w u c).2 d⟩,ajl h.c e⟩
def lA.add {q:Zs}{f:Za3}{u:Zg}(h:lA H I a n m i f)(j:I q\.tup (ao u))(l:M11.aV n u/\⇑u<=i):∃c:Zn,I a\.lst (c.map V.ref)/\⇑c<=m/\lA H (upd I a (.lst (c.map V.ref++[↑q]))) a n (m+ 1) i (f++[u]):=by
 let⟨c,g,d⟩:=h.h;rwa[⟨c,g,[d.1]▸h.c,λb o e=>[ak (av e h.f)]▸h.s^e,h.f,⟨c++[q],by rw[aj,ajt];rfl,qF (d.snoc j) g⟩,λv k=>?_,by rw[ai3];have:=h.c;show _+ 1<=_;ext⟩];rcases ajh.mp k with y|y
 ·rwa[h.w v y]
 ·rw[ai9.mp y];rwa[l]
def lA.ins {K:Za1}{b:Za3}(h:lA H I a n m i b):NQ K "list" ↑a I:=by let⟨d,c,_⟩:=h.h;rwa[.inl ⟨21,aB.of c⟩]
def C1:T.sx.Ok P w base 3 (Kj K):=by
 rwa[T.sx.on gu (λcw AA outer s H vs Q E M h=>?_)]
 ·let⟨a,ta,ns,rows,p,x,rfl,ha,hns,hT,jW,Wq,N,zJ,J,k⟩:=h;let S:=alW (fA M)
  erw[_,{bE 4 gu.nd (aO cK (pc T.bX (bQ T) M #[0,aw]) aw),bE 5 gu.nd (b9 ai),bL (bP (PW.pt (Nt (bf fU (pv 4) aw (bp _)) (Hq (bf fU (pv 4) aw (bp _)))))
    {aS (cO ajj ajq ajr bJ (pv 5) #[cC #[aO du aw (aO cK (aO ew (pc T.bX (bQ T) M #[0,aw]) aw) (pv 2))]])}
    bC),bL (bP (bf fU (pv 4) aw (bp _))
    {aS (cO ajj ajq ajr bJ (pv 5) #[cC #[(5|||aw)&&&aw,aO hJ (da cL aw) (aO cK (aO ew (pc T.bX (bQ T) M #[0,aw]) aw) (pv 2))]])}
    bC),bL (bP (bf fU (pv 4) aw (bp _))
    {bE 6 gu.nd (cC ai),b8 ajz rfl (cN (i9 xQ (pv 0) (ik aw) (ik aw))) (dc 7 gu.nd)
     {bE 6 gu.nd (aO lU (pv 6) (cC #[pc T.nP (sS T) M #[aO cK (aO jG (pv 7) aw) aw,2]]))},bL (bP (bf (Qu S) (pv 6) (cC ai) (bp _))
     {aS (cO ajj ajq ajr bJ (pv 5) #[6])}
     bC)}
    bC),bu (fN (fns:=["_law_turns","_law_first"]) (ixs:=[1,3]) (cl:=_) rfl (cN (pv 5)) (cu [(_,_),(_,_)] rfl ⟨2222222222,True.intro⟩ rfl) (λC s H ex=>(aO Ei (pv 0) (pc T.ky (pL T) M #[1,b9 #[2],0]))))}]
  rwa[qc ?_];intro pD mQ iI eD fq;rwa[⟨12,a,ns,(6),2,ha,4,λz=>⟨1122,(by show (0:Int)<4;decide),5⟩⟩];obtain⟨y,m⟩:∃y,z % 4=y:=⟨12⟩;rw[show V.int (z % 4)=V.int y from ajY V.int m];clear m;rwa[⟨ajB _,λl nl=>?_⟩];let w0:lA H (upd H l (.lst [])) l ⇑rows 0 1 []:=⟨aq.upd nl,nl,⟨[],aj,2,λi p w h=>by simp at h⟩,(λu S=>by ext S),aja _⟩;change upd H l _=H1 at w0 ⊢;let md:∀z:Int,0<=z % (⇑rows:Int)/\z % (⇑rows:Int)<⇑rows:=λz=>⟨akS _ ∅,akJ _ ∅⟩
  let' qE:St->Hp->Prop:=λ d r=>∃g,d=#v[↑a,↑ta,.int ⇑rows,.int x,.int y,↑l,none,none]/\lA H r l ⇑rows 1 2 g/\(y=2->∃s,g=[[s]])
  erw[qE,5]
  ·rwa[bH ?_];intro O;erw[12212];rwa[cP (λL=>eV ?_) (λL=>⟨12212,cP (λh2=>?_) (λh2=>⟨[],2,w0.le ⋯ ⋯,λe=>absurd (by rw[e];rfl) h2⟩)⟩)]
   all_goals
    rwa[⟨12,w0.ins,12,a,ns,(6),2,w0.s.seq ha,4,λz1=>⟨1122,⟨44⟩,12112231122,(Za4 1),λq hq=>?_⟩⟩];let sq:=aq.upd (o:=.tup [.int (1+ z1 / 24 % (⇑rows:Int))]) hq;have:=md (z1 / 24);let⟨f,j,g2,g3⟩:=(w0.same sq).add (q:=q) (u:=[1+ z1 / 24 % (⇑rows:Int)]) aj ⟨λs F=>[ai9.mp F]▸⟨33⟩,aja _⟩;rwa[l,1122,j,[ai6]▸aje (show ⇑f<=100 by omega) ⋯,12,g3.le ⋯ ⋯,λ_=>⟨12⟩]
  rintro d U ⟨g,rfl,Z,m⟩
  let' MV:St->Hp->Prop:=λ d r=>∃g,d=#v[↑a,↑ta,.int ⇑rows,.int x,.int y,↑l,none,none]/\lA H r l ⇑rows 2 2 g
  erw[MV,5]
  ·rwa[bH ?_];intro O;erw[12212];rwa[cP (λL=>?_) (λL=>⟨g,2,Z.le ⋯ ⋯⟩)];let TV:V.int y=V.int 2:=ajX L;let⟨s0,rfl⟩:=m (by injection TV);let⟨f,j,g2⟩:=id Z.h
   obtain⟨X,rfl⟩:∃X,f=[X]:=by
    have:=g2.1
    match f,this with
    |[X],_=>rwa[X,2]
   let g3:U X\(.tup (ao [s0])):=g2.2 0 X _ rfl rfl;let hs0:=(Z.w _ (ai9.mpr rfl)).1 s0 (ai9.mpr rfl);rwa[⟨12,Z.ins,12,l,11122,aB.of j,2,X,11122,bG.of g3,21212,a,ns,(7),2,Z.s.seq ha,4,λz1=>⟨1122,⟨44⟩,121122,(by show (0:Int)<(⇑rows:Int);omega),1122,(Za4 2),λq hq=>?_⟩⟩];let sq:=aq.upd (o:=.tup [.int s0,.int (-1 - z1 / 192 % (⇑rows:Int))]) hq;have:=md (z1 / 192)
   let⟨f,j,g2,g3⟩:=(Z.same sq).add (q:=q) (u:=[s0,-1 - z1 / 192 % (⇑rows:Int)]) aj ⟨λs F=>by
    rcases ajs.mp F with rfl|F
    ·rwa[hs0]
    ·rw[ai9.mp F];rwa[33],aja _⟩
   rwa[l,1122,j,[ai6]▸aje (show ⇑f<=100 by omega) ⋯,12,g3]
  rintro d H3 ⟨Ws3,rfl,w3⟩;clear Z m w0 g
  let' M9:St->Hp->Prop:=λ d r=>∃g v6 I,d=#v[↑a,↑ta,.int ⇑rows,.int x,.int y,↑l,v6,I]/\lA H r l ⇑rows 3 63 g
  erw[M9,5]
  ·rwa[bH ?_];intro O;erw[12212];rwa[cP (λL=>?_) (λL=>⟨Ws3,112,w3.le ⋯ ⋯⟩)];rwa[⟨ajB _,λt nt=>?_⟩];generalize e_:upd H3 t _=H4;obtain⟨st,qt⟩:_/\_\(.tup (ao [])):=ej e_ nt;rwa[⟨121212,a,12,(w3.s.trans st).seq ha,λb nb=>?_⟩]
   obtain⟨ms,em,hm⟩:∃ms:Zg,fY (ao ns) (some 8) (some 63)=ao ms/\⇑ms<=63:=by erw[(ns.drop (HT.bU ⇑(ao ns) 0 (some 8))).take (HT.bU ⇑(ao ns) ⇑(ao ns) (some 63) - HT.bU ⇑(ao ns) 0 (some 8)),by unfold fY ao;rw[amF,amG]];rw[ajD,aj4];ext
   rw[em];generalize e_:upd H4 b _=H5;let⟨sb,qb⟩:=ej e_ nb;erw[b,2,⟨_,aB.of qb⟩]
   let' acO:Nat->St->Hp->Prop:=λi σ r=>∃(t:Zs)(u:Zg)(I:Zc),σ=#v[↑a,↑ta,.int ⇑rows,.int x,.int y,↑l,↑t,I]/\aq H5 r/\r t\.tup (ao u)/\⇑u=i/\M11.aV ⇑rows u
   rwa[dC (xs:=ao ms) acO ⟨t,[],none,2,aq.refl _,sb^qt,2,(λs F=>by ext F)⟩ (λi σ r _ ζ=>by let⟨_,_,_,_,s,_⟩:=ζ;rwa[aB.of (s^qb)]) ?_ ?_]
   ·intro i v σ H6 B R;rwa[aT ?_];intro q_;let⟨t,u,I,rfl,s6,q6,hl,S⟩:=R;dsimp only[q_];clear q_;dsimp only[dJ];rwa[bH ?_];intro O;let⟨z1,rfl,hz⟩:=cf B;let PH:=(ai4.mp hz).1;rwa[⟨12121122,.inr ⟨44⟩,1122,(by show (0:Int)<2147483647;decide),121,⇑rows,2,jW,3,λs L h2=>⟨(Za4 1),λu' nu=>?_⟩⟩];rwa[⟨t,u',1122,aq.upd nu _ _ q6,aj,5,λp' H7 s7 e7=>?_⟩]
    ·rw[az];rwa[ajl (show ⇑u+ 1<=100 by omega) ⋯]
    rwa[⟨p',u++[s],12,s6.trans ((aq.upd nu).trans s7),[ints_app]▸e7,by rw[ai3,hl];rfl,λx J=>?_⟩];rcases ajh.mp J with q|q
    ·rwa[S x q]
    ·rw[ai9.mp q];rwa[L,h2]
   intro σ H6 R;rwa[aT ?_];intro q_;let⟨t,u,I,rfl,s6,q6,hl,S⟩:=R;dsimp only[q_];clear q_;rw[az]at hl;let w6:=w3.same ((st.trans sb).trans s6);rwa[⟨λ d r=>∃g v6 I,d=#v[↑a,↑ta,.int ⇑rows,.int x,.int y,↑l,v6,I]/\lA H r l ⇑rows 3 63 g,5,λ_ _ z=>z⟩];rwa[⟨12,ajB _,λe0 E6=>?_⟩];let se:=aq.upd (o:=.tup []) E6;let w7:=(w6.same se).le (n':=2) (m':=63) ⋯ ⋯;erw[t,e0,u,[],22,bG.of (se^q6),bG.of aj,12];rwa[cP (λ_=>?_) (λ_=>⟨1112,w7.le ⋯ ⋯⟩)];let⟨f,j,g2,g3⟩:=w7.add (q:=t) (u:=u) (se^q6) ⟨S,3⟩;rwa[12,w7.ins,12,l,1122,j,[ai6]▸aje (show ⇑f<=100 by omega) ⋯,1112,g3]
  rintro d H4 ⟨g,v6,I,rfl,w4⟩;let⟨f,j,g2⟩:=id w4.h;let pH:⇑f<=3:=by rw[g2.1];rwa[w4.c]
  erw[12,l,2,⟨_,aB.of j⟩];rwa[m9 ⇑f (λi=>(f.map V.ref).getD i .non) (λU v i=>∃p,v=↑p/\∃w,U p\.tup (ao w)/\Qb rows x w) (λH1 U v i s ζ=>by let⟨p,e,w,q,o⟩:=ζ;rwa[⟨p,e,w,s^q,o⟩]) (ajl pH ⋯) (λi U s2 B=>jJ (aB.of (s2^j)) i ([ai6]▸B)) (λi v U H3 s2 B y=>?_) (λU s2=>?_) (λi H5 Rr B s5 kk=>?_) (λD H5 ys s5 hD hyl M=>?_)]
  ·let⟨e1,e2⟩:=il (aB.of (s2^j)) i v H3 ([ai6]▸B) y;rwa[e1,by rw[ai8,e2];rfl]
  ·have:=gF (K:=K) (aB.of (K:=K) (s2^j));rw[ai6]at this;rwa[this]
  ·let e1:f[i]?=some f[i]:=ai1 B
   let e2:g[i]?\(g[i]'(by rw[<-g2.1];rwa[B])):=ai1 (by rw[<-g2.1];rwa[B])
   change f[i]=wa at e1;generalize g[i]'(by rw[<-g2.1];rwa[B])=u at e2;let sN:=g2.2 i wa u e1 e2;let⟨G,m5⟩:=w4.w u (ai5 e2);rw[show (f.map V.ref).getD i .non=V.ref wa by rw[ai8,ajc,e1];rfl];rwa[⟨121212,(Za4 1),λl1 n1=>?_⟩];generalize e_:upd H5 l1 _=H6;obtain⟨s1,q1⟩:_/\_\(.lst (ao (gE [x]))):=ej e_ n1;let Y:=s5.trans s1;rwa[⟨12,ta,l1,wa,rows,p,[x],u,2,(hT.same w4.s).same Y,N,zJ,q1,λy m=>[ai9.mp m]▸J,by show 1<=6;decide,Y^sN,G,3,λn H7 hn1 hn2 V8 hn4 s7=>?_⟩];let hf1:∀x,x<p->u.foldl (sf rows) x<p:=λx J=>Hc N G J
   let E9:∀x y,x<p->y<p->u.foldl (sf rows) x=u.foldl (sf rows) y->x=y:=λx y J m e=>CT N G J m e
   let⟨c,EA,Oo,hc3⟩:=M17.ring hf1 E9 J
   let hn6:n<=6:=by
    rcases amc c n with q|q
    ·rwa[absurd (λy m=>by rw[ai9.mp m];rwa[hc3]) (hn4 c EA q)]
    ·ext
   let hmul:⇑u* n<=1000:=ajl (ak1 m5 hn6) (by decide);rwa[⟨wa,1122,s7^Y^sN,335,λq8 H8 s8 h8=>?_⟩]
   ·rw[az,ajG];rwa[ajl hmul ⋯]
   rw[ajG,CY]at h8;rwa[kk _ _ ((s1.trans s7).trans s8) ⟨q8,21,h8,λs F=>G s (CZ F),by rw[zK];ext,[C0]▸V8 x (ai9.mpr rfl)⟩]
  let⟨pP,rfl,Fm⟩:=tK (P:=λ_ p=>∃w,H5 p\.tup (ao w)/\Qb rows x w) ys 0 (λi v hv=>M i v hv);let⟨ps,tP,oP⟩:=words_of λi p e=>Fm i p e
  rwa[k D ps _ ((w4.s.trans s5).trans (aq.upd hD)) ⟨pP,aj,tP.same (aq.upd hD)⟩ oP (by rw[<-tP.1];rw[ai6]at hyl;omega)]
def RL (K:Za1):Sp:=λf H Q _=>∃(a:Zs)(ns:Zg),f=[↑a]/\aB K H a (ao ns)/\⇑ns<=63/\∀(l e c d:Zs)(rows:Za3)(p x:Nat)(R P:Za3) b,aq H b->b l\.tup [.int ⇑rows,↑e,↑c,↑d,.int x]->TabAt b e rows->1<=⇑rows->⇑rows<=3->(∀r∈rows,M11.Pm p r)->p<=6->x<p->bN b c R->(∀u∈R,Fh rows p u)->⇑R<=17->bN b d P->(∀u∈P,Qb rows x u)->⇑P<=3->Q ↑l b
theorem RM:∀j:Nat,j<4->∃L:Nat,([V.int 2,V.int 1,V.int 2,V.int 3])[j]?\V.int (L:Int)/\1<=L/\L<=3
 |0,_=>⟨(2),244⟩
 |1,_=>⟨(1),244⟩
 |2,_=>⟨(2),244⟩
 |3,_=>⟨(3),244⟩
theorem vz {ws:Za3}(h:bR H F ws)(k n:Nat):bR H ((F.drop k).take n) ((ws.drop k).take n):=by
 rwa[⟨by rw[ajD,ajD,aj4,aj4,h.1],λi p w a c=>?_⟩];rw[List.getElem?_take]at a c;split at a
 ·rename_i b;rw[ajn b,List.getElem?_drop]at c;rw[List.getElem?_drop]at a;rwa[h.2 _ p w a c]
 ·ext a
theorem Kk {R:Za3}(f:H a\.lst (F.map V.ref))(c:bR H F R)(e:H b\.tup (ao []))(i:Nat)(g:i<=⇑F):bN (upd H a (.lst ((F.map V.ref).take i++[↑b]++(F.map V.ref).drop i))) a (R.take i++[[]]++R.drop i):=by
 let t1:bR H (F.take i) (R.take i):=by have:=vz c 0 i;rwa [List.drop_zero,List.drop_zero]at this
 let d:bR H (F.drop i) (R.drop i):=by
  have:=vz c i (⇑F - i)
  rwa [akx ([aj4]▸aja _),akx ([aj4,c.1]▸aja _)]at this
 rwa[⟨F.take i++[b]++F.drop i,by rw[aj,ajt,ajt,amF,amG];rfl,qF (vy (t1.snoc e) d) f⟩]
theorem Al:T.qw.Ok P w base 4 (RL K):=by
 rwa[T.qw.on cH (λcw AA outer s H vs Q E B h=>?_) (len:=by rintro _ _ _ _ ⟨a,t,rfl,_⟩;rfl)]
 ·let⟨a,t,rfl,D,hlen,k⟩:=h
  erw[_,{bE 1 cH.nd (j5 fU (aO cK (pc T.bX (bQ T) B #[0,aw]) aw) aw (bp _)),bE 2 cH.nd (aO du aw (aO cK (aO ew (pc T.bX (bQ T) B #[0,aw]) aw) aw)),bL (bP (kA (pv 1))
    {bE 2 cH.nd (aO du aw (aO cK (aO ew (pc T.bX (bQ T) B #[0,aw]) aw) aw))}
    bC),bE 3 cH.nd ((b9 (ae aw (ae aw (ae aw (ae aw ai xc) xc) xc) xc))|||(aO cK (pc T.bX (bQ T) B #[0,aw]) aw)),bE 4 cH.nd (b9 ai),b8 ajz rfl (jj rfl T.eT #[3]) (dc 5 cH.nd)
    {aS (cO ajj ajq ajr bJ (pv 4) #[pc T.mF (xD T) B #[aO cK (pc T.bX (bQ T) B #[0,aO du aw (pv 5)]) aw,2,1]])},bE 6 cH.nd (aO cK (pc T.bX (bQ T) B #[0,aw]) aw),bL (bP (kA (pv 1))
    {bE 6 cH.nd aw}
    bC),bE 7 cH.nd (aO cK (aO ew (pc T.bX (bQ T) B #[0,aw]) aw) (pv 2)),bE 8 cH.nd (pc T.qv (Ak T) B #[4,3,6,aw]),bL (bP (bf fU (aO cK (pc T.bX (bQ T) B #[0,aw]) aw) aw (bp _))
    {aS (cO ajj PySem.F.slot_list_insert PySem.F.type_list_insert x5 (pv 8) #[aO cK (aO ew (pc T.bX (bQ T) B #[0,aw]) aw) (aO du (8<<<0) aw),cC ai])}
    bC),bL (bP (PW.pt (vE (bf fU (aO cK (pc T.bX (bQ T) B #[0,aw]) aw) aw (bp _)) (tf (bf pS (aO cK (pc T.bX (bQ T) B #[0,aw]) aw) aw (bp _)))))
    {bE 8 cH.nd (aO AY (pv 8) (i9 xQ (pv 8) jl (ik aw)))}
    bC),bu (cC #[3,4,8,pc T.sx (C1 T) B #[0,4,3,7],7])}]
  rwa[zb ?_];intro acP acQ acR u_9 u_8 OJ Cm pD mQ iI eD fq;rwa[⟨12,a,t,(0),2,D,3,λz0=>?_⟩];erw[1122,(by show (0:Int)<2;decide),2];rwa[⟨12,a,t,(0),2,D,3,λz1=>?_⟩];erw[1122,⟨44⟩,1122,(by show (0:Int)<4;decide),1122];let a1:=akS (z1 / 2) (show (4:Int)≠0 by decide);let a2:=akJ (z1 / 2) (show (0:Int)<4 by decide)
  let' qE:St->Hp->Prop:=λ c p=>∃(m:Nat)(pl:Bool),c=#v[↑a,.bl pl,.int m,none,none,none,none,none,none]/\p=H/\1<=m/\m<=6
  erw[qE,5]
  ·rwa[bH ?_];intro N;erw[1212];rwa[cP (λ_=>?_) (λ_=>?_)]
   ·rwa[⟨12,a,t,(0),2,D,3,λz2=>?_⟩];erw[1122,⟨44⟩,1122,(by show (0:Int)<6;decide),1122];let c1:=akS (z2 / 2) (show (6:Int)≠0 by decide);let c2:=akJ (z2 / 2) (show (0:Int)<6 by decide);rwa[⟨(1+ z2 / 2 % 6).toNat,decide (V.int (z0 % 2)=V.int 0),5233⟩];rw[show (((1+ z2 / 2 % 6).toNat:Nat):Int)=1+ z2 / 2 % 6 by ext];rfl
   ·rwa[⟨(2+ z1 / 2 % 4).toNat,decide (V.int (z0 % 2)=V.int 0),5233⟩];rw[show (((2+ z1 / 2 % 4).toNat:Nat):Int)=2+ z1 / 2 % 4 by ext];rfl
  intro c p d;rwa[aT ?_];intro v;let⟨m,pl,rfl,rfl,hm1,Y⟩:=d;dsimp only[v];clear v;rwa[⟨Za4 4,λq hq=>?_⟩];let sq:aq p (upd p q (.lst [V.int 2,V.int 1,V.int 2,V.int 3])):=aq.upd hq;let Kl:upd p q (.lst [V.int 2,V.int 1,V.int 2,V.int 3]) q\(.lst [V.int 2,V.int 1,V.int 2,V.int 3]):=aj;change upd p q _=H1 at sq Kl ⊢;rwa[⟨12,a,t,(1),2,sq.seq D,3,λz2=>?_⟩];let⟨j,hj,hjl⟩:=pX z2 (n:=4) ⋯;let⟨L,hL,X,Z⟩:=RM j hjl;erw[1122,(by show (0:Int)<4;decide),q,11,.int (L:Int),22,aB.of Kl,(by show jI _ (z2 % 4)=_;rw[show z2 % 4=(j:Int) from hj];rwa[ck hL])];rwa[⟨ajB _,λlt m4=>?_⟩];let s2:aq H1 (upd H1 lt (.lst [])):=aq.upd m4;let h2:upd H1 lt (.lst []) lt\(.lst (([]:Zn).map V.ref)):=aj;let P1:p lt=none:=sq.free m4;change upd H1 lt _=H2 at s2 h2 ⊢;erw[12,(L:Int),233]
  let' ko:Nat->St->Hp->Prop:=λi σ S=>∃(rs:Zn)(rows:Za3)(v5:Zc),σ=#v[↑a,.bl pl,.int m,.int L,↑lt,v5,none,none,none]/\aq p S/\S lt\.lst (rs.map V.ref)/\cR S rs rows/\⇑rows=i/\(∀r∈rows,M11.Pm m r)
  rwa[jk (lo:=0) (n:=((L:Int)).toNat) ko ⟨[],[],none,2,sq.trans s2,h2,⟨2,λi r t h1=>by cbv⟩,2,by simp⟩ ?_ ?_]
  ·intro i σ S hi d;rwa[aT ?_];intro v;let⟨rs,rows,v5,rfl,s3,h3,F,G,C⟩:=d;dsimp only[v];clear v;dsimp only[dJ];rwa[bH ?_];intro N;let PH:i<L:=∅
   rwa[⟨12,.inl ⟨21,aB.of h3⟩,12121122,a,t,2+ i,5,s3.seq D,3,λz3=>?_⟩]
   ·cbv
   let c1:=akS z3 (show (720:Int)≠0 by decide);rwa[⟨1122,(by show (0:Int)<720;decide),1212,z3 % 720,m,pl,2,hm1,3,c1,λr row H4 O h4 hP=>?_⟩];let Ki:=O^h3;let N5:r≠lt:=Kg h4 (λz=>by have:=hP.len;rw[z]at this;simp at this;omega) Ki;erw[lt,1122,Ki,5]
   ·rw[ai6,F.1,G];rwa[aje (show i<=3 by omega) ⋯]
   rwa[⟨rs++[r],rows++[row],12,λb o e=>[ak (av e P1)]▸O^s3^e,by rw[aj,ajt];rfl,⟨(zI (F.same O) h4).1,λi' q' ms e1 e2=>?_⟩,by rw[ai3,G];rfl,λr' WG=>?_⟩]
   ·let hq':=(zI (F.same O) h4).2 i' q' ms e1 e2
    let hnm:ms≠[]:=λz=>by
     let hmm:ms∈rows++[row]:=ai5 e2
     let hPm:M11.Pm m ms:=by
      rcases ajh.mp hmm with y|y
      ·rwa[C ms y]
      ·rw[ai9.mp y];rwa[hP]
     have:=hPm.len;rw[z]at this;simp at this;ext
    rw[ak (Kg hq' hnm Ki)];rwa[hq']
   ·rcases ajh.mp WG with y|y
    ·rwa[C r' y]
    ·rw[ai9.mp y];rwa[hP]
  intro σ S d;rwa[aT ?_];intro v;let⟨rs,rows,v5,rfl,s3,h3,F,G,C⟩:=d;dsimp only[v];clear v;rw[ajG]at G;subst G;let hT:TabAt S lt rows:=⟨rs,h3,F⟩;rwa[⟨12,a,t,(5),2,s3.seq D,3,λz5=>⟨1122,(by show (0:Int)<531441;decide),5⟩⟩]
  let' M9:St->Hp->Prop:=λ c p=>∃mk:Int,c=#v[↑a,.bl pl,.int m,.int ⇑rows,↑lt,v5,.int mk,none,none]/\p=S
  erw[M9,5]
  ·rwa[bH ?_];intro N;erw[1212];rwa[cP (λ_=>⟨122⟩) (λ_=>⟨122⟩)]
  rintro c H3' ⟨mk,rfl,e3⟩;replace e3:=e3.symm;subst e3;rwa[⟨12,a,t,(6),2,s3.seq D,3,λz6=>?_⟩];let⟨x,hx,P8⟩:=pX (z6 / 4) (n:=m) ∅;erw[1122,⟨44⟩,121122,(by show (0:Int)<(m:Int);omega)];rw[show V.int ((z6 / 4) % (m:Int))=V.int (x:Int) from ajY V.int hx];rwa[⟨121212,lt,rows,m,mk,2,hT,X,Z,C,Y,λI R H4 O U g J V1=>?_⟩]
  let' M8:St->Hp->Prop:=λ c p=>∃R,c=#v[↑a,.bl pl,.int m,.int ⇑rows,↑lt,v5,.int mk,.int x,↑I]/\aq S p/\bN p I R/\(∀u∈R,Fh rows m u)/\⇑R<=16
  erw[M8,5]
  ·rwa[bH ?_];intro N;rwa[⟨12,a,t,(5),2,(s3.trans O).seq D,3,λz7=>⟨1122,(by show (0:Int)<4;decide),212,cP (λ_=>?_) (λ_=>⟨R,2,O,U,g,3⟩)⟩⟩];let⟨f,g1,g2⟩:=U;let pH:⇑f<=15:=by rw[g2.1];rwa[J]
   rwa[⟨12,.inl ⟨21,aB.of g1⟩,12,a,t,(6),2,(s3.trans O).seq D,3,λz8=>⟨1122,⟨44⟩,12,I,12,.inl (aB.of g1),11221122,(by show (0:Int)<(⇑(f.map V.ref):Int)+ 1;omega),ajB _,λe0 E6=>?_⟩⟩];let⟨i,hi,N8⟩:=pX (z8 / 24) (n:=⇑f+ 1) ∅;let se:=aq.upd (o:=.tup []) E6;erw[I,_,i,↑e0,25,se^g1,[ai6]▸aje (show ⇑f<=100 by omega) ⋯,by rw[ai6];ext,3]
   ·cbv
   rwa[⟨R.take i++[[]]++R.drop i,2,λb o e=>[ak (av e V1)]▸se^O^e,Kk (se^g1) (g2.same se) aj i ∅,λu M=>?_,by rw[ai3,ai3,ajD,aj4];show _+ 1+ _<=_;ext⟩];rcases ajh.mp M with M|M
   ·rcases ajh.mp M with M|M
    ·rwa[g u (alj M)]
    ·rw[ai9.mp M];rwa[(λs hs=>by ext hs),by show 0<=24;decide,λx _=>rfl]
   ·rwa[g u (List.mem_of_mem_drop M)]
  intro c H5 d;rwa[aT ?_];intro v;let⟨R,rfl,s5,U,g,J⟩:=d;dsimp only[v];clear v
  let' acS:St->Hp->Prop:=λ c p=>∃I R,c=#v[↑a,.bl pl,.int m,.int ⇑rows,↑lt,v5,.int mk,.int x,↑I]/\aq S p/\bN p I R/\(∀u∈R,Fh rows m u)/\⇑R<=17
  erw[acS,5]
  ·rwa[bH ?_];intro N;rwa[⟨12,a,t,(5),2,(s3.trans s5).seq D,3,λz7=>⟨1122,(by show (0:Int)<4;decide),212,cP (λ_=>?_) (λ_=>dI ⟨I,R,2,s5,U,g,3⟩)⟩⟩];rwa[⟨12,a,t,(7),2,(s3.trans s5).seq D,3,λz7=>⟨1122,(by show (0:Int)<8;decide),212,cP (λ_=>?_) (λ_=>⟨I,R,2,s5,U,g,3⟩)⟩⟩];let⟨f,g1,g2⟩:=U;rwa[⟨121212,I,12,aB.of g1,λb nb=>?_⟩];let sb:=aq.upd (o:=.lst (fY (f.map V.ref) none (some 1))) nb
   obtain⟨i,n,e,hn⟩:∃i n:Nat,fY (f.map V.ref) none (some 1)=((f.drop i).take n).map V.ref/\n<=1:=by erw[11,by unfold fY;rw[amF,amG]];have:=HT.xO ⇑(f.map V.ref) ⇑(f.map V.ref) 1;rw[show ((1:Nat):Int)=1 from rfl]at this;rw[this];ext
   let eb:upd H5 b (.lst (fY (f.map V.ref) none (some 1))) b\(.lst (((f.drop i).take n).map V.ref)):=by rw[aj,e]
   change upd H5 b _=H6 at sb eb ⊢;let g3:=g2.same sb;let pH:⇑f<=16:=by rw[g2.1];rwa[J]
   rwa[⟨I,b,1122,sb^g1,eb,5,λl9 n9=>?_⟩]
   ·rw[ai6,ai6,ajD];rwa[ajl (show ⇑f+ min n _<=100 by omega) ⋯]
   let s9:=aq.upd (o:=.lst (f.map V.ref++((f.drop i).take n).map V.ref)) n9;rwa[⟨l9,R++(R.drop i).take n,2,(s5.trans sb).trans s9,⟨f++(f.drop i).take n,by rw[aj,ajt],(vy g3 (vz g3 i n)).same s9⟩,λu M=>?_,by rw[ai3,ajD];ext⟩]
   cbv
  intro c H6 d;rwa[aT ?_];intro v;let⟨lr',R,rfl,s6,U,g,J⟩:=d;dsimp only[v];clear v;rwa[⟨12121212121212,a,lt,t,rows,m,x,2,(s3.trans s6).seq D,hlen,hT.same s6,X,Z,C,Y,P8,λpa P H7 s7 hP acT WH=>?_⟩];rwa[⟨12,Za4 5,λl nl=>?_⟩];rwa[k l lt lr' pa rows m x R P _ (((s3.trans s6).trans s7).trans (aq.upd nl)) aj ((hT.same (s6.trans s7)).same (aq.upd nl)) X Z C Y P8 ((U.same s7).same (aq.upd nl)) g J (hP.same (aq.upd nl)) acT WH]
def BJ (u v:Zg):M11.back (u++v)=M11.back v++M11.back u:=by unfold M11.back;rw[List.reverse_append,ajt]
def kK (u:Zg):M11.back (M11.back u)=u:=by unfold M11.back;rw[<-amD,List.reverse_reverse,ajM];rwa[(aj5 λz _=>ako z).trans (List.map_id' u)]
section
variable {rs:Za3}{L N M:Nat}{T F:Za3}
def FT.bk {e:Za3}(f:FT rs e L N T){u:Zg}(d:M11.aV L u){i:Nat}(b:i<N):M11.walk T (M11.back u) (M11.walk T u i)=i/\M11.walk T u (M11.walk T (M11.back u) i)=i:=by rw[<-f.n]at b;let c:=M11.nk f.t d b;let a:=M11.nk f.t (M11.jO d) b;rw[M11.eG]at c a;rw[kK]at a;rwa[c,a]
def FT.lt {b:Za3}(f:FT rs b L N T){u:Zg}(c:M11.aV L u){i:Nat}(a:i<N):M11.walk T u i<N:=by rw[<-f.n]at a ⊢;rwa[M11.kc f.t c a]
def FT.pos {a:Za3}(f:FT rs a L N T):0<N:=by have:=f.t.pos;rw[f.n]at this;rwa[this]
def FT.mv {g:Za3}(f:FT rs g L M F)(c:Za3){x:Nat}(h:x<M)(e:∀w∈c,M11.walk F w x=x):Mv rs c L (λi=>i<M) (M11.nx F) x:=by rwa[⟨h,λp k a b=>?_,λp k a b=>f.t.back p k ([f.n]▸a) b,λw d p a=>f.r w d p a,e⟩];have:=f.t.lt p k ([f.n]▸a) b;rw[f.n]at this;ext
def FT.go {d:Za3}(f:FT rs d L N T){D:Nat->Prop}{g:Nat->Nat->Nat}{x:Nat}(m:Mv rs d L D g x):∃ a:Nat->Nat,a 0=x/\∀u i,M11.aV L u->i<N->a (M11.walk T u i)=gw g u (a i):=by
 let⟨a,l,h⟩:=f.u D g x m;rwa[⟨a,l,λu=>?_⟩]
 induction u with
 |nil=>exact λi _ _=>rfl
 |cons s u j=>
  intro i c e;let k:M11.aV L [s]:=λt b=>c t ([ai9.mp b]▸aji)
  show a (M11.walk T u (M11.nx T (M11.pl s) i))=gw g u (g (M11.pl s) (a i));rw[j (M11.nx T (M11.pl s) i) (λt b=>c t (ajw _ b)) (f.lt k e),(h i e).2 _ (M11.eA (c s aji))]
end
def lO {T:Za3}(h:TabAt H a T)(g:M11.Tab n T)(d:i<⇑T):∃(rs:Zn)(r:Zs)(row:Zg),H a\.lst (rs.map V.ref)/\rs[i]?\r/\H r\.lst (ao row)/\⇑row=2* n/\∀k,k<2* n->row[k]?\((M11.nx T k i:Nat):Int):=by
 let⟨rs,m,f⟩:=h;let c:i<⇑rs:=by rw[f.1];rwa[d]
 let j:rs[i]?=some rs[i]:=ai1 c
 let b:T[i]?=some T[i]:=ai1 d
 rwa[⟨rs,11,m,j,f.2 i _ _ j b,g.row i _ b,λk l=>?_⟩];let⟨r,e,o⟩:=g.val i k d l;rw[b]at e;rw[Za0 e];rwa[o]
def zM {T:Za3}{w:Zg}(h:w[n]?\z):M11.walk T (w.take (n+ 1)) i=M11.nx T (M11.pl z) (M11.walk T (w.take n) i):=by rw[akf,h];rwa[M11.eG T (w.take n) [z] i]
def He {w:Zg}(a:Nat)(h:M11.aV n w):M11.aV n (w.take a):=λs b=>h s (alj b)
def wd (u:Zh):Zg:=u.map M12.st
structure LW (L:Nat)(T:Za3)(ws:List Zh):Prop where
 lw:M12.Lw L T ws
 ok:∀(i:Nat)(u:Zh),ws[i]?\u->(∀k∈u,k<2* L)/\M11.walk T (wd u) 0=i/\⇑u<=300
inductive Fn (vs:Zb)(H:Hp)(Q:VK)(E_:XK):Prop
 |mk (a:Zs)(T:Za3)(L:Nat):vs=[↑a]->TabAt H a T->M11.Tab L T->M12.Fc (2* L) T.flatten ⇑T->(∀l ws H',aq H H'->H l=none->bN H' l (ws.map wd)->LW L T ws->Q ↑l H')->Fn vs H Q E_
def pM (u:Zh):⇑(wd u)=⇑u:=by unfold wd;rw[ai6]
def C2 (h:∀k∈B,k<2* n):M11.aV n (wd B):=λs a=>by unfold wd at a;let⟨k,b,rfl⟩:=ajN.mp a;rwa[M12.tM (h k b)]
def xE (u v:Zh):wd (u++v)=wd u++wd v:=by unfold wd;cbv
def lg (a:List (Key×V))(b:Zn):Prop:=⇑a<=⇑b/\∀i:Nat,bz a (Sum.inl (i:Int))=(b[i]?).map V.ref
def lg.one (p:Zs):lg [(Sum.inl 0,↑p)] [p]:=by
 rwa[⟨aja _,λi=>?_⟩]
 cases i with
 |zero=>exact cQ rfl
 |succ i=>rw[cI (λz=>by injection z with z;omega)];rfl
def lg.put {a:List (Key×V)}(h:lg a F)(p:Zs):lg (putK a (Sum.inl (⇑F:Int)) ↑p) (F++[p]):=by
 let b:bz a (Sum.inl (⇑F:Int))=none:=by rw[h.2,ajC (aja _)];rfl
 rwa[⟨5,λi=>?_⟩]
 ·rw[pY _ b,ai3,ai3];have:=h.1;simp only[ajo,ajQ];ext
 ·rw[lV];cases e:i=⇑F
  ·subst e;rw[ajn rfl,ajg (aja _),aks];rfl
  ·rw[ajk (λz=>e (by injection z with z;omega)),h.2];cases c:i<⇑F
   ·rw[ajd c]
   ·rw[ajC (show ⇑F<=i by omega),ajC (by rw[ai3];simp only[ajo,ajQ];omega)]
def lg.get {b:List (Key×V)}(h:lg b F)(hd:H d\.dK b)(c:F[i]?\a):eP H d (.int (i:Int)) (some ↑a):=by have:=eP.k (k:=Sum.inl (i:Int)) hd;rw[h.2 i,c]at this;rwa[this]
def vA (n:Nat):Zb:=(~~~n).map λi:Nat=>V.int (i:Int)
def mU (n:Nat):⇑(vA n)=n:=by unfold vA;cbv
def Fo (h:i<n):(vA n)[i]?\(V.int (i:Int)):=by unfold vA;rw[ajc,akD h];rfl
def DT {Q:VK}(g:Nat->V)(h:n<=1000)(k:∀i:Nat,i<n->∀R:VK,R (g i) H->r (some (.int (i:Int))::D) H R)(d:∀a,H a=none->Q ↑a (upd H a (.lst ((~~~n).map g)))):kI r D Q (yM 0 n) H:=by
 rwa[gy (vA n) (λv=>match v with|.int z=>g z.toNat|v=>v) (λi b=>by rw[mU]at b;rwa[b]) (λi x m b y=>?_) ([mU]▸aja _) ([mU]▸ajl h ⋯) (λi x c R l=>?_) (λa f=>?_)]
 ·rw[mU]at b;let⟨j,o⟩:=y;erw[j];rw[Fo b]
  cbv
 ·let b:i<n:=by have:=(ai4.mp c).1;rw[mU]at this;rwa[this]
  rw[Fo b]at c;let ex:=Za0 c;subst ex;rwa[k i b R ?_];have:R (g ((i:Int)).toNat) H:=l;rw[ajG]at this;rwa[this]
 ·let e:((vA n).map λv=>match v with|.int z=>g z.toNat|v=>v)=(~~~n).map g:=by unfold vA;rw[ajM];rfl
  rw[e];rwa[d a f]
def Hf (a:Zn):((List.range ⇑a).map λi=>V.ref (a.getD i 0))=a.map V.ref:=by
 apply List.ext_getElem
 ·simp
 ·intro i b c;simp[ai8]at b ⊢;rw[ai1 b];rfl
seal L2.PE L2.PS L2.iO L2.PA L2.PT
def Am:T.qq.Ok P w base 2 Fn:=by
 rwa[T.qq.on eH (λcw AA outer s H vs Q E hr h=>?_)]
 ·let⟨a,j,L,rfl,qX,y,hF,k⟩:=h;let J:=fA hr
  erw[_,{bE 1 eH.nd (pc T.mD (oy T) hr #[aO ew ((0|||aw)<<<0) aw]),bE 2 eH.nd (xZ (uT aw (cC ai) xY) rfl rfl (by simp) ⋯),b8 ajz rfl (p7 rfl T.gT (pv 0)) (jF rfl (cy (dc 3 eH.nd) (cy (dc 4 eH.nd) ie)))
    {b8 ajz rfl (T5 rfl T.Yx #[1,4] rfl rfl) (jF rfl (cy (dc 5 eH.nd) (cy (dc 6 eH.nd) ie)))
     {bL (bP (Ax (rH J (pv 6) (pv 2)))
      {j9 J (pv 2) (pv 6) (aO lU (lK J (pv 2) (pv 3) (λ_ _=>rfl)) (cC #[5])) rfl}
      bC)}},bu (fN (fns:=["ways"]) (ixs:=[2]) (cl:=_) rfl (jj rfl T.eT #[0<<<0]) (cu [(_,_)] rfl ⟨22222,True.intro⟩ rfl) (λC s H ex=>(lK J (pv 1) (pv 0) (λ_ _=>rfl))))}]
  rwa[hV ?_];intro iI eD fq;let Hg:=y.top;let Km:=y.yc;let jW:=y.let1;let⟨rs0,r0,M7,g1,g2,g3,g4,g5⟩:=lO qX y y.pos;let eL:(⇑(ao M7):Int) / 2=(L:Int):=by rw[az,g4];ext
  erw[12,a,11,↑r0,22,aB.of g1,cM (i:=0) g2,r0,12,.inl (aB.of g3),1122,⟨44⟩];rwa[⟨L,by rw[<-eL];rfl,jW,3,λsl H1 s1 PF=>?_⟩];intro d hd;rwa[⟨ajB _,λq0 F=>?_⟩];erw[(aq.upd F) _ _ aj,[(Sum.inl 0,↑q0)],2,by show 1<=15;decide];let Fq:q0≠d:=λz=>by rw[z,aj]at F;ext F
  let pG:H1 q0=none:=by rw[ak Fq]at F;rwa[F]
  generalize X:upd (upd (upd H1 d (.dK [])) q0 (.tup [])) d _=H2;let hd2:H2 d\(.dK [(Sum.inl 0,↑q0)]):=by rw[<-X,aj];rfl
  let qV:H2 q0\(.tup (ao (wd []))):=by rw[<-X,ak Fq,aj];rfl
  let s2:aq H1 H2:=λb o e=>by rw[<-X,ak (av e hd),ak (av e pG),ak (av e hd)];rwa[e]
  clear X
  let TX:bR H2 [q0] ([[]].map wd):=⟨2,λi p w h1 h2=>by rw[ai9.mp (ai5 h1),ai9.mp (ai5 h2)];rwa[qV]⟩
  let⟨rs,Fs,Y⟩:=qX.same s1;let hlen:(⇑(rs.map V.ref):Int)=(⇑j:Int):=by rw[ai6,Y.1]
  erw[12,a,2,⟨_,aB.of (s2^Fs)⟩]
  let' mR:Nat->St->Hp->Prop:=λi Z H3=>∃(f:Zn)(ws:List Zh)(c:List (Key×V))(v3 v4 v5 v6:Zc),Z=#v[↑a,↑sl,↑d,v3,v4,v5,v6]/\aq H1 H3/\H3 d\.dK c/\lg c f/\bR H3 f (ws.map wd)/\M13.Part L j ws (i* (2* L))
  refine oJ (xs:=rs.map V.ref) mR
   ⟨[q0],[[]],_,none,none,none,none,2,s2,hd2,lg.one q0,TX,[amw]▸M13.Part.start y hF⟩ (λi Z H3 _ ζ=>by let⟨_,_,_,_,_,_,_,_,s,_⟩:=ζ;rwa[aB.of (s^Fs)]) ?_ ?_
  ·intro i v Z H3 p hi hp l;rwa[aT ?_];intro B;let⟨f,ws,c,v3,v4,v5,v6,rfl,s3,Fb,WK,EW,x⟩:=l;dsimp only[B];clear B;rw[ajc]at hi
   let N8:i<⇑rs:=by
    cases e:rs[i]? with
    |none=>rw[e]at hi;ext hi
    |some r=>cbv
   let q1:rs[i]?=some rs[i]:=ai1 N8
   rw[q1]at hi;let ey:V.ref rs[i]=v:=Za0 hi;subst ey;change rs[i]=rr at q1;let G:i<⇑j:=by rw[<-Y.1];rwa[N8]
   let q2:j[i]?=some j[i]:=ai1 G
   change j[i]=row at q2;let Vz:=Y.2 i rr row q1 q2;let pE:=y.row i row q2;let U:=aq.upd (o:=.tup [.int (i:Int),↑rr]) hp;erw[p,12,bG.of aj,21121122];change upd H3 p _=H4 at U ⊢;let s4:=s3.trans U;erw[1212,sl,rr,2,⟨_,aB.of (s4^PF)⟩,⟨_,aB.of (s4^Vz)⟩]
   let' ko:Nat->St->Hp->Prop:=λn Z H5=>∃(f:Zn)(ws:List Zh)(c:List (Key×V))(v5 v6:Zc),Z=#v[↑a,↑sl,↑d,.int (i:Int),↑rr,v5,v6]/\aq H1 H5/\H5 d\.dK c/\lg c f/\bR H5 f (ws.map wd)/\M13.Part L j ws (i* (2* L)+ n)
   refine QH (K:=K) (a:=sl) (b:=rr) (xs:=ao ((~~~(2* L)).map M12.st)) (ys:=ao row) ko
    (by rw[az,az,ai6,ajP,pE]) ⟨f,ws,c,v5,v6,2,s4,U^Fb,WK,EW.same U,x⟩ (λn Z H5 _ ζ=>by let⟨_,_,_,_,_,_,s,_⟩:=ζ;rwa[⟨aB.of (s^PF),aB.of (s^Vz)⟩]) ?_ ?_
   ·intro n v u Z H5 q hv I hq l;rwa[aT ?_];intro B;let⟨f,ws,c,v5,v6,rfl,s5,WL,m,N,g⟩:=l;dsimp only[B];clear B
    let S:n<2* L:=by have:=(ai4.mp hv).1;rw[az,ai6,ajP]at this;rwa[this]
    rw[show (ao ((~~~(2* L)).map M12.st))[n]?=some (V.int (M12.st n)) from bT (pB S)]at hv;let ev:=Za0 hv;subst ev;let⟨r',e1,e2⟩:=y.val i n G S;let er:row=r':=Za0 (q2.symm.trans e1);subst er;rw[bT e2]at I;let eu:=Za0 I;subst eu;let⟨WM,Bv⟩:=M13.Part.step y hF g G S;let hle:=M13.Part.le y hF g G S;let M:=aq.upd (o:=.tup [.int (M12.st n),.int ((M11.nx j n i:Nat):Int)]) hq;erw[q,12,bG.of aj,21121122];change upd H5 q _=H6 at M ⊢;let s6:=s5.trans M;let O:=M^WL;let JD:=N.same M;let iJ:⇑f=⇑ws:=by have:=N.1;rw[ai6]at this;rwa[this]
    rwa[⟨15,λ_ _ h=>h⟩];erw[1212,d,12,eP.k (k:=Sum.inl ((M11.nx j n i:Nat):Int)) O,12];rw[m.2];cases WN:M11.nx j n i=⇑ws
    ·rw[ajC (show ⇑f<=M11.nx j n i by omega)];rwa[eV ?_];let hiw:=g.has y hF G rfl;let I:ws[i]?=some ws[i]:=ai1 hiw
     change ws[i]=u at I;let t:f[i]?\(f[i]'∅):=ai1 ∅
     change f[i]'∅=pa at t;let xq:=JD.2 i pa (wd u) t (by rw[ajc,I];rfl);let Pa:=(g.ok i u I).2.2;let ahU:=g.top;rwa[⟨1212,d,12,m.get O t,12,Za4 1,λq7 WO=>?_⟩];let zL:aq H6 (upd H6 q7 (.tup [.int (M12.st n)])):=aq.upd WO;let WQ:upd H6 q7 (.tup [.int (M12.st n)]) q7\(.tup (ao (wd [n]))):=aj;change upd H6 q7 _=H7 at zL WQ ⊢;rwa[⟨pa,q7,1122,zL^xq,WQ,5,λp3 H8 s78 h8=>?_⟩]
     ·rw[az,az,pM,pM];rwa[ajl (show ⇑u+ 1<=400 by omega) ⋯]
     rw[<-ints_app,<-xE]at h8;let Ft:=zL.trans s78;let hd8:=Ft^O;erw[1212,d,12,j7.k (k:=Sum.inl ((M11.nx j n i:Nat):Int)) hd8 (aje (show ⇑c<=300 by have:=m.1;omega) ⋯)]
     let kp:∀p xs,H8 p\.tup xs->upd H8 d (.dK (putK c (Sum.inl ((M11.nx j n i:Nat):Int)) ↑p3)) p\(.tup xs):=λp xs e=>by rw[ak (bS e hd8 f!"")];rwa[e]
     rwa[⟨f++[p3],ws++[u++[n]],1112,λb o e=>?_,aj,55,Bv WN u I⟩]
     ·rw[ak (av e hd)];rwa[Ft^s6^e]
     ·have:=m.put p3;rw[iJ,<-WN]at this;rwa[this]
     ·rw[ajt];rwa[((JD.same Ft).snoc h8).keep kp]
    ·let WR:f[M11.nx j n i]?\(f[M11.nx j n i]'∅):=ai1 ∅
     rw[WR];rwa[dI ⟨f,ws,c,112,s6,O,m,JD,WM WN⟩]
   ·intro Z H5 l;rwa[aT ?_];intro B;let⟨f,ws,c,v5,v6,rfl,s5,WL,m,N,g⟩:=l;dsimp only[B];clear B;rw[az,ai6,ajP]at g;rwa[f,ws,c,11112,s5,WL,m,N,[amd]▸g]
  ·intro Z H3 l;rwa[aT ?_];intro B;let⟨f,ws,c,v3,v4,v5,v6,rfl,s3,Fb,WK,EW,x⟩:=l;dsimp only[B];clear B;rw[ai6,Y.1]at x;let Fu:=M13.Part.end_ y hF x;let iJ:⇑f=⇑j:=by have:=EW.1;rw[ai6,Fu.1]at this;rwa[this]
   erw[12,a,12,.inl (aB.of (s3^Fs)),(⇑j:Int),by rw[<-hlen],33];rw[ajG];rwa[DT (λi=>V.ref (f.getD i 0)) ∅ (λi hi R hR=>?_) (λD hD=>?_)]
   ·let t:f[i]?\(f[i]'∅):=ai1 ∅
    rw[ai8,t]at hR;rwa[1212,d,12,WK.get Fb t,hR]
   ·rw[<-iJ,Hf];rwa[k D ws _ ((s1.trans s3).trans (aq.upd hD)) ((s1.trans s3).free hD) ⟨f,aj,EW.same (aq.upd hD)⟩ ⟨Fu,λi u I=>?_⟩];let⟨a1,a2,a3⟩:=x.ok i u I;let hi:=(ai4.mp I).1;have:=x.top;rwa[a1,a2,3]
unseal L2.PE L2.PS L2.iO L2.PA L2.PT
def Fv (k:Nat):M12.st (M11.flip k)= -M12.st k:=by
 unfold M12.st M11.flip;cases h:k % 2=0
 ·rw[ajn h,ajn h,ajk ∅];ext
 ·rw[ajk h,ajk h,ajn ∅];ext
structure WT (p L:Nat)(f:Nat->Int->Int)(come:Zg)(Tb:Za3):Prop where
 nd:come.Nodup
 rg:∀x∈come,0<=x/\x<(p:Int)
 rw_:∀(i:Nat)(x:Int)(r:Zg),come[i]?\x->Tb[i]?\r->M11.Yq L f come x r (2* L)
def fs (rows:Za3)(k:Nat)(x:Int):Int:=((sf rows x.toNat (M12.st k):Nat):Int)
def sn (w:Zg)(x:Int):Zg:=if w.getLast?=some (-x) then w.dropLast else w++[x]
def fm (ns:Zg):Zg:=ns.foldl sn []
def WU (w:Zg)(x:Int):⇑(sn w x)<=⇑w+ 1:=by
 unfold sn;split
 ·rw[List.length_dropLast];ext
 ·rw[ai3,aj2];ext
theorem sT:∀(ns w:Zg),⇑(ns.foldl sn w)<=⇑w+ ⇑ns
 |[],w=>aja _
 |x::ns,w=>by let a:=sT ns (sn w x);let b:=WU w x;rw[aln,ajo];ext
def Lb:V->V
 |.int z=>.int (-z)
 |v=>v
def bF (W:Za3)(i:Nat):Zg:=W.getD i []
def nX (T W:Za3)(c:Nat×Nat):Bool:=!decide (bF W (M11.nx T (2* c.2) c.1)=bF W c.1++[((c.2+ 1:Nat):Int)]) && !decide (bF W c.1=bF W (M11.nx T (2* c.2) c.1)++[-((c.2+ 1:Nat):Int)])
def yF (c:Nat×Nat):Zg:=[(c.1:Int),((c.2+ 1:Nat):Int)]
def oz (T W:Za3)(c:Nat×Nat):Zg:=fm (bF W c.1++[((c.2+ 1:Nat):Int)]++M11.back (bF W (M11.nx T (2* c.2) c.1)))
def cells (L i k:Nat):List (Nat×Nat):=(~~~i).flatMap (λj=>(~~~L).map λm=>(j,m))++(~~~k).map λm=>(i,m)
def cj (T W:Za3)(L i k:Nat):List (Nat×Nat):=(cells L i k).filter (nX T W)
def Nb (T W:Za3)(L i:Nat):cj T W L i L=cj T W L (i+ 1) 0:=by unfold cj cells;rw[aj3,akj];simp
def Kn (T W:Za3)(L i k:Nat):cj T W L i (k+ 1)=cj T W L i k++(if nX T W (i,k) then [(i,k)] else []):=by
 unfold cj cells;rw[aj3,ajt,<-ajK,List.filter_append]
 congr 1
 show List.filter (nX T W) [(i,k)]=_;rw[List.filter_cons,List.filter_nil]
def Ko (L:Nat):∀i k:Nat,⇑(cells L i k)=i* L+ k:=λi k=>by
 have:∀i:Nat,⇑((~~~i).flatMap (λj=>(~~~L).map λm=>(j,m)))=i* L:=λi=>by
  induction i with
  |zero=>simp
  |succ i a=>rw[aj3,akj,ai3,a,amd];simp
 unfold cells;rw[ai3,this,ai6,ajP]
def C3 (T W:Za3)(L i k:Nat):⇑(cj T W L i k)<=i* L+ k:=by rw[<-Ko];rwa[alc _ _]
def Kp {W:Za3}(h:i<⇑W):W[i]?\(bF W i):=by unfold bF;rw[ai8,ai1 h];rfl
def RN:Sp:=λa H Q _=>∃s:Int,a=[.int s]/\s≠0/\s.natAbs<=1000/\Q (.int (M11.pl s)) H
inductive YK (vs:Zb)(H:Hp)(Q:VK)(E_:XK):Prop
 |mk (a wa:Zs)(T:Za3)(L i:Nat)(w:Zg):vs=[↑a,.int i,↑wa]->TabAt H a T->M11.Tab L T->i<⇑T->H wa\.tup (ao w)->M11.aV L w->Q (.int (M11.walk T w i)) H->YK vs H Q E_
def iV:T.jf.Ok P w base 1 RN:=by
 rwa[T.jf.on DL (λc j b s H g Q E i h=>?_) (len:=by rintro _ _ _ _ ⟨s,rfl,_⟩;rfl)]
 ·let⟨s,rfl,d,e,k⟩:=h
  refine⟨_,{bP (bf tj (pv 0) aw (bp _))
   {bu (aO hJ (aO jG aw (pv 0)) aw)}
   bC,bu (aO hJ (aO jG (da cL aw) (pv 0)) aw)},?_⟩
  rwa[jd ?_];intro f;erw[12112212];rwa[cP (λh=>?_) (λh=>?_)]
  ·let a:(0:Int)<s:=ajX h;erw[121122,.inl ⟨44⟩,1122];unfold M11.pl at k;rw[ajn a,show ((2* s.natAbs - 2:Nat):Int)=2* s - 2 by ext]at k;rwa[k]
  ·let a:¬(0:Int)<s:=λz=>h (ajI z)
   erw[12121122,.inl ⟨44⟩,1122];unfold M11.pl at k;rw[ajk a,show ((2* s.natAbs - 1:Nat):Int)= -2* s - 1 by ext]at k;rwa[k]
def Kq {T:Za3}{d a:List Zh}(q:M11.Tab n T)(s:M12.Fc (2* n) T.flatten ⇑T)(h:M12.Lw n T d)(c:M12.Lw n T a):d=a:=by
 let B:=q.let1
 let f:∀j,j<⇑T->d[j]?=a[j]?:=by
  intro j
  induction j using Nat.strongRecOn with
  |_ j y=>
   intro g;cases o:j=0
   ·subst o;rw[h.2.1,c.2.1]
   ·let⟨p,z,l,k⟩:=s.2 j ∅ g;let⟨u,m,v⟩:=h.2.2 j p ∅ g l k;let⟨C,r,t⟩:=c.2.2 j p ∅ g l k
    let b:p / (2* n)<j:=by rw[Nat.div_lt_iff_lt_mul ∅];rwa[z]
    let e:=y _ b ∅;rw[m,r]at e;rw[v,t,Za0 e]
 rwa[akO λi=>?_]
 cases x:i<⇑T
 ·rwa[f i x]
 ·rw[ajC (by rw[h.1];omega),ajC (by rw[c.1];omega)]
def tw (W:Za3)(i:Nat)(s:Int)(o:Nat):Bool:=decide ((bF W o).getLast?\s) || decide ((bF W i).getLast?\(-s))
inductive Kr (vs:Zb)(H:Hp)(Q:VK)(E_:XK):Prop
 |mk (wl:Zs)(W:Za3)(i o:Nat)(s:Int):vs=[↑wl,.int i,.int s,.int o]->bN H wl W->i<⇑W->o<⇑W->(∀H',aq H H'->Q (.bl (tw W i s o)) H')->Kr vs H Q E_
inductive zN (vs:Zb)(H:Hp)(Q:VK)(E_:XK):Prop
 |mk (a:Zs)(T:Za3)(L:Nat):vs=[↑a]->TabAt H a T->M11.Tab L T->M12.Fc (2* L) T.flatten ⇑T->(∀l ws H',aq H H'->H l=none->LW L T ws->bN H' l ((cj T (ws.map wd) L ⇑T 0).map yF)->Q ↑l H')->zN vs H Q E_
def C4 (u:Zg):(u.drop (HT.bU ⇑u 0 (some (-1)))).take (HT.bU ⇑u ⇑u none - HT.bU ⇑u 0 (some (-1)))=(match u.getLast? with|some x=>[x]|none=>[]):=by
 let a:HT.bU ⇑u 0 (some (-1))=⇑u - 1:=by show (if (-1:Int)<0 then ((-1:Int)+ (⇑u:Int)).toNat else min (-1:Int).toNat ⇑u)=_;rw[ajn ⋯];ext
 let b:HT.bU ⇑u ⇑u none=⇑u:=rfl;rw[a,b];rcases List.eq_nil_or_concat u with h|⟨v,x,h⟩
 ·subst h;rfl
 ·subst h;have:⇑(v++[x]) - 1=⇑v:=by rw[ai3];rfl
  rw[List.concat_eq_append,this,List.drop_left,List.getLast?_concat,akx (by rw[ai3];simp)]
def Fw (u:Zg)(s:Int):decide ((match u.getLast? with|some x=>[x]|none=>[])=[s])=decide (u.getLast?\s):=by
 cases u.getLast? with
 |none=>rfl
 |some x=>cbv
def WV {T:Za3}{ws:List Zh}(d:M11.Tab n T)(k:M12.Fc (2* n) T.flatten ⇑T)(hw:M12.Lw n T ws){i m:Nat}(a:i<⇑T)(r:m<n):
 nX T (ws.map wd) (i,m)= !(tw (ws.map wd) i ((m+ 1:Nat):Int) (M11.nx T (2* m) i)):=by
 let b:2* m<2* n:=∅
 let o:=d.lt i (2* m) a b;let e:i<⇑ws:=by rw[hw.1];rwa[a]
 let how:M11.nx T (2* m) i<⇑ws:=by rw[hw.1];rwa[o]
 let f:ws[i]?=some ws[i]:=ai1 e
 let c:ws[M11.nx T (2* m) i]?=some ws[M11.nx T (2* m) i]:=ai1 how
 let g:=M15.BH d k hw a b f c;let h:=M15.Mg d k hw a b f c
 let l:bF (ws.map wd) i=ws[i].map M12.st:=by unfold bF;rw[ai8,ajc,f];rfl
 let q:bF (ws.map wd) (M11.nx T (2* m) i)=ws[M11.nx T (2* m) i].map M12.st:=by unfold bF;rw[ai8,ajc,c];rfl
 let j:M12.st (2* m)=((m+ 1:Nat):Int):=by unfold M12.st;rw[ajn ∅,show 2* m / 2=m by ext]
 let p:M12.st (M11.flip (2* m))= -((m+ 1:Nat):Int):=by rw[Fv,j]
 rw[j]at g;rw[p]at h;unfold nX tw;show (!decide (bF (ws.map wd) (M11.nx T (2* m) i)=bF (ws.map wd) i++[((m+ 1:Nat):Int)]) && !decide (bF (ws.map wd) i=bF (ws.map wd) (M11.nx T (2* m) i)++[-((m+ 1:Nat):Int)]))=_;rw[l,q,amC.mpr g,amC.mpr h,Bool.not_or]
def yG:T.oj.Ok P w base 1 Kr:=by
 rwa[T.oj.on yy (λU AA t s H vs Q E J h=>?_)]
 ·let⟨F,W,i,o,s,rfl,O,X,V,k⟩:=h;let x:=alW (fA J);erw[_,{bu (Xs (j5 (Eh x) (i9 pV (0|||3) (ik (da cL aw)) jl) (cC #[2]) (bp _)) (Sh (j5 (Eh x) (i9 pV (0|||1) (ik (da cL aw)) jl) (cC #[da cL (pv 2)]) (bp _))))}];let x:=alW (fA J);let⟨f,j,b⟩:=O;let N:=b.1;let y:f[i]?\(f[i]'∅):=ai1 ∅
  let z:f[o]?\(f[o]'∅):=ai1 ∅
  change f[i]'∅=q at y;change f[o]'∅=r at z;let C:=b.2 i q _ y (Kp X);let L:=b.2 o r _ z (Kp V);unfold tw at k;change bF W i=u at C k;change bF W o=v at L k;rwa[⟨1212,F,11,↑r,22,aB.of j,cM z,1212,r,12,L,λR n s1 I=>?_⟩];rw[pW,C4]at I;rwa[⟨12,Za4 1,λl B=>?_⟩];let e:aq n (upd n l (.tup [.int s])):=aq.upd B;let D:upd n l (.tup [.int s]) l\(.tup (ao [s])):=aj;change upd n l _=H2 at e D ⊢;erw[R,l,1122,bG.of (e^I),bG.of D];rw[Fw];let a:=s1.trans e;cases c:v.getLast?\s
  ·rw[ajI c]at k ⊢;rwa[true,2,eV (k _ a)]
  ·rw[ajV c]at k ⊢;rwa[⟨false,2,dI ?_⟩];rwa[⟨1212,F,11,↑q,22,aB.of (a^j),cM y,1212,q,12,a^C,λS m Y M=>?_⟩];rw[pW,C4]at M;rwa[⟨1212,Za4 1,λg p=>?_⟩];let d:aq m (upd m g (.tup [.int (-s)])):=aq.upd p;let G:upd m g (.tup [.int (-s)]) g\(.tup (ao [-s])):=aj;change upd m g _=Z at d G ⊢;erw[S,g,1122,bG.of (d^M),bG.of G];rw[Fw];rwa[k _ ((a.trans Y).trans d)]
theorem mV:T.iY.Ok P w base 3 zN:=by
 rwa[T.iY.on dR (λcw AA outer s H vs Q E hr h=>?_)]
 ·let⟨a,d,L,rfl,J,C,hF,k⟩:=h
  erw[_,{bE 1 dR.nd (pc T.qq (Am T) hr #[0]),bE 2 dR.nd (b9 ai),b8 ajz rfl (p7 rfl T.gT (pv 0)) (jF rfl (cy (dc 3 dR.nd) (cy (dc 4 dR.nd) ie)))
    {b8 ajz rfl (kB rfl T.eT #[aw,aO du (aO ew (4<<<0) aw) aw]) (dc 5 dR.nd)
     {bL (bP (Sg (kA (pc T.oj (yG T) hr #[1,3,5,4|||(pc T.jf (iV T) hr #[5])])))
      {aS (cO ajj ajq ajr bJ (pv 2) #[cC #[3,5]])}
      bC)}},bu (pv 2)}]
  rwa[hV ?_];intro iI eD fq;let Hg:=C.top;let Km:=C.yc;rwa[⟨12,a,d,L,2,J,C,hF,λwl ws G s1 n1 hW F=>?_⟩];let hWl:⇑(ws.map wd)=⇑d:=by rw[ai6,F.lw.1]
  rwa[⟨ajB _,λf B=>?_⟩];let s2:aq G (upd G f (.lst [])):=aq.upd B;let h2:upd G f (.lst []) f\(.lst (([]:Zn).map V.ref)):=aj;change upd G f _=H2 at s2 h2 ⊢;let⟨rs,O,D⟩:=J.same s1;erw[12,a,2,⟨_,aB.of (s2^O)⟩];rwa[oJ (xs:=rs.map V.ref) (λi x t=>∃(c:Zn)(v3 v4 y:Zc),x=#v[↑a,↑wl,↑f,v3,v4,y]/\aq G t/\t f\.lst (c.map V.ref)/\bR t c ((cj d (ws.map wd) L i 0).map yF)) ⟨[],none,none,none,2,s2,h2,2,λi q u e=>by simp at e⟩ (λi x t _ ζ=>by let⟨_,_,_,_,_,s,_⟩:=ζ;rwa[aB.of (s^O)]) ?_ ?_]
  ·rintro i v x t p M hp ⟨c,v3,v4,y,rfl,s3,h3,t3⟩;rw[ajc]at M
   let U:i<⇑rs:=by
    cases e:rs[i]? with
    |none=>rw[e]at M;ext M
    |some r=>cbv
   let q1:rs[i]?=some rs[i]:=ai1 U
   rw[q1]at M;let ey:V.ref rs[i]=v:=Za0 M;subst ey;change rs[i]=R at q1;let j:i<⇑d:=by rw[<-D.1];rwa[U]
   let Y:d[i]?=some d[i]:=ai1 j
   change d[i]=row at Y;let S:=D.2 i R row q1 Y;let pE:=C.row i row Y;let g:=aq.upd (o:=.tup [.int (i:Int),↑R]) hp;erw[p,12,bG.of aj,21121122];change upd t p _=H4 at g ⊢;let s4:=s3.trans g;let eL:(⇑(ao row):Int) / 2+ 1=(L:Int)+ 1:=by rw[az,pE];ext
   erw[12,R,12,.inl (aB.of (s4^S)),1122,⟨44⟩,1122,(1),(L:Int)+ 1,by rw[<-eL],⟨3333⟩];rwa[jk (lo:=1) (n:=((L:Int)+ 1 - 1).toNat) (λm x I=>∃(c:Zn)(y:Zc),x=#v[↑a,↑wl,↑f,.int (i:Int),↑R,y]/\aq G I/\I f\.lst (c.map V.ref)/\bR I c ((cj d (ws.map wd) L i m).map yF)) ⟨c,y,2,s4,g^h3,t3.same g⟩ ?_ ?_]
   ·rintro m x I hm ⟨c,y,rfl,s5,h5,Z⟩;let IY:m<L:=∅
    let em:(1:Int)+ (m:Int)=((m+ 1:Nat):Int):=∅
    let iJ:M11.pl ((m+ 1:Nat):Int)=2* m:=by unfold M11.pl;rw[ajn ∅];ext
    let⟨r',e1,e2⟩:=C.val i (2* m) j ∅;let er:row=r':=Za0 (Y.symm.trans e1);subst er;let WW:=C.lt i (2* m) j ∅;rw[Kn,WV C hF F.lw j IY];rwa[⟨15,λ_ _ h=>h⟩];rw[em];erw[1212121212,((m+ 1:Nat):Int),233];rw[iJ];erw[R,11122,aB.of (s5^S),ck (bT e2)];rwa[⟨wl,ws.map wd,i,M11.nx d (2* m) i,((m+ 1:Nat):Int),2,hW.same s5,33,λX z=>?_⟩];let s6:=s5.trans z;let h6:=z^h5;let t6:=Z.same z;erw[12]
    cases htw:tw (ws.map wd) i ((m+ 1:Nat):Int) (M11.nx d (2* m) i) with
    |true=>rwa[dI ?_];rw[show (if (!true)=true then [(i,m)] else [])=([]:List (Nat×Nat)) from rfl,ajm];rwa[c,12,s6,h6,t6]
    |false=>
     rwa[eV ?_];rw[show (if (!false)=true then [(i,m)] else [])=[(i,m)] from rfl,ajt];rwa[⟨12,.inl ⟨21,aB.of h6⟩,1212,Za4 2,λq hq=>?_⟩];let l:aq X (upd X q (.tup [.int (i:Int),.int ((m+ 1:Nat):Int)])):=aq.upd hq;let N:upd X q (.tup [.int (i:Int),.int ((m+ 1:Nat):Int)]) q\(.tup (ao (yF (i,m)))):=aj;change upd X q _=H7 at l N ⊢;let h7:=l^h6;erw[f,1122,h7,5]
     ·rw[ai6,t6.1,ai6];let h1:=C3 d (ws.map wd) L i m;let h2:i* L<=300* 40:=ak1 ∅ Km;rwa[aje (show _<=20000 by omega) ⋯]
     erw[c++[q],12,λb o e=>[ak (av e B)]▸l^s6^e,by rw[aj,ajt];rfl];rwa[qF ((t6.same l).snoc N) h7]
   ·rintro x I ⟨c,y,rfl,s5,h5,Z⟩;rw[show ((L:Int)+ 1 - 1).toNat=L by ext,Nb]at Z;rwa[c,1112,s5,h5,Z]
  ·rintro x t ⟨c,v3,v4,y,rfl,s3,h3,t3⟩;rw[ai6,D.1]at t3;rwa[12,k f ws t (s1.trans s3) (s1.free B) F ⟨c,h3,t3⟩]
def C5 {X Y:Za3}{c:Nat×Nat}(h:c∈cj X Y n m 0):c.1<m/\c.2<n:=by unfold cj at h;let b:=(akk.mp h).1;unfold cells at b;rw[List.range_zero,List.map_nil,ajm]at b;let⟨j,e,f⟩:=aj9.mp b;let⟨a,d,rfl⟩:=ajN.mp f;rwa[ajJ.mp e,ajJ.mp d]
def C6 {rs:Zn}{rows:Za3}{row':Zg}(h:cR H rs rows)(m:rs.Nodup)(f:rs[j]?\a):cR (upd H a (.lst (ao row'))) rs (rows.set j row'):=by
 rwa[⟨[aju]▸h.1,λi q k c b=>?_⟩];cases e:i=j
 ·subst e;let g:q=a:=Za0 (c.symm.trans f);subst g
  let l:i<⇑rows:=by have:=(ai4.mp b).1;rw[aju]at this;rwa[this]
  rw[ajE l]at b;rw[aj,Za0 b]
 ·rw[ajS (akg e)]at b
  let d:q≠a:=λz=>by subst z;rwa[e ((ak2 (ai4.mp c).1 m).mp (c.trans f.symm))]
  rw[ak d];rwa[h.2 i q k c b]
structure Own (H0 H:Hp)(l:Zs)(rs:Zn)(rows:Za3)(L p:Nat):Prop where
 same:aq H0 H
 at_:H l\(.lst (rs.map V.ref))
 rw_:cR H rs rows
 nd:rs.Nodup
 new:∀r∈rs,H0 r=none
 ahV:H0 l=none
 out:l∉rs
 len:⇑rows=L
 pm:∀r∈rows,M11.Pm p r
def Nc (p:Nat):(List.replicate p [V.int 0]).flatten=ao (List.replicate p (0:Int)):=by
 unfold ao;rw[List.map_replicate]
 induction p with
 |zero=>rfl
 |succ n a=>rw[akN,alm,a,akN];rfl
def pos (J:List (Nat×Nat))(c:Nat×Nat):Nat:=if c∈J then J.idxOf c+ 1 else 0
def num (T:Za3)(J:List (Nat×Nat))(i k:Nat):Int:=if k % 2=0 then (pos J (i,k / 2):Int) else -(pos J (M11.nx T k i,k / 2):Int)
def Ks (J:List (Nat×Nat))(c:Nat×Nat):pos J c<=⇑J:=by
 unfold pos;split
 ·rename_i h;rwa[List.idxOf_lt_length_of_mem h]
 ·rwa[ajB _]
def sU (T:Za3)(J:List (Nat×Nat))(i k:Nat):(num T J i k).natAbs<=⇑J:=by
 unfold num;split
 ·have:=Ks J (i,k / 2);ext
 ·have:=Ks J (M11.nx T k i,k / 2);ext
def Nf {T:Za3}(c:M11.Tab n T)(J:List (Nat×Nat)){i k:Nat}(d:i<⇑T)(b:k<2* n):num T J (M11.nx T k i) (M11.flip k)= -(num T J i k):=by
 let a:=c.back i k d b;unfold num;unfold M11.flip at a ⊢;cases h:k % 2=0
 ·rw[ajn h]at a ⊢;rw[ajk ∅,ajn h,a,show (k+ 1) / 2=k / 2 by ext]
 ·rw[ajk h]at a ⊢;rw[ajn ∅,ajk h,ako,show (k - 1) / 2=k / 2 by ext]
def tell (T:Za3)(J:List (Nat×Nat)):Zg->Nat->Zg
 |[],_=>[]
 |s::w,r=>(if num T J r (M11.pl s)=0 then [] else [num T J r (M11.pl s)])++tell T J w (M11.nx T (M11.pl s) r)
theorem C7 (T:Za3)(J:List (Nat×Nat)):∀(w u:Zg)(r:Nat),tell T J (w++u) r=tell T J w r++tell T J u (M11.walk T w r)
 |[],u,r=>rfl
 |s::w,u,r=>by show _++tell T J (w++u) _=_++tell T J w _++_;rw[C7 T J w u,ajK];rfl
theorem gM {T:Za3}{J:List (Nat×Nat)}:∀{w:Zg}{r:Nat}{x:Int},x∈tell T J w r->x≠0/\x.natAbs<=⇑J
 |[],r,x,h=>by ext h
 |s::w,r,x,h=>by
  rcases ajh.mp h with h|h
  ·split at h
   ·ext h
   ·rename_i a;rw[ai9.mp h];rwa[a,sU _ _ _ _]
  ·rwa[gM h]
theorem qG (T:Za3)(J:List (Nat×Nat)):∀(w:Zg)(r:Nat),⇑(tell T J w r)<=⇑w
 |[],r=>aja _
 |s::w,r=>by
  let h:=qG T J w (M11.nx T (M11.pl s) r);show ⇑(_++tell T J w _)<=_;rw[ai3,ajo];split
  ·simp only[ajQ];ext
  ·simp only[aj2];ext
def Kt {T:Za3}(b:M11.Tab n T){w:Zg}{r:Nat}(a:M11.aV n w)(c:r<⇑T):M11.walk T (M11.back w) (M11.walk T w r)=r:=by have:=M11.nk b a c;rw[M11.eG]at this;ext
def Ku (s:Int)(w:Zg):M11.back (s::w)=M11.back w++[-s]:=by unfold M11.back;rw[ams,ajt];rfl
def jZ (X:Za3)(n:Int):Zg:=if 0<n then X.getD (n.natAbs - 1) [] else M11.back (X.getD (n.natAbs - 1) [])
def nY (X:Za3)(n:Int)(h:n≠0):jZ X (-n)=M16.back (jZ X n):=by
 unfold jZ;rw[Int.natAbs_neg];cases a:0<n
 ·rw[ajn a,ajk ∅];rfl
 ·rw[ajk a,ajn ∅];rwa[(M16.kK _).symm]
def pos_at {J:List (Nat×Nat)}{c:Nat×Nat}(h:c∈J):J[pos J c - 1]?\c/\pos J c≠0:=by unfold pos;rw[ajn h];rwa[⟨53⟩];rw[amk,ai1 (List.idxOf_lt_length_of_mem h),List.getElem_idxOf]
def cell_in (b:i<m)(a:j<n):(i,j)∈cells n m 0:=by unfold cells;rwa[ajh.mpr (.inl (aj9.mpr ⟨i,ajJ.mpr b,ajN.mpr ⟨j,ajJ.mpr a,2⟩⟩))]
section
variable {L:Nat}{T W:Za3}
def C8 (t:M11.Tab L T){r m:Nat}(p:r<⇑T)(s:m<L):
 (pos (cj T W L ⇑T 0) (r,m)=0->M16.thin (bF W r++[((m+ 1:Nat):Int)]++M11.back (bF W (M11.nx T (2* m) r)))=[])/\
 (pos (cj T W L ⇑T 0) (r,m)≠0->M16.thin (jZ ((cj T W L ⇑T 0).map (oz T W)) (pos (cj T W L ⇑T 0) (r,m):Int))=M16.thin (bF W r++[((m+ 1:Nat):Int)]++M11.back (bF W (M11.nx T (2* m) r)))):=by
 let d:(r,m)∈cj T W L ⇑T 0↔nX T W (r,m)=true:=by unfold cj;rw[akk];rwa[λh=>h.2,λh=>⟨cell_in p s,h⟩]
 cases g:nX T W (r,m) with
 |false=>
  let q:(r,m)∉cj T W L ⇑T 0:=λz=>by rw[d.mp z]at g;ext g
  let n:pos (cj T W L ⇑T 0) (r,m)=0:=by unfold pos;rw[ajk q]
  rwa[⟨λ_=>?_,λh=>absurd n h⟩];unfold nX at g;let f:(!decide (bF W (M11.nx T (2* m) r)=bF W r++[((m+ 1:Nat):Int)]) && !decide (bF W r=bF W (M11.nx T (2* m) r)++[-((m+ 1:Nat):Int)]))=false:=g;cases k:bF W (M11.nx T (2* m) r)=bF W r++[((m+ 1:Nat):Int)]
  ·rw[k];rwa[M16.oS _]
  ·rw[ajV k]at f
   let i:bF W r=bF W (M11.nx T (2* m) r)++[-((m+ 1:Nat):Int)]:=by
    cases i:bF W r=bF W (M11.nx T (2* m) r)++[-((m+ 1:Nat):Int)]
    ·rwa[i]
    ·rw[ajV i]at f;ext f
   rw[i];let e:=M16.mid (a:=bF W (M11.nx T (2* m) r)) (b:=[-((m+ 1:Nat):Int),((m+ 1:Nat):Int)]) (c:=M11.back (bF W (M11.nx T (2* m) r))) (M16.tN [((m+ 1:Nat):Int)]);rw[show bF W (M11.nx T (2* m) r)++[-((m+ 1:Nat):Int),((m+ 1:Nat):Int)]=bF W (M11.nx T (2* m) r)++[-((m+ 1:Nat):Int)]++[((m+ 1:Nat):Int)] by simp]at e;rw[e];rwa[M16.oS _]
 |true=>let j:=d.mpr g;let⟨o,l⟩:=pos_at j;rwa[⟨λh=>absurd h l,λ_=>?_⟩];unfold jZ;rw[ajn ∅,Int.natAbs_natCast,ai8,ajc,o];show M16.thin (oz T W (r,m))=_;show M16.thin (M16.thin _)=_;rwa[M16.Ja _]
def RP (c:M11.Tab L T){r:Nat}{s:Int}(i:r<⇑T)(p:s≠0/\s.natAbs<=L):
 (num T (cj T W L ⇑T 0) r (M11.pl s)=0->M16.thin (bF W r++[s]++M11.back (bF W (M11.nx T (M11.pl s) r)))=[])/\
 (num T (cj T W L ⇑T 0) r (M11.pl s)≠0->M16.thin (jZ ((cj T W L ⇑T 0).map (oz T W)) (num T (cj T W L ⇑T 0) r (M11.pl s)))=M16.thin (bF W r++[s]++M11.back (bF W (M11.nx T (M11.pl s) r)))):=by
 cases o:0<s
 ·obtain⟨m,rfl⟩:∃m:Nat,s=((m+ 1:Nat):Int):=⟨s.natAbs - 1,3⟩
  let d:M11.pl ((m+ 1:Nat):Int)=2* m:=by unfold M11.pl;rw[ajn ∅];ext
  let j:num T (cj T W L ⇑T 0) r (2* m)=(pos (cj T W L ⇑T 0) (r,m):Int):=by unfold num;rw[ajn ∅,show 2* m / 2=m by ext]
  let hf:=C8 (W:=W) c i (show m<L by omega);rw[d,j];rwa[λh=>hf.1 ∅,λh=>hf.2 ∅]
 ·obtain⟨m,rfl⟩:∃m:Nat,s= -((m+ 1:Nat):Int):=⟨s.natAbs - 1,3⟩
  let d:M11.pl (-((m+ 1:Nat):Int))=2* m+ 1:=by unfold M11.pl;rw[ajk ∅];ext
  let k:2* m+ 1<2* L:=∅
  let g:=c.lt r (2* m+ 1) i k;let l:=c.back r (2* m+ 1) i k;let f:M11.flip (2* m+ 1)=2* m:=by unfold M11.flip;rw[ajk ∅];ext
  rw[f]at l
  let j:num T (cj T W L ⇑T 0) r (2* m+ 1)= -(pos (cj T W L ⇑T 0) (M11.nx T (2* m+ 1) r,m):Int):=by unfold num;rw[ajk ∅,show (2* m+ 1) / 2=m by ext]
  let hf:=C8 (W:=W) c g (show m<L by omega);rw[d,j];rw[l]at hf;change M11.nx T (2* m+ 1) r=e at hf
  let n:bF W r++[-((m+ 1:Nat):Int)]++M11.back (bF W e)=M16.back (bF W e++[((m+ 1:Nat):Int)]++M11.back (bF W r)):=by rw[M16.BJ,M16.zq,show M16.back (M11.back (bF W r))=bF W r from M16.kK _,<-ajK];rfl
  rw[n];rwa[⟨λh=>?_,λh=>?_⟩]
  ·have:=M16.wc (a:=bF W e++[((m+ 1:Nat):Int)]++M11.back (bF W r)) (b:=[]) (by rw[hf.1 ∅];rfl);rwa[this]
  ·rw[nY _ _ ∅];rwa[M16.wc (hf.2 ∅)]
theorem Fx (g:M11.Tab L T):∀{w:Zg}{r:Nat},M11.aV L w->r<⇑T->M16.thin (M16.fill (jZ ((cj T W L ⇑T 0).map (oz T W))) (tell T (cj T W L ⇑T 0) w r))=M16.thin (bF W r++w++M11.back (bF W (M11.walk T w r)))
 |[],r,_,_=>by rw[ajm];rwa[(M16.oS _).symm]
 |s::w,r,l,j=>by
  let⟨k,f⟩:=eS l;let i:=g.lt r (M11.pl s) j (M11.eA k);let n:=Fx g f i;let e:=RP (W:=W) g j k;let m:M11.walk T (s::w) r=M11.walk T w (M11.nx T (M11.pl s) r):=rfl;rw[m];show M16.thin (M16.fill _ ((if num T (cj T W L ⇑T 0) r (M11.pl s)=0 then [] else [num T (cj T W L ⇑T 0) r (M11.pl s)])++tell T (cj T W L ⇑T 0) w (M11.nx T (M11.pl s) r)))=_;rw[M16.je];change M11.nx T (M11.pl s) r=d at *;change M11.walk T w d=q at *
  let o:M16.thin (M16.fill (jZ ((cj T W L ⇑T 0).map (oz T W))) (if num T (cj T W L ⇑T 0) r (M11.pl s)=0 then [] else [num T (cj T W L ⇑T 0) r (M11.pl s)]))=M16.thin (bF W r++[s]++M11.back (bF W d)):=by
   cases h:num T (cj T W L ⇑T 0) r (M11.pl s)=0
   ·rw[ajn h,e.1 h];rfl
   ·rw[ajk h,M16.ml];rwa[e.2 h]
  rw[M16.congr o n];have:=M16.mid (a:=bF W r++[s]) (b:=M11.back (bF W d)++bF W d) (c:=w++M11.back (bF W q)) (M16.tN _);rw[show bF W r++[s]++M11.back (bF W d)++(bF W d++w++M11.back (bF W q))=bF W r++[s]++(M11.back (bF W d)++bF W d)++(w++M11.back (bF W q)) by simp,this];simp
end
def RT:Sp:=λc H Q _=>∃(a:Zs)(ns:Zg),c=[↑a]/\H a\.lst (ao ns)/\⇑ns<=1000000/\∀l b,aq H b->b l\.tup (ao (fm ns))->Q ↑l b
def Hh:T.yw.Ok P w base 1 RT:=by
 rwa[T.yw.on qA (λS AA D s H vs Q E hr h=>?_) (len:=by rintro _ _ _ _ ⟨a,ns,rfl,_⟩;rfl)]
 ·let⟨a,ns,rfl,M,hlen,k⟩:=h
  erw[_,{bE 1 qA.nd (b9 ai),b8 ajz rfl (cN (pv 0)) (dc 2 qA.nd)
    {bL (bP (PW.pt (vE (uM (pv 1) (λ_=>rfl)) (tf (bf fU (1|||(da cL aw)) (da cL (pv 2)) (bp _)))))
     {aS (AU ajj alP alQ AX (pv 1))}
     {aS (cO ajj ajq ajr bJ (pv 1) #[2])})},bu (dF iW rfl T.pk akY #[1])}]
  rwa[dN ?_];intro Z N;rwa[⟨ajB _,λlk f=>?_⟩];let F:aq H (upd H lk (.lst [])):=aq.upd f;let I:upd H lk (.lst []) lk\(.lst (ao [])):=aj;change upd H lk _=H0 at F I ⊢;erw[12,a,2,⟨_,aB.of (F^M)⟩];rwa[dC (xs:=ao ns) (λi x j=>∃(v:Zc),x=#v[↑a,↑lk,v]/\aq H j/\j lk\.lst (ao ((ns.take i).foldl sn []))) ⟨none,2,F,I⟩ (λi x j _ ζ=>by let⟨_,_,s,_⟩:=ζ;rwa[aB.of (s^M)]) ?_ ?_]
  ·rintro i y x j X ⟨v,rfl,s2,n⟩;let⟨z,rfl,R⟩:=cf X
   let g:(ns.take (i+ 1)).foldl sn []=sn ((ns.take i).foldl sn []) z:=by rw[akf,R,aj8];rfl
   let p:⇑((ns.take i).foldl sn [])<=1000000:=by have:=sT (ns.take i) [];rw[ajD,ajQ]at this;ext
   rw[g];change (ns.take i).foldl sn []=u at n p ⊢;rwa[⟨15,λ_ _ h=>h⟩];let d:=n;let L:=s2
   let app:¬(u.getLast?\(-z))->∃v:Zc,[some (V.ref a),some (V.ref lk),some (V.int z)]=[some (V.ref a),some (V.ref lk),v]/\aq H (upd j lk (.lst (ao u++[V.int z])))/\upd j lk (.lst (ao u++[V.int z])) lk\(.lst (ao (sn u z))):=λB=>by erw[12,λb o e=>[ak (av e f)]▸L^e];unfold sn;rw[aj,ajk B,ints_app];rfl
   let r:⇑u<sizeLine:=aje p ⋯;erw[121,.inl ⟨_,aB.of d,2⟩];cases t:u=[]
   ·rw[show (!(ao u).isEmpty)=false by rw[t];rfl];rwa[dI (dI ?_)];rwa[12,.inl ⟨21,aB.of d⟩,12,lk,1122,d,[az]▸r,app (by rw[t];intro z;ext z)]
   ·rw[show (!(ao u).isEmpty)=true by cases u with|nil=>exact absurd rfl t|cons a b=>rfl];rwa[eV ?_];obtain⟨m,e,rfl⟩:∃m e,u=m++[e]:=⟨u.dropLast,u.getLast t,(akH t).symm⟩;let G:ao (m++[e])=ao m++[V.int e]:=by rw[ints_app];rfl
    let C:jI (ao (m++[e])) (-(1:Int))\(V.int e):=by rw[G];rwa[K6 _ _]
    erw[1212,lk,11122,aB.of d,C,1212];erw[212];let c:(m++[e]).getLast?\e:=by simp
    rwa[cP (λh=>?_) (λh=>?_)]
    ·let Y:e= -z:=by let O:V.int e=V.int (-z):=ajX h;injection O
     erw[12,.inl ⟨21,aB.of d⟩,lk,_,V.int e,22,d,512,λb o J=>[ak (av J f)]▸L^J]
     ·rw[G,ai3,aj2,amk,ajg (aja _),aks];rfl
     ·unfold sn;rw[aj,ajn (by rw[c,Y]),G,ali,ali]
    ·rwa[12,.inl ⟨21,aB.of d⟩,12,lk,1122,d,[az]▸r,app (by rw[c];intro q;injection q with q;rwa[h (ajI (by rw[q]))])]
  ·rintro x j ⟨v,rfl,s2,n⟩;rw[az,akd]at n;rwa[12,lk,12,.inl ⟨aB.of n,λl U=>k l _ (s2.trans (aq.upd U)) aj⟩]
def sV (w:Zg):Zg:=w.map λs=>((M11.pl s:Nat):Int)
inductive Kv (vs:Zb)(H:Hp)(Q:VK)(E_:XK):Prop
 |mk (a:Zs)(w:Zg)(L:Nat):vs=[↑a]->H a\.tup (ao w)->M11.aV L w->L<=1000->⇑w<=100000->(∀l H',aq H H'->H l=none->H' l\.lst (ao (sV w))->Q ↑l H')->Kv vs H Q E_
structure j0 (L:Nat)(T:Za3)(J:List (Nat×Nat))(N:Za3):Prop where
 len:⇑N=⇑T
 at_:∀i,i<⇑T->∃row,N[i]?\row/\⇑row=2* L/\∀k,k<2* L->row[k]?\(num T J i k)
inductive Kw (vs:Zb)(H:Hp)(Q:VK)(E_:XK):Prop
 |mk (a:Zs)(T:Za3)(L:Nat):vs=[↑a]->TabAt H a T->M11.Tab L T->M12.Fc (2* L) T.flatten ⇑T->(∀l ws N H',aq H H'->LW L T ws->TabAt H' l N->j0 L T (cj T (ws.map wd) L ⇑T 0) N->Q ↑l H')->Kw vs H Q E_
inductive Kx (vs:Zb)(H:Hp)(Q:VK)(E_:XK):Prop
 |mk (na a pa:Zs)(T N:Za3)(J:List (Nat×Nat))(L r:Nat)(w:Zg):vs=[↑na,↑a,.int r,↑pa]->TabAt H na N->j0 L T J N->TabAt H a T->M11.Tab L T->r<⇑T->H pa\.lst (ao (sV w))->M11.aV L w->⇑w<=100000->(∀l H',aq H H'->H' l\.tup (ao (fm (tell T J w r)))->Q ↑l H')->Kx vs H Q E_
inductive C9 (vs:Zb)(H:Hp)(Q:VK)(E_:XK):Prop
 |mk (a wa:Zs)(T:Za3)(L r:Nat)(w:Zg):vs=[↑a,.int r,↑wa]->TabAt H a T->M11.Tab L T->M12.Fc (2* L) T.flatten ⇑T->r<⇑T->H wa\.tup (ao w)->M11.aV L w->⇑w<=100000->(∀l ws H',aq H H'->LW L T ws->H' l\.tup (ao (fm (tell T (cj T (ws.map wd) L ⇑T 0) w r)))->Q ↑l H')->C9 vs H Q E_
def WX {w:Zg}(h:w[n]?\z):(sV w)[n]?\((M11.pl z:Nat):Int):=by unfold sV;rw[ajc,h];rfl
def Fy (w:Zg):⇑(sV w)=⇑w:=by unfold sV;rw[ai6]
def sW:T.nM.Ok P w base 2 Kv:=by
 rwa[T.nM.on Ce (λj t d s H q Q E l h=>?_)]
 ·let⟨a,w,L,rfl,b,c,r,hlen,k⟩:=h;erw[_,{bu (fN (fns:=[]) (ixs:=[]) (cl:=[]) rfl (oE (pv 0)) (cu [] rfl True.intro rfl) (λC s H ex=>(pc T.jf (iV T) l #[0])))}];erw[12,a,2,⟨_,bG.of b⟩];rwa[gy (ao w) (λv=>match v with|.int z=>.int ((M11.pl z:Nat):Int)|v=>v) (A1 (bG.of b)) (xS (bG.of b)) (uP (bG.of (K:=K) b)) ([az]▸ajl hlen ⋯) (λi x o R p=>?_) (λD f=>?_)]
  ·let⟨z,rfl,g⟩:=cf o;let n:=c z (ai5 g);rwa[12,z,2,n.1,3,p]
  ·let e:((ao w).map λv=>match v with|.int z=>V.int ((M11.pl z:Nat):Int)|v=>v)=ao (sV w):=by unfold ao sV;rw[ajM,ajM];rfl
   rw[e];rwa[k D _ (aq.upd f) f aj]
def Ky {T:Za3}{J:List (Nat×Nat)}{w:Zg}(h:w[n]?\z):tell T J (w.take (n+ 1)) m=tell T J (w.take n) m++(if num T J (M11.walk T (w.take n) m) (M11.pl z)=0 then [] else [num T J (M11.walk T (w.take n) m) (M11.pl z)]):=by rw[akf,h];show tell T J (w.take n++[z]) m=_;rw[C7];show _++(_++[])=_;rw[ajm]
def xF:T.tT.Ok P w base 2 Kx:=by
 rwa[T.tT.on jU (λcw AA outer s H vs Q E hr h=>?_)]
 ·let⟨na,a,pa,TT,N,J,L,r,w,rfl,WY,hN,m,X,hr0,C,p,hlen,k⟩:=h
  erw[_,{bE 4 jU.nd (b9 ai),b8 ajz rfl (cN (pv 3)) (dc 5 jU.nd)
    {bE 6 jU.nd ((0|||2)|||5),bL (bP (bf pS (pv 6) aw (bp _))
     {aS (cO ajj ajq ajr bJ (pv 4) #[6])}
     bC),bE 2 jU.nd ((1|||2)|||5)},bu (pc T.yw (Hh T) hr #[4])}]
  rwa[dN ?_];intro eD fq;rwa[⟨ajB _,λlt d=>?_⟩];let Y:aq H (upd H lt (.lst [])):=aq.upd d;let h0:upd H lt (.lst []) lt\(.lst (ao (tell TT J (w.take 0) r))):=aj;change upd H lt _=H0 at Y h0 ⊢;erw[12,pa,2,⟨_,aB.of (Y^C)⟩];rwa[dC (xs:=ao (sV w)) (λn D g=>∃v5 U:Zc,D=#v[↑na,↑a,.int ((M11.walk TT (w.take n) r:Nat):Int),↑pa,↑lt,v5,U]/\aq H g/\g lt\.lst (ao (tell TT J (w.take n) r))) ⟨none,none,2,Y,h0⟩ (λn D g _ ζ=>by let⟨_,_,_,s,_⟩:=ζ;rwa[aB.of (s^C)]) ?_ ?_]
  ·rintro n y D g hn ⟨v5,U,rfl,s2,f⟩;let⟨p0,rfl,x⟩:=cf hn
   let xm:n<⇑w:=by have:=(ai4.mp x).1;rw[Fy]at this;rwa[this]
   let j:w[n]?=some w[n]:=ai1 xm
   change w[n]=z at j;let ep:=WX j;rw[x]at ep;let O:=Za0 ep;subst O;let Z:=p z (ai5 j);let hk:=M11.eA Z;let c:=M11.kc X (λs Z=>p s (alj Z):M11.aV L (w.take n)) hr0;let v:=qG TT J (w.take n) r;rw[ajD]at v;rw[Ky j,zM j];generalize hq:M11.walk TT (w.take n) r=q at c;let⟨row,g1,g2,g3⟩:=hN.at_ q c;let⟨ns,hns,i⟩:=WY.same s2;let pH:q<⇑ns:=by rw[i.1,hN.len];rwa[c]
   let g4:ns[q]?=some ns[q]:=ai1 pH
   change ns[q]=nr at g4;let t:=i.2 q nr row g4 g1;let⟨rs,rr,ahW,t1,t2,t3,t4,t5⟩:=lO (m.same s2) X c;erw[1212,na,11,↑nr,22,aB.of hns,cM g4,12,nr,11122,aB.of t,ck (bT (g3 _ hk))];erw[λ B H'=>B=#v[↑na,↑a,.int ((q:Nat):Int),↑pa,↑lt,.int ((M11.pl z:Nat):Int),.int (num TT J q (M11.pl z))]/\aq H H'/\(∀b o,b≠lt->g b\o->H' b\o)/\H' lt\.lst (ao (tell TT J (w.take n) r++(if num TT J q (M11.pl z)=0 then [] else [num TT J q (M11.pl z)]))),5]
   ·erw[12212];cases h:num TT J q (M11.pl z)=0
    ·rwa[pU (by rw[h]) ⟨2,s2,λ_ _ _ e=>e,5⟩];rw[ajn h,ajm];rwa[f]
    ·rwa[cP (λ_=>?_) (λhh=>absurd (by rw[ajV (λe=>h (by injection e))];rfl) hh)];erw[12,.inl ⟨21,aB.of f⟩,12,lt,1122,f,52,λb o e=>[ak (av e d)]▸s2^e,λb o hb e=>[ak hb]▸e]
     ·rw[az];rwa[aje (show ⇑(tell TT J (w.take n) r)<=100000 by omega) ⋯]
     ·rw[aj,ajk h,ints_app];rfl
   rintro B H3 ⟨rfl,F,k3,R⟩;let P1:∀b o,H b\o->b≠lt:=λb o e=>av e d
   let⟨rs',u,row',S,M,G,t4',I⟩:=lO (m.same F) X c;erw[1212,a,11,↑u,22,aB.of S,cM M,12,u,11122,aB.of G,ck (bT (I _ hk))];rwa[112,F,R]
  ·rintro D g ⟨v5,U,rfl,s2,f⟩;rw[az,Fy,akd]at f;let v:=qG TT J w r;rwa[12,lt,12,f,3,λl H3 F R=>k l H3 (s2.trans F) R]
def Fz {J:List (Nat×Nat)}{c d:Nat×Nat}(h:c∉J):pos (J++[c]) d=if d=c then ⇑J+ 1 else pos J d:=by
 unfold pos
 cbv
def j0.step {T N:Za3}{J:List (Nat×Nat)}{row:Zg}{v:Int}(s:M11.Tab n T)(h:j0 n T J N)(hc:(m,i)∉J)(y:m<⇑T)(F:i<n)(B:v=((⇑J+ 1:Nat):Int))(C:N[m]?\row)(r:(N.set m (row.set (2* i) v))[M11.nx T (2* i) m]?\l):
 j0 n T (J++[(m,i)]) ((N.set m (row.set (2* i) v)).set (M11.nx T (2* i) m) (l.set (2* i+ 1) (-v))):=by
 let E:=s.lt m (2* i) y ∅;let x:=s.back m (2* i) y ∅;let t:M11.flip (2* i)=2* i+ 1:=by unfold M11.flip;rw[ajn ∅]
 rw[t]at x;generalize u:M11.nx T (2* i) m=o at *
 let mh:∀a,a<⇑T->∃b,(N.set m (row.set (2* i) v))[a]?\b/\⇑b=2* n/\∀k,k<2* n->b[k]?\(if a=m/\k=2* i then v else num T J a k):=λa g=>by
  let⟨b,a1,p,j⟩:=h.at_ a g;cases e:a=m
  ·subst e;let er:b=row:=Za0 (a1.symm.trans C);subst er;rwa[⟨_,ajE ([h.len]▸g),[aju]▸p,λk c=>?_⟩];cases f:k=2* i
   ·subst f;rw[ajn ⟨22⟩,ajE ∅]
   ·rw[ajk (λz=>f z.2),ajS (akg f)];rwa[j k c]
  ·rwa[⟨b,[ajS (akg e)]▸a1,p,λk c=>?_⟩];rw[ajk (λz=>e z.1)];rwa[j k c]
 rwa[⟨[aju,aju]▸h.len,λa g=>?_⟩]
 let key:∀k,k<2* n->(if a=o/\k=2* i+ 1 then -v else if a=m/\k=2* i then v else num T J a k)=num T (J++[(m,i)]) a k:=λk c=>by
  unfold num;cases d:k % 2=0
  ·rw[ajn d,ajn d,ajk (λz=>∅),Fz hc];cases e:(a,k / 2)=(m,i)
   ·let r:a=m:=ajY Prod.fst e;let D:k / 2=i:=ajY Prod.snd e;rw[ajn ⟨r,3⟩,ajn e,B]
   ·rw[ajk (λz=>e (by rw[z.1,show k / 2=i by ext])),ajk e]
  ·rw[ajk d,ajk d,Fz hc];cases e:(M11.nx T k a,k / 2)=(m,i)
   ·let r:M11.nx T k a=m:=ajY Prod.fst e;let D:k / 2=i:=ajY Prod.snd e;let f:k=2* i+ 1:=∅
    subst f;let q:=s.back a (2* i+ 1) g c;rw[show M11.flip (2* i+ 1)=2* i by unfold M11.flip;rw[ajk ∅];ext,r,u]at q;rw[ajn ⟨q.symm,2⟩,ajn e,B]
   ·rw[ajk (λz=>e (by rw[z.1,z.2,x,show (2* i+ 1) / 2=i by ext])),ajk (λz=>∅),ajk e]
 cases e:a=o
 ·subst e;let⟨b,a1,p,j⟩:=mh a g;let er:b=l:=Za0 (a1.symm.trans r);subst er;rwa[⟨_,ajE ([aju,h.len]▸g),[aju]▸p,λk c=>?_⟩];rw[<-key k c];cases f:k=2* i+ 1
  ·subst f;rw[ajn ⟨22⟩,ajE ∅]
  ·rw[ajk (λz=>f z.2),ajS (akg f)];rwa[j k c]
 ·let⟨b,a1,p,j⟩:=mh a g;rwa[⟨b,[ajS (akg e)]▸a1,p,λk c=>?_⟩];rw[<-key k c,ajk (λz=>e z.1)];rwa[j k c]
def j0.zero {T:Za3}:j0 n T [] (List.replicate ⇑T (List.replicate (2* n) 0)):=by
 rwa[⟨ala,λi a=>⟨List.replicate (2* n) 0,5,ala,λk b=>?_⟩⟩]
 ·rw[List.getElem?_replicate,ajn a]
 ·rw[List.getElem?_replicate,ajn b];unfold num pos;simp
def Kz {K:Za1}{Q:VK}{rs:Zn}{rows:Za3}(k:H a\.lst (rs.map V.ref))(p:cR H rs rows)(Y:⇑rows<=1000)(hlen:∀row∈rows,⇑row=n)(U:∀(d:Hp) (b:Zs) (ns:Zg) (R:VK),d b\.lst (ao ns)->⇑ns=n->(∀l o,aq d o->d l=none->o l\.lst (ao (List.replicate n 0))->R ↑l o)->r (some ↑b::D) d R)(M:∀c d f,aq H d->d c=none->cR d f (List.replicate ⇑rows (List.replicate n 0))->f.Nodup->(∀q∈f,H q=none)->Q ↑c (upd d c (.lst (f.map V.ref)))):kI r D Q (AF K a) H:=by
 let E:=p.1;erw[λi m ys d=>m=⇑rs - i/\i<=⇑rs/\∃f:Zn,ys=f.map V.ref/\aq H d/\cR d f (List.replicate i (List.replicate n 0))/\f.Nodup/\∀q∈f,H q=none,⟨⇑rs,by simp,ajB _,[],2,λ_ _ e=>e,⟨2,λi b ns S=>by simp at S⟩,by simp,by simp⟩];rintro i m ys d ⟨rfl,Z,f,rfl,s2,g,v,j⟩;let t:⇑f=i:=by have:=g.1;rw[ala]at this;rwa[this]
 cases h:i<⇑rs
 ·let J:rs[i]?=some rs[i]:=ai1 h
  let F:i<⇑rows:=∅
  let I:rows[i]?=some rows[i]:=ai1 F
  let T:=p.2 i _ _ J I;rwa[.inr ⟨jJ (aB.of (s2^k)) i ([ai6]▸h),[ai6,t]▸aje (show i<=1000 by omega) ⋯,λx o C=>?_⟩];let⟨rfl,B⟩:=il (aB.of (s2^k)) i x o ([ai6]▸h) C;rw[ajc,J]at B;let ex:V.ref rs[i]=x:=Za0 B;subst ex;rwa[U o _ _ _ (s2^T) (hlen _ (ai5 I)) λl X G L O=>?_]
  erw[⇑rs - (i+ 1),32,h,f++[l],by cbv,s2.trans G,55]
  ·rw[List.replicate_succ'];rwa[(g.same G).snoc O]
  ·rw[aj0];rwa[⟨v,by simp,λx B y C=>?_⟩];rw[ai9.mp C];intro z;let⟨ns,u⟩:=kr g B;rw[z,L]at u;ext u
  ·intro q s;rcases ajh.mp s with s|s
   ·rwa[j q s]
   ·rw[ai9.mp s];rwa[s2.free L]
 ·let e:i=⇑rs:=∅
  rwa[.inl ⟨5,[ai6,t]▸ajl (show i<=1000 by omega) ⋯,λc N=>?_⟩]
  ·have:=gF (K:=K) (aB.of (s2^k));rw[ai6,<-e]at this;rwa[this]
  ·rw[e,E]at g;rwa[M c d f s2 N g v j]
def Ng (L n:Nat):(cells L n 0).Nodup:=by
 unfold cells;rw[List.range_zero,List.map_nil,ajm];rw[alX]
 induction n with
 |zero=>simp
 |succ n b=>
  rw[aj3,akj,List.pairwise_append];rwa[⟨b,5,λx e y a=>?_⟩]
  ·simp only[amu,List.flatMap_nil,ajm];rw[akG];have:=alD (n:=L);rw[alX]at this;rwa[this.imp λh z=>h (ajY Prod.snd z)]
  ·let⟨j,c,d⟩:=aj9.mp e;let⟨m,_,rfl⟩:=ajN.mp d;simp only[amu,List.flatMap_nil,ajm]at a;let⟨g,_,rfl⟩:=ajN.mp a;intro z;let f:j=n:=ajY Prod.fst z;have:=ajJ.mp c;ext
def FC (T W:Za3)(L n:Nat):(cj T W L n 0).Nodup:=(Ng L n).filter _
def Off (a:Zn)(H c:Hp):Prop:=∀b o,b∉a->H b\o->c b\o
def mW:T.iZ.Ok P w base 4 Kw:=by
 rwa[T.iZ.on di (λcw AA outer s H vs Q E hr h=>?_)]
 ·let⟨a,TT,L,rfl,qX,hT,hF,k⟩:=h
  erw[_,{gQ (iy:=1) di.nd rfl (Or.inl rfl) (fns:=[]) (ixs:=[]) (cl:=[]) rfl (cN (pv 0)) (cu [] rfl True.intro rfl) (λC s H ex=>(aO Te (b9 #[aw]) (bD (qI (K:=K) rfl) rfl T.cV ajL #[0]))),b8 ajz rfl (Io rfl T.gT (pc T.iY (mV T) hr #[0]) rfl rfl) (jF rfl (cy (dc 2 di.nd) (cy (dc 3 di.nd) ie)))
    {bE 4 di.nd (3&&&aw),bE 5 di.nd (3&&&aw),bE 6 di.nd ((0|||4)|||(pc T.jf (iV T) hr #[5])),lQ (pv 2) (oD (1|||4) (pc T.jf (iV T) hr #[5]) set_list),lQ (da cL (pv 2)) (oD (1|||6) (pc T.jf (iV T) hr #[da cL (pv 5)]) set_list)},bu (pv 1)}]
  rwa[dN ?_];intro eD fq;let Hg:=hT.top;let Km:=hT.yc;let⟨rs,S,u⟩:=id qX;erw[12,a,2,⟨_,aB.of S⟩];rwa[Kz (n:=2* L) S u ∅ (λrow acU=>by let⟨i,hi⟩:=aj1 acU;rwa[hT.row i row hi]) (λO r ns R h2 g hR=>?_) (λF O d s2 hna Fm Kd ahX=>?_)]
  ·rwa[⟨Za4 1,λq hq=>?_⟩];let sq:aq O (upd O q (.lst [.int 0])):=aq.upd hq;let Kl:upd O q (.lst [.int 0]) q\(.lst [.int 0]):=aj;change upd O q _=H3 at sq Kl ⊢;rwa[⟨12,r,12,.inl (aB.of (sq^h2)),q,1122,Kl,355,λt ht=>?_⟩]
   ·rw[az];ext
   ·rw[az,g,ajG];rwa[ajl (show [V.int 0].length* (2* L)<=80 by simp only[aj2];omega) ⋯]
   ·rw[az,g,ajG,Nc];rwa[hR t _ (sq.trans (aq.upd ht)) (sq.free ht) aj]
  let s3:aq O (upd O F (.lst (d.map V.ref))):=aq.upd hna;let M:upd O F (.lst (d.map V.ref)) F\(.lst (d.map V.ref)):=aj;change upd O F _=H3 at s3 M ⊢;let X:=s2.trans s3;let B:=Fm.same s3
  let y:F∉d:=λz=>by
   let⟨ns,g⟩:=kr Fm z
   cbv
  rwa[⟨12,a,TT,L,2,qX.same X,hT,hF,λli ws H4 s4 n4 WZ hWI=>?_⟩];let⟨ip,E7,hit⟩:=hWI;let W6:∀c∈cj TT (ws.map wd) L ⇑TT 0,c.1<⇑TT/\c.2<L:=λc hc=>C5 hc
  let W7:=FC TT (ws.map wd) L ⇑TT;let hk:=k F ws;change cj TT (ws.map wd) L ⇑TT 0=I at hit W6 W7 hk
  let acV:li∉d:=λz=>by
   let⟨ns,g⟩:=kr B z
   cbv
  let hIl:⇑ip=⇑I:=by have:=hit.1;rw[ai6]at this;rwa[this]
  erw[li,244,⟨_,aB.of E7⟩]
  refine oJ (xs:=ip.map V.ref) (λt σ H5=>∃(N:Za3)(v2 v3 v4 v5 v6:Zc),σ=#v[↑a,↑F,v2,v3,v4,v5,v6]/\Off d H4 H5/\cR H5 d N/\j0 L TT (I.take t) N)
   ⟨_,none,none,none,none,none,2,λ_ _ _ e=>e,B.same s4,[u.1.symm.trans rfl,u.1]▸j0.zero⟩ (λt σ H5 _ ζ=>by let⟨_,_,_,_,_,_,_,o,_⟩:=ζ;rwa[aB.of (o _ _ acV E7)]) ?_ ?_
  ·rintro t v σ H5 p ht hp ⟨N,v2,v3,v4,v5,v6,rfl,o5,J,l⟩;rw[ajc]at ht
   let htl:t<⇑ip:=by
    cases e:ip[t]? with
    |none=>rw[e]at ht;ext ht
    |some r=>cbv
   let g1:ip[t]?=some ip[t]:=ai1 htl
   rw[g1]at ht;let ey:V.ref ip[t]=v:=Za0 ht;subst ey;change ip[t]=pp at g1;let g2:I[t]?\(I[t]'∅):=ai1 ∅
   change I[t]'∅=c at g2;let W8:=hit.2 t pp (yF c) g1 (by rw[ajc,g2];rfl);let⟨EA,Oo⟩:=W6 c (ai5 g2);let Ib:I.take (t+ 1)=I.take t++[c]:=by rw[akf,g2];rfl
   let hcn:c∉I.take t:=λz=>by
    let⟨j,hj⟩:=aj1 z
    let hjt:j<t:=by have:=(ai4.mp hj).1;rw[ajD]at this;ext
    rw[akU hjt]at hj;have:=(ak2 (ai4.mp hj).1 W7).mp (hj.trans g2.symm);ext
   let⟨r,m⟩:=c;let Y:r<⇑TT:=EA;let V3:m<L:=Oo;let W9:H4 pp\(.tup [.int (r:Int),.int ((m+ 1:Nat):Int)]):=W8
   let acW:pp∉d:=λz=>by let⟨ns,g⟩:=kr (B.same s4) z;rw[W9]at g;ext g
   let Xa:M11.pl ((m+ 1:Nat):Int)=2* m:=by unfold M11.pl;rw[ajn ∅];ext
   let acX:M11.pl (-((m+ 1:Nat):Int))=2* m+ 1:=by unfold M11.pl;rw[ajk ∅];ext
   let hpq:p∉d:=λz=>by
    let⟨ns,g⟩:=kr J z
    cbv
   let Dc:=aq.upd (o:=.tup [.int (1+ (t:Int)),↑pp]) hp;erw[p,12,bG.of aj,21121122];change upd H5 p _=H6 at Dc ⊢;let o6:Off d H4 H6:=λb o G e=>Dc^o5 b o G e
   let Xb:=J.same Dc;let h46:∀b o,H4 b\o->b∉d->H6 b\o:=λb o e G=>o6 b o G e
   let Xc:=o6 _ _ acW W9
   let rq:∀b o,H b\o->b∉d:=λb o e z=>by cbv
   let acY:TabAt H6 a TT:=⟨rs,o6 _ _ (rq^S) (s4^X^S),⟨u.1,λi x ns h1 h2=>o6 _ _ (rq^u.2 i x ns h1 h2) (s4^X^u.2 i x ns h1 h2)⟩⟩;let acZ:H6 F\(.lst (d.map V.ref)):=o6 _ _ y (s4^M);erw[12,pp,11122,bG.of Xc,ck (j:=0) rfl];erw[12,pp,11122,bG.of Xc,ck (j:=1) rfl];let⟨rs6,rr,row,b1,b2,b3,b4,b5⟩:=lO acY hT Y;let WW:=hT.lt r (2* m) Y ∅;erw[1212,a,11,↑rr,22,aB.of b1,cM b2,12,((m+ 1:Nat):Int),233];rw[Xa];erw[rr,11122,aB.of b3,ck (bT (b5 (2* m) ∅))];let pH:⇑d=⇑TT:=by rw[Xb.1,l.len]
   let⟨f,c1,c2,c3⟩:=l.at_ r Y;let d1:d[r]?\(d[r]'∅):=ai1 ∅
   change d[r]'∅=nr at d1;let Vx:=Xb.2 r nr f d1 c1;erw[121212,F,11,↑nr,22,aB.of acZ,cM d1,12,((m+ 1:Nat):Int),233];rw[Xa];erw[nr,11,2* m,22,Vx,kh (i:=2* m) (by rw[az,c2];omega)];rw[ints_set];let Xd:=C6 (row':=f.set (2* m) (1+ (t:Int))) Xb Kd d1;let ac0:nr∈d:=ai5 d1
   let o7:Off d H4 (upd H6 nr (.lst (ao (f.set (2* m) (1+ (t:Int)))))):=λb o G e=>by rw[ak (λz=>G ([z]▸ac0))];rwa[o6 b o G e]
   change upd H6 nr _=H7 at Xd o7 ⊢;let ac1:H7 F\(.lst (d.map V.ref)):=o7 _ _ y (s4^M);let d2:d[M11.nx TT (2* m) r]?\(d[M11.nx TT (2* m) r]'∅):=ai1 ∅
   change d[M11.nx TT (2* m) r]'∅=U at d2;let Z:M11.nx TT (2* m) r<⇑(N.set r (f.set (2* m) (1+ (t:Int)))):=by rw[aju,l.len];rwa[WW]
   let c4:(N.set r (f.set (2* m) (1+ (t:Int))))[M11.nx TT (2* m) r]?\((N.set r (f.set (2* m) (1+ (t:Int))))[M11.nx TT (2* m) r]'Z):=ai1 Z
   change (N.set r (f.set (2* m) (1+ (t:Int))))[M11.nx TT (2* m) r]'Z=D at c4;let ac2:=Xd.2 _ U D d2 c4;let Xe:=l.step hT hcn Y V3 (v:=1+ (t:Int)) (by rw[ajD];omega) c1 c4
   let c5:⇑D=2* L:=by let⟨row',x1,x2,x3⟩:=Xe.at_ _ WW;rw[ajE Z]at x1;rw[<-Za0 x1,aju]at x2;rwa[x2]
   erw[12121212,F,11,↑U,22,aB.of ac1,cM d2,1212,-((m+ 1:Nat):Int),233];rw[acX];erw[U,11,2* m+ 1,22,ac2,kh (i:=2* m+ 1) (by rw[az,c5];omega)];rw[ints_set];let hN8:=C6 (row':=D.set (2* m+ 1) (-(1+ (t:Int)))) Xd Kd d2;let YL:U∈d:=ai5 d2;rw[Ib];rwa[1111112,λb o G e=>[ak (λz=>G ([z]▸YL))]▸o7 b o G e,hN8,Xe]
  ·rintro σ H5 ⟨N,v2,v3,v4,v5,v6,rfl,o5,J,l⟩;rw[ai6,hIl,akd]at l
   let rq:∀b o,H b\o->b∉d:=λb o e z=>by cbv
   rwa[12,hk N H5 (λb o e=>o5 b o (rq b o e) (s4^X^e)) WZ ⟨d,o5 _ _ y (s4^M),J⟩ l]
inductive KC (vs:Zb)(H:Hp)(Q:VK)(E_:XK):Prop
 |mk (a wa:Zs)(T:Za3)(L i:Nat)(w:Zg):vs=[↑a,.int i,↑wa]->TabAt H a T->M11.Tab L T->i<⇑T->H wa\.tup (ao w)->M11.aV L w->Q (.int (M11.walk T w i)) H->KC vs H Q E_
def oB:T.mG.Ok P w base 1 KC:=by
 rwa[T.mG.on ou (λD R m s H N Q E U h=>?_)]
 ·let⟨a,t,TT,L,i,ws,rfl,o,p,I,d,b,k⟩:=h
  refine⟨_,{b8 ajz rfl (oE (pv 2)) (dc 3 ou.nd)
   {bE 1 ou.nd ((0|||1)|||(aO hJ (aO hJ (aO jG aw (bD K0 rfl T.Yy PyProof.Rows.boot_abs #[3])) aw) (dF Ii rfl T.Yw PyProof.Rows.boot_int #[j5 tj (pv 3) aw (bp _)])))},bu (pv 1)},?_⟩
  rwa[jd ?_];intro x;erw[12,t,2,⟨_,bG.of d⟩]
  let' c:Nat->St->Hp->Prop:=λn f g=>∃v:Zc,f=#v[↑a,.int (M11.walk TT (ws.take n) i),↑t,v]/\g=H
  rwa[dC (xs:=ao ws) c ⟨none,22⟩ (λn f g _ ζ=>by let⟨_,_,e⟩:=ζ;rwa[[e]▸bG.of d]) ?_ ?_]
  ·rintro n y f g J ⟨v,rfl,rfl⟩;dsimp only[dJ];rwa[bH ?_];intro M;let⟨z,rfl,q⟩:=cf J;let G:=b z (ai5 q);let j:=M11.kc p (He n b) I;let⟨S,r,row,B,u,F,O,C⟩:=lO o p j
   let l:2* (if z<0 then -z else z) - 1 - (if decide (0<z)=true then 1 else 0)=((M11.pl z:Nat):Int):=by
    unfold M11.pl;cases h:0<z
    ·rw[ajk (show ¬z<0 by omega),ajn (ajI h),ajn h];ext
    ·rw[ajn (show z<0 by omega),ajk (by rw[ajV h];decide),ajk h];ext
   erw[1212,a,11122,aB.of B,cM u,12,z,21122,.inl ⟨44⟩,1122121122121122];simp only[l];erw[r,11122,aB.of F,ck (bT (C _ (M11.eA G)))];rwa[_,by rw[zM q];rfl,2]
  ·rintro f g ⟨v,rfl,rfl⟩;rw[az,akd];rwa[12,k]
def Nh (w:Zg):⇑(M11.back w)=⇑w:=by unfold M11.back;rw[ai6,al6]
def Ni (ns:Zg):⇑(fm ns)<=⇑ns:=by have:=sT ns [];rw[ajQ]at this;unfold fm;ext
def ad (acc:Za3)(x:Zg):Za3:=if x=[]\/x∈acc then acc else acc++[x]
def vB (T:Za3)(J:List (Nat×Nat))(R:Za3)(r n:Nat):Za3:=((~~~r).flatMap λi=>R.map λu=>fm (tell T J u i))++(R.take n).map λu=>fm (tell T J u r)
def dW (T:Za3)(J:List (Nat×Nat))(R:Za3)(r n:Nat):Za3:=(vB T J R r n).foldl ad []
def Dd (T:Za3)(J:List (Nat×Nat))(R:Za3)(r:Nat):dW T J R r ⇑R=dW T J R (r+ 1) 0:=by unfold dW vB;rw[akd,aj3,akj,List.take_zero,List.map_nil,ajm];simp
def KD {T:Za3}{J:List (Nat×Nat)}{R:Za3}(h:R[m]?\l):dW T J R n (m+ 1)=ad (dW T J R n m) (fm (tell T J l n)):=by unfold dW vB;rw[akf,h,ajt,<-ajK,aj8];rfl
def Xf (acc:Za3)(x:Zg):⇑(ad acc x)<=⇑acc+ 1:=by
 unfold ad;split
 ·ext
 ·rw[ai3];simp
def FD (T:Za3)(J:List (Nat×Nat))(R:Za3)(r n:Nat):⇑(dW T J R r n)<=(r+ 1)* ⇑R:=by
 let a:∀(l acc:Za3),⇑(l.foldl ad acc)<=⇑acc+ ⇑l:=by
  intro l
  induction l with
  |nil=>intro acc;rwa[aja _]
  |cons x l b=>intro acc;let c:=b (ad acc x);let d:=Xf acc x;rw[aln,ajo];ext
 let c:=a (vB T J R r n) []
 let d:⇑(vB T J R r n)<=(r+ 1)* ⇑R:=by
  unfold vB;rw[ai3,ai6,ajD]
  have:⇑((~~~r).flatMap λi=>R.map λu=>fm (tell T J u i))=r* ⇑R:=by
   clear c a
   induction r with
   |zero=>simp
   |succ r b=>rw[aj3,akj,ai3,b,amd];simp
  rw[this,amd];ext
 rw[ajQ]at c;unfold dW;ext
def mX (acc:Za3):List (Zd×V):=acc.map λw=>(w.map Sum.inl,V.bl true)
def FE (w:Zg):(w.map (Sum.inl:Int->Key)).map kV=ao w:=by unfold ao;rw[ajM];rfl
def RV {w:Zg}(h:w.map (Sum.inl:Int->Key)=l.map Sum.inl):w=l:=(List.map_inj_right (λa b z=>by injection z)).mp h
def FG (acc:Za3)(w:Zg):(bz (mX acc) (w.map Sum.inl)=none↔w∉acc):=by
 induction acc with
 |nil=>rwa[λ_=>by simp,λ_=>rfl]
 |cons x acc a=>
  show bz ((x.map Sum.inl,V.bl true)::mX acc) _=none↔_;cases e:x=w
  ·subst e;rw[cQ rfl];simp
  ·rw[cI (λz=>e (RV z)),a];simp[akg e]
def RW (acc:Za3)(w:Zg)(a:w≠[]):putK (mX acc) (w.map Sum.inl) (V.bl true)=mX (ad acc w):=by
 unfold ad;cases e:w∈acc
 ·rw[ajn (.inr e)];unfold putK
  let c:((mX acc).any λb=>decide (b.1=w.map Sum.inl))=true:=by
   rw[j6]
   cases q:bz (mX acc) (w.map Sum.inl) with
   |none=>exact absurd e ((FG acc w).mp q)
   |some v=>rfl
  rw[ajn c];unfold mX;rw[ajM];rwa[aj5 λx _=>?_]
  cbv
 ·rw[ajk (λz=>z.elim a e),pY _ ((FG acc w).mpr e)];unfold mX;rw[ajt];rfl
inductive De (vs:Zb)(H:Hp)(Q:VK)(E_:XK):Prop
 |mk (a ra:Zs)(T R:Za3)(L:Nat):vs=[↑a,↑ra]->TabAt H a T->M11.Tab L T->M12.Fc (2* L) T.flatten ⇑T->bN H ra R->(∀u∈R,M11.aV L u/\⇑u<=1000)->⇑R<=100->(∀l ws H',aq H H'->LW L T ws->bN H' l (dW T (cj T (ws.map wd) L ⇑T 0) R ⇑T 0)->Q ↑l H')->De vs H Q E_
def DU {K:Za1}{Q:VK}{rs:Zn}{us:Za3}(f:Zg->Zg)(k:H a\.lst (rs.map V.ref))(o:bR H rs us)(N:⇑us<=1000)(J:∀(d:Hp) (b:Zs) (u:Zg) (R:VK),u∈us->d b\.tup (ao u)->(∀l n,aq d n->n l\.lst (ao (f u))->R ↑l n)->r (some ↑b::D) d R)(z:∀c d h,aq H d->d c=none->cR d h (us.map f)->Q ↑c (upd d c (.lst (h.map V.ref)))):kI r D Q (AF K a) H:=by
 let I:=o.1;erw[λi m ys d=>m=⇑rs - i/\i<=⇑rs/\∃h:Zn,ys=h.map V.ref/\aq H d/\cR d h ((us.take i).map f),⟨⇑rs,by simp,ajB _,[],2,λ_ _ e=>e,⟨by simp,λi b L E=>by simp at E⟩⟩];rintro i m ys d ⟨rfl,O,h,rfl,s2,j⟩;let p:⇑h=i:=by have:=j.1;rw[ai6,ajD]at this;ext
 cases g:i<⇑rs
 ·let v:rs[i]?=some rs[i]:=ai1 g
  let s:i<⇑us:=∅
  let q:us[i]?=some us[i]:=ai1 s
  let G:=o.2 i _ _ v q;rwa[.inr ⟨jJ (aB.of (s2^k)) i ([ai6]▸g),[ai6,p]▸aje (show i<=1000 by omega) ⋯,λx n F=>?_⟩];let⟨rfl,y⟩:=il (aB.of (s2^k)) i x n ([ai6]▸g) F;rw[ajc,v]at y;let ex:V.ref rs[i]=x:=Za0 y;subst ex;rwa[J n _ _ _ (ai5 q) (s2^G) λl M t C=>?_]
  erw[⇑rs - (i+ 1),32,g,h++[l],by cbv,s2.trans t];let e:(us.take (i+ 1)).map f=(us.take i).map f++[f us[i]]:=by rw[akf,q,ajt];rfl
  rw[e];rwa[(j.same t).snoc C]
 ·let e:i=⇑rs:=∅
  rwa[.inl ⟨5,[ai6,p]▸ajl (show i<=1000 by omega) ⋯,λc B=>?_⟩]
  ·have:=gF (K:=K) (aB.of (s2^k));rw[ai6,<-e]at this;rwa[this]
  ·rw[akx ∅]at j;rwa[z c d h s2 B j]
def yH:T.oi.Ok P w base 5 De:=by
 rwa[T.oi.on dS (λcw AA outer s H vs Q E hr h=>?_)]
 ·let⟨a,ra,TT,R,L,rfl,Y,hT,hF,hRa,M,Fj,k⟩:=h;let m5:=fA hr
  erw[_,{bE 2 dS.nd (pc T.iZ (mW T) hr #[0]),gQ (iy:=3) dS.nd rfl (Or.inl rfl) (fns:=[]) (ixs:=[]) (cl:=[]) rfl (cN (pv 1)) (cu [] rfl True.intro rfl) (λC s H ex=>(pc T.nM (sW T) hr #[0])),bE 4 dS.nd A6,b8 ajz rfl (jj rfl T.eT #[0<<<0]) (dc 5 dS.nd)
    {b8 ajz rfl (cN (pv 3)) (dc 6 dS.nd)
     {bE 7 dS.nd (pc T.tT (xF T) hr #[2,0,5,6]),bL (bP (bf tj (7<<<0) aw (bp _))
      {j9 m5 (pv 4) (pv 7) sZ rfl}
      bC)}},bu (dF (Bb rfl) rfl T.jS aky #[4])}]
  rwa[p9 ?_];intro mQ iI eD fq;let Hg:=hT.top;let Km:=hT.yc;rwa[⟨12,a,TT,L,2,Y,hT,hF,λna ws N H1 s1 WZ WY hN=>?_⟩];let hk:=λl=>k l ws
  change cj TT (ws.map wd) L ⇑TT 0=J at hN hk;let⟨rp,Z,hrt⟩:=hRa.same s1;erw[12,ra,2,⟨_,aB.of Z⟩];rwa[DU sV Z hrt ∅ (λH2 r u R' hu h2 hR=>⟨12,r,u,L,2,h2,(M u hu).1,3,by have:=(M u hu).2;ext,λl v s3 _ h3=>hR l v s3 h3⟩) (λF H2 c s2 uF Fm=>?_)];let m:aq H2 (upd H2 F (.lst (c.map V.ref))):=aq.upd uF;let I:upd H2 F (.lst (c.map V.ref)) F\(.lst (c.map V.ref)):=aj;change upd H2 F _=v at m I ⊢;let f:=Fm.same m;let s03:=(s1.trans s2).trans m;let ac3:=WY.same (s2.trans m);let X:=Y.same s03;intro d hd;let G:aq v (upd v d (.dT [])):=aq.upd hd;let Oc:upd v d (.dT []) d\(.dT (mX (dW TT J R 0 0))):=aj;change upd v d _=H4 at G Oc ⊢;let⟨rs,Fs,hrw⟩:=X;let hlen:(⇑(rs.map V.ref):Int)=(⇑TT:Int):=by rw[ai6,hrw.1]
  erw[12,a,12,.inl (aB.of (G^Fs)),(⇑TT:Int),by rw[<-hlen],33];rwa[jk (lo:=0) (n:=((⇑TT:Int)).toNat) (λr B H5=>∃v5 t q:Zc,B=#v[↑a,↑ra,↑na,↑F,↑d,v5,t,q]/\aq v H5/\H5 d\.dT (mX (dW TT J R r 0))) ⟨none,none,none,2,G,Oc⟩ ?_ ?_]
  ·rintro r B H5 hr ⟨v5,t,q,rfl,s5,j⟩;let WG:r<⇑TT:=∅
   let e0:(0:Int)+ (r:Int)=(r:Int):=∅
   erw[12,F,2,⟨_,aB.of (s5^I)⟩];rwa[dC (xs:=c.map V.ref) (λn B S=>∃t q:Zc,B=#v[↑a,↑ra,↑na,↑F,↑d,.int (0+ (r:Int)),t,q]/\aq v S/\S d\.dT (mX (dW TT J R r n))) ⟨t,q,2,s5,j⟩ (λn B S _ ζ=>by let⟨_,_,_,s,_⟩:=ζ;rwa[aB.of (s^I)]) ?_ ?_]
   ·rintro n y B S hn ⟨t,q,rfl,D,g⟩;rw[ajc]at hn
    let xm:n<⇑c:=by
     cases e:c[n]? with
     |none=>rw[e]at hn;ext hn
     |some r=>cbv
    let g1:c[n]?=some c[n]:=ai1 xm
    rw[g1]at hn;let ey:V.ref c[n]=y:=Za0 hn;subst ey;change c[n]=pp at g1;let pH:⇑c=⇑R:=by rw[f.1,ai6]
    let g2:R[n]?\(R[n]'∅):=ai1 ∅
    change R[n]'∅=u at g2;let W8:=f.2 n pp (sV u) g1 (by rw[ajc,g2];rfl);let⟨hus,Pa⟩:=M u (ai5 g2);rw[KD g2];let hdl:=FD TT J R r n;let hmul:(r+ 1)* ⇑R<=301* 100:=ak1 ∅ Fj;rwa[⟨12121212,na,a,pp,TT,N,J,L,r,u,ajY (λz=>[V.ref na,V.ref a,V.int z,V.ref pp]) e0,ac3.same D,hN,(⟨rs,D^Fs,hrw.same D⟩:TabAt S a TT),hT,WG,D^W8,hus,3,λlt H7 s7 h7=>?_⟩];let O:=s7^g;let U:=D.trans s7;change dW TT J R r n=acc at O hdl;change fm (tell TT J u r)=x at h7;rwa[⟨15,λ_ _ h=>h⟩];erw[12,lt,12,.inr (bG.of h7),112212];cases hx:x=[]
    ·rwa[cP (λh=>?_) (λ_=>?_)]
     ·let h':(0:Int)<(⇑(ao x):Int):=ajX h;rw[hx]at h';rwa[absurd h' ⋯]
     ·let ea:ad acc x=acc:=by unfold ad;rw[ajn (.inl hx)]
      rw[ea];rwa[112,U,O]
    ·rwa[cP (λ_=>?_) (λh=>?_)]
     ·erw[1212,d,12,j7.t (k:=x.map Sum.inl) O ([FE]▸h7) ?_]
      ·unfold mX;rw[ai6];rwa[aje (show ⇑acc<=40000 by omega) ⋯]
      ·rw[RW acc x hx];rwa[112,λb o e=>[ak (av e hd)]▸U^e,aj]
     ·rwa[absurd (ajI ?_) h];show (0:Int)<(⇑(ao x):Int);rw[az];have:=List.length_pos_iff.mpr hx;ext
   ·rintro B S ⟨t,q,rfl,D,g⟩;let pH:⇑c=⇑R:=by rw[f.1,ai6]
    rw[ai6,pH,Dd]at g;rwa[1112,D,g]
  ·rintro B H5 ⟨v5,t,q,rfl,s5,j⟩;rw[ajG]at j;rwa[⟨12,d,12,j,λl ps hl iJ vY=>?_⟩];let hkl:⇑(mX (dW TT J R ⇑TT 0))=⇑(dW TT J R ⇑TT 0):=by unfold mX;rw[ai6]
   rwa[hk l _ ((s03.trans s5).trans (aq.upd hl)) WZ ⟨ps,aj,by rw[iJ,hkl],λi p w h1 h2=>?_⟩];have:=vY i p (w.map Sum.inl,V.bl true) h1 (by unfold mX;rw[ajc,h2];rfl);rw[FE]at this;rwa[(aq.upd hl) _ _ this]
def Xg {J:List (Nat×Nat)}{c:Nat×Nat}(e:J.Nodup)(h:J[i]?\c):pos J c=i+ 1:=by let a:=ai5 h;let⟨d,f⟩:=pos_at a;let b:=(ai4.mp h).1;have:=(ak2 b e).mp (h.trans d.symm);ext
def Hi:T.yx.Ok P w base 5 C9:=by
 rwa[T.yx.on G5 (λx G f s H F Q E m h=>?_)]
 ·let⟨a,D,TT,L,r,w,rfl,c,e,u,g,i,b,hlen,k⟩:=h;erw[_,{bu (pc T.tT (xF T) m #[pc T.iZ (mW T) m #[0],0,1,pc T.nM (sW T) m #[2]])}];let q:=e.yc;rwa[⟨12,a,TT,L,2,c,e,u,λv t N I s1 o j C=>?_⟩];rwa[⟨121212,D,w,L,2,s1^i,b,3,hlen,λB J d M n=>?_⟩];rwa[v,a,B,TT,N,_,L,r,w,2,j.same d,C,c.same (s1.trans d),e,g,n,b,hlen,λl p z y=>k l t p ((s1.trans d).trans z) o y]
def KG {f:Nat->Nat}(h:∀i j,i<n->j<n->f i=f j->i=j):((~~~n).map f).Nodup:=akG.mpr (alw (λa b n e=>n (h _ _ (ajJ.mp a) (ajJ.mp b) e)) alD)
def tX (g:Nat->Nat->Nat)(s:Int)(w:Zg)(p:Nat):gw g (s::w) p=gw g w (g (M11.pl s) p):=rfl
section
variable {rs ps:Za3}{L x:Nat}{D:Nat->Prop}{g:Nat->Nat->Nat}
theorem Mv.dw (m:Mv rs ps L D g x):∀{w:Zg}{p:Nat},M11.aV L w->D p->D (gw g w p)
 |[],_,_,a=>a
 |s::w,p,b,a=>m.dw (w:=w) (p:=g (M11.pl s) p) (eS b).2 (m.d p _ a (M11.eA (eS b).1))
def Mv.two (m:Mv rs ps L D g x){s:Int}(a:s≠0/\s.natAbs<=L){p:Nat}(b:D p):g (M11.pl (-s)) (g (M11.pl s) p)=p:=by rw[M11.yd a.1];rwa[m.b p _ b (M11.eA a)]
theorem Mv.bw (m:Mv rs ps L D g x):∀{w:Zg}{p:Nat},M11.aV L w->D p->gw g (M11.back w) (gw g w p)=p
 |[],_,_,_=>rfl
 |s::w,p,d,b=>by let⟨c,a⟩:=eS d;rw[Ku,ib,tX g s w,m.bw a (m.d p _ b (M11.eA c))];rwa[m.two c b]
theorem Mv.fold (m:Mv rs ps L D g x):∀{ns u:Zg}{p:Nat},M11.aV L u->M11.aV L ns->D p->gw g (ns.foldl M16.sn u) p=gw g (u++ns) p
 |[],u,p,_,_,_=>by rw[ajm];rfl
 |s::ns,u,p,i,l,h=>by
  let⟨k,a⟩:=eS l;let d:M11.aV L (M16.sn u s):=λy c=>(M16.Jc c).elim (i y) (λe=>e ▸ k)
  show gw g (ns.foldl M16.sn (M16.sn u s)) p=_;rw[m.fold d a h,ib,ib,tX];rwa[ajY (gw g ns) ?_];rcases M16.gR u with rfl|⟨v,b,rfl⟩
  ·rfl
  rw[M16.jw];cases f:b= -s
  ·rw[ajn f,f,ib];let j:M11.aV L v:=λy c=>i y (ajx _ c)
   have:=m.two (s:=-s) ⟨33⟩ (m.dw j h);rw[ako]at this;rwa[this.symm]
  ·rw[ajk f,ib];rfl
def Mv.thin (m:Mv rs ps L D g x){w:Zg}{p:Nat}(a:M11.aV L w)(b:D p):gw g (M16.thin w) p=gw g w p:=m.fold (λ_ z=>by ext z) a b
def Mv.alike (m:Mv rs ps L D g x){w u:Zg}{p:Nat}(b:M11.aV L w)(c:M11.aV L u)(a:D p)(e:M16.thin w=M16.thin u):gw g w p=gw g u p:=by rw[<-m.thin b a,e,m.thin c a]
end
def xG (T:Za3)(z:Int)(c:Nat):Nat:=if z=0 then c else M11.nx T (M11.pl z) c
def qY (T F:Za3)(J:List (Nat×Nat))(N k p:Nat):Nat:=M11.nx T k (p / N)* N+ xG F (num T J (p / N) k) (p % N)
def pN {T F:Za3}{J:List (Nat×Nat)}(k:Nat)(a:i<n):qY T F J n k (m* n+ i)=M11.nx T k m* n+ xG F (num T J m k) i:=by unfold qY;rw[show (m* n+ i) / n=m by rw[ak0,Nat.mul_add_div ∅,amA a];rfl,show (m* n+ i) % n=i by rw[ak0,Nat.mul_add_mod,amB a]]
def Xh {xs acc:Za3}{x:Zg}:x∈xs.foldl ad acc↔x∈acc\/x∈xs/\x≠[]:=by
 induction xs generalizing acc with
 |nil=>cbv
 |cons y xs a=>
  rw[aln,a];unfold ad;cases h:y=[]\/y∈acc
  ·rw[ajn h,ajs];rwa[⟨λq=>q.imp id λq=>⟨.inr q.1,q.2⟩,λq=>?_⟩];rcases q with q|⟨rfl|q,n⟩
   ·rwa[.inl q]
   ·rwa[.inl (h.resolve_left n)]
   ·rwa[.inr ⟨q,n⟩]
  ·rw[ajk h,ajh,ai9,ajs];rwa[⟨λq=>?_,λq=>?_⟩]
   ·rcases q with (q|q)|q
    ·rwa[.inl q]
    ·rwa[.inr ⟨.inl q,λz=>h (.inl (q ▸ z))⟩]
    ·rwa[.inr ⟨.inr q.1,q.2⟩]
   ·rcases q with q|⟨q|q,n⟩
    ·rwa[.inl (.inl q)]
    ·rwa[.inl (.inr q)]
    ·rwa[.inr ⟨q,n⟩]
def yI {T:Za3}{J:List (Nat×Nat)}{R:Za3}{x:Zg}:x∈dW T J R n 0↔x≠[]/\∃r,r<n/\∃u∈R,x=fm (tell T J u r):=by
 unfold dW vB;rw[Xh,List.take_zero,List.map_nil,ajm,aj9];rwa[⟨λh=>?_,λζ=>by let⟨a,r,b,u,c,e⟩:=ζ;rwa[.inr ⟨⟨r,ajJ.mpr b,ajN.mpr ⟨u,c,e.symm⟩⟩,a⟩]⟩];rcases h with h|⟨⟨r,b,h⟩,a⟩
 ·ext h
 ·let⟨u,c,e⟩:=ajN.mp h;rwa[a,r,ajJ.mp b,u,c,e.symm]
section
variable {L N1 N2 N3:Nat}{T1 T2 T3 R P:Za3}{ws:List Zh}
def bV (T:Za3)(ws:List Zh)(L:Nat):List (Nat×Nat):=cj T (ws.map wd) L ⇑T 0
def jC (T:Za3)(ws:List Zh)(L:Nat):Int->Zg:=jZ ((bV T ws L).map (oz T (ws.map wd)))
def Hj {L:Nat}{T:Za3}{ws:List Zh}(h:LW L T ws){i:Nat}(d:i<⇑T):∃u,ws[i]?\u/\bF (ws.map wd) i=wd u/\M11.aV L (wd u)/\M11.walk T (wd u) 0=i:=by
 let a:i<⇑ws:=by rw[h.lw.1];rwa[d]
 let e:ws[i]?=some ws[i]:=ai1 a
 let⟨c,b,_⟩:=h.ok i _ e;rwa[_,e,by unfold bF;rw[ai8,ajc,e];rfl,C2 c,b]
def Nj {L:Nat}{T:Za3}{ws:List Zh}(l:M11.Tab L T){i k:Nat}(m:i<⇑T)(j:k<2* L)(e:bF (ws.map wd) (M11.nx T k i)=bF (ws.map wd) i++[M12.st k]):num T (bV T ws L) i k=0:=by
 let a:∀c,nX T (ws.map wd) c=false->pos (bV T ws L) c=0:=λc h=>ajk λz=>by rw[(akk.mp z).2]at h;ext h
 unfold num;let g:=l.back i k m j;cases b:k % 2=0
 ·let d:k=2* (k / 2):=∅
  let f:M12.st k=((k / 2+ 1:Nat):Int):=by unfold M12.st;rw[ajn b]
  rw[ajn b,a _ (by unfold nX;rw[<-d,e,f,ajI rfl];rfl)];rfl
 ·let d:M11.flip k=2* (k / 2):=by unfold M11.flip;rw[ajk b];ext
  let f:M12.st k= -((k / 2+ 1:Nat):Int):=by unfold M12.st;rw[ajk b]
  rw[d]at g;rw[ajk b,a _ (by unfold nX;rw[show M11.nx T (2* (k / 2)) (M11.nx T k i,k / 2).1=i from g,e,f,ajI rfl,Bool.and_comm];rfl)];rfl
def RX {L:Nat}{T:Za3}{ws:List Zh}(b:M11.Tab L T)(h:LW L T ws):1<=⇑(bV T ws L):=by
 apply Nat.pos_of_ne_zero;intro z;let z:=aml.mp z;let m:M11.aV L [1]:=λs d=>by rw[ai9.mp d];have:=b.let1;rwa[43]
 let f:∀k,M11.aV L (List.replicate k 1):=λk s d=>by rw[(List.mem_replicate.mp d).2];rwa[m 1 (ai9.mpr rfl)]
 let main:∀k,bF (ws.map wd) (M11.walk T (List.replicate k 1) 0)=List.replicate k 1:=λk=>by
  induction k with
  |zero=>
   have:(ws.map wd)[0]?\[]:=by rw[ajc,h.lw.2.1];rfl
   unfold bF;rw[ai8];rwa[ajY (λo=>Option.getD o []) this]
  |succ k g=>
   let c:=M11.kc b (f k) b.pos;let l:M11.walk T (List.replicate (k+ 1) 1) 0=M11.nx T 0 (M11.walk T (List.replicate k 1) 0):=by rw[List.replicate_succ',M11.eG];rfl
   rw[l];change M11.walk T (List.replicate k 1) 0=r at *
   let a:nX T (ws.map wd) (r,0)=false:=by
    cases e:nX T (ws.map wd) (r,0) with
    |false=>rfl
    |true=>have:(r,0)∈bV T ws L:=akk.mpr ⟨cell_in c b.let1,e⟩;rw[z]at this;ext this
   unfold nX at a;simp only[Bool.and_eq_false_iff,Bool.not_eq_false',decide_eq_true_eq]at a;rcases a with a|a
   ·rw[List.replicate_succ',<-g];rwa[a]
   ·rw[g]at a;have:(-1:Int)∈List.replicate k (1:Int):=by rw[a];rwa[ajf _ (ai9.mpr rfl)]
    rwa[absurd (List.mem_replicate.mp this).2 ⋯]
 let c:=M11.kc b (f 301) b.pos;let⟨u,j,i,_⟩:=Hj h c;have:=(h.ok _ u j).2.2;rw[main 301]at i;have:=ajY List.length i;rw[ala,pM]at this;ext
theorem Hk (f2:FT R P L N2 T2){J:List (Nat×Nat)}(a:FT (dW T2 J R N2 0) [] ⇑J N3 T3):∀{w:Zg}{r c:Nat},M11.aV L w->r<N2->c<N3->gw (qY T2 T3 J N3) w (r* N3+ c)=M11.walk T2 w r* N3+ M11.walk T3 (tell T2 J w r) c
 |[],_,_,_,_,_=>rfl
 |s::w,r,c,f,i,d=>by
  let⟨j,b⟩:=eS f;let e:=f2.t.lt r _ ([f2.n]▸i) (M11.eA j);rw[f2.n]at e
  let g:xG T3 (num T2 J r (M11.pl s)) c<N3:=by
   unfold xG;split
   ·rwa[d]
   ·rename_i h;have:=a.t.lt c _ ([a.n]▸d) (M11.eA ⟨h,sU _ _ _ _⟩);rw[a.n]at this;rwa[this]
  rw[tX,pN _ d,Hk f2 a b e g];show M11.walk T2 w (M11.nx T2 (M11.pl s) r)* N3+ M11.walk T3 (tell T2 J w _) _=M11.walk T2 w (M11.nx T2 (M11.pl s) r)* N3+ M11.walk T3 ((if num T2 J r (M11.pl s)=0 then [] else [num T2 J r (M11.pl s)])++tell T2 J w _) c;rw[M11.eG];unfold xG;split <;> rfl
def Qc (f2:FT R P L N2 T2){J:List (Nat×Nat)}(q:FT (dW T2 J R N2 0) [] ⇑J N3 T3):Mv R [] L (λp=>p<N2* N3) (qY T2 T3 J N3) 0:=by
 let s:=f2.pos;let i:=q.pos;let l:∀p,p<N2* N3->∃r c,r<N2/\c<N3/\p=r* N3+ c:=λp d=>⟨p / N3,p % N3,(Nat.div_lt_iff_lt_mul i).mpr d,Nat.mod_lt _ i,by rw[Nat.div_add_mod']⟩
 let j:=q.mv [] i λ_ z=>by ext z
 let f:∀{z:Int} {c},z.natAbs<=⇑J->c<N3->xG T3 z c<N3:=λ{z c} u a=>by
  unfold xG;split
  ·rwa[a]
  ·rename_i h;rwa[j.d c _ a (M11.eA ⟨h,u⟩)]
 let m:∀{k r},k<2* L->r<N2->M11.nx T2 k r<N2:=λ{k r} e b=>by have:=f2.t.lt r k ([f2.n]▸b) e;rw[f2.n]at this;rwa[this]
 rwa[⟨Nat.mul_pos s i,λp k d e=>?_,λp k d e=>?_,λw n p d=>?_,λ_ z=>by ext z⟩]
 ·let⟨r,c,b,a,rfl⟩:=l p d;rw[pN _ a];let t:=m e b;let B:=f (sU T2 J r k) a
  calc _<M11.nx T2 k r* N3+ N3:=∅
   _=(M11.nx T2 k r+ 1)* N3:=by rw[alz,Nat.one_mul]
   _<=_:=akm _ t
 ·let⟨r,c,b,a,rfl⟩:=l p d;rw[pN _ a,pN _ (f (sU T2 J r k) a),f2.t.back r k ([f2.n]▸b) e,Nf f2.t J ([f2.n]▸b) e];rwa[ajY (λo=>r* N3+ o) ?_];let g:=sU T2 J r k;change num T2 J r k=z at g;unfold xG;cases h:z=0
  ·rw[ajn h,ajn ∅]
  ·rw[ajk h,ajk ∅];rwa[j.two ⟨h,g⟩ a]
 ·let⟨r,c,b,a,rfl⟩:=l p d;let v:=f2.s w (ajx _ n);rw[Hk f2 q v b a,f2.r w n r b];rwa[ajY (λo=>r* N3+ o) ?_];let st:M11.aV ⇑J (tell T2 J w r):=λx y=>gM y
  show gw (M11.nx T3) _ c=c;rw[<-j.thin st a];cases h:M16.thin (tell T2 J w r)=[]
  ·rw[h];rfl
  ·rwa[j.r _ (yI.mpr ⟨h,r,b,w,n,2⟩) c a]
def Df (f2:FT R P L N2 T2)(hw:LW L T2 ws)(r:FT (dW T2 (bV T2 ws L) R N2 0) [] ⇑(bV T2 ws L) N3 T3){a c:Nat}(p:a<N2)(q:c<N3):gw (qY T2 T3 (bV T2 ws L) N3) (bF (ws.map wd) a) c=a* N3+ c:=by
 suffices ∀n a u,ws[a]?\u->⇑u=n->gw (qY T2 T3 (bV T2 ws L) N3) (wd u) c=a* N3+ c by let⟨u,f,d,_⟩:=Hj hw (i:=a) ([f2.n]▸p);rw[d];rwa[this _ a u f rfl]
 let at_:∀{a u},ws[a]?\u->bF (ws.map wd) a=wd u:=λ{a u} e=>by unfold bF;rw[ai8,ajc,e];rfl
 intro n
 induction n with
 |zero=>intro a u e b;let h:=aml.mp b;subst h;have:=(hw.ok a _ e).2.1;have:0=a:=this;subst this;rw[amw,aly];rfl
 |succ n o=>intro a u e b;let⟨i,k,v,j,g,f,rfl,d⟩:=M15.BG f2.t f2.f hw.lw e (λz=>by rw[z]at b;ext b);let m:=o i v f (by rw[ai3]at b;simpa using b);rw[xE,ib,m];show qY _ _ _ _ (M11.pl (M12.st k)) _=_;let l:=Nj (ws:=ws) f2.t j g (by rw[d,at_ e,at_ f,xE];rfl);rw[M12.qi,pN _ q,l,d];rfl
def zO {L:Nat}{T:Za3}{ws:List Zh}(g:M11.Tab L T)(h:LW L T ws){n:Int}(i:n≠0/\n.natAbs<=⇑(bV T ws L)):∃a m,a<⇑T/\m<L/\pos (bV T ws L) (a,m)=n.natAbs/\((bV T ws L).map (oz T (ws.map wd))).getD (n.natAbs - 1) []=oz T (ws.map wd) (a,m):=by
 let f:n.natAbs - 1<⇑(bV T ws L):=∅
 let e:(bV T ws L)[n.natAbs - 1]?=some (bV T ws L)[n.natAbs - 1]:=ai1 f
 let⟨d,b⟩:=C5 (ai5 e);change (bV T ws L)[n.natAbs - 1]=c at e d b;erw[c.1,c.2,d,b,5]
 ·rwa[(Xg (FC T (ws.map wd) L ⇑T) e).trans ∅]
 ·rw[ai8,ajc,e];rfl
def xH {L:Nat}{T:Za3}{ws:List Zh}(h:LW L T ws){i:Nat}(a:i<⇑T):M11.aV L (bF (ws.map wd) i):=by let⟨u,_,e,s,_⟩:=Hj h a;rw[e];rwa[s]
def FH {L:Nat}{T:Za3}{ws:List Zh}(c:M11.Tab L T)(h:LW L T ws){a m:Nat}(b:a<⇑T)(e:m<L):M11.aV L (bF (ws.map wd) a++[((m+ 1:Nat):Int)]++M11.back (bF (ws.map wd) (M11.nx T (2* m) a))):=gC (gC (xH h b) λs d=>[ai9.mp d]▸⟨33⟩) (M11.jO (xH h (c.lt a _ b ∅)))
def yJ {L:Nat}{T:Za3}{ws:List Zh}(b:M11.Tab L T)(h:LW L T ws){n:Int}(g:n≠0/\n.natAbs<=⇑(bV T ws L)):M11.aV L (jC T ws L n):=by
 let⟨a,m,d,c,_,e⟩:=zO b h g;have:M11.aV L (oz T (ws.map wd) (a,m)):=λs f=>FH b h d c s (M16.qj f)
 unfold jC jZ;rw[e];split
 ·rwa[this]
 ·rwa[M11.jO this]
def Nk {L:Nat}{T:Za3}{ws:List Zh}(b:M11.Tab L T)(h:LW L T ws){u:Zg}(c:M11.aV ⇑(bV T ws L) u):M11.aV L (M16.fill (jC T ws L) u):=λs a=>by let⟨n,d,a⟩:=aj9.mp a;rwa[yJ b h (c n d) s a]
def KH (f2:FT R P L N2 T2)(i:LW L T2 ws)(l:FT (dW T2 (bV T2 ws L) R N2 0) [] ⇑(bV T2 ws L) N3 T3){n:Int}(s:n≠0/\n.natAbs<=⇑(bV T2 ws L)){c:Nat}(f:c<N3):gw (qY T2 T3 (bV T2 ws L) N3) (jC T2 ws L n) c=M11.nx T3 (M11.pl n) c:=by
 let m:=Qc f2 l;let p:=l.mv [] l.pos λ_ z=>by ext z
 let x:=f2.pos;let cl:∀{c},c<N3->c<N2* N3:=λf=>ajF f (Nat.le_mul_of_pos_left _ x)
 suffices d:∀{n:Int}{c:Nat},0<n->n.natAbs<=⇑(bV T2 ws L)->c<N3->gw (qY T2 T3 (bV T2 ws L) N3) (jC T2 ws L n) c=M11.nx T3 (M11.pl n) c by
  cases h:0<n
  ·rwa[d h s.2 f]
  ·let j:=p.d c _ f (M11.eA s);let e:=d (n:=-n) ∅ ∅ j;let r:=p.two s f;rw[r]at e;let st:=yJ f2.t i (n:=-n) ⟨33⟩;let b:=m.bw st (cl j);rw[e]at b;let q:=nY ((bV T2 ws L).map (oz T2 (ws.map wd))) (-n) ∅;rw[ako]at q;rwa[(ajY (λo=>gw _ o c) q).trans b]
 intro n c y v f;let⟨a,k,g,B,E,r⟩:=zO f2.t i (n:=n) ⟨3,v⟩;let F:a<N2:=by rw[<-f2.n];rwa[g]
 let u:=f2.t.lt a (2* k) g ∅;unfold jC jZ;rw[ajn y,r];show gw _ (M16.thin _) c=_;let t:M11.nx T2 (2* k) a<N2:=by rw[<-f2.n];rwa[u]
 let j:=p.d c _ f (M11.eA ⟨3,v⟩);rw[m.thin (FH f2.t i g B) (cl f),ib,ib,Df f2 i l F f]
 let G:gw (qY T2 T3 (bV T2 ws L) N3) [((k+ 1:Nat):Int)] (a* N3+ c)=M11.nx T2 (2* k) a* N3+ M11.nx T3 (M11.pl n) c:=by
  show qY _ _ _ _ (M11.pl _) _=_;let C:M11.pl ((k+ 1:Nat):Int)=2* k:=by unfold M11.pl;rw[ajn ∅];ext
  rw[C,pN _ f]
  let D:num T2 (bV T2 ws L) a (2* k)=n:=by unfold num;rw[ajn ∅,show 2* k / 2=k by ext,E];ext
  rw[D];unfold xG;rw[ajk ∅]
 rw[G,<-Df f2 i l t j];rwa[m.bw (xH i u) (cl j)]
def KJ (f1:FT R [] L N1 T1)(f2:FT R P L N2 T2)(hw:LW L T2 ws)(B:FT (dW T2 (bV T2 ws L) R N2 0) [] ⇑(bV T2 ws L) N3 T3):N1=N2* N3/\∀w,M11.aV L w->M11.walk T2 w 0=0->(M11.walk T3 (fm (tell T2 (bV T2 ws L) w 0)) 0=0↔M11.walk T1 w 0=0):=by
 let m:=Qc f2 B;let m3:=B.mv [] B.pos λ_ z=>by ext z
 let m1:=f1.mv [] f1.pos λ_ z=>by ext z
 let D:=f1.pos;let U:=f2.pos;let E:=B.pos;let fs:=@Nk L T2 ws f2.t hw;let fo:=@yJ L T2 ws f2.t hw;let H:∀{i},i<N2->M11.aV L (bF (ws.map wd) i):=λb=>xH hw ([f2.n]▸b)
 let⟨C,h0,I⟩:=f1.go m
 let J:∀u,M11.aV L u->C (M11.walk T1 u 0)=M11.walk T2 u 0* N3+ M11.walk T3 (tell T2 (bV T2 ws L) u 0) 0:=λu a=>by rw[I u 0 a D,h0];have:=Hk f2 B a U E;rw[amw,aly]at this;rwa[this]
 let T:∀(u:Zg)(i:Nat),gw (λk i=>M11.walk T1 (jC T2 ws L (M12.st k)) i) u i=M11.walk T1 (M16.fill (jC T2 ws L) u) i\/∃s∈u,s=0:=λu=>by
  induction u with
  |nil=>exact λi=>.inl rfl
  |cons s u ih=>
   intro i;cases y:s=0
   ·rwa[.inr ⟨s,aji,y⟩]
   rcases ih (M11.walk T1 (jC T2 ws L s) i) with e|⟨t,ht,e⟩
   ·rwa[.inl ?_];rw[tX,Ap y,e,show s::u=[s]++u from rfl,M16.je,M16.ml,M11.eG]
   ·rwa[.inr ⟨t,ajw _ ht,e⟩]
 let T:∀{u:Zg}{i:Nat},M11.aV ⇑(bV T2 ws L) u->gw (λk i=>M11.walk T1 (jC T2 ws L (M12.st k)) i) u i=M11.walk T1 (M16.fill (jC T2 ws L) u) i:=λ{u i} a=>(T u i).elim id λζ=>by let⟨s,y,e⟩:=ζ;rwa[absurd e (a s y).1]
 let v:∀{w:Zg}{r i:Nat},M11.aV L w->r<N2->i<N1->M11.walk T1 (M16.fill (jC T2 ws L) (tell T2 (bV T2 ws L) w r)) i=M11.walk T1 (bF (ws.map wd) r++w++M11.back (bF (ws.map wd) (M11.walk T2 w r))) i:=λ{w r i} a f b=>by let t:=Fx (W:=ws.map wd) f2.t a (r:=r) ([f2.n]▸f);rwa[m1.alike (fs λx d=>gM d) (gC (gC (H f) a) (M11.jO (H (f2.lt a f)))) b t]
 let m2:Mv (dW T2 (bV T2 ws L) R N2 0) [] ⇑(bV T2 ws L) (λi=>i<N1) (λk i=>M11.walk T1 (jC T2 ws L (M12.st k)) i) 0:=by
  rwa[⟨D,λp k g S=>f1.lt (fo (M12.tM S)) g,λp k g S=>?_,λu a p g=>?_,λ_ z=>by ext z⟩]
  ·show M11.walk T1 (jC T2 ws L (M12.st (M11.flip k))) (M11.walk T1 (jC T2 ws L (M12.st k)) p)=p;let st:=fo (M12.tM S);rw[Fv,show jC T2 ws L (-M12.st k)=M16.back (jC T2 ws L (M12.st k)) from nY^(M12.tM S).1];rwa[(f1.bk st g).1]
  ·let⟨_,r,f,w,G,e⟩:=yI.mp a;let y:=f1.s w (ajx _ G);let st:M11.aV ⇑(bV T2 ws L) (tell T2 (bV T2 ws L) w r):=λx d=>gM d
   let M:M11.aV ⇑(bV T2 ws L) u:=λx d=>by rw[e]at d;rwa[st x (M16.qj d)]
   rw[T M,e];let q:=M16.Jb (jC T2 ws L) (λn hn=>nY _ n hn) (l:=tell T2 (bV T2 ws L) w r) λx d=>(gM d).1
   let q2:=m1.alike (p:=p) (fs (u:=fm (tell T2 (bV T2 ws L) w r)) (by rw[<-e];rwa[M])) (fs st) g q;rwa[q2.trans ((v y f g).trans ?_)];rw[f2.r w G r f,M11.eG,M11.eG,f1.r w G _ (f1.lt (H f) g)];rwa[(f1.bk (H f) g).1]
 let⟨Q,k0,Z⟩:=B.go m2
 let V:∀i,i<N1->M11.walk T1 (bF (ws.map wd) (C i / N3)) (Q (C i % N3))=i:=λi b=>by
  let⟨u,a,rfl⟩:=f1.c i b;let st:M11.aV ⇑(bV T2 ws L) (tell T2 (bV T2 ws L) u 0):=λx d=>gM d
  let f:=f2.lt a U;let F:=B.lt st E;rw[J u a,show (M11.walk T2 u 0* N3+ M11.walk T3 (tell T2 (bV T2 ws L) u 0) 0) / N3=M11.walk T2 u 0 by rw[ak0,Nat.mul_add_div E,amA F];rfl,show (M11.walk T2 u 0* N3+ M11.walk T3 (tell T2 (bV T2 ws L) u 0) 0) % N3=M11.walk T3 (tell T2 (bV T2 ws L) u 0) 0 by rw[ak0,Nat.mul_add_mod,amB F]];rw[Z _ 0 st E,k0,T st,v a U D]
  let w0:bF (ws.map wd) 0=[]:=by
   have:(ws.map wd)[0]?\[]:=by rw[ajc,hw.lw.2.1];rfl
   unfold bF;rw[ai8];rwa[ajY (λo=>Option.getD o []) this]
  rw[w0,alp,M11.eG];rwa[(f1.bk (H f) (f1.lt a D)).2]
 let O:∀i,i<N1->C i<N2* N3:=λi b=>by let⟨u,a,rfl⟩:=f1.c i b;rw[I u 0 a D,h0];rwa[m.dw a m.o]
 let inj:∀{i j},i<N1->j<N1->C i=C j->i=j:=λ{i j} b N e=>by rw[<-V i b,e,V j N]
 let Y:∀p,p<N2* N3->∃i,i<N1/\C i=p:=λp g=>by
  let f:=(Nat.div_lt_iff_lt_mul E).mpr g;let F:=Nat.mod_lt p E;let⟨u,a,e⟩:=B.c _ F
  let X:∀(u:Zg)(c:Nat),M11.aV ⇑(bV T2 ws L) u->c<N3->gw (qY T2 T3 (bV T2 ws L) N3) (M16.fill (jC T2 ws L) u) c=M11.walk T3 u c:=λu=>by
   induction u with
   |nil=>exact λ_ _ _=>rfl
   |cons s u ih=>intro c y F;let⟨h1,h2⟩:=eS y;rw[show s::u=[s]++u from rfl,M16.je,M16.ml,ib,KH f2 hw B h1 F,ih _ h2 (m3.d c _ F (M11.eA h1))];rfl
  erw[M11.walk T1 (M16.fill (jC T2 ws L) u++bF (ws.map wd) (p / N3)) 0,f1.lt (gC (fs a) (H f)) D];rw[I _ 0 (gC (fs a) (H f)) D,h0,ib,X u 0 a E,e,Df f2 hw B f F,Nat.div_add_mod']
 constructor
 ·apply Nat.le_antisymm
  ·have:=M11.gB (N2* N3) ((~~~N1).map C) ?_ ?_
   ·rwa [ai6,ajP]at this
   ·rwa[KG λi j b N e=>inj b N e]
   ·intro x d;let⟨i,b,rfl⟩:=ajN.mp d;rwa[O i (ajJ.mp b)]
  ·let hh:∀p,p<N2* N3->M11.walk T1 (bF (ws.map wd) (p / N3)) (Q (p % N3))<N1/\C (M11.walk T1 (bF (ws.map wd) (p / N3)) (Q (p % N3)))=p:=λp g=>by let⟨i,b,rfl⟩:=Y p g;rw[V i b];rwa[b,2]
   have:=M11.gB N1 ((~~~(N2* N3)).map λp=>M11.walk T1 (bF (ws.map wd) (p / N3)) (Q (p % N3))) ?_ ?_
   ·rwa [ai6,ajP]at this
   ·exact KG λi j b N e=>by rw[<-(hh i b).2,e,(hh j N).2]
   ·intro x d;let⟨i,b,rfl⟩:=ajN.mp d;rwa[(hh i (ajJ.mp b)).1]
 ·intro w y e;let st:M11.aV ⇑(bV T2 ws L) (tell T2 (bV T2 ws L) w 0):=λx d=>gM d
  let e1:M11.walk T3 (fm (tell T2 (bV T2 ws L) w 0)) 0=M11.walk T3 (tell T2 (bV T2 ws L) w 0) 0:=m3.thin st E;let e2:=J w y;rw[e,amw,aly,<-e1]at e2;rw[<-e2];rwa[λh=>inj (f1.lt y D) D (h.trans h0.symm),λh=>[h]▸h0]
end
inductive Dg (vs:Zb)(H:Hp)(Q:VK)(E_:XK):Prop
 |mk (ru pa:Zs)(L:Nat)(rs ps:Za3):vs=[.int L,↑ru,↑pa]->1<=L->L<=40->bN H ru rs->bN H pa ps->(∀u∈rs++ps,M11.aV L u/\⇑u<=1000)->⇑rs<=208->⇑ps<=3->(∀H',aq H H'->Q .non H')->(∀tb T N H',aq H H'->TabAt H' tb T->FT rs ps L N T->N<=12->Q ↑tb H')->Dg vs H Q E_
def ku:T.iR.Ok P w base 12 Dg:=by
 rwa[T.iR.on iE (λX AA q s H vs Q E hr h=>?_)]
 ·let⟨F,G,L,l,j,rfl,b,zC,r,x,f,pE,I,O,R⟩:=h;let⟨U,B⟩:=T.fill.bd
  erw[_,{bE 3 iE.nd dm,bL (Rg rfl rfl (Rf (i:=3) iE.nd rfl (Or.inl rfl) (Md (dvs:=[V.str (tx [114,111,111,109,115])]) (RD T) hr.Za5 rfl T.fill.m T.fill.kp B (.cons ⟨12⟩ .nil) #[0,1,2,aw] (by decide) rfl rfl) rfl (by trivial))
    (UT rfl T.zA (λ_=>{bE 3 iE.nd dm})
    UM (by decide))),bP (bf kD (pv 3) dm (bp _))
    {bu dm}
    bC,bu (3&&&aw)}]
  rwa[hV ?_];intro Y eD M;let ok:∀u∈l++j,Wa L u:=λu m=>⟨(f u m).2,(f u m).1⟩
  erw[λ c y=>aq H y/\∃v,c=#v[.int L,↑F,↑G,some v]/\(v=.non\/∃t a g N T,v=↑t/\y t\.tup [↑a,↑g]/\TabAt y a T/\FT l j L N T/\N<=12),5]
  ·rwa[⟨121212,F,G,L,(12),l,j,2,b,344,r,x,ok,333,λt a g S N H2 p C hn o k n _=>?_,λd g S H2 p _ _ _ _=>?_⟩]
   ·let e:∀u∈l++j,∀z∈u,z∈bA (2* L)/\-z∈bA (2* L):=λu m z Z=>((sQ ∅ (ok u m)).2 z Z).2
    let⟨hm,eL⟩:=C.mL e ⋯;rw[eL]at k n;let⟨J,ft⟩:=C.ft e hn ∅ b ∅ n;rwa[p,12,.inr ⟨t,a,g,N,12,o,k,ft,3⟩]
   ·rwa[12,true,T.e_T,eV ⟨p,12,.inl rfl⟩]
  rintro c H1 ⟨D,v,rfl,rfl|⟨t,a,g,N,TT,rfl,o,k,ft,n⟩⟩
  ·rwa[12212,eV (O _ D)]
  ·rwa[12212,dI ⟨12,t,11122,bG.of o,2,R a TT N H1 D k ft n⟩]
inductive Qd (vs:Zb)(H:Hp)(Q:VK)(E_:XK):Prop
 |mk (a:Zs)(T:Za3)(L j:Nat):vs=[↑a,.int j]->TabAt H a T->M11.Tab L T->M12.Fc (2* L) T.flatten ⇑T->j<⇑T->(∀l u H',aq H H'->H' l\.tup (ao u)->M11.aV L u->⇑u<=300->M11.walk T u 0=j->Q ↑l H')->Qd vs H Q E_
def KL (n:Nat):iN n++[.int (n:Int)]=iN (n+ 1):=by unfold iN;rw[aj3,ajt];rfl
structure Dh (H0 H:Hp)(d lc:Zs)(L:Nat)(T:Za3)(ps:Zn)(ws:List Zh)(kvs:List (Key×V))(p:Nat):Prop where
 s:aq H0 H
 d:H d\(.dK kvs)
 r:lg kvs ps
 t:bR H ps (ws.map wd)
 c:H lc\(.lst (iN ⇑ws))
 p:M13.Part L T ws p
def Dh.same {H0:Hp}{T:Za3}{ws:List Zh}{b:List (Key×V)}(h:Dh H0 H d a n T F ws b m)(s:aq H I):Dh H0 I d a n T F ws b m:=⟨h.s.trans s,s^h.d,h.r,h.t.same s,s^h.c,h.p⟩
def Xi (n:Nat):∃z:Int,jI [V.int 1,V.int (-1)] ((n:Int) % 2)\.int z/\(1+ (n:Int) / 2)* z=M12.st n:=by
 unfold M12.st;cases h:n % 2=0
 ·erw[(1),5]
  ·rw[show (n:Int) % 2=((0:Nat):Int) by ext];rfl
  ·rw[ajn h];ext
 ·erw[-1,5]
  ·rw[show (n:Int) % 2=((1:Nat):Int) by ext];rfl
  ·rw[ajk h];ext
seal L2.PE L2.PS L2.iO L2.PA L2.PT
def DV:T.vi.Ok P w base 1 Qd:=by
 rwa[T.vi.on fQ (λcw AA outer s H vs Q E hr h=>?_)]
 ·let⟨a,g,L,j,rfl,qX,I,hF,hj,k⟩:=h;let G:=fA hr
  erw[_,{bE 2 fQ.nd (xZ (uT aw (cC ai) xY) rfl rfl (by simp) ⋯),bE 3 fQ.nd (b9 #[aw]),bE 4 fQ.nd aw,bL (fJ ajz (bf pT (pv 4) (3<<<0) (bp _))
    {b8 ajz rfl (p7 rfl T.gT (0|||(3|||4))) (jF rfl (cy (dc 5 fQ.nd) (cy (dc 6 fQ.nd) ie)))
     {bL (bP (Ax (rH G (pv 6) (pv 2)))
      {j9 G (pv 2) (pv 6) (aO lU (lK G (pv 2) (3|||4) (λ_ _=>rfl)) (cC #[aO jG (aO du aw (aO ew (pv 5) aw)) ((b9 #[aw,da cL aw])|||(aO cK (pv 5) aw))])) rfl,aS (cO ajj ajq ajr bJ (pv 3) #[6])}
      bC)},bE 4 fQ.nd (aO du (pv 4) aw)}),bu (lK G (pv 2) (pv 1) (λ_ _=>rfl))}]
  rwa[p9 ?_];intro mQ iI eD fq;let Hg:=I.top;let Km:=I.yc;let jW:=I.let1;intro d hd;rwa[⟨ajB _,λS t=>?_⟩];erw[(aq.upd t) _ _ aj,[(Sum.inl 0,↑S)],2,by show 1<=15;decide];let Fq:S≠d:=λz=>by rw[z,aj]at t;ext t
  let pG:H S=none:=by rw[ak Fq]at t;rwa[t]
  generalize M:upd (upd (upd H d (.dK [])) S (.tup [])) d _=H2;let hd2:H2 d\(.dK [(Sum.inl 0,↑S)]):=by rw[<-M,aj];rfl
  let qV:H2 S\(.tup (ao (wd []))):=by rw[<-M,ak Fq,aj];rfl
  let s2:aq H H2:=λb o e=>by rw[<-M,ak (av e hd),ak (av e pG),ak (av e hd)];rwa[e]
  clear M;rwa[⟨Za4 1,λy Xj=>?_⟩];generalize e_:upd H2 y _=H3;obtain⟨s3,Qa⟩:_/\_\(.lst (iN 1)):=ej e_ Xj;let nlc:=s2.free Xj
  let w3:Dh H H3 d y L g [S] [[]] [(Sum.inl 0,↑S)] 0:=⟨s2.trans s3,s3^hd2,lg.one S,⟨2,λi p w h1 h2=>by rw[ai9.mp (ai5 h1),ai9.mp (ai5 h2)];rwa[s3^qV]⟩,Qa,M13.Part.start I hF⟩
  clear hd2 qV Qa s3 s2 t pG Xj Fq
  let' qE:St->Hp->Prop:=λ eK H'=>∃f ws c v4 D C,eK=#v[↑a,.int j,↑d,↑y,v4,D,C]/\Dh H H' d y L g f ws c (⇑g* (2* L))
  erw[qE,5]
  ·rwa[bH ?_];intro jX;erw[λm σ H'=>∃i f ws c D C,m=⇑g - i/\σ=#v[↑a,.int j,↑d,↑y,.int (i:Nat),D,C]/\i<=⇑g/\Dh H H' d y L g f ws c (i* (2* L)),⟨_,(0),111,none,none,22,ajB _,[amw]▸w3⟩];clear w3;intro m σ H1 q;rwa[aT ?_];intro B;let⟨i,f,ws,c,D,C,rfl,rfl,hi,R⟩:=q;dsimp only[B];clear B
   refine⟨1212,y,12,.inl (aB.of R.c),112212,cP (λh=>?_) (λh=>⟨f,ws,c,1112,by
    let h:¬(i:Int)<(⇑(iN ⇑ws):Int):=λz=>h (ajI z)
    rw[ic]at h;cases e:i<⇑g
    ·rwa[absurd (R.p.has (k:=0) I hF e rfl) ∅]
    ·rw[show ⇑g=i by ext];rwa[R]⟩)⟩
   let h:(i:Int)<(⇑(iN ⇑ws):Int):=ajX h;rw[ic]at h;let Z:=R.p.top;let O:i<⇑g:=∅
   erw[_,λ eK H' h=>h];let⟨rs,rr,row,g1,g2,g3,g4,g5⟩:=lO qX I O;erw[121212,y,11,.int (i:Int),22,aB.of R.c,ck (tW ∅),a,11,↑rr,22,aB.of (R.s^g1),cM g2,rr,2,⟨_,aB.of (R.s^g3)⟩]
   let' ko:Nat->St->Hp->Prop:=λn σ H5=>∃f ws c D C,σ=#v[↑a,.int j,↑d,↑y,.int (i:Nat),D,C]/\i<⇑ws/\Dh H H5 d y L g f ws c (i* (2* L)+ n)
   rwa[oJ (xs:=ao row) ko ⟨f,ws,c,D,C,23,R⟩ (λn σ H5 _ ζ=>by let⟨_,_,_,_,_,_,_,w⟩:=ζ;rwa[aB.of (w.s^g3)]) ?_ ?_]
   ·clear R h Z;intro n v σ H5 p hn hp q;rwa[aT ?_];intro B;let⟨f,ws,c,D,C,rfl,F,w5⟩:=q;dsimp only[B];clear B
    let Ho:n<2* L:=by have:=(ai4.mp hn).1;rw[az,g4]at this;rwa[this]
    rw[bT (g5 n Ho)]at hn;let ev:=Za0 hn;subst ev;let⟨WM,Bv⟩:=M13.Part.step I hF w5.p O Ho;let hle:=M13.Part.le I hF w5.p O Ho;let Dc:=aq.upd (o:=.tup [.int (n:Int),.int ((M11.nx g n i:Nat):Int)]) hp;erw[p,12,bG.of aj,21121122];change upd H5 p _=H6 at Dc ⊢;let l:=w5.same Dc;clear w5 Dc hp;let iJ:⇑f=⇑ws:=by have:=l.t.1;rw[ai6]at this;rwa[this]
    rwa[⟨15,λ_ _ h=>h⟩];erw[1212,d,12,eP.k (k:=Sum.inl ((M11.nx g n i:Nat):Int)) l.d,12];rw[l.r.2];cases J:M11.nx g n i=⇑ws
    ·rw[ajC (show ⇑f<=M11.nx g n i by omega)];rwa[eV ?_];let N:ws[i]?=some ws[i]:=ai1 F
     change ws[i]=u at N;let r:f[i]?\(f[i]'∅):=ai1 ∅
     change f[i]'∅=pa at r;let xq:=l.t.2 i pa (wd u) r (by rw[ajc,N];rfl);let Pa:=(l.p.ok i u N).2.2;let Z:=l.p.top;rwa[⟨121212,y,11,.int (i:Int),22,aB.of l.c,ck (tW F),d,12,l.r.get l.d r,121122,⟨44⟩,112212,(Za4 2),λq8 V6=>?_⟩];let Ft:=aq.upd (o:=.lst [.int 1,.int (-1)]) V6;let U:upd H6 q8 (.lst [.int 1,.int (-1)]) q8\(.lst [.int 1,.int (-1)]):=aj;change upd H6 q8 _=H7 at Ft U ⊢;let⟨z,z1,z2⟩:=Xi n;rwa[⟨121122,(by show (0:Int)<2;decide),q8,11,.int z,22,aB.of U,z1,1122,.inl ⟨by show (-(2 ^ 64:Int))<1+ (n:Int) / 2;ext,by show 1+ (n:Int) / 2<(2 ^ 64:Int);ext⟩,(Za4 1),λq7 WO=>?_⟩];rw[z2];let zL:=aq.upd (o:=.tup [.int (M12.st n)]) WO;let X:upd H7 q7 (.tup [.int (M12.st n)]) q7\(.tup (ao (wd [n]))):=aj;change upd H7 q7 _=H8 at zL X ⊢;let Y:=Ft.trans zL;rwa[⟨pa,q7,1122,Y^xq,X,5,λp3 H9 PZ h9=>?_⟩]
     ·rw[az,az,pM,pM];rwa[ajl (show ⇑u+ 1<=400 by omega) ⋯]
     rw[<-ints_app,<-xE]at h9;let x:=l.same (Y.trans PZ);erw[1212,d,12,j7.k (k:=Sum.inl ((M11.nx g n i:Nat):Int)) x.d (aje (show ⇑c<=300 by have:=x.r.1;omega) ⋯)];let hcd:=ak (H:=H9) (o:=.dK (putK c (Sum.inl ((M11.nx g n i:Nat):Int)) ↑p3)) (bS x.c x.d f!"");erw[12,.inl ⟨21,aB.of (hcd.trans x.c)⟩,12,y,1122,hcd.trans x.c,5]
     ·rw[ic];rwa[aje (show ⇑ws<=300 by omega) ⋯]
     let tk:∀p xs,H9 p\.tup xs->upd (upd H9 d (.dK (putK c (Sum.inl ((M11.nx g n i:Nat):Int)) ↑p3))) y (.lst (iN ⇑ws++[.int ((M11.nx g n i:Nat):Int)])) p\(.tup xs):=λp xs e=>by rw[ak (bS e x.c f!""),ak (bS e x.d f!"")];rwa[e]
     rwa[⟨f++[p3],ws++[u++[n]],putK c (Sum.inl ((M11.nx g n i:Nat):Int)) ↑p3,112,by rw[ai3];ext,λb o e=>?_,5555,Bv J u N⟩]
     ·rw[ak (av e nlc),ak (av e hd)];rwa[x.s^e]
     ·rw[ak (bS x.d x.c f!""),aj]
     ·have:=x.r.put p3;rw[iJ,<-J]at this;rwa[this]
     ·rw[ajt];rwa[(x.t.snoc h9).keep tk]
     ·rw[aj,J,KL,ai3];rfl
    ·let WR:f[M11.nx g n i]?\(f[M11.nx g n i]'∅):=ai1 ∅
     rw[WR];rwa[dI ⟨f,ws,c,112,F,l.s,l.d,l.r,l.t,l.c,WM J⟩]
   ·intro σ H5 q;rwa[aT ?_];intro B;let⟨f,ws,c,D,C,rfl,F,w5⟩:=q;dsimp only[B];clear B;rw[az,g4]at w5;rwa[12112213,i+ 1,f,ws,c,1122,O,[amd]▸w5]
  ·intro eK H4 q;rwa[aT ?_];intro B;let⟨f,ws,c,v4,D,C,rfl,V⟩:=q;dsimp only[B];clear B;let Fu:=M13.Part.end_ I hF V.p;let iJ:⇑f=⇑g:=by have:=V.t.1;rw[ai6,Fu.1]at this;rwa[this]
   let r:f[j]?\(f[j]'∅):=ai1 ∅
   change f[j]'∅=pj at r;let N:ws[j]?\(ws[j]'([Fu.1]▸hj)):=ai1 _
   change ws[j]'([Fu.1]▸hj)=u at N;let⟨a1,a2,a3⟩:=V.p.ok j u N;have:=V.p.top;let hj':=(ai4.mp N).1;rwa[1212,d,12,V.r.get V.d r,k pj (wd u) H4 V.s (V.t.2 j pj (wd u) r (by rw[ajc,N];rfl)) (C2 a1) (by rw[pM];omega) a2]
unseal L2.PE L2.PS L2.iO L2.PA L2.PT
def Dj (b c:Za3)(L:Nat)(H:Hp)(v:V):Prop:=v=.non\/∃a T N,v=↑a/\TabAt H a T/\FT b c L N T/\N<=12
def Dj.same {rs a:Za3}(h:Dj rs a n H q)(s:aq H I):Dj rs a n I q:=h.imp id λζ=>by let⟨b,T,N,e,d,c⟩:=ζ;rwa[⟨b,T,N,e,d.same s,c⟩]
def Nm {T:Za3}{J:List (Nat×Nat)}{R:Za3}(a:0<n):⇑(dW T J R n 0)<=n* ⇑R:=by have:=FD T J R (n - 1) ⇑R;rw[Dd,show n - 1+ 1=n by ext]at this;ext
def yK {T:Za3}(h:TabAt H a T):∃xs,H a\.lst xs/\⇑xs=⇑T:=by let⟨d,c,b⟩:=h;rwa[_,c,by rw[ai6,b.1]]
def Xk:T.law.Ok P w base 13 (Ao K):=by
 rwa[T.law.on fb (λcw AA outer s H vs Q E S h=>?_) (len:=by rintro _ _ _ _ ⟨a,ns,rfl,_⟩;rfl)]
 ·let⟨a,ns,rfl,G,hlen,k⟩:=h
  erw[_,{lQ (pc T.qw (Al T) S #[0]) (jF rfl (cy (dc 1 fb.nd) (cy (dc 2 fb.nd) (cy (dc 3 fb.nd) (cy (dc 4 fb.nd) (cy (dc 5 fb.nd) ie)))))),bE 6 fb.nd (pc T.iR (ku T) S #[1,3,b9 ai]),bE 7 fb.nd (pc T.iR (ku T) S #[1,3,4]),bL (bP (PW.pt (Nt (bf kD (pv 6) dm (bp _)) (Hq (bf kD (pv 7) dm (bp _)))))
    {bu sZ}
    bC),bE 8 fb.nd (pc T.iR (ku T) S #[(pc T.iY (mV T) S #[7])<<<0,pc T.oi (yH T) S #[7,3],b9 ai]),bP (bf kD (pv 8) dm (bp _))
    {bu sZ}
    bC,bP (bf pS (6<<<0) (aO jG (7<<<0) (8<<<0)) (bp _))
    {bu sZ}
    bC,bE 9 fb.nd (cC ai),b8 ajz rfl (cN (i9 xQ (pv 0) jl (ik aw))) (dc 10 fb.nd)
    {bE 9 fb.nd (aO lU (pv 9) (cC #[pc T.nP (sS T) S #[aO cK (aO jG (pv 10) aw) aw,1]]))},bE 11 fb.nd (pc T.mG (oB T) S #[7,aw,9]),bE 9 fb.nd (aO lU (pv 9) (dF iW rfl T.pk akY #[fN (fns:=[]) (ixs:=[]) (cl:=[]) rfl (oE (HS Qw (pc T.vi (DV T) S #[7,11]) jl jl (ik (da cL aw)))) (cu [] rfl True.intro rfl) (λC s H ex=>(da cL (pv 0)))])),bE 12 fb.nd (pc T.yx (Hi T) S #[7,aw,9]),bu (j5 fU (j5 fU (pc T.mG (oB T) S #[8,aw,12]) aw (bp _)) (j5 fU (pc T.mG (oB T) S #[6,aw,9]) aw (bp _)) (bp _))}]
  rwa[zb ?_];intro acP acQ acR u_9 u_8 OJ Cm pD mQ iI eD fq;replace G:aB K H a (ao ns):=G;rwa[⟨12,a,ns,2,G,hlen,λl ta ra pa rows p x R P H1 s1 hl hta jW Wq P9 zJ hx hR KN Fj hP Xl WH=>?_⟩];erw[l,12,bG.of hl,21121121121121122];replace G:=s1.seq G
  let ok1:∀u∈R++[],M11.aV ⇑rows u/\⇑u<=1000:=λu g=>by rw[ajm]at g;rwa[(KN u g).1,ajl (KN u g).2.1 ⋯]
  let Xm:∀u∈R++P,M11.aV ⇑rows u/\⇑u<=1000:=λu g=>by
   rcases ajh.mp g with g|g
   ·rwa[⟨(KN u g).1,ajl (KN u g).2.1 (by decide)⟩]
   ·rwa[⟨(Xl u g).1,(Xl u g).2.1⟩]
  let hRu:∀u∈R,M11.aV ⇑rows u/\⇑u<=1000:=λu g=>Xm u (ajx _ g)
  clear KN Xl hta hl hx P9 zJ s1;change ⇑rows=L at *;rwa[⟨1212,ajB _,λe ne=>?_⟩];let s2:=aq.upd (o:=.lst []) ne;let we:bN (upd H1 e (.lst [])) e []:=⟨[],aj,2,λi p w h=>by simp at h⟩;change upd H1 e _=H2 at s2 we ⊢;replace G:=s2.seq G;replace hR:=hR.same s2;replace hP:=hP.same s2
  suffices main:∀v6 v7 H3,aq H2 H3->Dj R [] L H3 v6->Dj R P L H3 v7->iI { nx:=λ_ m=>Q .non m,rt:=Q } #v[↑a,.int L,↑ta,↑ra,↑pa,.int x,some v6,some v7,none,none,none,none,none] H3 by
   suffices m6:∀v6 H3,aq H2 H3->Dj R [] L H3 v6->eD { nx:=λ_ m=>Q .non m,rt:=Q } #v[↑a,.int L,↑ta,↑ra,↑pa,.int x,some v6,none,none,none,none,none,none] H3 from
    ⟨ra,e,L,R,[],2,jW,3,hR,we,ok1,3,ajB _,λm s=>m6 _ _ s (.inl rfl),λB T N m s h1 h2 h3=>m6 _ _ s (.inr ⟨B,T,N,2,h1,h2,h3⟩)⟩
   intro v6 H3 s3 f6;rwa[121212,ra,pa,L,R,P,2,jW,3,hR.same s3,hP.same s3,Xm,3,WH,λm s=>main _ _ _ (s3.trans s) (f6.same s) (.inl rfl),λB T N m s h1 h2 h3=>main _ _ _ (s3.trans s) (f6.same s) (.inr ⟨B,T,N,2,h1,h2,h3⟩)]
  intro v6 v7 H3 s3 f6 f7;replace G:=s3.seq G;replace hR:=hR.same s3;clear hP s2 ne s3 we ok1 Xm
  let' qE:St->Hp->Prop:=λ eK m=>(∃B T N U F M,eK=#v[↑a,.int L,↑ta,↑ra,↑pa,.int x,↑B,↑U,none,none,none,none,none]/\TabAt m B T/\FT R [] L N T/\N<=12/\TabAt m U F/\FT R P L M F/\M<=12)/\m=H3
  erw[qE,5]
  ·rwa[bH ?_];intro jX;rcases f6 with rfl|⟨B,T,N,rfl,t6,f6,n6⟩
   ·rwa[⟨_,rfl,rfl,_,rfl,eV (eV (k _))⟩]
   rcases f7 with rfl|⟨U,F,M,rfl,t7,f7,n7⟩
   ·rwa[⟨_,rfl,rfl,_,rfl,dI ⟨_,rfl,rfl,_,rfl,eV (k _)⟩⟩]
   rwa[⟨_,rfl,rfl,_,rfl,dI ⟨_,rfl,rfl,_,rfl,dI ⟨⟨B,T,N,U,F,M,rfl,t6,f6,n6,t7,f7,n7⟩,rfl⟩⟩⟩]
  clear f6 f7;intro eK H4 Z;rwa[aT ?_];intro q_;let⟨⟨B,T1,N1,U,c,N2,rfl,f,f1,hN1,d,f2,hN2⟩,rfl⟩:=Z;dsimp only[q_];clear q_;rwa[⟨12,U,c,L,2,d,f2.t,f2.f,λli j H5 s5 nli lw Xn=>?_⟩];let one:=RX f2.t lw;let ill:⇑(bV c j L)<=⇑c* L+ 0:=C3 ..;rw[f2.n]at ill;replace Xn:bN H5 li ((bV c j L).map yF):=Xn
  let cap:⇑(bV c j L)<=40:=by have:=ak1 hN2 Wq;ext
  let⟨qs,pG,qV⟩:=Xn;rwa[⟨li,12,.inl (aB.of pG),1212,U,ra,c,R,L,2,d.same s5,f2.t,f2.f,hR.same s5,hRu,3,λlr Xo H6 s6 Qe X=>?_⟩];obtain rfl:j=Xo:=Kq f2.t f2.f lw.lw Qe.lw;clear Qe;let s46:=s5.trans s6;rwa[⟨ajB _,λe ne=>?_⟩];let s7:=aq.upd (o:=.lst []) ne;let we:bN (upd H6 e (.lst [])) e []:=⟨[],aj,2,λi p w h=>by simp at h⟩;change upd H6 e _=H7 at s7 we ⊢;let Qf:=s46.trans s7;replace G:=Qf.seq G;replace f:=f.same Qf;replace d:=d.same Qf;replace X:bN H6 lr (dW c (bV c j L) R ⇑c 0):=X;rw[f2.n]at X;let eJ:(⇑(qs.map V.ref):Int)=(⇑(bV c j L):Int):=by rw[ai6,qV.1,ai6]
  let dl:=Nm (T:=c) (J:=bV c j L) (R:=R) f2.pos;let dl2:=ak1 hN2 Fj
  let ok3:∀u∈dW c (bV c j L) R N2 0++[],M11.aV ⇑(bV c j L) u/\⇑u<=1000:=λu g=>by rw[ajm]at g;let⟨_,r,S,w,hw,e⟩:=yI.mp g;rw[e];let h1:=Ni (tell c (bV c j L) w r);let h2:=qG c (bV c j L) w r;let h3:=(hRu w hw).2;rwa[λs hs=>gM (M16.qj hs),3]
  suffices m8:∀v8 H8,aq H7 H8->Dj (dW c (bV c j L) R N2 0) [] ⇑(bV c j L) H8 v8->pD { nx:=λ_ m=>Q .non m,rt:=Q } #v[↑a,.int L,↑ta,↑ra,↑pa,.int x,↑B,↑U,some v8,none,none,none,none] H8 from
   ⟨lr,e,⇑(bV c j L),_,[],by rw[<-eJ];rfl,one,cap,X.same s7,we,ok3,3,ajB _,λm s=>m8 _ _ s (.inl rfl),λB T N m s h1 h2 h3=>m8 _ _ s (.inr ⟨B,T,N,2,h1,h2,h3⟩)⟩
  clear X we ok3 eJ dl dl2 Qf s46 s7 s6 s5 ne nli pG qV hR;intro v8 H8 s8 f8;replace G:=s8.seq G;replace f:=f.same s8;replace d:=d.same s8;clear s8;erw[12212];rcases f8 with rfl|⟨cb,T3,N3,rfl,y,f3,hN3⟩
  ·rwa[eV (k _)]
  rwa[dI ?_];let⟨eN,all⟩:=KJ f1 f2 lw f3;let⟨x1,y1,l1⟩:=yK f;let⟨x2,y2,l2⟩:=yK d;let⟨x3,y3,l3⟩:=yK y;rw[f1.n]at l1;rw[f2.n]at l2;rw[f3.n]at l3;rwa[⟨12,B,12,.inl (aB.of y1),12,U,12,.inl (aB.of y2),12,cb,12,.inl (aB.of y3),1122,.inl ⟨33⟩,212,pU (by rw[l1,l2,l3,eN,Int.natCast_mul]) ?_⟩];clear x1 x2 x3 y1 y2 y3 l1 l2 l3 eN hN1 hN3;rwa[⟨ajB _,λt nt=>?_⟩];generalize e_:upd H8 t _=H9;obtain⟨st,qt⟩:_/\_\(.tup (ao [])):=ej e_ nt;rwa[⟨1212,a,12,st.seq G,λb nb=>?_⟩]
  obtain⟨ms,em,hm⟩:∃ms:Zg,fY (ao ns) none (some 63)=ao ms/\⇑ms<=63:=by erw[(ns.drop (HT.bU ⇑(ao ns) 0 none)).take (HT.bU ⇑(ao ns) ⇑(ao ns) (some 63) - HT.bU ⇑(ao ns) 0 none),by unfold fY ao;rw[amF,amG]];rw[ajD,aj4];ext
  rw[em];generalize e_:upd H9 b _=EK;let⟨Xp,qb⟩:=ej e_ nb;let Qg:=st.trans Xp;replace qt:=Xp^qt;replace f:=f.same Qg;replace d:=d.same Qg;replace y:=y.same Qg;clear Xp st nt nb Qg G em;erw[b,2,⟨_,aB.of qb⟩]
  let' ko:Nat->St->Hp->Prop:=λi σ m=>∃(t:Zs)(u:Zg)(v10:Zc),σ=#v[↑a,.int L,↑ta,↑ra,↑pa,.int x,↑B,↑U,↑cb,↑t,v10,none,none]/\aq EK m/\m t\.tup (ao u)/\⇑u=i/\M11.aV L u
  rwa[dC (xs:=ao ms) ko ⟨t,[],none,2,aq.refl _,qt,2,(λs hs=>by ext hs)⟩ (λi σ m _ ζ=>by let⟨_,_,_,_,s,_⟩:=ζ;rwa[aB.of (s^qb)]) ?_ ?_]
  ·intro i v σ H6 hi Z;rwa[aT ?_];intro q_;let⟨t,u,v10,rfl,s6,q6,hl,g⟩:=Z;dsimp only[q_];clear q_;dsimp only[dJ];rwa[bH ?_];intro jX;let⟨z1,rfl,hz⟩:=cf hi;let PH:=(ai4.mp hz).1;rwa[⟨12121122,.inr ⟨44⟩,1122,(by show (0:Int)<2147483647;decide),121,L,2,jW,3,λs h1 h2=>⟨(Za4 1),λu' nu=>?_⟩⟩];rwa[⟨t,u',1122,aq.upd nu _ _ q6,aj,5,λp' H7 s7 e7=>?_⟩]
   ·rw[az];rwa[ajl (show ⇑u+ 1<=100 by omega) ⋯]
   rwa[⟨p',u++[s],12,s6.trans ((aq.upd nu).trans s7),[ints_app]▸e7,by rw[ai3,hl];rfl,λx hx=>?_⟩];rcases ajh.mp hx with q|q
   ·rwa[g x q]
   ·rw[ai9.mp q];rwa[h1,h2]
  intro σ H6 Z;rwa[aT ?_];intro q_;let⟨t,u,v10,rfl,s6,q6,hl,g⟩:=Z;dsimp only[q_];clear q_;rw[az]at hl;replace f:=f.same s6;replace d:=d.same s6;replace y:=y.same s6;clear qt qb s6;let p2:=f2.pos;erw[1212,U,t,c,L,(0),u,2,d,f2.t,[f2.n]▸p2,q6,g];rwa[⟨121212,U,c,L,M11.walk c u 0,2,d,f2.t,f2.f,M11.kc f2.t g ([f2.n]▸p2),λlv v zD s11 hv Xq Pb hvw=>?_⟩];rwa[⟨1212,lv,12,hv,222,λq hq=>?_⟩];let sq:aq zD (upd zD q (.tup (ao v).reverse)):=aq.upd hq;let O:upd zD q (.tup (ao v).reverse) q\(.tup (ao v).reverse):=aj;change upd zD q _=OW at sq O ⊢;let hz:(ao v).reverse.length<=sizeLine:=by rw[al6,az];rwa[ajl Pb ⋯]
  erw[q,2,⟨_,bG.of O⟩];rwa[gy (ao v).reverse Lb (A1 (bG.of O)) (xS (bG.of O)) (uP (bG.of (K:=K) O)) hz (λi x hx R hR=>?_) (λD hD=>?_)]
  ·let⟨z,rfl,_⟩:=cf (ns:=v.reverse) (by unfold ao at hx ⊢;rw[amD];rwa[hx]);rwa[12,z,2,hR]
  let e:((ao v).reverse.map Lb)=ao (M11.back v):=by unfold ao M11.back;rw[<-amD,ajM,ajM];rfl
  rw[e];generalize e_:upd OW D _=Vh;let⟨s13,hDD⟩:=ej e_ hD;rwa[⟨D,12,.inl ⟨aB.of hDD,λl hl=>?_⟩⟩];generalize e_:upd Vh l _=Y9;let⟨s14,vN⟩:=ej e_ hl;let Y:=(s11.trans sq).trans (s13.trans s14);let Pq:=M11.jO Xq;let hw:M11.aV L (u++M11.back v):=gC g Pq;let uF:⇑(u++M11.back v)<=400:=by rw[ai3,Nh];ext
  rwa[⟨t,l,1122,Y^q6,vN,5,λtw H15 s15 JB=>?_⟩]
  ·rw[az,az];rw[ai3]at uF;rwa[ajl uF ⋯]
  rw[<-ints_app]at JB;let I:=Y.trans s15;replace f:=f.same I;replace d:=d.same I;replace y:=y.same I
  let YM:M11.walk c (u++M11.back v) 0=0:=by rw[M11.eG,<-hvw];rwa[Kt f2.t Xq ([f2.n]▸p2)]
  change u++M11.back v=w at *;clear I Y s15 s14 s13 sq s11 vN hDD O hz hv Xq Pb hvw Pq q6 g hl e;rwa[⟨1212,U,tw,c,L,(0),w,2,d,f2.t,f2.f,[f2.n]▸p2,JB,hw,3,λlt Xo H16 Xr Qe m4=>?_⟩];obtain rfl:j=Xo:=Kq f2.t f2.f lw.lw Qe.lw;replace m4:H16 lt\(.tup (ao (fm (tell c (bV c j L) w 0)))):=m4;let Ib:M11.aV ⇑(bV c j L) (fm (tell c (bV c j L) w 0)):=λs hs=>gM (M16.qj hs)
  let q:=all w hw YM;erw[1212,cb,lt,T3,_,(0),12,y.same Xr,f3.t,[f3.n]▸f3.pos,m4,Ib];erw[21212,B,tw,T1,L,(0),w,2,f.same Xr,f1.t,[f1.n]▸f1.pos,Xr^JB,hw]
  let fin:decide (V.bl (decide (V.int ((M11.walk T3 (fm (tell c (bV c j L) w 0)) 0:Nat):Int)=V.int 0))=V.bl (decide (V.int ((M11.walk T1 w 0:Nat):Int)=V.int 0)))=true:=by
   apply ajI;rwa[ajY V.bl (amC.mpr ?_)];let iz:∀n:Nat,V.int (n:Int)=V.int 0↔n=0:=λn=>⟨λh=>by injection h with h;ext,λh=>by rw[h];rfl⟩
   rw[iz,iz];rwa[q]
  erw[22];rw[fin];rwa[k _]
end
def all_mk {l:PySem.W.OpenLaw}(i:M "law"=some ↑a){b c g f h d f1 f2 f3 f4 f5 f6 f7 f8 f9 Jy I y f13 f14 Y o E f18 f19 f20 j f22 O L f25 f26 z f28 N f30 f31 f32 f33 f34 f35 f36 t f38 A f40 f41 f42 f43 f44 f45 f46 f47 f48 B f50 C Q f53 f54 r f56 F f58 R:Zs}{d1 d2 d3 d4 d5 d6 d7 d8 d9 d10 x d12 m d14 d15 G d17 n p d20 S d22 d23 d24 d25 d26 Z d28 d29 W d31 P d33 d34 D q d37 d38 u d40 d41 J d43 d44 d45 U V d48 H d50 d51 d52 k d54 d55 d56 X d58 d59:FuncData}(T:Txt K M ⟨f1,d1,f2,d2,f3,d3,f4,d4,f5,d5,f6,d6,f7,d7,f8,d8,f9,d9,Jy,d10,I,x,y,d12,f13,m,f14,d14,Y,d15,o,G,E,d17,f18,n,f19,p,f20,d20,j,S,f22,d22,O,d23,L,d24,f25,d25,f26,d26,z,Z,f28,d28,N,d29,f30,W,f31,d31,f32,P,f33,d33,f34,d34,f35,D,f36,q,t,d37,f38,d38,A,u,f40,d40,f41,d41,f42,J,f43,d43,f44,d44,f45,d45,f46,U,f47,V,f48,d48,B,H,f50,d50,C,d51,Q,d52,f53,k,f54,d54,r,d55,f56,d56,F,X,f58,d58,R,d59,b,c,g,f,h,d⟩)
 :∃fd:FuncData,(∀(s:Zu)(v:Zt),BindsTo s fd ⟨[v],[]⟩ [("_law_script",v)])/\∀base:Heap,K.In base->base.Ns mainGlobals M->dZ l.prog w K M base (dG l.prog w) 13 a fd ["_law_script"] (Ao K):=by let e:=i.symm.trans T.law.m;ext e;let⟨kV,doc,pm,an,cw,ct,e⟩:=T.law.fd;rwa[_,λs v=>[e]▸.of_eq rfl,λbase _ _=>Xk T]
def walk {l:PySem.W.OpenLaw}{loose:Zp}{XP:(Str->Zl)->Heap->Prop}{g:World->Heap->Prop}{d:DefRec}{K:Params->Za1}(p:l.most\63)(c:d.params.defaults=[])(m:∀(w:World) (h:Heap),g w h->(K w.params).In h)(F:∀(w:World) (b:Str->Zl) (e:Zs) (h:Heap),(K w.params).In h->h.Ns mainGlobals b->b d.name\↑e->∃fd:FuncData,(∀(s:Zu) (u:Zt),BindsTo s fd ⟨[u],[]⟩ [("_law_script",u)])/\∀base:Heap,(K w.params).In base->base.Ns mainGlobals b->dZ l.prog w (K w.params) b base (dG l.prog w) 13 e fd ["_law_script"] (Ao (K w.params))):
 PySem.W.WalkO P loose XP g l.row.toRowW d [] (λf j=>PySem.call f j):=L2.Qt (n:=63) (k:=13) (x:="_law_script") (CX:=λw=>(dG l.prog w)) (sp:=λw=>Ao (K w.params)) p ⋯ c ⟨244⟩ m F (λ_ _ a i o _ q=>⟨a,i,2,q,o,λ_=>rfl⟩) λ_ _ _ _ _ z=>Ov z
end K64
end Lake
open PySem PySem.W PyProof.Rows
namespace PySem.W.Fast
universe tw7406076617925371878 tw14298876054167723894 tw6821917736831376541 tw108748967826286562 tw6708820928324584382 tw12458918118826429926 tw17064801987803764059 tw8535375032662121487 tw321846514385539238 tw15942642719740651341 tw5437634747013346166 tw4233482970958418261 tw8932401328401473209 tw1295125239979619130 tw5685167271942108087 tw5665621432673647331 tw887104847323823185 tw10913783243458772617 tw2688435268505232993 tw2622480675389878649 tw18407909939780928403 tw6641310437714736470 tw6506743322237902825 tw2970227166219070617 tw4224954829704689262 tw8167604433021143300 tw8349053203790571325 tw8079767392292683751 tw2056708854813514194 tw7082987542813754026 tw17803170488118904728 tw8970433702827177382 tw7996977111095599359 tw6944377370997860163 tw8384308454199138506 tw1536448286033823457 tw9820654494496390153 tw1207882845802376323 tw9476953508156065132 tw12217532335689229119 tw15335493036668790260 tw14183973611443033088 tw15241951485012993306 tw7544523104608374230 tw1146718001509727808 tw15961776057422083648 tw8488580307147122711 tw12556480532999647810 tw10602251012630331275 tw193552216119753790 tw8363753945004810370 tw4548970314579145370 tw73842683484430406 tw11333960176944058082 tw17819393990206186644 tw5376306443901114383 tw5382313865506731010 tw5379957090533863130 tw14221787098146808979 tw6109339613535320564 tw18306618450559033498 tw7385092501605808549 tw6950081804350049182 tw13032942156505721515 tw4949444751322770813 tw2996442235115813738 tw7432618834270076235 tw16190341692115607404 tw13835381410518741059 tw8092550628783465298 tw9053382814141424709 tw682244205282198757 tw6500715995857259284 tw6596981327487970231 tw13414044923546652427 tw1801279740690847700 tw27993405523039757 tw2003935247887939747 tw6360459857660926307 tw10414495141777367834 tw14639719073074783432 tw12248431103546860890 tw896768735861121457 tw12067292773726631008 tw3921825236706715831 tw17943833407349217990 tw9717495675110776686 tw6630735130563556688 tw13055371883642774395 tw15379668556919826408 tw18389042767331619174 tw10552886274821615379 tw8177758038899429681 tw2618693680265713664 tw15336014438688874872 tw7416039855499472577 tw14416703610695479806 tw3796049000853429173 tw4223742959137425621 tw2961189388035599891 tw18314152487957668952 tw18291478686084251260 tw7563047193298142835 tw10310267163314685675 tw8498650650294357367 tw6645453822175873530 tw15405988296655305616 tw10956822901529192316 tw15497760686560831479 tw16802819623141589172 tw12502764928296757471 tw2680967477185576628 tw4948619836520284308 tw1881323406088212593 tw16675327036635031743 tw5924594929135735681 tw17886603927333366202 tw1649764774246427829 tw6710688977164103530 tw12965107801951451312 tw1792233156484001527 tw9626261009234606240 tw7787363981531983296 tw8350142888760786761 tw4460365226937805339 tw13351206194971472637 tw17113150534370274466 tw573792151342646845 tw2178134422817333322 tw10710293765010090350 tw1477937452583812860 tw163227316487880315 tw8183039121240281399 tw9936713945984776452 tw4157428124535445380 tw8960092761352658547 tw15963387065068604774 tw10629668407835075330 tw10752514260102471140 tw6401875031825844947 tw12333857842313739012 tw1238607643922069450 tw3211373658245745226 tw18334876899146008406 tw898190308174670583 tw18134121397539036292 tw13685604680015585549 tw15938418509084333326 tw12314568713702800702 tw2219422586693094955 tw15621164451856420786 tw16730556555823881090 tw11941862799903067069 tw958570537892605570 tw17211770890703057687 tw4069311744516892644 tw8271477106600194287 tw15154445132255344454 tw7359543477544054007 tw8194822137100372920 tw15545970034066507867 tw12651848338077460844 tw8718406496661335813 tw5757817626440659781 tw13392974195985838597 tw4738739666096907023 tw1380226991230334665 tw5709278285799296247 tw6611094358875638332 tw18284052317559075317 tw3473982459615434744 tw2745085443562576023 tw3203433105670879823 tw14227417250433119117 tw1633035411906008589 tw4568854622143716733 tw15651111755497808613 tw12174840070324587729 tw5712067054874599698 tw3931754361127293723 tw3119341898524020794 tw14160112513697994003 tw9861442651722157630 tw5651476717554205377 tw8462645038227939060 tw11108175049499286442 tw9080849009574809016 tw3764342588646167226 tw17102832292692772006 tw1286894439737902341 tw10889971997967622030 tw4131629466105352654 tw9985925382481690054 tw12672616800310647819 tw13234411475261535348 tw1744448441772842537 tw16639333120723310571 tw16484116028029541674 tw2807121788710090151 tw8951214827324427367 tw14411076796581870349 tw11312724624588536875 tw16588543357339403694 tw15809609148596247179 tw12377988410814691667 tw12836774871686424085 tw4915556888717051239 tw2422431651980915892 tw16901986604973197243 tw818957350941708192 tw17479228810570916655 tw14296139611890899247 tw12487201734635859230 tw4235177424890128569 tw1458345083128755198 tw11830919093999521503 tw9388970611668144928 tw7801276748314158809 tw6597548245534900743 tw2927776971182225269 tw2253242677211718549 tw12013226632559561993
end PySem.W.Fast
end
open Lake
set_option maxRecDepth 100000 in
set_option maxHeartbeats 0 in
theorem PySem.Challenge.cw_cosetyard_k64_whole_counts_multiply_holds : PySem.Challenge.rw_cosetyard_k64_whole_counts_multiply.Holds := by
  w_on; o_law; k_head;(case hw => w_witness2)
  k_fill
  refine K64.walk (l := PySem.Challenge.rw_cosetyard_k64_whole_counts_multiply) rfl rfl (fun w h Y => PySem.W.km_in_of Y) ?F
  case F =>
    intro w mg fa h KX G hmg
    refine' K64.all_mk hmg ⟨?D1,?D2,?D3,?D4,?D5,?D6,?D7,?D8,?D9,?D10,?D11,?D12,?D13,?D14,?D15,?D16,?D17,?D18,?D19,?D20,?D21,?D22,?D23,?D24,?D25,?D26,?D27,?D28,?D29,?D30,?D31,?D32,?D33,?D34,?D35,?D36,?D37,?D38,?D39,?D40,?D41,?D42,?D43,?D44,?D45,?D46,?D47,?D48,?D49,?D50,?D51,?D52,?D53,?D54,?D55,?D56,?D57,?D58,?D59,?z1,?z2,?z3,?z4,?z5,?z6,?z7,?z8,?z9,?z10,?z11,?z12,?z13,?y_YardError,?y_TooMany,?y_Order,?y_Rooms,?y_Going,?y_Closing,_,_,_,_,_,_,_,_,_,_,_,_,_,_,_,_,_,_,_,_,_,_,_,_,_,_,_,_,_,_,_,_,_,_,_,_,_,_,_,_,_,_,_,_,_,_,_,_,_,_,_,_,_,_,_,_,_,_,_,_,_,_⟩
    all_goals try dsimp only
    (case y_YardError|y_TooMany|y_Order|y_Rooms|y_Going|y_Closing => refine' PySem.W.mg_of KX G ?a;(case a => k_is))
    (case D1|D2|D3|D4|D5|D6|D10|D11|D14|D15|D17|D18|D27|D31 => refine' L2.Def.of KX G ?_ ?_ ?_ ?_ (fun _ _ _ _ _ _ _ hl => by obtain ⟨_, rfl⟩ := L2.args_is1 hl; rfl);all_goals try k_is)
    (case D7|D13|D22|D23|D24|D28|D29 => refine' L2.Def.of KX G ?_ ?_ ?_ ?_ (fun _ _ _ _ _ _ _ hl => by obtain ⟨_, _, _, rfl⟩ := L2.args_is3 hl; rfl);all_goals try k_is)
    (case D8|D16|D20|D21|D30 => refine' L2.Def.of KX G ?_ ?_ ?_ ?_ (fun _ _ _ _ _ _ _ hl => by obtain ⟨_, _, rfl⟩ := L2.args_is2 hl; rfl);all_goals try k_is)
    (case D9|D12|D25|D26 => refine' L2.Def.of KX G ?_ ?_ ?_ ?_ (fun _ _ _ _ _ _ _ hl => by obtain ⟨_, _, _, _, rfl⟩ := L2.args_is4 hl; rfl);all_goals try k_is)
    (case D19 => refine' L2.DDef.of KX G ?_ ?_ ?_ ?_ ?_ (fun _ _ _ _ _ _ _ hl => by obtain ⟨_, _, _, _, _, rfl⟩ := L2.args_is5 hl; exact ⟨_, rfl, rfl⟩) (fun _ _ _ _ _ _ _ hl => by obtain ⟨_, _, _, _, rfl⟩ := L2.args_is4 (Nat.succ.inj hl); exact ⟨_, rfl, rfl⟩);all_goals try k_is)
    (case D32|D40|D44|D49|D51|D57|D59 => refine' L2.MDef.of ?_ ?_ ?_ ?_ ?_ (fun _ _ _ _ _ _ _ hl => by obtain ⟨_, _, _, rfl⟩ := L2.args_is3 hl; rfl);all_goals try k_is)
    (case D33|D36|D38|D42|D56 => refine' L2.MDef.of ?_ ?_ ?_ ?_ ?_ (fun _ _ _ _ _ _ _ hl => by obtain ⟨_, _, _, _, rfl⟩ := L2.args_is4 hl; rfl);all_goals try k_is)
    (case D34|D35|D37|D41|D43|D46|D47|D48|D52|D55 => refine' L2.MDef.of ?_ ?_ ?_ ?_ ?_ (fun _ _ _ _ _ _ _ hl => by obtain ⟨_, _, rfl⟩ := L2.args_is2 hl; rfl);all_goals try k_is)
    (case D39|D45|D53|D54 => refine' L2.MDef.of ?_ ?_ ?_ ?_ ?_ (fun _ _ _ _ _ _ _ hl => by obtain ⟨_, rfl⟩ := L2.args_is1 hl; rfl);all_goals try k_is)
    (case D50 => refine' L2.MDef.of ?_ ?_ ?_ ?_ ?_ (fun _ _ _ _ _ _ _ hl => by obtain ⟨_, _, _, _, _, rfl⟩ := L2.args_is5 hl; rfl);all_goals try k_is)
    (case D58 => refine' L2.MDef.of ?_ ?_ ?_ ?_ ?_ (fun _ _ _ _ _ _ _ hl => by obtain ⟨_, _, _, _, _, _, rfl⟩ := L2.args_is6 hl; rfl);all_goals try k_is)
    (case z1|z2|z3|z4|z5|z6|z7|z8|z9|z10|z11|z12|z13 => refine' PySem.W.mg_none_of KX G ?a;(case a => k_is))
    all_goals first|k_is|kit_is|kts_exm|kernel_rfl
