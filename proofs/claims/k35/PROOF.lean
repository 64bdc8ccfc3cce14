import PyProof.Rows.All
import Wide.All
import OpenK.AllK
import Wide.FinOn
import Lean
import PyProof.EqAt
import PyProof.EqKinds
import PyProof.TupleCall
import PyProof.FString
import OpenK.KOwn
import KE.KTryMore
import PyProof.NsDelKeeps
import PyProof.StrBlock2
import PyProof.AutoListH
import KE.KIntText
import PyProof.Rows.StrIntSpec
import KE.KRevIter
import PyProof.StrWalks
import PyProof.CompUse
import PyProof.NeKinds
import PyProof.Rows.Range3
import PyProof.Rows.EnumRows
import PyProof.ConsumeWalk
import PyProof.Rows.SeqGen
import PyProof.StrLawsRepr
import PyProof.ZipIter
import PyProof.Rows.FactsT2
import PyProof.EnumMake
import PyProof.DictWalks
import PyProof.DictTruth
import PyProof.ListRange
import PyProof.ListStr
import PyProof.TupleOfGen
import PyProof.TupleOfSeq
import PyProof.MinMaxWalk
import PyProof.WalkInts
import KE.KSortAsk
import PyProof.MeetsSeq3
import KE.KRevSl
import PyProof.Rows.SeqMore
import PyProof.ListMulRoad
import PyProof.Rows.SumAny
import PyProof.SeqI3
import PyProof.AttrMissSeq
import KE.KDictOf
import PyProof.Rows.StrCut
import PyProof.Rows.StrSplitCount
import PyProof.DictItems
import PyProof.Rows.SortWalk
import PySem.Challenge.RW_cosetyard_k35_only_where_nothing_follows
set_option Elab.async false
set_option linter.all false
set_option maxRecDepth 100000
set_option compiler.extract_closed false
set_option compiler.small 0
set_option genSizeOfSpec false
set_option maxHeartbeats 4000000
noncomputable section
local macro_rules|`(tactic|decide)=>`(tactic|decide +kernel)
local macro_rules|`(⟨$x,*⟩)=>do
  let q:=#[←`(_),←`(rfl),←`(∅),←`(⋯),←`(?_)]
  let r:Array Lean.Term:=x.getElems.flatMap λe=>match e.raw.isNatLit? with|some n=>(toString n).toList.toArray.map λc=>q[c.toNat-49]!|_=>#[e]
  if x.getElems.any λe=>e.raw.isNatLit?.isSome then`(⟨$r,*⟩)else Lean.Macro.throwUnsupported
local macro_rules|`(tactic|erw[$r,*])=>do let a:=r.getElems.map λe=>(⟨e.raw[1]⟩:Lean.Term);`(tactic|refine⟨$a,*, ?_⟩)
local macro_rules|`(tactic|rwa[$r,*])=>do let a:=r.getElems.map λe=>(⟨e.raw[1]⟩:Lean.Term);if a.size=1&&(a[0]!).raw.isNatLit?.isNone then`(tactic|refine $(a[0]!))else`(tactic|exact⟨$a,*⟩)
local macro_rules|`([$x,*]▸$e)=>do let a←x.getElems.mapM λt=>do match(⟨t⟩:Lean.Term)with|`(-$s)=>`(Lean.Parser.Tactic.rwRule|←$s:term)|s=>`(Lean.Parser.Tactic.rwRule|$s:term)
                                   `(by rw[$a,*];exact $e)
def CVP:Nat→Lean.Term→Lean.MacroM (Lean.TSyntax `rcasesPat)
|0,_=>Lean.Macro.throwUnsupported
|n+1,t=>do match t with
  |`(⟨$x,*⟩)=>let a←x.getElems.mapM λt=>do`(Lean.Parser.Tactic.rcasesPatLo|$(←CVP n t):rcasesPat)
              `(rcasesPat|⟨$a,*⟩)
  |`($i:ident)=>`(rcasesPat|$i:ident)
  |`(_)=>`(rcasesPat|_)
  |_=>Lean.Macro.throwUnsupported
def RN(x:Lean.Syntax):Lean.Syntax:=if x.getId=`rfl then Lean.mkIdent (.num `r (x.getPos?.getD 0).byteIdx)else x
def HR:Nat→Lean.Syntax→Array Lean.Ident
|0,_=>#[]
|n+1,s=>if s.getId=`rfl then#[⟨RN s⟩]else s.getArgs.flatMap (HR n)
theorem GL {p:Prop}(h:let q:Prop:=p;q):p:=h
local macro_rules|`(tactic|let $d:letDecl)=>`(tactic|have $d:letDecl)
local macro_rules|`(tactic|let $p:term:=$e)=>do match p with|`(⟨$x,*⟩)=>if x.getElems.size<3 then`(tactic|obtain $(←CVP 9 p):rcasesPat:=$e)else let n:=HR 9 p;let o←n.mapM λn=>`(tactic|obtain $(Lean.mkIdent `rfl):ident:=$n);let o:=#[←`(tactic|refine GL ?_),←`(tactic|intro q),←`(tactic|obtain $(←CVP 9 ⟨p.raw.rewriteBottomUp RN⟩):rcasesPat:=$e),←`(tactic|subst q)]++o;`(tactic|($[$o]*))|_=>Lean.Macro.throwUnsupported
local macro_rules|`(∅)=>`(by omega)
local macro_rules|`(⋯)=>`(by decide)
local macro_rules|`(tactic|omega)=>`(tactic|lia)
local macro_rules|`($a\$b)=>`($a=some $b)
local macro_rules|`($a^$b)=>match b.raw.isNatLit? with|some _=>Lean.Macro.throwUnsupported|_=>`($a _ _ $b)
local macro_rules|`(↥$s)=>`(($s).heap.objs.size)
local macro_rules|`(#v[$x,*])=>do let a←x.getElems.mapM λe=>do if e.raw.isOfKind `coeNotation||e.raw.isOfKind ``Lean.Parser.Term.dotIdent||e.raw[0].isOfKind ``Lean.Parser.Term.dotIdent then`(some $e)else pure e
                                  `([$a,*])
local macro_rules|`(s!"")=>`(by intro _ z;cases z)
local macro_rules|`(f!"")=>`(by intro z;cases z)
local macro_rules|`($s<*$h)=>`({ $s with heap:=$h })
local macro_rules|`(⇑$s)=>`(($s).length)
local macro_rules|`(↑$s)=>`(.ref $s)
local macro_rules|`(tactic|trivial)=>`(tactic|first|exact .inl rfl|exact .inr rfl|exact .inr (.inl rfl)|exact .inr (.inr rfl)|assumption)
local macro_rules|`(tactic|cbv)=>`(tactic|grind -abstractProof)
local macro_rules|`(tactic|ext $p*)=>match p with|#[]=>`(tactic|omega)|_=>let i:Lean.Ident:=⟨p[0]!.raw[0][0]⟩;`(tactic|cases $i:ident)
local macro_rules|`($a:str>>>$b)=>`({ cls:=.type $a,data:=$b })
local macro_rules|`($x⁻¹)=>`(PySem.wpAny (PySem.model ($x).prog ($x).w))
local macro_rules|`($x<|>$y)=>`(PySem.wpAny (PySem.model $x $y))
local macro_rules|`(universe $x*)=>do return Lean.mkNullNode (←x.mapM λi=>do return(←`(command|def $i:ident:=Nat)).raw)
local macro_rules|`(tactic|cases $h:ident:$p)=>`(tactic|by_cases $h:ident:$p)
local macro_rules|`(tactic|change $t$[$l]?)=>match t with|`($e=$x:ident)=>`(tactic|generalize $e:term=$x:ident$[$l]?)|_=>Lean.Macro.throwUnsupported
local macro_rules|`($s•$b)=>`(($s).heap.get? $b)
local macro_rules|`(~~~$n)=>`(List.range $n)
local macro_rules(kind:=Lean.Parser.Command.declaration)|x=>do if x.getPos?.isNone then throw .unsupportedSyntax else let n←`(command|noncomputable def a:=0);return(if x[1].isOfKind ``Lean.Parser.Command.definition&&x[0].getArgs.all (·.isNone)then x.setArg 0 n.raw[0]else x).rewriteBottomUp λs=>if s.getId=`rfl then s else s.setInfo .none
abbrev Zg:=List Int
abbrev Zh:=List Nat
abbrev Zi:=Option Nat
abbrev Zj:=Option Int
abbrev Zk:=List PySem.Value
abbrev Zl:=Option PySem.Value
abbrev Zm:=Array PySem.Value
abbrev Zn:=List PySem.Addr
abbrev Zo:=Option PySem.Addr
abbrev Zp:=List PySem.Str
abbrev Zq:=List PySem.Env
abbrev Zr:=List PySem.Expr
abbrev Zs:=PySem.Addr
abbrev Zt:=PySem.Value
abbrev Zu:=PySem.Shared
abbrev Za0:=@Option.some.inj
abbrev Za1:=PySem.W.Frag
abbrev Za2:=Nat->Int->Nat->Prop
abbrev Za3:=List Zg
def Za4 (n:Nat)(h:n<=PySem.sizeLine:=by decide):n<=PySem.sizeLine:=h
abbrev ajx:=@PySem.wpAny_bind
abbrev ajy:=@List.getElem?_eq_some_iff
abbrev ajz:=@List.getElem?_eq_getElem
abbrev ajA:=@List.mem_of_getElem?
abbrev ajB:=@PySem.Heap.get?_push_of_some
abbrev ajC:=@List.length_append
abbrev ajD:=@List.length_map
abbrev ajE:=@Nat.le_refl
abbrev ajF:=@List.mem_singleton
abbrev ajG:=@PySem.wpAny_pure
abbrev ajH:=@List.getD_eq_getElem?_getD
abbrev ajI:=@List.mem_append_right
abbrev ajJ:=@Nat.lt_of_le_of_lt
abbrev ajK:=@List.mem_append
abbrev ajL:=@PySem.F.plainAttrs_list
abbrev ajM:=@List.getElem?_append_left
abbrev ajN:=@List.getElem?_append_right
abbrev ajO:=@Nat.le_trans
abbrev ajP:=@PySem.Heap.get?_push_size
abbrev ajQ:=@of_decide_eq_true
abbrev ajR:=@PySem.Heap.lt_size
abbrev ajS:=@List.mem_cons
abbrev ajT:=@List.size_toArray
abbrev ajU:=@List.mem_cons_self
abbrev ajV:=@PySem.PassesOwn.never
abbrev ajW:=@PySem.F.slot_list_append
abbrev ajX:=@PySem.F.type_list_append
abbrev ajY:=@if_neg
abbrev ajZ:=@decide_eq_true
abbrev aj0:=@List.getElem?_map
abbrev aj1:=@List.length_cons
abbrev aj2:=@beq_eq_false_iff_ne
abbrev aj3:=@if_pos
abbrev aj4:=@List.mem_append_left
abbrev aj5:=@List.length_set
abbrev aj6:=@PySem.boot_len
abbrev aj7:=@Nat.lt_of_lt_of_le
abbrev aj8:=@Nat.zero_le
abbrev aj9:=@Nat.ne_of_lt
abbrev aka:=@Int.toNat_natCast
abbrev akb:=@List.append_nil
abbrev akc:=@List.mem_cons_of_mem
abbrev akd:=@List.map_append
abbrev ake:=@List.length_take
abbrev akf:=@List.nodup_cons
abbrev akg:=@List.getElem?_eq_none
abbrev akh:=@List.getElem?_set_self
abbrev aki:=@List.map_map
abbrev akj:=@decide_eq_false
abbrev akk:=@Bool.false_ne_true
abbrev akl:=@List.append_assoc
abbrev akm:=@PySem.Heap.get?_update_self
abbrev akn:=@List.not_mem_nil
abbrev ako:=@PySem.Heap.get?_update_other
abbrev akp:=@List.mem_map
abbrev akq:=@decide_eq_true_iff
abbrev akr:=@List.getElem?_of_mem
abbrev aks:=@PyProof.Rows.callWith_type1
abbrev akt:=@List.mem_range
abbrev aku:=@PySem.wpAny_newObj_type
abbrev akv:=@List.nodup_append
abbrev akw:=@PySem.Calls.spliced_cons
abbrev akx:=@List.length_drop
abbrev aky:=@List.getElem?_set_ne
abbrev akz:=@PySem.wpAny_holding
abbrev akA:=@PySem.wpAny_field
abbrev akB:=@List.map_congr_left
abbrev akC:=@PyProof.Rows.boot_isinstance
abbrev akD:=@PySem.Calls.callWith_builtin
abbrev akE:=@Option.map_eq_some_iff
abbrev akF:=@PyProof.Rows.slot_tuple_getitem
abbrev akG:=@List.length_range
abbrev akH:=@PySem.wpAny_Call_Name_kw
abbrev akI:=@Ne.symm
abbrev akJ:=@List.length_singleton
abbrev akK:=@congrArg
abbrev akL:=@List.length_nil
abbrev akM:=@PySem.wpAny_mono
abbrev akN:=@List.map_cons
abbrev akO:=@PySem.wpAny_setField_rec
abbrev akP:=@Nat.ne_of_gt
abbrev akQ:=@Bool.eq_iff_iff
abbrev akR:=@List.take_length
abbrev akS:=@PySem.wpAny_callSpecial?_slot
abbrev akT:=@PySem.F.plainAttrs_dict
abbrev akU:=@Int.emod_lt_of_pos
abbrev akV:=@PySem.W.kia_one
abbrev akW:=@List.nodup_nil
abbrev akX:=@Nat.lt_irrefl
abbrev akY:=@PySem.wpAny_call_entry
abbrev akZ:=@Nat.lt_succ_self
abbrev ak0:=@List.eq_nil_of_length_eq_zero
abbrev ak1:=@PySem.Heap.SameBut.update
abbrev ak2:=@PySem.Calls.spliced_nil
abbrev ak3:=@Option.isSome_iff_exists
abbrev ak4:=@Array.getElem?_toList
abbrev ak5:=@Nat.lt_succ_of_lt
abbrev ak6:=@PySem.Obj.data_mapFields
abbrev ak7:=@Int.emod_nonneg
abbrev ak8:=@List.range_succ
abbrev ak9:=@PySem.Calls.evalArgs_plain
abbrev ala:=@PySem.codeAny_call_builtin
abbrev alb:=@List.mem_flatMap
abbrev alc:=@Array.getElem?_eq_some_iff
abbrev ald:=@PyProof.Rows.boot_list
abbrev ale:=@PySem.wpAny_truthy_bool
abbrev alf:=@List.ext_getElem?
abbrev alg:=@Int.neg_neg
abbrev alh:=@List.pairwise_map
abbrev ali:=@PySem.Heap.size_push
abbrev alj:=@List.drop_eq_getElem_cons
abbrev alk:=@List.mem_filter
abbrev alm:=@Nat.le_of_lt
abbrev aln:=@PySem.wpAny_loadPart'
abbrev alp:=@PySem.F.slot_dict_get
abbrev alq:=@Nat.sub_self
abbrev alr:=@PySem.tupleKind_room_in1
abbrev als:=@Bool.and_eq_true
abbrev alu:=@List.mem_iff_getElem
abbrev alv:=@List.dropLast_concat_getLast
abbrev alw:=@PySem.F.slot_dict_setdefault
abbrev alx:=@PyProof.Rows.boot_tuple
abbrev aly:=@List.take_succ
abbrev alz:=@Array.length_toList
abbrev alA:=@PySem.mem_of_lookup
abbrev alB:=@List.mem_map_of_mem
abbrev alC:=@List.filter_sublist
abbrev alD:=@Nat.min_eq_left
abbrev alE:=@List.take_of_length_le
abbrev alF:=@PySem.F.slot_tuple_iterator_next
abbrev alG:=@PySem.F.excBase_ValueError
abbrev alH:=@PySem.Obj.isFreed_of_fields
abbrev alI:=@List.length_filter_le
abbrev alJ:=@or_false
abbrev alK:=@PySem.wpAny_setField
abbrev alL:=@List.mem_or_eq_of_mem_set
abbrev alM:=@Nat.mul_le_mul_right
abbrev alN:=@PySem.wpAny_execs_nil
abbrev alO:=@PySem.wpAny_passesOwn
abbrev alP:=@PySem.wpAny_pyIter_list
abbrev alQ:=@List.getElem?_take_of_lt
abbrev alR:=@PySem.wpAny_Call_method
abbrev alS:=@not_false_eq_true
abbrev alT:=@List.length_erase_of_mem
abbrev alU:=@Nat.lt_of_succ_lt
abbrev alV:=@PySem.codeAny_mono
abbrev alW:=@PySem.wpAny_typeOf
abbrev alX:=@PySem.call_meetsIn
abbrev alY:=@Nat.lt_or_ge
abbrev alZ:=@List.replicate_succ
abbrev al0:=@PySem.plainId_quiet
abbrev al1:=@List.cons_append
abbrev al3:=@PySem.F.slot_dict_itemiterator_next
abbrev al6:=@PySem.F.plain_min_loop
abbrev al7:=@PySem.wpAny_call
abbrev al8:=@PySem.F.entry_dict_get
abbrev al9:=@List.find?_cons_of_neg
abbrev ama:=@PySem.W.callWith_K
abbrev amb:=@PySem.F.slot_dict_keyiterator_next
abbrev amc:=@List.nil_append
abbrev amd:=@List.find?_cons
abbrev ame:=@PySem.F.slot_dict_pop
abbrev amf:=@PySem.wpAny_notOrdered_dict
abbrev amg:=@PySem.wpAny_updateSeq
abbrev amh:=@List.take_append_drop
abbrev ami:=@PySem.wpAny_dictEntries
abbrev amj:=@List.foldl_append
abbrev amk:=@Decidable.not_not
abbrev aml:=@PySem.wpAny_loadPart_at
abbrev amm:=@PySem.Around.under_plainId
abbrev amn:=@PySem.wpAny_seqItems
abbrev amo:=@Classical.byContradiction
abbrev amq:=@List.getElem?_eq_none_iff
abbrev amr:=@Nat.mul_le_mul
abbrev ams:=@Nat.min_eq_right
abbrev amt:=@Nat.max_eq_right
abbrev amu:=@PySem.W.hideAll_get
abbrev amv:=@List.getElem?_range
abbrev amw:=@List.flatMap_append
abbrev amx:=@beq_iff_eq
abbrev amy:=@Nat.le_of_eq
abbrev amA:=@PySem.F.args_tuple_add_2
abbrev amB:=@PySem.call_meets
abbrev amC:=@Nat.lt_trans
abbrev amD:=@List.Pairwise.imp_of_mem
abbrev amE:=@PySem.wpAny_standAt
abbrev amF:=@List.mem_filterMap
abbrev amG:=@PySem.F.entry_tuple_add
abbrev amH:=@Bool.or_eq_true
abbrev amI:=@PySem.codeAny_builtin
abbrev amJ:=@Bool.false_eq_true
abbrev amK:=@PySem.wpAny_ite_split
abbrev amL:=@Nat.max_eq_left
abbrev amM:=@List.filter_cons_of_pos
abbrev amN:=@PySem.W.cellsFrom_some
abbrev amO:=@PySem.F.slot_tuple_add
abbrev amP:=@List.find?_cons_of_pos
abbrev amQ:=@Option.map_eq_none_iff
abbrev amR:=@List.pairwise_lt_range
abbrev amS:=@PySem.wpAny_rule
abbrev amT:=@Nat.le_succ
abbrev amU:=@List.flatten_cons
abbrev amV:=@PySem.wpAny_letGo
abbrev amW:=@List.filter_congr
abbrev amX:=@List.getElem?_inj
abbrev amY:=@Nat.add_mul
abbrev amZ:=@if_false
abbrev am0:=@PySem.wpAny_tryCatch
abbrev am1:=@Nat.le_total
abbrev am2:=@List.lookup_cons
abbrev am3:=@List.nodup_range
abbrev am4:=@List.drop_length
abbrev am5:=@if_true
namespace Lake
open PySem PySem.Spec
open PyProof.Rows hiding St
open PySem.W (instObj methodObj hideAll lookIn plainGet hasDictIn findIn plainGet_of isFn plainOver takerIn makesIn emptyDict makes_of specialIn keepIn mroIn kitOne fnOf codeIn mg_of kla_obj kla_fn codeHdIn tabObj exmOne)
namespace L2
abbrev Key:=Sum Int Str
abbrev Zd:=List Key
def tK:Key->Zt->Bool
 |.inl k,v=>Value.isInt k v
 |.inr x,v=>Value.isStrOf x v
def abz (w:World):Key->Int
 |.inl k=>hashInt k
 |.inr x=>hashStr w x
theorem eS:∀{k:Key}{v:Zt},tK k v=true->(∃i t,k=Sum.inl i/\v=Value.int i t)\/(∃x t,k=Sum.inr x/\v=Value.str x t)
 |.inl i,v,h=>by let⟨t,e⟩:=Value.isInt_shape (k:=i) (v:=v) h;rwa[.inl ⟨i,t,2,e⟩]
 |.inr x,v,h=>by let⟨t,e⟩:=Value.isStrOf_shape (x:=x) (v:=v) h;rwa[.inr ⟨x,t,2,e⟩]
def HQ (i:Int)(t:Tok):tK (.inl i) (.int i t)=true:=by simp[tK,Value.isInt]
def HR (x:Str)(t:Tok):tK (.inr x) (.str x t)=true:=by simp[tK,Value.isStrOf]
def RZ (a b:Int):decide ((Sum.inl a:Key)=Sum.inl b)=(a==b):=by cbv
def R6 (a b:Str):decide ((Sum.inr a:Key)=Sum.inr b)=decide (a=b):=by cbv
def R7 (a:Int)(b:Str):decide ((Sum.inl a:Key)=Sum.inr b)=false:=akj (λq=>nomatch q)
def R8 (a:Str)(b:Int):decide ((Sum.inr a:Key)=Sum.inl b)=false:=akj (λq=>nomatch q)
def bZ (c:Program)(w:World):PySem.KeyKind c w Key where
 is:=tK
 hash:=abz w
 inj:=λv a b l f=>by
  rcases eS l with ⟨i,t,rfl,rfl⟩|⟨x,t,rfl,rfl⟩
  ·rcases eS f with ⟨j,u,rfl,e⟩|⟨y,u,rfl,e⟩
   ·cbv
   cbv
  ·rcases eS f with ⟨j,u,rfl,e⟩|⟨y,u,rfl,e⟩
   ·rwa[nomatch e]
   cbv
 byValue:=λk v h=>by rcases eS h with ⟨i,t,rfl,rfl⟩|⟨x,t,rfl,rfl⟩ <;> rfl
 pyHash:=λd h=>by
  rcases eS d with ⟨i,t,rfl,rfl⟩|⟨x,t,rfl,rfl⟩
  ·rwa[wpAny_pyHash_int h]
  ·rwa[wpAny_pyHash_str h]
 eqBool:=λm d h=>by
  rcases eS m with ⟨i,t,rfl,rfl⟩|⟨x,t,rfl,rfl⟩
  ·rcases eS d with ⟨j,u,rfl,rfl⟩|⟨y,u,rfl,rfl⟩
   ·rw[RZ]at h;rwa[wpAny_eqBool_int h]
   ·rw[R7]at h;rwa[SeqAt.EqAt.int_str i t y u _ _ _ _ h]
  ·rcases eS d with ⟨j,u,rfl,rfl⟩|⟨y,u,rfl,rfl⟩
   ·rw[R8]at h;rwa[SeqAt.EqAt.str_int x t j u _ _ _ _ h]
   ·rw[R6]at h;rwa[wpAny_eqBool_str h]
 «strs»:=λk x t v h=>by
  rcases eS h with ⟨i,u,rfl,e⟩|⟨y,u,rfl,e⟩
  ·rwa[nomatch e]
  ·injection e with g _
   subst g;cases v <;> rfl
def Eb (a:Program)(w:World)(i:Int)(t:Tok):(bZ a w).is (.inl i) (.int i t)=true:=HQ i t
def Ec (a:Program)(w:World)(x:Str)(t:Tok):(bZ a w).is (.inr x) (.str x t)=true:=HR x t
end L2
variable {n m i j:Nat}{a b c d:PySem.Addr}{z y:Int}{v u:PySem.Value}{x f:PySem.Str}{e:PySem.Expr}{p:PySem.Pos}{K:Za1}{Q E:PySem.Value->PySem.Shared->Prop}{s:PySem.Shared}{P:PySem.Program}{w:PySem.World}{h g:PySem.Heap}{R:Za2}{A:PySem.Around}{o:List (PySem.Addr×PySem.Obj)}{M:PySem.Str->Option PySem.Value}{l:Zg}{N:List PySem.Value}{B:Zh}{W:Za3}{U:Unit->PySem.Shared->Prop}{C:List PySem.Expr}{F:List PySem.Addr}{Z:List PySem.Str}
namespace L2
inductive V where
 |non|bl (b:Bool)|int (i:Int)|str (x:Str)|nX (b:Array UInt8)|AZ (b:UInt64)|ref (a:Zs)|ty (n:String)
 deriving DecidableEq
abbrev Zc:=Option V
abbrev Zb:=List V
def RelV:V->Zt->Prop
 |.non,u=>u=Value.none
 |.bl b,u=>u=Value.bool b
 |.int i,u=>∃t,u=Value.int i t
 |.str x,u=>∃t,u=Value.str x t
 |.nX b,u=>∃t,u=Value.bytes b t
 |.AZ b,u=>∃t,u=Value.float b t
 |.ref a,u=>u=Value.ref a
 |.ty n,u=>u=Value.type n
abbrev Vals:Zb->Zk->Prop:=Paired RelV
def Vals.length {xs:Zb}{us:Zk}(r:Vals xs us):⇑xs=⇑us:=Paired.length r
theorem Vals.get:∀{b:Zb}{a:Zk}{i:Nat}{x:V},Vals b a->b[i]?\x->∃u,a[i]?\u/\RelV x u
 |_,_,_,_,.nil,e=>by simp at e
 |_,_,0,_,.cons r _,e=>by simp at e;subst e;rwa[12,r]
 |_,_,i+ 1,x,.cons _ t,e=>by let⟨u,d,c⟩:=Vals.get (i:=i) (x:=x) t (by simpa using e);rwa[u,by simpa using d,c]
theorem Vals.set {x:V}(r:RelV x u):∀{xs:Zb}{us:Zk}(i:Nat),Vals xs us->Vals (xs.set i x) (us.set i u)
 |_,_,_,.nil=>.nil
 |_,_,0,.cons _ t=>.cons r t
 |_,_,i+ 1,.cons q t=>.cons q (Vals.set r i t)
theorem Vals.append:∀{a ys:Zb}{b ws:Zk},Vals a b->Vals ys ws->Vals (a++ys) (b++ws)
 |_,_,_,_,.nil,s=>s
 |_,_,_,_,.cons r t,s=>.cons r (Vals.append t s)
theorem Vals.take:∀{xs:Zb}{us:Zk}(n:Nat),Vals xs us->Vals (xs.take n) (us.take n)
 |_,_,0,_=>.nil
 |_,_,_+ 1,.nil=>.nil
 |_,_,n+ 1,.cons r t=>.cons r (Vals.take n t)
theorem Vals.drop:∀{xs:Zb}{us:Zk}(n:Nat),Vals xs us->Vals (xs.drop n) (us.drop n)
 |_,_,0,r=>r
 |_,_,_+ 1,.nil=>.nil
 |_,_,n+ 1,.cons _ t=>Vals.drop n t
def fq:Zc->Zl->Prop
 |some v,some u=>RelV v u
 |none,none=>True
 |_,_=>False
def KV {a:Type}:List (a×V)->List (a×Zt)->Prop:=Paired λ(p:a×V)(q:a×Zt)=>p.1=q.1/\RelV p.2 q.2
def kV:Key->V
 |.inl i=>.int i
 |.inr x=>.str x
inductive HO where
 /-- a list -/
 |lst (xs:Zb)
 /-- a tuple (never changes) -/
 |tup (xs:Zb)
 /-- a dict whose keys are ints and texts;one whose keys are tuples of ints and texts (the empty one is both) -/
 |dK (kvs:List (Key×V))|dT (kvs:List (Zd×V))
 /-- a set of ints:its members,its size -/
 |set (S:Int->Bool) (n:Nat)
 /-- an instance of the class at C,its dict at dx,its attributes -/
 |ins (C dx:Zs) (fs:List (Str×V))
 /-- the dict of the instance at x -/
 |own (x:Zs)
 /-- the dict of an exception -/
 |xd (fs:List (Str×V))
 /-- a bound method,f of x -/
 |met (f x:Zs)
 /-- a range object lo,lo+ 1,.. below hi -/
 |fT (lo hi:Int)
 /-- a thing that is known to the object (the script;a dict while a loop walks it):read,never written while it is so -/
 |cL (o:Obj) (u:HO)
 /-- a code object's table -/
 |fU (ps:Zm)
 /-- any other thing,by what is true of its one object (a def of ah1 own:aib a S n:=HO.ext λh=>..) -/
 |ext (φ:Heap->Prop)
abbrev Hp:=Zs->Option HO
def upd (H:Hp)(a:Zs)(o:HO):Hp:=λb=>if b=a then some o else H b
def aj {H:Hp}{o:HO}:upd H a o a\o:=by unfold upd;cbv
def ao {H:Hp}{o:HO}(h:b≠a):upd H a o b=H b:=by unfold upd;rw[ajY h]
def Qk {H:Hp}{o u:HO}:upd (upd H a o) a u=upd H a u:=by funext b;unfold upd;cbv
def cz {H:Hp}{o u:HO}(h:H a\o)(c:H b\u)(d:o≠u):a≠b:=by cbv
def aw {H:Hp}{o:HO}(h:H a\o)(c:H b=none):a≠b:=by cbv
section
variable (P:Program) (w:World)
def cu (H:Hp)(h:Heap)(a:Zs):HO->Prop
 |.lst xs=>⇑xs<=sizeLine/\∃(c:Zk)(n:Nat),Vals xs c/\h.get? a\("list">>>.seq c.toArray n)
 |.tup xs=>⇑xs<=sizeLine/\∃c:Zk,Vals xs c/\IsTup h a c.toArray
 |.dK b=>⇑b<=sizeLine/\(a==sysModules)=false/\∃j,KV b j/\h.DictOf (bZ P w) a j
 |.dT b=>⇑b<=sizeLine/\(a==sysModules)=false/\∃xs:List (Zd×Zs×Zt),
  Paired (λ(p:Zd×V)(q:Zd×Zs×Zt)=>p.1=q.1/\H q.2.1\.tup (p.1.map kV)/\RelV p.2 q.2.2) b xs/\∃o l s,h.get? a\o/\o.ExactDict/\o.data=.dict l s/\l.toList=xs.map (entryOfKey (tupleKind (bZ P w)))/\(xs.map (·.1)).Nodup
 |.set S n=>h.SetOf (intKind P w) a S n
 |.ins C e fs=>H e\.own a/\⇑fs<=1000/\e≠a/\h.get? a\instObj C e/\∃d,h.Ns1 e d/\(∀f,fq (fs.lookup f) (d f))/\PySem.Within d (fs.map (·.1))
 |.own _=>∃o,h.get? a\o
 |.xd fs=>∃d,h.Ns1 a d/\∀f,fq (fs.lookup f) (d f)
 |.fT lo r=>∃t u v,h.get? a\("range">>>.fields #[.int lo t,.int r u,.int 1 v])
 |.cL o u=>h.get? a\o/\cu H h a u
 |.fU m=>h.get? a\{ cls:=.none,data:=.fields m }
 |.met f x=>h.get? a\(methodObj ↑f ↑x)
 |.ext g=>g h/\(∃o,h.get? a\o)/\∀k i:Heap,g k->(∀o,k.get? a\o->i.get? a\o)->g i
def dS (H:Hp)(h:Heap):Prop:=∀a o,H a\o->cu P w H h a o
end
section
variable {P:Program}{w:World}{H H':Hp}{h h':Heap}{a:Zs}{o:HO}
def cu.lt (x:cu P w H h a o):a<h.objs.size:=by
 cases o with
 |lst c=>let⟨_,_,_,_,e⟩:=x;rwa[ajR e]
 |tup c=>let⟨_,_,_,p⟩:=x;rwa[p.lt]
 |dK b=>let⟨_,_,_,_,o,_,_,e,_⟩:=x;rwa[ajR e]
 |dT b=>let⟨_,_,_,_,o,_,_,e,_⟩:=x;rwa[ajR e]
 |set S n=>let⟨o,_,_,_,e,_⟩:=x;rwa[ajR e]
 |ins C dx fs=>let⟨_,_,_,e,_⟩:=x;rwa[ajR e]
 |own y=>let⟨_,e⟩:=x;rwa[ajR e]
 |xd fs=>let⟨_,⟨_,_,_,e,_⟩,_⟩:=x;rwa[ajR e]
 |fT lo i=>let⟨_,_,_,e⟩:=x;rwa[ajR e]
 |cL ob u=>let⟨e,_⟩:=x;rwa[ajR e]
 |fU d=>exact ajR (show h.get? a=some _ from x)
 |met f y=>exact ajR (show h.get? a=some _ from x)
 |ext g=>let⟨_,⟨_,e⟩,_⟩:=x;rwa[ajR e]
theorem Paired.Lc {g e:Type}{F G:g->e->Prop}:∀{c:List g}{d:List e},Paired F c d->(∀a b,F a b->G a b)->Paired G c d
 |_,_,.nil,_=>.nil
 |_,_,.cons r t,f=>.cons (f^r) (Paired.Lc t f)
def cu.fO (x:cu P w H h a o)(k:∀b u,(b=a\/H b\.own a)->h.get? b\u->h'.get? b\u)(G:∀b,H b\.own a->H' b\.own a)(D:∀b l,H b\.tup l->H' b\.tup l):cu P w H' h' a o:=by
 induction o with
 |lst l=>let⟨z,j,n,r,e⟩:=x;rwa[z,j,n,r,k _ _ (.inl rfl) e]
 |tup l=>let⟨z,j,r,ob,e,c⟩:=x;rwa[z,j,r,ob,k _ _ (.inl rfl) e,c]
 |dK m=>let⟨z,y,E,r,ob,g,i,e,c⟩:=x;rwa[z,y,E,r,ob,g,i,k _ _ (.inl rfl) e,c]
 |dT m=>let⟨z,y,l,r,ob,g,i,e,c⟩:=x;rwa[z,y,l,Paired.Lc r λp q z=>⟨z.1,D^z.2.1,z.2.2⟩,ob,g,i,k _ _ (.inl rfl) e,c]
 |set S n=>let⟨ob,g,i,t,e,c⟩:=x;rwa[ob,g,i,t,k _ _ (.inl rfl) e,c]
 |ins C dx fs=>let⟨d,z,ne,e,s,⟨A,g,i,F,c⟩,r⟩:=x;rwa[G _ d,z,ne,k _ _ (.inl rfl) e,s,⟨A,g,i,k _ _ (.inr d) F,c⟩,r]
 |own y=>let⟨ob,e⟩:=x;rwa[ob,k _ _ (.inl rfl) e]
 |xd fs=>let⟨s,⟨A,g,i,e,c⟩,r⟩:=x;rwa[s,⟨A,g,i,k _ _ (.inl rfl) e,c⟩,r]
 |fT lo L=>let⟨t,u,v,e⟩:=x;rwa[t,u,v,k _ _ (.inl rfl) e]
 |cL ob u I=>let⟨e,q⟩:=x;rwa[k _ _ (.inl rfl) e,I q]
 |fU B=>let e:h.get? a\{ cls:=.none,data:=.fields B }:=x;show h'.get? a\{ cls:=.none,data:=.fields B };rwa[k a _ (.inl rfl) e]
 |met f y=>let e:h.get? a\(methodObj ↑f ↑y):=x;show h'.get? a\methodObj ↑f ↑y;rwa[k a _ (.inl rfl) e]
 |ext J=>let⟨p,⟨o,e⟩,st⟩:=x;rwa[st _ _ p λo q=>k _ _ (.inl rfl) q,⟨o,k _ _ (.inl rfl) e⟩,st]
def dS.lt (x:dS P w H h)(e:H a\o):a<h.objs.size:=(x a o e).lt
def dS.fresh (x:dS P w H h)(e:h.objs.size<=a):H a=none:=by
 cases q:H a with
 |none=>rfl
 |some u=>exact absurd (aj7 (x.lt q) e) (akX _)
def dS.kept (x:dS P w H h)(k:∀b u,h.get? b\u->h'.get? b\u):dS P w H h':=λa o e=>(x a o e).fO (λb u _ q=>k b u q) (λ_ q=>q) λ_ _ q=>q
def dS.laid (x:dS P w H h)(k:∀b u,h.get? b\u->h'.get? b\u)(g:h.objs.size<=a)(new:cu P w (upd H a o) h' a o):dS P w (upd H a o) h':=λb u e=>by
 let f:=x.fresh g;cases d:b=a
 ·subst d;rw[aj]at e;cbv
 ·rw[ao d]at e;rwa[(x b u e).fO (λc v _ q=>k c v q) (λc q=>[ao (aw q f)]▸q) λc i q=>[ao (aw q f)]▸q]
end
def Rd (H:Hp)(a:Zs)(u:HO):Prop:=H a\u\/∃o,H a\(.cL o u)
def Rd.ok {H:Hp}{u:HO}(r:Rd H a u)(x:dS P w H h):cu P w H h a u:=by
 rcases r with r|⟨o,r⟩
 ·rwa[x a u r]
 ·let⟨_,q⟩:=x a _ r;rwa[q]
def uy:Option HO->Prop
 |some (.lst _)=>True
 |some (.dK _)=>True
 |some (.dT _)=>True
 |some (.set _ _)=>True
 |some (.ins _ _ _)=>True
 |some (.ext _)=>True
 |_=>False
section
variable {P:Program}{w:World}{H:Hp}{h h':Heap}{x e:Zs}{o':HO}
def dS.write (ok:dS P w H h)(mu:uy (H x))(l:e=x\/H e\.own x)(k:∀b u,b≠e->h.get? b\u->h'.get? b\u)(g:∃u,h'.get? e\u)(new:cu P w (upd H x o') h' x o'):dS P w (upd H x o') h':=λb u q=>by
 let a:∀c y,H c\.own y->c≠x:=λc y r z=>by subst z;rw[r]at mu;rwa[mu]
 let jB:∀c d,H c\.tup d->c≠x:=λc d r z=>by subst z;rw[r]at mu;rwa[mu]
 cases i:b=x
 ·subst i;rw[aj]at q;cbv
 ·rw[ao i]at q;cases f:b=e
  ·let j:H b\(.own x):=by
    rcases l with z|z
    ·cbv
    ·rw[f];rwa[z]
   rw[q]at j;ext j;let⟨v,m⟩:=g;rwa[v,by cbv]
  ·refine(ok b u q).fO (λc v hc r=>k c v ?_ r) (λc r=>[ao (a c b r)]▸r) λc d r=>by rw[ao (jB c d r)];rwa[r]
   cbv
end
structure Un (fs ex:Zn)(H H':Hp)(h h':Heap):Prop where
 keep:∀b o,h.get? b\o->H b=none->b∉fs->b∉ex->h'.get? b\o
 slot:∀b o,h.get? b\o->H b=none->b∈fs->b∉ex->∃sl,h'.get? b\{ o with slots:=sl }
 free:∀b o,h.get? b\o->H b=none->b∉ex->H' b=none
 there:∀b o,h.get? b\o->b∉ex->∃o',h'.get? b\o'
 iJ:∀b xs,H b\.tup xs->H' b\(.tup xs)
 hJ:∀b o u,H b\.cL o u->H' b\(.cL o u)
 iK:∀b ps,H b\.fU ps->∃more,H' b\(.fU (ps++more))
section
variable {fs ex:Zn}{H H1:Hp}{h h1 h':Heap}{a x e:Zs}{o:HO}
def Un.any (u:Un fs ex H H1 h h1){b:Zs}{ob:Obj}(q:h.get? b\ob)(n:H b=none)(d:b∉ex):∃sl,h1.get? b\{ ob with slots:=sl }:=by
 cases c:b∈fs
 ·rwa[u.slot b ob q n c d]
 ·rwa[ob.slots,u.keep b ob q n c d]
def Un.kept (k:∀b u,h.get? b\u->h'.get? b\u):Un fs ex H H h h':=⟨λb ob q _ _ _=>k b ob q,λb ob q _ _ _=>⟨ob.slots,k b ob q⟩,λ_ _ _ n _=>n,λb ob q _=>⟨ob,k b ob q⟩,λ_ _ q=>q,λ_ _ _ q=>q,λ_ c q=>⟨#[],by rw[q];simp⟩⟩
def Un.refl:Un fs ex H H h h:=Un.kept λ_ _ q=>q
def Un.laid (k:∀b u,h.get? b\u->h'.get? b\u)(d:h.objs.size<=a)(c:H a=none):Un fs ex H (upd H a o) h h' where
 keep:=λb u q _ _ _=>k b u q
 slot:=λb u q _ _ _=>⟨u.slots,k b u q⟩
 free:=λb u q n _=>by rw[ao (aj9 (aj7 (ajR q) d))];rwa[n]
 there:=λb u q _=>⟨u,k b u q⟩
 iJ:=λb f q=>by rw[ao (aw q c)];rwa[q]
 hJ:=λb u f q=>by rw[ao (aw q c)];rwa[q]
 iK:=λb g q=>⟨#[],by rw[ao (aw q c),q];simp⟩
def Un.write (mu:uy (H x))(l:e=x\/H e\.own x)(k:∀b u,b≠e->h.get? b\u->h'.get? b\u)(g:∃u,h'.get? e\u):Un fs ex H (upd H x o) h h':=by
 let i:∀b,H b=none->b≠x:=λb n z=>by subst z;rw[n]at mu;rwa[mu]
 let d:∀b,H b=none->b≠e:=λb n z=>by cbv
 let c:∀b u,H b\u->¬uy (some u)->b≠x:=λb u q nm z=>by cbv
 rwa[⟨λb u q n _ _=>k b u (d b n) q,λb u q n _ _=>⟨u.slots,k b u (d b n) q⟩,λb u q n _=>[ao (i b n)]▸n,λb u q _=>?_,λb f q=>[ao (c b _ q λz=>z)]▸q,λb u f q=>[ao (c b _ q λz=>z)]▸q,λb j q=>⟨#[],by rw[ao (c b _ q λz=>z),q];simp⟩⟩]
 cbv
end
def NC (h:Heap)(H:Hp):Zn:=(~~~h.objs.size).filter λa=>(H a).isSome
def p7 (h:Heap)(H:Hp):Heap:=hideAll h (NC h H)
def HS (h:Heap)(H:Hp):(p7 h H).objs.size=h.objs.size:=PySem.W.hideAll_size _ _
def uX {H:Hp}{o:Obj}(e:h.get? b\o)(n:H b=none):(p7 h H).get? b\o:=
 amu _ e λa=>by
  let q:(H b).isSome=true:=(alk.mp a).2
  cbv
def Ql {H:Hp}{o:Obj}(e:(p7 h H).get? b\o):h.get? b\o/\H b=none:=by
 let a:h.get? b\o:=PySem.W.of_hideAll (NC h H) e;erw[a]
 cases q:H b with
 |none=>rfl
 |some x=>
  let c:b∈NC h H:=alk.mpr ⟨akt.mpr (ajR a),by simp[q]⟩;let z:(p7 h H).get? b=none:=PySem.W.hideAll_none (NC h H) c
  cbv
def Qm (g h:Heap)(L:Zs):List (Zs×Obj):=(~~~h.objs.size).filterMap λa=>if a=L\/(g.get? a).isSome=true then none else (h.get? a).map λo=>(a,o)
def rest (g h:Heap)(L d:Zs):List (Zs×Obj):=(Qm g h L).filter λp=>decide (p.1≠d)
end L2
variable {H I J:L2.Hp}{q:L2.V}{L:List L2.V}
namespace L2
structure Mod (K:Za1)(mg:Str->Zl)(base:Heap):Prop where
 vU:K.In base
 glob:base.Ns mainGlobals mg
 blt:∃mb,base.Ns builtinsNs mb/\∀x:Str,x≠"__name__"->mb x=bootBuiltins x
 nolimit:base.NoLimit
structure Cx where
 prog:Program
 w:World
 K:Za1
 mg:Str->Zl
 base:Heap
 A:Around
 N:Zp
 e8:Zu
 uY:Hp
 env:Env
 outer:Zq
 stack:Zq
 ex:Zn
 fn:Str->Bool
 calm:Bool
 pn:List (Zs×Obj)
 xe:Zt->Zu->Prop
def c9 (l:Zq):Zn:=l.filterMap (·.frame)
abbrev Cx.fs (X:Cx):Zn:=c9 X.outer
def Sb (sc:Scope)(x:Str):Prop:=sc.names.lookup x=some .local\/sc.names.lookup x=some .cell\/sc.names.lookup x=some .free
def Loc (sc:Scope)(x:Str):Prop:=sc.names.lookup x=some .local\/sc.names.lookup x=some .cell
def Look (env:Env)(h:Heap)(m:Str->Zl)(x:Str)(u:Zt):Prop:=(env.kindOf x=some .local/\m x\u)\/((env.kindOf x=some .cell\/env.kindOf x=some .free)/\∃c,env.cells.lookup x\c/\h.IsCell c (some u))
class eT (X:Cx)(K:outParam Za1):Prop where
 eq:X.K=K
instance (priority:=low) eT.any {X:Cx}:eT X X.K:=⟨2⟩
structure Cx.Ok (X:Cx):Prop where
 mod:Mod X.K X.mg X.base
 kind:X.env.scope.kind=.function
 glob:X.env.globals=mainGlobals
 blt:X.env.builtins=builtinsNs
 above:X.e8.heap.objs.size<=X.env.locals
 inj:∀x y c,X.env.cells.lookup x\c->X.env.cells.lookup y\c->x=y
 has:∀x,(X.env.kindOf x=some .cell\/X.env.kindOf x=some .free)->∃c,X.env.cells.lookup x\c
 A0:∀x c,X.fn x=true->X.env.cells.lookup x\c->X.e8.heap.objs.size<=c
 hd:X.calm=true->X.A.handled=none
 frames:X.A.frames\X.stack
 EV:X.stack=X.outer\/(X.stack=X.env::X.outer/\X.env.frame\X.env.locals)
 ND:∀b∈X.ex,b≠X.env.locals/\∀x c,X.env.cells.lookup x\c->c≠b
 bs:∀b o,X.base.get? b\o->X.e8.heap.get? b\o/\X.uY b=none
 rP:X.base.objs.size<=X.e8.heap.objs.size
 uZ:∀b o,X.base.get? b\o->b∉X.ex
 x3:∀b∈X.ex,b∉X.fs
 jC:X.e8.heap.FunFrames X.base X.outer
 uz:∀b∈X.fs,X.uY b=none
structure Inv (X:Cx)(pins:List (Zs×Obj))(σ:List Zc)(H:Hp)(s:Zu):Prop where
 ok:X.Ok
 os:s.os=X.e8.os
 bare:AllBare s.gens
 base:Un X.fs X.ex X.uY H X.e8.heap s.heap
 loc:∃m,s.heap.Ns X.env.locals m/\∀(i:Nat)(x:Str)(v:V),X.N[i]?\x->σ[i]?\some v->Sb X.env.scope x->∃u,RelV v u/\Look X.env s.heap m x u
 cell:∀x c,X.env.cells.lookup x\c->∃v,s.heap.IsCell c v
 free:H X.env.locals=none
 hM:∀x c,X.env.cells.lookup x\c->H c=none
 pin:∀p∈X.pn++pins,s•p.1\p.2/\H p.1=none/\p.1≠X.env.locals/\p.1∉X.fs/\∀v,p.2.data≠.cell v
 aU:dS X.prog X.w H s.heap
 len:⇑σ=⇑X.N
section
variable {X:Cx}{pins:List (Zs×Obj)}{σ:List Zc}{H H':Hp}{s:Zu}{h':Heap}
def Cx.Ok.abA (ok:X.Ok){b:Zs}{o:Obj}(e:X.base.get? b\o):b∉X.fs:=λa=>by
 have:=(ok.jC.mem a).1
 cbv
def Inv.bs (I:Inv X pins σ H s):∀b o,X.base.get? b\o->s•b\o/\H b=none:=λb o e=>⟨I.base.keep b o (I.ok.bs b o e).1 (I.ok.bs b o e).2 (I.ok.abA e) (I.ok.uZ b o e),I.base.free b o (I.ok.bs b o e).1 (I.ok.bs b o e).2 (I.ok.uZ b o e)⟩
def Inv.bk (I:Inv X pins σ H s):∀b o,X.base.get? b\o->s•b\o:=λb o e=>(I.bs b o e).1
def Inv.mod (I:Inv X pins σ H s):Mod X.K X.mg X.base:=I.ok.mod
def Inv.dQ (I:Inv X pins σ H s):X.K.In s.heap:=I.ok.mod.vU.keeps I.bk
def Inv.lt (I:Inv X pins σ H s):X.env.locals<↥s:=let ⟨_,a,_⟩:=I.loc;a.lt
def Inv.sz (I:Inv X pins σ H s):X.e8.heap.objs.size<=↥s:=ajO I.ok.above (alm I.lt)
def Inv.Gr (I:Inv X pins σ H s){a:Zs}(h:↥s<=a):a∉X.fs:=λc=>by let⟨_,o,b,_⟩:=I.ok.jC.mem c;rwa[absurd (aj7 (ajR b) (ajO I.sz h)) (akX _)]
def Inv.ml (I:Inv X pins σ H s):∀x c,X.env.cells.lookup x\c->c≠X.env.locals:=λx c e z=>by
 let⟨v,o,f,hd⟩:=I.cell x c e;let⟨m,⟨h,g,d,b,a,_⟩,_⟩:=I.loc
 cbv
def Inv.jC (I:Inv X pins σ H s):s.heap.FunFrames X.base X.outer:=by
 let all:∀(l:Zq),(∀b∈c9 l,b∈X.fs)->X.e8.heap.FunFrames X.base l->s.heap.FunFrames X.base l:=by
  intro l
  induction l with
  |nil=>intro _ _;trivial
  |cons env r i=>
   intro f j;let⟨g,⟨L,o,d,m,h,hd⟩,k⟩:=j;let a:L∈X.fs:=f L (by unfold c9;cbv);let⟨sl,e⟩:=I.base.slot L o h (I.ok.uz L a) a λz=>I.ok.x3 L z a
   rwa[g,⟨L,_,d,m,e,hd⟩,i (λb c=>f b (by unfold c9;rw[List.filterMap_cons,d];rwa[akc _ c])) k]
 rwa[all X.outer (λ_ c=>c) I.ok.jC]
def Inv.stack (I:Inv X pins σ H s):s.heap.FunFrames X.base X.stack:=by
 rcases I.ok.EV with e|⟨e,a⟩
 ·rw[e];rwa[I.jC]
 ·rw[e];let⟨m,b,_⟩:=I.loc;rwa[.cons (by rw[I.ok.kind];decide) a b ?_ I.jC];rwa[Heap.get?_none_of_le (ajO I.ok.rP I.ok.above)]
def Inv.A1 (I:Inv X pins σ H s):∀b∈c9 X.stack,b∈X.env.locals::X.fs:=λb a=>by
 rcases I.ok.EV with e|⟨e,c⟩
 ·cbv
 ·rw[e]at a;unfold c9 at a;rw[List.filterMap_cons,c]at a;rwa[a]
def Inv.oW (I:Inv X pins σ H s):∀b∈c9 X.stack,H b=none:=λb a=>by
 rcases ajS.mp (I.A1 b a) with e|a
 ·rw[e];rwa[I.free]
 ·let⟨_,o,c,_⟩:=I.ok.jC.mem a;rwa[I.base.free b o c (I.ok.uz b a) λz=>I.ok.x3 b z a]
def Inv.step {g':Array GenState}{t':Nat}{d':Drawn}{ch:Zn}(I:Inv X pins σ H s)(g:∀b∈ch,(b∈X.ex\/X.e8.heap.objs.size<=b)/\b≠X.env.locals/\(∀x c,X.env.cells.lookup x\c->c≠b)/\∀p∈X.pn++pins,p.1≠b)(keep:∀b o,b≠X.env.locals->b∉X.fs->b∉ch->s•b\o->H b=none->h'.get? b\o)(slot:∀b o,b≠X.env.locals->b∈X.fs->b∉ch->s•b\o->H b=none->∃sl,h'.get? b\{ o with slots:=sl })(free:∀b o,b∉ch->s•b\o->H b=none->H' b=none)(there:∀b o,b∉ch->s•b\o->∃B,h'.get? b\B)(iJ:∀b j,H b\.tup j->H' b\.tup j)(hJ:∀b o u,H b\.cL o u->H' b\.cL o u)(iK:∀b C,H b\.fU C->∃more,H' b\.fU (C++more))(ns:∀m,s.heap.Ns X.env.locals m->h'.Ns X.env.locals m)(aU:dS X.prog X.w H' h')(J:AllBare g'):
 Inv X pins σ H' { s with heap:=h',gens:=g',drawn:=d',toks:=t' }:=by
 let A:∀b o,X.e8.heap.get? b\o->b≠X.env.locals:=λb o e=>aj9 (aj7 (ajR e) I.ok.above)
 let h:∀b o,X.e8.heap.get? b\o->b∉X.ex->b∉ch:=λb o e a w=>by
  rcases (g b w).1 with z|z
  ·rwa[a z]
  ·rwa[absurd (aj7 (ajR e) z) (akX _)]
 let cellK:∀x c,X.env.cells.lookup x\c->∀v,s.heap.IsCell c v->h'.IsCell c v:=λx c e v ζ=>by
  let⟨o,y,hd⟩:=ζ
  let f:c∉ch:=λz=>(g c z).2.2.1 x c e rfl
  cases hc:c∈X.fs
  ·let⟨sl,q⟩:=slot c o (I.ml x c e) hc f y (I.hM x c e);rwa[_,q,hd]
  ·rwa[o,keep c o (I.ml x c e) hc f y (I.hM x c e),hd]
 rwa[⟨I.ok,I.os,J,⟨λb o e n w a=>?_,λb o e n w a=>?_,λb o e n a=>?_,λb o e a=>?_,λb j e=>iJ b j (I.base.iJ b j e),λb o j e=>hJ b o j (I.base.hJ b o j e),λb C e=>?_⟩,5,λx c e=>?_,5,λx c e=>?_,λp F=>?_,aU,I.len⟩]
 ·rwa[keep b o (A b o e) w (h b o e a) (I.base.keep b o e n w a) (I.base.free b o e n a)]
 ·let⟨sl,t⟩:=I.base.slot b o e n w a;let⟨E,D⟩:=slot b _ (A b o e) w (h b o e a) t (I.base.free b o e n a);rwa[E,D]
 ·let⟨B,t⟩:=I.base.there b o e a;rwa[free b B (h b o e a) t (I.base.free b o e n a)]
 ·let⟨B,t⟩:=I.base.there b o e a;rwa[there b B (h b o e a) t]
 ·let⟨O,t⟩:=I.base.iK b C e
  cbv
 ·let⟨m,M,L⟩:=I.loc;rwa[⟨m,ns m M,λi x v t D N=>?_⟩];let⟨u,r,l⟩:=L i x v t D N;erw[u,r];rcases l with l|⟨k,c,e,z⟩
  ·rwa[.inl l]
  ·rwa[.inr ⟨k,c,e,cellK x c e _ z⟩]
 ·let⟨v,z⟩:=I.cell x c e;rwa[v,cellK x c e v z]
 ·let⟨m,⟨o,_,_,y,_⟩,_⟩:=I.loc;rwa[free _ o (λz=>(g _ z).2.1 rfl) y I.free]
 ·let⟨v,o,y,hd⟩:=I.cell x c e;rwa[free c o (λz=>(g c z).2.2.1 x c e rfl) y (I.hM x c e)]
 ·let⟨e,n,ne,G,d⟩:=I.pin p F;let f:p.1∉ch:=λz=>(g p.1 z).2.2.2 p F rfl
  rwa[keep p.1 p.2 ne G f e n,free p.1 p.2 f e n,ne,G,d]
def Inv.un {t':Nat}(I:Inv X pins σ H s)(u:Un X.fs [] H H' s.heap h')(aU:dS X.prog X.w H' h'):Inv X pins σ H' { s with heap:=h',toks:=t' }:=by
 let⟨m,⟨o,p,v,g,r⟩,_⟩:=id I.loc;let⟨sl,i⟩:=u.any g I.free (by simp)
 exact I.step (g':=s.gens) (d':=s.drawn) (ch:=[]) (λ_ z=>nomatch z) (λb o _ c _ e n=>u.keep b o e n c (by simp)) (λb o _ c _ e n=>u.slot b o e n c (by simp)) (λb o _ e n=>u.free b o e n (by simp)) (λb o _ e=>u.there b o e (by simp)) u.iJ u.hJ u.iK (λt j=>by let⟨q,f,d,a,h⟩:=j;rw[g]at a;ext a;rwa[_,f,d,i,h]) aU I.bare
def Inv.call {g':Array GenState}{t':Nat}{d':Drawn}{ch:Zn}(I:Inv X pins σ H s)(u:Un (c9 X.stack) ch H H' s.heap h')(aU:dS X.prog X.w H' h')(l:AllBare g')(d:∀b∈ch,(b∈X.ex\/X.e8.heap.objs.size<=b)/\b≠X.env.locals/\(∀x c,X.env.cells.lookup x\c->c≠b)/\∀p∈X.pn++pins,p.1≠b):
 Inv X pins σ H' { s with heap:=h',gens:=g',drawn:=d',toks:=t' }:=by
 let⟨m,⟨o,t,y,i,r⟩,_⟩:=id I.loc;let⟨sl,g⟩:=u.any i I.free λz=>(d _ z).2.1 rfl
 exact I.step (ch:=ch) d (λb o g k hc e n=>u.keep b o e n (λz=>(ajS.mp (I.A1 b z)).elim g k) hc) (λb o _ _ hc e n=>u.any e n hc) (λb o hc e n=>u.free b o e n hc) (λb o hc e=>u.there b o e hc) u.iJ u.hJ u.iK (λw q=>by let⟨v,h,f,a,j⟩:=q;rw[i]at a;ext a;rwa[_,h,f,g,j]) aU l
def Inv.turned {t':Nat}{it:Zs}(I:Inv X pins σ H s)(k:∀b o,b≠it->s•b\o->h'.get? b\o)(C:H it=none)(a:it≠X.env.locals)(g:it∈X.ex\/X.e8.heap.objs.size<=it)(d:∀x c,X.env.cells.lookup x\c->c≠it)(j:∀p∈X.pn++pins,p.1≠it):Inv X pins σ H { s with heap:=h',toks:=t' }:=by
 let l:∀b u,H b\u->b≠it:=λb u e z=>by cbv
 refine I.step (g':=s.gens) (d':=s.drawn) (ch:=[it]) (λb f=>?_) (λb o _ _ hc e _=>k b o (λz=>hc (by simp[z])) e) (λb o _ _ hc e _=>⟨o.slots,k b o (λz=>hc (by simp[z])) e⟩) (λ_ _ _ _ n=>n)
  (λb o hc e=>⟨o,k b o (λz=>hc (by simp[z])) e⟩) (λ_ _ e=>e) (λ_ _ _ e=>e) (λb y e=>⟨#[],by rw[e];simp⟩) (λm t=>?_) (λb u e=>?_) I.bare
 ·let e:b=it:=by simpa using f
  subst e;rwa[g,a,d,j]
 ·let⟨o,i,w,h,r⟩:=t;rwa[o,i,w,k _ o (akI a) h,r]
 ·rwa[(I.aU b u e).fO (λc v hc q=>k c v ?_ q) (λ_ q=>q) λ_ _ q=>q]
  cbv
def Inv.tok (I:Inv X pins σ H s)(t:Nat):Inv X pins σ H { s with toks:=t }:=I.un (h':=s.heap) (t':=t) Un.refl I.aU
def Inv.kept {t':Nat}(I:Inv X pins σ H s)(k:∀b u,s•b\u->h'.get? b\u):Inv X pins σ H { s with heap:=h',toks:=t' }:=I.un (Un.kept k) (I.aU.kept k)
def Inv.laid {o:HO}{t':Nat}(I:Inv X pins σ H s)(k:∀b u,s•b\u->h'.get? b\u)(c:↥s<=a)(new:cu X.prog X.w (upd H a o) h' a o):
 Inv X pins σ (upd H a o) { s with heap:=h',toks:=t' }:=I.un (Un.laid k c (I.aU.fresh c)) (I.aU.laid k c new)
def Inv.write {x e:Zs}{o:HO}{t':Nat}(I:Inv X pins σ H s)(mu:uy (H x))(c:e=x\/H e\.own x)(k:∀b u,b≠e->s•b\u->h'.get? b\u)(a:∃u,h'.get? e\u)(new:cu X.prog X.w (upd H x o) h' x o):Inv X pins σ (upd H x o) { s with heap:=h',toks:=t' }:=I.un (Un.write mu c k a) (I.aU.write mu c k a new)
def Inv.jL (I:Inv X pins σ H s)(h:∀p∈o,s•p.1\p.2/\H p.1=none/\p.1≠X.env.locals/\p.1∉X.fs/\∀v,p.2.data≠.cell v):Inv X o σ H s:=⟨I.ok,I.os,I.bare,I.base,I.loc,I.cell,I.free,I.hM,λp a=>(ajK.mp a).elim (λz=>I.pin p (aj4 _ z)) (h p),I.aU,I.len⟩
def u0 (d:Z.Nodup){i j:Nat}{x:Str}(a:Z[i]?\x)(b:Z[j]?\x):i=j:=by let⟨g,c⟩:=ajy.mp a;let⟨f,e⟩:=ajy.mp b;rwa[(List.getElem_inj d).mp (c.trans e.symm)]
def y4 {M:Model}{v:V}(I:Inv X pins σ H s)(hN:X.N.Nodup)(L:X.N[i]?\x)(l:Loc X.env.scope x)(r:RelV v u)(h:∀O,Inv X pins (σ.set i (some v)) H O->(∃a,Heap.SameBut a s.heap O.heap/\(a=X.env.locals\/X.env.cells.lookup x\a))->U () O)(hf:X.fn x=true\/X.env.scope.names.lookup x=some .local:=by trivial):wpAny M A (storeName X.env x u) U E s:=by
 let⟨m,hn,hl⟩:=id I.loc;let J:(X.env.scope.kind==.class || (X.env.scope.kind==.module && X.env.locals !=X.env.globals))=false:=by rw[I.ok.kind];rfl
 let B:i < ⇑σ:=by rw[I.len];rwa[(ajy.mp L).1]
 let ml:=I.ml
 let tracked:∀{a:Zs}{h':Heap},(∃o,s•a\o/\H a=none)->Heap.SameBut a s.heap h'->dS X.prog X.w H h':=λ{a h'} ha f b ob e=>by
  let⟨_,_,T⟩:=ha;rwa[(I.aU b ob e).fO (λc Q t q=>(f.2 c ?_).trans q) (λ_ q=>q) λ_ _ q=>q]
  cbv
 rcases l with G|G
 ·rwa[wpAny_storeName_local G hn (λh' hn' f=>?_) J];let⟨oL,_,_,hoL,_⟩:=id hn;rwa[h _ ⟨I.ok,I.os,I.bare,⟨λb o e n C l=>?_,λb o e n C l=>?_,I.base.free,λb o e l=>?_,I.base.iJ,I.base.hJ,I.base.iK⟩,⟨_,hn',λj y R g w e3=>?_⟩,λy c e=>?_,I.free,I.hM,λp hp=>?_,tracked ⟨oL,hoL,I.free⟩ f,by simpa using I.len⟩ ⟨_,f,.inl rfl⟩]
  ·rwa[(f.2 b (aj9 (aj7 (ajR e) I.ok.above))).trans (I.base.keep b o e n C l)]
  ·let⟨Y,g⟩:=I.base.slot b o e n C l;rwa[Y,(f.2 b (aj9 (aj7 (ajR e) I.ok.above))).trans g]
  ·let⟨o',g⟩:=I.base.there b o e l;rwa[o',(f.2 b (aj9 (aj7 (ajR e) I.ok.above))).trans g]
  ·cases D:j=i
   ·subst D;rw[L]at g;ext g;rw[akh B]at w;ext w;rwa[u,r,.inl ⟨G,by simp⟩]
   ·rw[aky (akI D)]at w;let⟨u',S,q⟩:=hl j y R g w e3;erw[u',S];rcases q with ⟨k,e⟩|⟨k,c,e,z⟩
    ·rwa[.inl ⟨k,?_⟩];have:y≠x:=λe=>D (u0 hN g (e ▸ L))
     simp[this,e]
    ·rwa[.inr ⟨k,c,e,z.sameBut f (ml y c e)⟩]
  ·let⟨Q,z⟩:=I.cell y c e;rwa[Q,z.sameBut f (ml y c e)]
  ·let⟨e,n,ne,nf,d⟩:=I.pin p hp;rwa[(f.2 p.1 ne).trans e,n,ne,nf,d]
 ·let F:X.fn x=true:=by
   rcases hf with z|z
   ·rwa[z]
   ·cbv
  let⟨c,t⟩:=I.ok.has x (.inl G);let⟨Q,z⟩:=I.cell x c t;rwa[wpAny_storeName_cell I.ok.kind G t z (λh' Z f=>?_)];let⟨oc,P,aic⟩:=id z;rwa[h (s<*h') ⟨I.ok,I.os,I.bare,⟨λb o e n C l=>?_,λb o e n C l=>?_,I.base.free,λb o e l=>?_,I.base.iJ,I.base.hJ,I.base.iK⟩,⟨m,hn.sameBut f (akI (ml x c t)),λj y R g w e3=>?_⟩,λy N e=>?_,I.free,I.hM,λp hp=>?_,tracked ⟨oc,P,I.hM x c t⟩ f,by simpa using I.len⟩ ⟨c,f,.inr t⟩]
  ·rwa[(f.2 b (aj9 (aj7 (ajR e) (I.ok.A0 x c F t)))).trans (I.base.keep b o e n C l)]
  ·let⟨Y,g⟩:=I.base.slot b o e n C l;rwa[Y,(f.2 b (aj9 (aj7 (ajR e) (I.ok.A0 x c F t)))).trans g]
  ·let⟨o',g⟩:=I.base.there b o e l;rwa[o',(f.2 b (aj9 (aj7 (ajR e) (I.ok.A0 x c F t)))).trans g]
  ·cases D:j=i
   ·subst D;rw[L]at g;ext g;rw[akh B]at w;ext w;rwa[u,r,.inr ⟨.inl G,c,t,Z⟩]
   ·rw[aky (akI D)]at w;let⟨u',S,q⟩:=hl j y R g w e3;erw[u',S];rcases q with q|⟨k,N,e,z'⟩
    ·rwa[.inl q]
    ·rwa[.inr ⟨k,N,e,z'.sameBut f ?_⟩];rintro rfl;rwa[D (u0 hN g (I.ok.inj _ _ _ e t ▸ L))]
  ·cases W:N=c
   ·cbv
   ·let⟨w2,z2⟩:=I.cell y N e;rwa[w2,z2.sameBut f W]
  ·let⟨e,n,ne,nf,d⟩:=I.pin p hp;rwa[⟨(f.2 p.1 ?_).trans e,n,ne,nf,d⟩]
   cbv
def p8 {M:Model}{v:V}(I:Inv X pins σ H s)(d:X.N.Nodup)(e:X.N[i]?\x)(f:Loc X.env.scope x)(r:RelV v u)(h:∀a,Inv X pins (σ.set i (some v)) H a->U () a)(b:X.fn x=true\/X.env.scope.names.lookup x=some .local:=by trivial):wpAny M A (storeName X.env x u) U E s:=y4 I d e f r (λa c _=>h a c) b
def Inv.Gs {s':Zu}{ch:Zn}(I:Inv X pins σ H s)(h:s'.os=s.os)(u:Un (c9 X.stack) ch H H' s.heap s'.heap)(aU:dS X.prog X.w H' s'.heap)(i:AllBare s'.gens)(a:∀b∈ch,(b∈X.ex\/X.e8.heap.objs.size<=b)/\b≠X.env.locals/\(∀x c,X.env.cells.lookup x\c->c≠b)/\∀p∈X.pn++pins,p.1≠b):Inv X pins σ H' s':=by let⟨h',g,d,f,j⟩:=s';let e:j=s.os:=h;subst e;rwa[I.call (g':=g) (t':=f) (d':=d) u aU i a]
end
abbrev XK:=Zt->Zo->Hp->Prop
abbrev St:=List Zc
abbrev VK:=V->Hp->Prop
abbrev TE:=St->Hp->VK->Prop
abbrev TT:=St->Hp->(Bool->Hp->Prop)->Prop
abbrev TA:=St->Hp->(Zb->Hp->Prop)->Prop
structure Ends where
 nx:St->Hp->Prop
 rt:VK
 bk:St->Hp->Prop:=λ_ _=>False
 ct:St->Hp->Prop:=λ_ _=>False
abbrev TS:=Ends->St->Hp->Prop
def EP (X:Cx)(a:List (Zs×Obj))(d:St)(Q:VK)(u:Zt)(c:Zu):Prop:=∃v b,Inv X a d b c/\RelV v u/\Q v b
def TP (X:Cx)(a:List (Zs×Obj))(e:St)(Q:Bool->Hp->Prop)(b:Bool)(d:Zu):Prop:=∃c,Inv X a e c d/\Q b c
def AP (X:Cx)(a:List (Zs×Obj))(f:St)(Q:Zb->Hp->Prop)(e:Zk)(d:Zu):Prop:=∃b c,Inv X a f c d/\Vals b e/\Q b c
def SP (X:Cx)(b:List (Zs×Obj))(D:Ends)(f:Flow)(d:Zu):Prop:=
 match f with
 |.next=>∃ a c,Inv X b a c d/\D.nx a c
 |.brk=>∃ a c,Inv X b a c d/\D.bk a c
 |.cont=>∃ a c,Inv X b a c d/\D.ct a c
 |.ret u=>∃v a c,Inv X b a c d/\RelV v u/\D.rt v c
def PE (X:Cx)(e:Expr)(t:TE):Prop:=∀(a:List (Zs×Obj))(s:Zu)(b:St)(H:Hp)(Q:VK),Inv X a b H s->t b H Q->X⁻¹ X.A (eval e X.env) (EP X a b Q) X.xe s
def PT (X:Cx)(e:Expr)(t:TT):Prop:=∀(a:List (Zs×Obj))(s:Zu)(b:St)(H:Hp)(Q:Bool->Hp->Prop),Inv X a b H s->t b H Q->X⁻¹ X.A (isTrue e X.env (eval e X.env)) (TP X a b Q) X.xe s
def PW (X:Cx)(e:Expr)(t:TT):Prop:=∀(whole:Sem Zt)(a:List (Zs×Obj))(s:Zu)(b:St)(H:Hp)(Q:Bool->Hp->Prop),Inv X a b H s->t b H Q->X⁻¹ X.A (isTrue e X.env whole) (TP X a b Q) X.xe s
def PW.pt {X:Cx}{t:TT}(h:PW X e t):PT X e t:=h _
def PA (X:Cx)(d:Zr)(t:TA):Prop:=∀(b:Pos)(a:List (Zs×Obj))(s:Zu)(c:St)(H:Hp)(Q:Zb->Hp->Prop),Inv X a c H s->t c H Q->X⁻¹ X.A (spliced (backTo b (starEach d X.env))) (AP X a c Q) X.xe s
def PS (X:Cx)(st:Stmt)(t:TS):Prop:=∀(a:List (Zs×Obj))(s:Zu)(b:St)(H:Hp)(D:Ends),Inv X a b H s->t D b H->X⁻¹ X.A (exec st X.env) (SP X a D) X.xe s
def jM (X:Cx)(st:List Stmt)(t:TS):Prop:=∀(a:List (Zs×Obj))(s:Zu)(b:St)(H:Hp)(D:Ends),Inv X a b H s->t D b H->X⁻¹ X.A (execs st X.env) (SP X a D) X.xe s
def bq {c:Type}{t:Sem c}{Q b:c->Zu->Prop}{M:Model}(h:wpAny M A t Q E s)(d:∀a s,Q a s->b a s):wpAny M A t b E s:=akM h d λ_ _ x=>x
end L2
variable {D:L2.St}{r:L2.TE}{G:L2.Ends}{X:L2.Cx}
namespace L2
section
variable {X:Cx}
def bin {b:Expr}{l:TE}(B:PE X e r)(o:PE X b l){a:List (Zs×Obj)}{s:Zu}{c:St}{H:Hp}{R:V->V->Hp->Prop}(I:Inv X a c H s)(h:r c H λx k=>l c k λy d=>R x y d){m:Type}{Q:m->Zu->Prop}{f:Zt->Zt->Sem m}(w:∀v u j x y d,Inv X a c d j->RelV x v->RelV y u->R x y d->X⁻¹ X.A (f v u) Q X.xe j):
 X⁻¹ X.A (eval e X.env) (λv i=>X⁻¹ X.A (eval b X.env) (λu g=>X⁻¹ X.A (f v u) Q X.xe g) X.xe i) X.xe s:=by
 rwa[bq (B a s c H _ I h) λv z ζ=>?_];let⟨x,k,p,n,q⟩:=ζ
 rwa[bq (o a z c k _ p q) λu j ζ=>?_];let⟨y,d,t,A,C⟩:=ζ
 rwa[w v u j x y d t n A C]
inductive jD (i:Nat)(σ:St)(H:Hp)(Q:VK):Prop
 |mk (v:V):σ[i]?\some v->Q v H->jD i σ H Q
def tC (v:V):TE:=λ_ H Q=>Q v H
def Sd (o:X.N[i]?\x)(w:Sb X.env.scope x)(f:(x==("__debug__":Str))=false:=by decide)(g:(x==("__classdict__":Str))=false:=by decide):PE X (.Name x p) (jD i):=by
 intro d s n H Q I h;let⟨v,e,h⟩:=h;let⟨m,q,k⟩:=I.loc;let⟨u,r,l⟩:=k i x v o e w;let fin:EP X d n Q u s:=⟨v,H,I,r,h⟩;rcases l with ⟨b,t⟩|⟨b,c,j,a⟩
 ·rwa[wpAny_Name (wpAny_loadName_local I.ok.kind b q t fin) f]
 ·rcases b with b|b
  ·rwa[wpAny_Name (wpAny_loadName_cell I.ok.kind b j a fin) f]
  ·rwa[wpAny_Name (wpAny_loadName_free I.ok.kind b j a fin g) f]
def ak {i j a}:PE X (.Constant (.int i) j a) (tC (.int i)):=λ_ _ _ H _ I h=>wpAny_Constant_int ⟨.int i,H,I.tok _,⟨12⟩,h⟩
def eD {b j a}:PE X (.Constant (.bool b) j a) (tC (.bl b)):=λ_ _ _ H _ I h=>Constant_bool ⟨.bl b,H,I,2,h⟩
def b9 {j a}:PE X (.Constant .none j a) (tC .non):=λ_ _ _ H _ I h=>Constant_none ⟨.non,H,I,2,h⟩
def Se {x j a}:PE X (.Constant (.str x) j a) (tC (.str x)):=λ_ _ _ H _ I h=>Calls.Constant_str ⟨.str x,H,I.tok _,⟨12⟩,h⟩
def Gl (X:Cx)(x:Str):Prop:=X.env.kindOf x=some .globalImplicit
def kI (I:Inv X o D H s)(c:Gl X x)(b:X.mg x\u)(h:Q u s)(a:(x==("__debug__":Str))=false:=by decide):X⁻¹ X.A (eval (.Name x p) X.env) Q E s:=Calls.Name_function_global I.ok.kind c (Calls.loadGlobal_global ([I.ok.glob]▸I.mod.glob.keeps I.bk) b h) a
def gJ (I:Inv X o D H s)(f:Gl X x)(b:X.mg x=none)(c:bootBuiltins x\u)(h:Q u s)(g:x≠"__name__":=by decide)(a:(x==("__debug__":Str))=false:=by decide):X⁻¹ X.A (eval (.Name x p) X.env) Q E s:=by let⟨i,e,d⟩:=I.mod.blt;rwa[Calls.Name_function_global I.ok.kind f (Calls.loadGlobal_builtin ([I.ok.glob]▸I.mod.glob.keeps I.bk) b ([I.ok.blt]▸e.keeps I.bk) ((d x g).trans c) h) a]
def kJ {v:V}(d:Gl X x)(b:X.mg x=none)(c:bootBuiltins x\u)(r:RelV v u)(e:x≠"__name__":=by decide)(a:(x==("__debug__":Str))=false:=by decide):PE X (.Name x p) (tC v):=λ_ _ _ H _ I h=>gJ I d b c ⟨v,H,I,r,h⟩ e a
def t2I (e b:TE)(k:Int->Int->Hp->Prop):St->Hp->Prop:=λ a H=>e a H λx d=>b a d λy c=>∃i j,x=.int i/\y=.int j/\k i j c
variable {a b:Expr}{ta tb:TE}{pos:Pos}
def PC (X:Cx)(g:CmpOp)(a b:Expr)(t:TE):Prop:=
 ∀(c:List (Zs×Obj))(s:Zu)(f:St)(H:Hp)(Q:VK),Inv X c f H s->t f H Q->X⁻¹ X.A (eval a X.env) (λv e=>X⁻¹ X.A (eval b X.env) (λu d=>X⁻¹ X.A (compareOp g v u) (EP X c f Q) X.xe d) X.xe e) X.xe s
def A2 (b:Expr){c:CmpOp}(h:c≠.In)(f:c≠.NotIn):behindInMarks c b=false:=by
 let e:(c==CmpOp.In)=false:=by cbv
 let d:(c==CmpOp.NotIn)=false:=by cbv
 cases b <;> simp[behindInMarks,e,d]
def abB (p:Int->Int->Bool)(ta tb:TE):TE:=λ d H Q=>t2I ta tb (λi j c=>Q (.bl (p i j)) c) d H
abbrev NF:TE->TE->TE:=abB λi j=>decide (i<j)
def tB (t:TE):TT:=λ e H Q=>t e H λx d=>∃c,x=.bl c/\Q c d
def HV {d:CmpOp}{t:TE}(h:PC X d a b t)(f:behindInMarks d b=false:=by first|rwa[A2 _ (by decide) (by decide)]|rfl):PE X (.Compare a [d] [b] pos) t:=λc s g H Q I e=>wpAny_Compare1 (h c s g H Q I e) f
def mJ {g:CmpOp}{t:TE}(h:PC X g a b t)(f:behindInMarks g b=false:=by first|rwa[A2 _ (by decide) (by decide)]|rfl):PT X (.Compare a [g] [b] pos) (tB t):=by intro e s o H Q I m;rwa[wpAny_isTrue_Compare1 (bq (h e s o H _ I m) λv r f=>bq f λu p i=>bq i λc w ζ=>?_) f];let⟨x,n,k,j,l⟩:=ζ;let⟨d,rfl,q⟩:=l;ext j;rwa[ale ⟨n,k,q⟩]
def cX {t:TE}(h:PE X e t)(i:∀whole,isTrue e X.env whole=(do let v <-whole;standAt e.pos;holding [v] (truthy v)):=by intro _;rfl):PT X e (tB t):=by intro c s m H Q I f;rwa[isTrue_plain (bq (h c s m H _ I f) λv n ζ=>?_) (i _)];let⟨x,g,l,j,k⟩:=ζ;let⟨d,rfl,q⟩:=k;ext j;rwa[ale ⟨g,l,q⟩]
variable {tA NK:TT}{rest:Zr}
def abC (t u:TT):TT:=λ e H Q=>t e H λc d=>if c=true then u e d Q else Q false d
def tOr (t u:TT):TT:=λ e H Q=>t e H λc d=>if c=true then Q true d else u e d Q
def abD (t:TT):TT:=λ e H Q=>t e H λc d=>Q (!c) d
def gL (f:PT X a tA):PW X (.BoolOp .And [a] pos) tA:=by
 intro i d s g H Q I h;rwa[isTrue_and (bq (f d s g H Q I h) λc j e=>?_)]
 cases c with
 |true=>exact isTrue_and_nil e
 |false=>exact e
def ic (f:PT X a tA):PW X (.BoolOp .Or [a] pos) tA:=by
 intro i d s g H Q I h;rwa[isTrue_or (bq (f d s g H Q I h) λc j e=>?_)]
 cases c with
 |false=>exact isTrue_or_nil e
 |true=>exact e
def iL (j:PT X a tA)(m:PW X (.BoolOp .And (b::rest) pos) NK):PW X (.BoolOp .And (a::b::rest) pos) (abC tA NK):=by
 intro k d s i H Q I h;rwa[isTrue_and (bq (j d s i H _ I h) λc l ζ=>?_)];let⟨e,g,f⟩:=ζ
 cases c with
 |true=>exact m k d l i e Q g f
 |false=>rwa[e,g,f]
def dN (j:PT X a tA)(m:PW X (.BoolOp .Or (b::rest) pos) NK):PW X (.BoolOp .Or (a::b::rest) pos) (tOr tA NK):=by
 intro k d s i H Q I h;rwa[isTrue_or (bq (j d s i H _ I h) λc l ζ=>?_)];let⟨e,g,f⟩:=ζ
 cases c with
 |true=>rwa[e,g,f]
 |false=>exact m k d l i e Q g f
def fj (f:PT X a tA):PT X (.UnaryOp .Not a pos) (abD tA):=by intro d s g H Q I h;rwa[isTrue_not (f d s g H (λc e=>Q (!c) e) I h)]
def Xj (ta tb:TE):TE:=λ e H Q=>ta e H λx d=>∃c,x=.bl c/\if c=true then tb e d Q else Q (.bl false) d
def Xk (ta:TE):TE:=λ e H Q=>ta e H λx d=>∃c,x=.bl c/\Q (.bl (!c)) d
def rQ {e}{t:TE}(h:PE X a t):PE X (.BoolOp e [a] pos) t:=λc s f H Q I d=>BoolOp_one (h c s f H Q I d)
def j5 (j:PE X a ta)(m:PE X (.BoolOp .And (b::rest) pos) tb):PE X (.BoolOp .And (a::b::rest) pos) (Xj ta tb):=by
 intro d s i H Q I h;rwa[BoolOp_and (bq (j d s i H _ I h) λv l ζ=>?_)];let⟨x,f,g,k,e⟩:=ζ;let⟨c,rfl,e⟩:=e;ext k;rwa[ale ?_]
 cases c with
 |true=>exact m d l i f Q g e
 |false=>rwa[.bl false,f,g,2,e]
def Sf (g:PE X a ta):PE X (.UnaryOp .Not a pos) (Xk ta):=by intro d s k H Q I h;rwa[UnaryOp_ (bq (g d s k H _ I h) λv l ζ=>?_)];let⟨x,f,j,i,e⟩:=ζ;let⟨c,rfl,e⟩:=e;ext i;rwa[not_of (ale ⟨.bl (!c),f,j,2,e⟩)]
end
def aF (K:Za1)(H:Hp)(a:Zs)(c:Zb):Prop:=
 Rd H a (.lst c)\/
  ∃(o:Obj)(b:Zm)(n:Nat),K.lookup a\o/\o.cls=.type "list"/\o.dict=none/\o.data=.seq b n/\b.size<=sizeLine/\Vals c b.toList
def bu (K:Za1)(H:Hp)(a:Zs)(c:Zb):Prop:=
 Rd H a (.tup c)\/
  ∃(o:Obj)(b:Zm)(n:Nat),K.lookup a\o/\o.cls=.type "tuple"/\o.data=.seq b n/\b.size<=sizeLine/\Vals c b.toList
def abE:Zt->Zc
 |.none=>some .non
 |.bool b=>some (.bl b)
 |.int i _=>some (.int i)
 |.str x _=>some (.str x)
 |.bytes b _=>some (.nX b)
 |.float b _=>some (.AZ b)
 |.ref a=>some ↑a
 |.type n=>some (.ty n)
 |_=>none
def RelV.abs {x:V}(r:RelV x u):abE u\x:=by
 cases x with
 |non=>ext r;rfl
 |bl _=>ext r;rfl
 |int _=>let⟨t,rfl⟩:=r;rfl
 |str _=>let⟨t,rfl⟩:=r;rfl
 |nX _=>let⟨t,rfl⟩:=r;rfl
 |AZ _=>let⟨t,rfl⟩:=r;rfl
 |ref _=>ext r;rfl
 |ty _=>ext r;rfl
def RelV.inj {x:V}(r:RelV x u)(a:RelV q u):x=q:=Za0 (r.abs.symm.trans a.abs)
theorem Vals.inj:∀{b ys:Zb}{a:Zk},Vals b a->Vals ys a->b=ys
 |_,_,_,.nil,.nil=>rfl
 |_,_,_,.cons r t,.cons c d=>by rw[r.inj c,Vals.inj t d]
section
variable {X:Cx}{pins:List (Zs×Obj)}{σ:St}{H:Hp}{s:Zu}{a:Zs}{xs ys:Zb}
def aF.of (h:H a\.lst xs):aF K H a xs:=.inl (.inl h)
def bu.of (h:H a\.tup xs):bu K H a xs:=.inl (.inl h)
def Inv.list (I:Inv X pins σ H s)(h:aF X.K H a xs):∃b:Zk,Vals xs b/\PlainL s.heap a b.toArray/\⇑xs<=sizeLine:=by
 rcases h with h|⟨o,b,n,c,hc,hd,d,hz,r⟩
 ·let⟨z,b,n,r,e⟩:=h.ok I.aU;rwa[b,r,⟨_,n,e,222⟩,z]
 ·erw[b.toList,r,⟨o,n,I.dQ a o c,hc,hd,3⟩];let e:=⇑r;simp only[alz]at e;ext
def Inv.tuple (I:Inv X pins σ H s)(h:bu X.K H a xs):∃b:Zk,Vals xs b/\IsTup s.heap a b.toArray/\⇑xs<=sizeLine:=by
 rcases h with h|⟨o,b,n,c,hc,d,hz,r⟩
 ·let⟨z,b,r,p⟩:=h.ok I.aU;rwa[b,r,p,z]
 ·erw[b.toList,r,⟨o,I.dQ a o c,hc,n,3⟩];let e:=⇑r;simp only[alz]at e;ext
def Inv.Ld (I:Inv X pins σ H s)(h:aF X.K H a xs)(i:aF X.K H a ys):xs=ys:=by
 let⟨c,r,⟨o,n,e,_,_,d⟩,_⟩:=I.list h;let⟨b,j,⟨l,k,g,_,_,f⟩,_⟩:=I.list i;rw[e]at g;ext g;rw[d]at f;injection f with d1 _
 have:c=b:=by simpa using akK Array.toList d1
 subst this;rwa[r.inj j]
def Inv.HW (I:Inv X pins σ H s)(h:bu X.K H a xs)(i:bu X.K H a ys):xs=ys:=by
 let⟨c,r,⟨o,e,_,n,d⟩,_⟩:=I.tuple h;let⟨b,j,⟨l,g,_,k,f⟩,_⟩:=I.tuple i;rw[e]at g;ext g;rw[d]at f;injection f with d1 _
 have:c=b:=by simpa using akK Array.toList d1
 subst this;rwa[r.inj j]
end
abbrev Cx.wish (X:Cx) (E:Zt->Zu->Prop):Cx:={ X with xe:=E }
instance eT.wish {X:Cx}{K:Za1}{f:_}[h:eT X K]:eT (X.wish f) K:=⟨h.eq⟩
abbrev Cx.uA (X:Cx):Cx:=X.wish λ_ _=>False
def Cx.Ok.wish (ok:X.Ok)(E:Zt->Zu->Prop):(X.wish E).Ok:=⟨ok.mod,ok.kind,ok.glob,ok.blt,ok.above,ok.inj,ok.has,ok.A0,ok.hd,ok.frames,ok.EV,ok.ND,ok.bs,ok.rP,ok.uZ,ok.x3,ok.jC,ok.uz⟩
def Cx.Ok.iM (ok:(X.wish E).Ok):X.Ok:=⟨ok.mod,ok.kind,ok.glob,ok.blt,ok.above,ok.inj,ok.has,ok.A0,ok.hd,ok.frames,ok.EV,ok.ND,ok.bs,ok.rP,ok.uZ,ok.x3,ok.jC,ok.uz⟩
section
variable {X:Cx}{pins:List (Zs×Obj)}{σ:St}{H:Hp}{s:Zu}{E:Zt->Zu->Prop}
def Inv.wish (I:Inv X pins σ H s)(E:Zt->Zu->Prop):Inv (X.wish E) pins σ H s:=⟨I.ok.wish E,I.os,I.bare,I.base,I.loc,I.cell,I.free,I.hM,I.pin,I.aU,I.len⟩
def Inv.iM (I:Inv (X.wish E) pins σ H s):Inv X pins σ H s:=⟨I.ok.iM,I.os,I.bare,I.base,I.loc,I.cell,I.free,I.hM,I.pin,I.aU,I.len⟩
def SP.iM {f:Flow}{c:Zu}(h:SP (X.wish E) pins G f c):SP X pins G f c:=by
 cases f with
 |next=>let⟨a,b,I,q⟩:=h;rwa[a,b,I.iM,q]
 |brk=>let⟨a,b,I,q⟩:=h;rwa[a,b,I.iM,q]
 |cont=>let⟨a,b,I,q⟩:=h;rwa[a,b,I.iM,q]
 |ret u=>let⟨v,a,b,I,r,q⟩:=h;rwa[v,a,b,I.iM,r,q]
def jM.uA {st:List Stmt}{t:TS}(h:jM X.uA st t):jM X st t:=λpins s σ H D I a=>akM (h pins s σ H D (I.wish _) a) (λ_ _ q=>q.iM) λ_ _ z=>False.elim z
end
section
variable {X:Cx}{st:Stmt}{rest:List Stmt}{t u:TS}{e:Expr}{te:TE}{pos:Pos}
def Xl:TS:=λD a H=>D.nx a H
def aT (t u:TS):TS:=λD a H=>t { D with nx:=u D } a H
def bj:jM X [] Xl:=λ_ _ a H _ I h=>alN ⟨a,H,I,h⟩
def ai (d:PS X st t)(c:jM X rest u):jM X (st::rest) (aT t u):=by
 intro a s k H D I h;rwa[wpAny_execs_cons (bq (d a s k H { D with nx:=u D } I h) λf i q=>?_)]
 cases f with
 |next=>let⟨b,j,g,q⟩:=q;rwa[c a i b j D g q]
 |ret v=>exact q
 |brk=>exact q
 |cont=>exact q
def aq (b:PS X st t):jM X [st] t:=by
 intro a s c H D I h;rwa[wpAny_execs_cons (bq (b a s c H D I h) λf d q=>?_)]
 cases f with
 |next=>exact alN q
 |ret v=>exact q
 |brk=>exact q
 |cont=>exact q
def Sg:TS:=λD a H=>D.bk a H
def u6:PS X (.Break pos) Sg:=λ_ _ a H _ I h=>wpAny_Break ⟨a,H,I,h⟩
def Inv.quiet (I:Inv X o D H s):interactive X.env=false:=by simp[interactive,I.ok.kind]
def Xm (te:TE):TS:=λD a H=>te a H λ_ b=>D.nx a b
def bp (d:PE X e te)(g:swapsWith e none pos.line X.env=pure false:=by rfl):PS X (.Expr e pos) (Xm te):=by intro a s b H D I h;rwa[wpAny_Expr_any (bq (d a s b H _ I h) λv k ζ=>?_) I.quiet g];let⟨x,c,i,j,f⟩:=ζ;rwa[⟨b,c,i,f⟩]
def abF (te:TE):TS:=λD a H=>te a H D.rt
def a9 (d:PE X e te):PS X (.Return (some e) pos) (abF te):=by intro a s b H D I h;rwa[wpAny_Return_some (bq (d a s b H _ I h) λv j ζ=>?_)];let⟨x,c,i,f,g⟩:=ζ;rwa[⟨x,b,c,i,f,g⟩]
def Xn:TS:=λD _ H=>D.rt .non H
def x5:PS X (.Return none pos) Xn:=λ_ _ a H _ I h=>wpAny_Return_none ⟨.non,a,H,I,2,h⟩
def abG (c:TT)(t u:TS):TS:=λD a H=>c a H λb d=>if b=true then t D a d else u D a d
def bD {c:Expr}{a b:List Stmt}{m:TT}(p:PT X c m)(n:jM X a t)(o:jM X b u):PS X (.If c a b pos) (abG m t u):=by
 intro f s g H D I h;rwa[wpAny_If (bq (p f s g H _ I h) λd k ζ=>?_)];let⟨i,l,j⟩:=ζ
 cases d with
 |true=>exact n f k g i D l j
 |false=>exact o f k g i D l j
def HX:TS:=λ_ _ _=>False
def Le:PS X st HX:=λ_ _ _ _ _ _ h=>h.elim
def y6 {a:List Stmt}:jM X a HX:=λ_ _ _ _ _ _ h=>h.elim
end
abbrev TG:=V->St->Hp->(St->Hp->Prop)->Prop
abbrev EW:=Zb->St->Hp->(St->Hp->Prop)->Prop
def PG (X:Cx)(target:Expr)(t:TG):Prop:=
 ∀(a:List (Zs×Obj))(s:Zu)(d:St)(H:Hp)(v:V)(u:Zt)(Q:St->Hp->Prop),Inv X a d H s->RelV v u->t v d H Q->X⁻¹ X.A (assign target X.env u) (λ_ e=>∃ b c,Inv X a b c e/\Q b c) X.xe s
def NM (X:Cx)(h:Zr)(t:EW):Prop:=
 ∀(a:List (Zs×Obj))(s:Zu)(f:St)(H:Hp)(d:Zb)(c:Zk)(Q:St->Hp->Prop),Inv X a f H s->Vals d c->t d f H Q->X⁻¹ X.A (assignInOrder ((assignEach h X.env).map (·.2)) c) (λ_ g=>∃ b e,Inv X a b e g/\Q b e) X.xe s
abbrev Lf:=V->V->V->Hp->(Hp->Prop)->Prop
def Sh (X:Cx)(t:Lf):Prop:=
 ∀(a:List (Zs×Obj))(s:Zu)(e:St)(H:Hp)(o i v:V)(d b u:Zt)(Q:Hp->Prop),Inv X a e H s->RelV o d->RelV i b->RelV v u->t o i v H Q->X⁻¹ X.A (setItem d b u) (λ_ f=>∃c,Inv X a e c f/\Q c) X.xe s
section
variable {X:Cx}{pos:Pos}
def cZ (i:Nat):TG:=λv a H Q=>Q (a.set i (some v)) H
def EX (d:X.N.Nodup)(e:X.N[i]?\x)(f:Loc X.env.scope x)(b:X.fn x=true\/X.env.scope.names.lookup x=some .local:=by trivial):PG X (.Name x pos) (cZ i):=by intro a s j H v u Q I r h;rwa[wpAny_assign_Name (p8 I d e f r (λg c=>⟨_,H,c,h⟩) b)]
def abH:EW:=λb a H Q=>b=[]/\Q a H
inductive NP (t:TG)(u:EW)(vs:Zb)(σ:St)(H:Hp)(Q:(St->Hp->Prop)):Prop
 |mk (v:V)(r:Zb):vs=v::r->(t v σ H λ fV H'=>u r fV H' Q)->NP t u vs σ H Q
def fQ:NM X [] abH:=by intro a s b H d c Q I r h;let⟨e,h⟩:=h;subst e;rwa[assignInOrder_nil ⟨b,H,I,h⟩]
def bP {t:TG}{u:EW}(g:PG X e t)(c:NM X C u)(l:(assignEach (e::C) X.env).map (·.2)=assign e X.env::(assignEach C X.env).map (·.2):=by rfl):NM X (e::C) (NP t u):=by
 intro a s m H o q Q I r h;let⟨v,p,n,h⟩:=h;subst n
 cases r with
 |cons r i=>rw[l];rwa[assignInOrder_cons (bq (g a s m H _ _ _ I r h) λ_ k ζ=>?_)];let⟨b,j,d,f⟩:=ζ;rwa[c a k b j _ _ Q d i f]
inductive Si (K:Za1)(n:Nat)(t:EW)(v:V)(σ:St)(H:Hp)(Q:(St->Hp->Prop)):Prop
 |mk (a:Zs)(xs:Zb):v=↑a->bu K H a xs->⇑xs=n->t xs σ H Q->Si K n t v σ H Q
def ie [i:eT X K]{d:Zr}{k:Nat}{t:EW}{n:Nat}(D:X.calm=true)(h:NM X d t)(A:⇑(assignEach d X.env)=n:=by rfl)(f:(assignEach d X.env).findIdx? (·.1)=none:=by rfl):PG X (.Tuple d k pos) (Si K n t):=by
 cases i.eq;intro c s j H v u Q I r g;let⟨a,z,C,q,y,g⟩:=g;subst C;ext r;let⟨w,x,l,F⟩:=I.tuple q;rwa[assign_Tuple_tuple (I.ok.hd D) l (by simp[A,<-y,⇑x]) f λp B=>?_]
 let m:Inv X c j H (s<*p):=I.kept (t':=s.toks) λb o e=>B b o (aj9 (ajR e)) e
 rwa[h c _ j H z _ Q m ∅ g]
def abI (to b:TE)(t:Lf):TG:=λv a H Q=>to a H λo d=>b a d λi c=>t o i v c λe=>Q a e
def vV {i:Expr}{to:TE}{t:Lf}(q:PE X e to)(B:PE X i r)(A:Sh X t)(G:∀v,assign (.Subscript e i pos) X.env v=(do
  let c <-holding [v] (eval e X.env)
  let d <-holding [v,c] (eval i X.env)
  standAt pos
  holding [v,c,d] (setItem c d v)
  release [v,c,d] []):=by intro _;rfl):PG X (.Subscript e i pos) (abI to r t):=by intro b s f H v u Q I a h;rwa[ajx (akz (bq (q b s f H _ I h) λc z ζ=>?_))];let⟨x,w,j,g,n⟩:=ζ;rwa[ajx (akz (bq (B b z f w _ j n) λd m ζ=>?_))];let⟨y,D,p,C,E⟩:=ζ;rwa[ajx (amE (ajx (akz (bq (A b m f D x y v c d u _ p g C a E) λ_ F ζ=>?_))))];let⟨k,l,o⟩:=ζ;rwa[wpAny_release ⟨f,k,l,o⟩]
def x6 (b:TE)(g:TG):TS:=λD a H=>b a H λx c=>g x a c D.nx
def jn {a:Expr}{g:TG}(p:PE X a r)(f:PG X e g)(o:swapsWithSole [e] a pos.line X.env=pure false:=by rfl)(l:swappedStores [e] a X.env=pure none:=by rfl)(k:(assignEach [e] X.env).map (·.2)=[assign e X.env]:=by rfl):PS X (.Assign [e] a pos) (x6 r g):=by intro b s c H D I h;rwa[wpAny_Assign_stores (bq (p b s c H _ I h) λv n ζ=>?_) o l];let⟨x,m,i,d,j⟩:=ζ;rw[k];rwa[bq (f b n c m x v _ i d j) λ_ t q=>q]
def Sj {pos':Pos}(o:X.N.Nodup)(l:X.N[i]?\x)(n:Loc X.env.scope x)(p:PE X e r)(k:swapsWith e (some (.Name x pos')) pos.line X.env=pure false:=by rfl)(g:X.fn x=true\/X.env.scope.names.lookup x=some .local:=by trivial):
 PS X (.Assign [.Name x pos'] e pos) (x6 r (cZ i)):=by intro a s m H D I h;rwa[wpAny_Assign_Name (bq (p a s m H _ I h) λv t ζ=>?_) k];let⟨y,j,c,b,d⟩:=ζ;rwa[p8 c o l n b (λq f=>⟨_,j,f,d⟩) g]
inductive ipI (f:Int->Int->Int)(x y:V)(H:Hp)(Q:VK):Prop
 |mk (i j:Int):x=.int i->y=.int j->Q (.int (f i j)) H->ipI f x y H Q
end
section
variable {X:Cx}{pos:Pos}
def Sl (c:TT)(h:TS):TS:=λD a H=>∃W:Nat->St->Hp->Prop,(∃m,W m a H)/\∀m a H,W m a H->c a H λb e=>if b=true then ∃N:St->Hp->Prop,(∀ d g,N d g->∃f,f<m/\W f d g)/\h { D with nx:=N,ct:=N,bk:=D.nx } a e else D.nx a e
def fA {body:List Stmt}{r:TT}{u:TS}(w:PassesOwn (model X.prog X.w) X.A X.env X.xe)(P:PT X e r)(E:jM X body u):PS X (.While e body [] pos) (Sl r u):=by
 intro c s O H D I h;let⟨W,⟨J,L⟩,turn⟩:=h;rwa[wpAny_While (codeAny_whileLoop (λn B=>∃ i z,Inv X c i z B/\W n i z) ?_ J ⟨O,H,I,L⟩)];rintro n M ⟨d,x,F,C⟩;rwa[alO w (bq (P c M d x _ F (turn n d x C)) λb G ζ=>?_)];let⟨y,t,k⟩:=ζ
 cases b with
 |true=>
  let⟨N,A,k⟩:=k;rwa[alO w (bq (E c G d y _ t k) λf Q j=>?_)]
  cases f with
  |next=>let⟨a,g,o,m⟩:=j;let⟨p,q,l⟩:=A a g m;rwa[p,q,a,g,o,l]
  |cont=>let⟨a,g,o,m⟩:=j;let⟨p,q,l⟩:=A a g m;rwa[p,q,a,g,o,l]
  |brk=>exact j
  |ret v=>exact j
 |false=>rwa[alN ⟨d,y,t,k⟩]
end
structure It where
 go:Nat->Hp->Prop
 uB:Nat->Hp->V->Hp->Prop
 stop:Nat->Hp->Prop
def p9 (X:Cx)(a:List (Zs×Obj))(H:Hp)(b:Zs):Prop:=H b=none/\b≠X.env.locals/\b∉X.fs/\(b∈X.ex\/X.e8.heap.objs.size<=b)/\(∀x c,X.env.cells.lookup x\c->c≠b)/\∀p∈X.pn++a,p.1≠b
def Inv.Gu (a:Inv X o D H s)(d:↥s<=b)(g:I b=none):p9 X o I b:=by
 rwa[⟨g,akP (aj7 a.lt d),a.Gr d,.inr (ajO a.sz d),λx c e z=>?_,λp f z=>?_⟩]
 ·let⟨v,q⟩:=a.cell x c e;rwa[absurd (aj7 q.lt ([z]▸d)) (akX _)]
 ·rwa[absurd (aj7 (ajR (a.pin p f).1) ([z]▸d)) (akX _)]
structure Turn (P:Program)(w:World)(K:Za1)(tg:Expr)(J:It)(fp:Zn)(it:Zs)(tn:Nat->Heap->Prop):Prop where
 mem:it∈fp
 obj:∀i h,tn i h->∀b∈fp,∃o,h.get? b\o/\∀v,o.data≠.cell v
 keep:∀i h h',tn i h->(∀b∈fp,∀o,h.get? b\o->h'.get? b\o)->tn i h'
 item:∀(X:Cx),X.prog=P->X.w=w->X.K=K->X.calm=true->∀(i:Nat)(pins:List (Zs×Obj))(s:Zu)(σ:St)(H:Hp)(E:Zt->Zu->Prop),Inv X pins σ H s->(∀b∈fp,p9 X pins H b)->tn i s.heap->J.go i H->
  (P<|>w) X.A (pyNext ↑it) (λr s1=>∃u,r\u/\(P<|>w) X.A (letOwnedTupleGo tg ↑it u) (λ_ s2=>∃x H',Inv X pins σ H' s2/\RelV x u/\J.uB i H x H'/\tn (i+ 1) s2.heap/\∀b∈fp,H' b=none) E s1) E s
 done:∀(X:Cx),X.prog=P->X.w=w->X.K=K->X.calm=true->∀(i:Nat)(pins:List (Zs×Obj))(s:Zu)(σ:St)(H:Hp)(E:Zt->Zu->Prop),Inv X pins σ H s->(∀b∈fp,p9 X pins H b)->tn i s.heap->J.stop i H->(P<|>w) X.A (pyNext ↑it) (λr s1=>r=none/\Inv X pins σ H s1) E s
 self:∀(A:Around)(i:Nat)(s:Zu)(Q E:Zt->Zu->Prop),tn i s.heap->Q ↑it s->(P<|>w) A (pyIter ↑it) Q E s
abbrev TI:=St->Hp->(It->Hp->Prop)->Prop
def NQ (X:Cx)(a:List (Zs×Obj))(h:St)(g:Expr)(R:It->Hp->Prop)(c:Zt)(s2:Zu):Prop:=∃(it:Zs)(f:Zn)(e:Nat->Heap->Prop)(J:It)(d:Hp),c=↑it/\Inv X a h d s2/\Turn X.prog X.w X.K g J f it e/\e 0 s2.heap/\(∀b∈f,p9 X a d b)/\R J d
def PI (X:Cx)(d iter:Expr)(c:TI):Prop:=
 ∀(a:List (Zs×Obj))(s:Zu)(b:St)(H:Hp)(R:It->Hp->Prop),Inv X a b H s->c b H R->X⁻¹ X.A (eval iter X.env) (λv e=>X⁻¹ X.A (pyIter v) (NQ X a b d R) X.xe e) X.xe s
abbrev NR:List String:=["enumerate","zip","dict_itemiterator","dict_reverseitemiterator","odict_iterator","itertools.zip_longest","itertools.pairwise"]
def NT {M:Model}{it:Zs}{o:Obj}{n:String}{b:Zm}(d:s•it\o)(f:o.cls=.type n)(c:o.data=.fields b)(g:NR.contains n=false)(a:U () s):wpAny M A (letOwnedTupleGo e ↑it u) U E s:=by
 cases e <;> first
  |rwa[ajG a]
  |(cases u <;> first
   |rwa[ajG a]
   |(rwa[ajx (wpAny_load d ?_)]
     rw[f,c];show wpAny M A (if (NR.contains n && b[0]?==some (rawInt _))=true then _ else _) U E s;rw[ajY (by cbv)];rwa[ajG a]))
def EY (Q:Hp->Zb->Prop):It:=⟨λi H=>∃xs x,Q H xs/\xs[i]?\x,λi H x a=>a=H/\∀xs,Q H xs->xs[i]?\x,λi H=>∃xs,Q H xs/\⇑xs=i⟩
abbrev HY (K:Za1) (a:Zs):It:=EY (λH=>aF K H a)
abbrev HZ (K:Za1) (a:Zs):It:=EY (λH=>bu K H a)
def y7 (lo:Int)(n:Nat):It:=⟨λi _=>i<n,λi H x a=>a=H/\x=.int (lo+ i),λi _=>n<=i⟩
def Inv.mG {fp:Zn}{t':Nat}(I:Inv X o D H s)(k:∀b u,b∉fp->s•b\u->h.get? b\u)(d:∀b∈fp,p9 X o H b):Inv X o D H { s with heap:=h,toks:=t' }:=by
 let g:∀b u,H b\u->b∉fp:=λb u e z=>by rw[(d b z).1]at e;ext e
 refine I.step (g':=s.gens) (d':=s.drawn) (ch:=fp) (λb f=>⟨(d b f).2.2.2.1,(d b f).2.1,(d b f).2.2.2.2.1,(d b f).2.2.2.2.2⟩) (λb a _ _ hc e _=>k b a hc e) (λb a _ _ hc e _=>⟨a.slots,k b a hc e⟩)
  (λb a _ e n=>n) (λb a hc e=>⟨a,k b a hc e⟩) (λb j e=>e) (λb a u e=>e) (λb w e=>⟨#[],by rw[e];simp⟩) (λm p=>?_) (λb u e=>?_) I.bare
 ·let⟨a,l,t,i,r⟩:=p;rwa[a,l,t,k _ a (λz=>(d _ z).2.1 rfl) i,r]
 ·rwa[(I.aU b u e).fO (λc v hc q=>k c v ?_ q) (λc q=>q) λc j q=>q]
  rcases hc with z|z
  ·rw[z];rwa[g b u e]
  ·rwa[g c _ z]
namespace Et
variable {prog:Program}{w:World}{A:Around}{E:Zt->Zu->Prop}{s:Zu}
theorem item {it t:Zs}{items:Zm}{x:Zt}(hit:s.heap.IsTupleIter it t i)(e:s.heap.IsTuple t items)(j:items[i]?\x)(f:∀g,g.IsTupleIter it t (i+ 1)->Heap.SameBut it s.heap g->Q x (s<*g)):(prog<|>w) A (Builtin.SmallTypes.nextOf ↑it) Q E s:=by let⟨o,b,h,a⟩:=id hit;let⟨l,d,_,k,c⟩:=e;rwa[ajx (akS (name:=Str.ofString "__next__") hit.typeIs alF (akY alF hit.typeIs F.entry_tuple_iterator_next ?_ (F.args_tuple_iterator_next_1 _)))];show wpAny _ _ (field ↑it 0 >>=_) _ _ s;rwa[ajx (akA b a (x:=↑t) rfl ?_)];rw[ajY (show ¬((Value.ref t==Value.none)=true) by cbv)];rwa[ajx (akA b a (x:=.int i 0) rfl ?_)];rwa[ajx (amn d c ?_)];simp only[aka,j];rwa[ajx (alK b a (by simp) (ajG ⟨x,2,ajG (f _ ⟨_,akm _ b (alH (ak6 a _)),(Obj.cls_mapFields ..).trans h,by rw[ak6 a];simp[rawInt]⟩ (ak1 ..))⟩))]
theorem fin {it t:Zs}{items:Zm}(h:A.handled=none)(hit:s.heap.IsTupleIter it t i)(j:s.heap.IsTuple t items)(l:items[i]?=none)(k:∀g e,Heap.ExtBut it s.heap g->(∃o,g.get? e\o/\o.cls=.type "StopIteration")->E ↑e (s<*g)):(prog<|>w) A (Builtin.SmallTypes.nextOf ↑it) Q E s:=by
 let⟨o,d,p,b⟩:=id hit;let⟨q,c,_,n,f⟩:=j;rwa[ajx (akS (name:=Str.ofString "__next__") hit.typeIs alF (akY alF hit.typeIs F.entry_tuple_iterator_next ?_ (F.args_tuple_iterator_next_1 _)))];show wpAny _ _ (field ↑it 0 >>=_) _ _ s;rwa[ajx (akA d b (x:=↑t) rfl ?_)];rw[ajY (show ¬((Value.ref t==Value.none)=true) by cbv)];rwa[ajx (akA d b (x:=.int i 0) rfl ?_)];rwa[ajx (amn c f ?_)];simp only[aka,l];rwa[ajx (amS (ajx (alK d b (by simp) ?_)))];rwa[ajx ?_];rwa[ajx (m:=firstArgMember _ _) (wpAny_of_eq (a:=Value.none) (by first|rfl|(simp only[firstArgMember];rfl)) ?_)];rwa[aku ?_ (by size_fits)];rwa[ajx (wpAny_handled ?_)];first|rw[show A.in1.handled=none from h]|rw[h]
 rwa[ajx (ajG (wpAny_throw ?_))];rwa[k _ _ (((ak1 ..).extBut.push _).push _) ⟨_,ajP _ rfl,2⟩]
def draws (m:A.handled=none)(it l:Zs)(b:l≠it)(items:Zm):Draws prog w A it [it,l] items.size (λi v=>items[i]?\v) (λi h=>h.IsTupleIter it l i/\h.IsTuple l items) where
 live:=λ_ _ st=>let ⟨o,a,_⟩:=st.1;⟨o,a⟩
 frame:=λ_ _ _ st c=>⟨st.1.at λo e=>c it (by simp) o e,by let⟨o,a,r⟩:=st.2;rwa[o,c l (by simp) o a,r]⟩
 item:=λi s Q E f st k=>by
  rwa[item st.1 st.2 (x:=items[i]) (by simp[f]) λg n d=>?_]
  rwa[k _ g s.toks (by simp[f]) ⟨n,st.2.extBut d.extBut b⟩ d]
 done:=λs Q E st j=>fin m st.1 st.2 (by simp) j
end Et
def vW {o u:Obj}(c:h.get? a\o)(d:h.get? b\u)(e:o.cls≠u.cls):a≠b:=λz=>by cbv
structure Ia (K:Za1)(Q:Hp->Zb->Prop)(a it:Zs)(tn:Nat->Heap->Prop):Prop where
 ob:∀i h,tn i h->∃o n vs,h.get? it\o/\o.cls=.type n/\o.data=.fields vs/\NR.contains n=false
 kp:∀i h h',tn i h->(∀o,h.get? it\o->h'.get? it\o)->tn i h'
 dr:∀{X:Cx}{pins:List (Zs×Obj)}{σ:St}{H:Hp}{s:Zu}{i:Nat}{xs:Zb},X.K=K->X.calm=true->Inv X pins σ H s->Q H xs->tn i s.heap->
  (∀ys,Q H ys->ys=xs)/\∃(its:Zk)(oa:Obj)(St:Nat->Heap->Prop),Vals xs its/\s•a\oa/\oa.cls≠.type "enumerate"/\Draws X.prog X.w X.A.in1 it [it,a] its.toArray.size (λi v=>its.toArray[i]?\v) St/\Walks X.prog X.w X.A it [it,a] [it] its.toArray.size (λi v=>its.toArray[i]?\v) St/\St i s.heap/\∀i h,St i h->tn i h
def u9 (a it:Zs):Ia K (λH=>aF K H a) a it (λi h=>h.IsListIter it a i) where
 ob:=λi h ζ=>by let⟨o,e,c,d⟩:=ζ;rwa[⟨o,11,e,c,d,4⟩]
 kp:=λi h v st k=>st.at k
 dr:=λ{X g B H s i z} m j I q st=>by subst m;let⟨b,r,p,_⟩:=I.list q;let p:=p.isList;let⟨u,f,t,_⟩:=id p;let⟨w,l,x,_⟩:=id st;let n:=vW f l (by cbv);rwa[λys y=>I.Ld y q,b,u,_,r,f,by rw[t];decide,Draws.list (A:=X.A.in1) (I.ok.hd j) it a n _,.list (I.ok.hd j) it a n _,⟨st,p⟩,λ_ _ y=>y.1]
def EZ (a it:Zs):Ia K (λH=>bu K H a) a it (λi h=>h.IsTupleIter it a i) where
 ob:=λi h ζ=>by let⟨o,e,c,d⟩:=ζ;rwa[⟨o,11,e,c,d,4⟩]
 kp:=λi h v st k=>st.at k
 dr:=λ{X g B H s i z} m j I q st=>by subst m;let⟨b,r,p,_⟩:=I.tuple q;let⟨u,f,t,_⟩:=id p;let⟨w,l,x,_⟩:=id st;let n:=vW f l (by cbv);rwa[λys y=>I.HW y q,b,u,_,r,f,by rw[t];decide,Et.draws (A:=X.A.in1) (I.ok.hd j) it a n _,.tuple (I.ok.hd j) it a n _,⟨st,p⟩,λ_ _ y=>y.1]
def Ib {J:It}{it:Zs}{j:Nat->Heap->Prop}(S:∀i h,j i h->∃o n F,h.get? it\o/\o.cls=.type n/\o.data=.fields F/\NR.contains n=false)(kp:∀i h g,j i h->(∀o,h.get? it\o->g.get? it\o)->j i g)(wk:∀(X:Cx) (f:List (Zs×Obj)) (t:St) (H:Hp) (s:Zu) (i:Nat),X.K=K->X.calm=true->Inv X f t H s->j i s.heap->J.go i H\/J.stop i H->∃C n u St,Walks X.prog X.w X.A it C [it] n u St/\St i s.heap/\(∀i h,St i h->j i h)/\(J.go i H->i<n/\∀v,u i v->∃x,RelV x v/\J.uB i H x H)/\(J.stop i H->i=n))(sf:∀(A:Around) (i:Nat) (s:Zu) (Q:Zt->Zu->Prop) (E:Zt->Zu->Prop),j i s.heap->Q ↑it s->(P<|>w) A (pyIter ↑it) Q E s):Turn P w K e J [it] it j where
 mem:=by simp
 obj:=λi h st b D=>by let⟨o,n,F,a,_,d,_⟩:=S i h st;rw[ajF.mp D];rwa[o,a,by cbv]
 keep:=λi h g st k=>kp i h g st (k it (by simp))
 item:=by
  intro X N M G O i f s t H E I z st l;subst N M;let⟨C,n,u,St,W,L,B,q,_⟩:=wk X f t H s i G O I st (.inl l);let⟨T,q⟩:=q l;rwa[W.item i s _ _ T L λv g R V p k=>?_]
  let⟨o,m,F,a,c,d,U⟩:=S^B^p;let⟨x,r,y⟩:=q v V;rwa[v,2,NT (s:={ s with heap:=g,toks:=R }) a c d U ⟨x,H,I.mG k z,r,y,B^p,λb D=>(z b D).1⟩]
 done:=by intro X N M G O i f s t H E I z st l;subst N M;let⟨C,n,u,St,W,L,B,_,q⟩:=wk X f t H s i G O I st (.inr l);rwa[W.done s _ _ (q l ▸ L) λg R k=>⟨2,I.mG k z⟩]
 self:=sf
def A3 {Q:Hp->Zb->Prop}{it:Zs}{d:Nat->Heap->Prop}(S:Ia K Q a it d)(sf:∀(A:Around) (i:Nat) (s:Zu) (Q:Zt->Zu->Prop) (E:Zt->Zu->Prop),d i s.heap->Q ↑it s->(P<|>w) A (pyIter ↑it) Q E s):Turn P w K e (EY Q) [it] it d:=
 Ib S.ob S.kp (λX j C H s i n r I st h=>by
  obtain⟨b,q⟩:∃b,Q H b:=by rcases h with ⟨b,_,q,_⟩|⟨b,q,_⟩ <;> rwa[⟨b,q⟩]
  let⟨inj,m,D,St,f,_,_,_,W,o,k⟩:=S.dr n r I q st;let t:=⇑f;rwa[⟨1111,W,o,k,λg=>?_,λg=>?_⟩]
  ·let⟨ys,x,y,c⟩:=g;rw[inj ys y]at c;let⟨u,B,F⟩:=f.get c;rwa[⟨by simp;cbv,λv p=>⟨x,52,λl z=>[inj l z]▸c⟩⟩];simp at p
   cbv
  ·let⟨ys,y,c⟩:=g;rw[inj ys y]at c;simp;omega) sf
def Ic (a it:Zs):Turn P w K e (HY K a) [it] it (λi h=>h.IsListIter it a i):=A3 (u9 a it) λ_ _ _ _ _ st h=>wpAny_pyIter_listiter st h
def Gv (a it:Zs):Turn P w K e (HZ K a) [it] it (λi h=>h.IsTupleIter it a i):=A3 (EZ a it) λ_ _ _ _ _ st h=>wpAny_pyIter_tupleiter st h
def Gw (it:Zs)(lo:Int)(n:Nat):Turn P w K e (y7 lo n) [it] it (λi h=>IsRangeIter h it (lo+ (i:Nat)* 1) ((n:Int) - (i:Nat)) 1) where
 mem:=by simp
 obj:=λi h st b f=>by cbv
 keep:=λi h l st k=>k it (by simp) _ st
 item:=by
  intro X u q p m i d s A H E I g st j;subst u q p;let W:=Walks.range (prog:=X.prog) (w:=X.w) (I.ok.hd m) it lo 1 n;rwa[W.item i s _ _ j st λv l x B c y=>?_]
  let⟨t,rfl⟩:=B;rwa[⟨12,NT (s:={ s with heap:=l,toks:=x }) (n:="range_iterator") c rfl rfl ⋯ ⟨.int (lo+ i),H,I.mG y g,⟨t,5⟩,⟨22⟩,c,λb f=>(g b f).1⟩⟩]
  cbv
 done:=by intro X u q p m i d s A H E I g st j;rwa[wpAny_pyNext_range_end (I.ok.hd m) st (by have:n<=i:=j;omega) λl z=>⟨2,I.mG (t':=s.toks) (λb o f a=>z b o (by simpa using f) a) g⟩]
 self:=λ_ _ _ _ _ st h=>wpAny_pyIter_rangeiter st h
section
variable {X:Cx}{tg:Expr}
def Xo (K:Za1)(tl:TE):TI:=λ d H R=>tl d H λx b=>∃a,x=↑a/\(∃c,aF K b a c)/\R (HY K a) b
def abJ (K:Za1)(tl:TE):TI:=λ d H R=>tl d H λx b=>∃a,x=↑a/\(∃c,bu K b a c)/\R (HZ K a) b
def vX {R:It->Hp->Prop}{J:It}{c:Nat->Heap->Prop}{a:Obj}{t:Nat}(I:Inv X o D H s)(T:Turn X.prog X.w X.K tg J [↥s] ↥s c)(d:c 0 (s.heap.push a))(q:R J H):
 NQ X o D tg R ↑↥s { s with heap:=s.heap.push a,toks:=t }:=⟨1111,H,2,I.kept λb a e=>ajB _ e,T,d,λb f=>by rw[ajF.mp f];rwa[I.Gu (ajE _) (I.aU.fresh (ajE _))],q⟩
def cQ [c:eT X K]{l:Expr}{tl:TE}(j:PE X l tl):PI X tg l (Xo K tl):=by
 cases c.eq;intro b s k H R I h;rwa[bq (j b s k H _ I h) λv t ζ=>?_];let⟨x,o,d,f,a,e,⟨r,g⟩,q⟩:=ζ
 subst e;ext f;let⟨i,m,p,n⟩:=d.list g;rwa[alP p.isList (vX d (Ic a _) ⟨_,ajP _ rfl,22⟩ q)]
def vY [g:eT X K]{l:Expr}{tl:TE}(r:PE X l tl):PI X tg l (abJ K tl):=by
 cases g.eq;intro c s t H R I h;rwa[bq (r c s t H _ I h) λv s1 ζ=>?_];let⟨x,n,d,i,m⟩:=ζ
 let⟨a,e,⟨z,k⟩,q⟩:=m;subst e;ext i;let⟨f,w,p,y⟩:=d.tuple k;rwa[wpAny_pyIter_tuple (show s1.heap.IsTuple a f.toArray from p) ?_];rwa[⟨↥s1,[↥s1],11,n,2,d.kept (t':=s1.toks) λb o e=>ajB _ e,Gv a _,⟨_,ajP _ rfl,22⟩,λb j=>?_,q⟩];let e:b=↥s1:=by simpa using j
 subst e;rwa[d.Gu (ajE _) (d.aU.fresh (ajE _))]
def A4 {R:It->Hp->Prop}{lo:Int}{t u v:Tok}(I:Inv X o D H s)(f: -(2 ^ 62)<=lo)(c:lo<2 ^ 62)(h: -(2 ^ 62)<=z)(d:z<2 ^ 62)(q:R (y7 lo (z - lo).toNat) H):X⁻¹ X.A (pyIter ↑↥s) (NQ X o D tg R) E { s with heap:=s.heap.push ("range">>>.fields #[.int lo t,.int z u,.int 1 v]),toks:=n }:=by
 rwa[wpAny_pyIter_range (IsRange.new ..) (small_one f c h d) (vX (s:={ s with heap:=s.heap.push _,toks:=n }) (I.kept λb a e=>ajB _ e) (Gw _ lo (z - lo).toNat) ?_ q)];let i:lo+ ((0:Nat):Int)* 1=lo:=by simp
 let g:(((z - lo).toNat:Nat):Int) - ((0:Nat):Int)=Builtin.Range.rangeSize lo z 1:=by rw[rangeSize_one];split <;> ext
 rw[i,g];rwa[ajP _ rfl]
def Xp (c:TA):TI:=λ d H R=>c d H λa b=>∃j:Int,a=[.int j]/\-(2 ^ 62)<=j/\j<2 ^ 62/\R (y7 0 j.toNat) b
def Xq (c:TA):TI:=λ d H R=>c d H λa b=>∃i j:Int,a=[.int i,.int j]/\(-(2 ^ 62)<=i/\i<2 ^ 62/\-(2 ^ 62)<=j/\j<2 ^ 62)/\R (y7 i (j - i).toNat) b
def fy {f:TA}{c:Pos}(i:Gl X "range")(o:X.mg "range"=none)(u:PA X [e] f)(m:starEach [e] X.env=[(false,eval e X.env)]:=by rfl):PI X tg (.Call (.Name "range" p) [e] [] c) (Xp f):=by
 intro a s n H R I h;rwa[Call_ (gJ I i o boot_range (aks (bq (u c a s n H _ I h) λz y ζ=>?_) m rfl))];let⟨w,x,k,g,d⟩:=ζ;let⟨j,b,d,v,q⟩:=d;subst b
 cases g with
 |cons r l=>ext l;let⟨t,rfl⟩:=r;rwa[call_range_1 (A4 k ∅ ∅ d v (by simpa using q))]
def nY {b:Expr}{l:TA}{f:Pos}(o:Gl X "range")(z:X.mg "range"=none)(A:PA X [e,b] l)(x:starEach [e,b] X.env=[(false,eval e X.env),(false,eval b X.env)]:=by rfl)(d:starEach [b] X.env=[(false,eval b X.env)]:=by rfl):
 PI X tg (.Call (.Name "range" p) [e,b] [] f) (Xq l):=by
 intro a s y H R I h;rwa[Call_ (gJ I o z boot_range (aks (bq (A f a s y H _ I h) λG F ζ=>?_) (by rw[x,d]) (by rw[d];rfl)))];let⟨D,E,u,n,g⟩:=ζ;let⟨i,j,c,⟨g,B,v,w⟩,q⟩:=g;subst c
 cases n with
 |cons r k=>
  cases k with
  |cons m k=>ext k;let⟨t,rfl⟩:=r;let⟨C,rfl⟩:=m;rwa[call_range_2 (A4 u g B v w q)]
abbrev qc (J:It) (g:TG) (tb:TS) (D:Ends) (σ:St) (H:Hp):Prop:=∃W:Nat->Nat->St->Hp->Prop,(∃m,W 0 m σ H)/\∀i m σ H,W i m σ H->
 (J.stop i H/\D.nx σ H)\/(J.go i H/\∃N:St->Hp->Prop,(∀ fV H',N fV H'->∃m',m'<m/\W (i+ 1) m' fV H')/\∀x H',J.uB i H x H'->g x σ H' λ σ2 H2=>tb { D with nx:=N,ct:=N,bk:=D.nx } σ2 H2)
def abK (c:TI)(g:TG)(b:TS):TS:=λD a H=>c a H λJ d=>qc J g b D a d
def vZ (a:Zn)(h:Heap):List (Zs×Obj):=a.filterMap λb=>(h.get? b).map λo=>(b,o)
def iZ {o:Obj}(a:b∈F)(e:h.get? b\o):(b,o)∈vZ F h:=amF.mpr ⟨b,a,by rw[e];rfl⟩
def Ie {p:Zs×Obj}(a:p∈vZ F h):p.1∈F/\h.get? p.1\p.2:=by
 let⟨b,c,e⟩:=amF.mp a
 cases q:h.get? b with
 |none=>rw[q]at e;ext e
 |some o=>cbv
def Inv.pinned (I:Inv X o D H s)(d:∀b∈F,p9 X o H b)(h:∀b∈F,∃a,s•b\a/\∀v,a.data≠.cell v):Inv X (o++vZ F s.heap) D H s:=
 I.jL λp c=>(ajK.mp c).elim (λz=>I.pin p (ajI _ z)) λz=>by
  let⟨f,e⟩:=Ie z;let⟨i,f1,g,_⟩:=d p.1 f
  cbv
def Inv.va {pl:List (Zs×Obj)}(I:Inv X (o++pl) D H s):Inv X o D H s:=I.jL λp a=>I.pin p (ajI _ (aj4 _ a))
def cf {iter:Expr}{body:List Stmt}{S:TI}{g:TG}{Z:TS}(F:PassesOwn (model X.prog X.w) X.A X.env X.xe)(Y:X.calm=true)(hi:PI X tg iter S)(hg:PG X tg g)(k:jM X body Z)(hs:∀x,foldedSetIterable iter X.env x=pure x:=by intro _;rfl):PS X (.For tg iter body [] p) (abK S g Z):=by
 intro c s σ H D I h;rwa[wpAny_For (bq (hi c s σ H _ I h) λv s1 h1=>bq h1 λitv s2 h2=>?_) hs];let⟨it,B,tn,J,H2,e,I2,T,P,V,W,⟨m0,w0⟩,turn⟩:=h2;subst e
 let stat:∀{w:Hp},(∀b∈B,w b=none)->∀b∈B,p9 X c w b:=λhn b k=>⟨hn b k,(V b k).2⟩
 rwa[codeAny_forLoop_any (λn s'=>∃i t w,Inv X c t w s'/\tn i s'.heap/\(∀b∈B,w b=none)/\W i n t w) ?_ m0 ⟨(0),σ,H2,I2,P,λb k=>(V b k).1,w0⟩];rintro n s3 ⟨i,j,G,I3,C,E,w3⟩;rcases turn i n j G w3 with ⟨stop,qn⟩|⟨go,N,hN,step⟩
 ·rwa[alO F (bq (T.done X rfl rfl rfl Y i c s3 j G X.xe I3 (stat E) C stop) λr s4 ζ=>?_)];let⟨Q,I4⟩:=ζ;subst Q;rwa[alN ⟨j,G,I4,qn⟩]
 ·rwa[alO F (bq (T.item X rfl rfl rfl Y i c s3 j G X.xe I3 (stat E) C go) λr s4 ζ=>?_)];let⟨u,Q,h4⟩:=ζ;subst Q;rwa[alO F (bq h4 λ_ s5 ζ=>?_)];let⟨x,U,I5,r5,y5,z,M⟩:=ζ;let R:=I5.pinned (stat M) (T.obj^z);rwa[alO F (bq (hg _ s5 j U x u _ R r5 (step x U y5)) λ_ s6 ζ=>?_)];let⟨O,H6,I6,q6⟩:=ζ;rwa[alO F (bq (k _ s6 O H6 _ I6 q6) λf L y=>?_)]
  let again:∀{a:St}{l:Hp},Inv X (c++vZ B s5.heap) a l L->N a l->∃m,m<n/\∃i t w,Inv X c t w L/\tn i L.heap/\(∀b∈B,w b=none)/\W i m t w:=λ{a l} q A=>by let⟨m',hm,w7⟩:=hN a l A;rwa[⟨m',hm,i+ 1,a,l,q.va,T.keep _ _ _ z λb k o e=>(q.pin (b,o) (ajI _ (ajI _ (iZ k e)))).1,λb k=>?_,w7⟩];let⟨o,e,d⟩:=T.obj _ _ z b k;rwa[(q.pin (b,o) (ajI _ (ajI _ (iZ k e)))).2.1]
  cases f with
  |next=>let⟨a,l,q,A⟩:=y;rwa[again q A]
  |cont=>let⟨a,l,q,A⟩:=y;rwa[again q A]
  |brk=>let⟨a,l,q,y⟩:=y;rwa[a,l,q.va,y]
  |ret v=>let⟨x7,a,l,q,r7,y⟩:=y;rwa[x7,a,l,q.va,r7,y]
end
section
variable {g:TG}{tb:TS}{D:Ends}{σ:St}{H:Hp}{Pv:Nat->St->Hp->Prop}
def tL {J:It}(j:Pv 0 σ H)(d:∀i σ H,i<n->Pv i σ H->J.go i H/\∀x c,J.uB i H x c->g x σ c λ b e=>tb { D with nx:=Pv (i+ 1),ct:=Pv (i+ 1),bk:=D.nx } b e)(f:∀ σ H,Pv n σ H->J.stop n H/\D.nx σ H):qc J g tb D σ H:=by
 erw[λi m σ H=>m=n - i/\i<=n/\Pv i σ H,⟨n,2,aj8 _,j⟩];rintro i m σ H ⟨rfl,o,p⟩;cases a:i<n
 ·rwa[.inr ⟨(d i σ H a p).1,Pv (i+ 1),λ k c h=>⟨n - (i+ 1),32,a,h⟩,(d i σ H a p).2⟩]
 ·obtain rfl:i=n:=∅
  rwa[.inl (f σ H p)]
def dJ {Q:Hp->Zb->Prop}{xs:Zb}(Pv:Nat->St->Hp->Prop)(f:Pv 0 σ H)(b:∀i σ H,i<=⇑xs->Pv i σ H->Q H xs)(h:∀i x σ H,xs[i]?\x->Pv i σ H->g x σ H λ a e=>tb { D with nx:=Pv (i+ 1),ct:=Pv (i+ 1),bk:=D.nx } a e)(d:∀ σ H,Pv ⇑xs σ H->D.nx σ H):qc (EY Q) g tb D σ H:=tL f (λi σ H c p=>⟨⟨xs,xs[i],b i σ H (alm c) p,ajz c⟩,λx j y=>by rw[y.1];rwa[h i x σ _ (y.2 xs (b i σ _ (alm c) p)) p]⟩) λ σ H p=>⟨⟨xs,b _ σ H (ajE _) p,2⟩,d σ H p⟩
def gY {lo:Int}(Pv:Nat->St->Hp->Prop)(e:Pv 0 σ H)(f:∀i σ H,i<n->Pv i σ H->g (.int (lo+ i)) σ H λ a d=>tb { D with nx:=Pv (i+ 1),ct:=Pv (i+ 1),bk:=D.nx } a d)(c:∀ σ H,Pv n σ H->D.nx σ H):qc (y7 lo n) g tb D σ H:=tL e (λi σ H b p=>⟨b,λx h y=>by rw[y.1,y.2];rwa[f i σ _ b p]⟩) λ σ H p=>⟨ajE n,c σ H p⟩
end
abbrev R2:=V->V->Hp->VK->Prop
def fW (X:Cx)(f:Zt->Zt->Sem Zt)(r:R2):Prop:=
 ∀(a:List (Zs×Obj))(s:Zu)(b:St)(H:Hp)(x y:V)(v u:Zt)(Q:VK),Inv X a b H s->RelV x v->RelV y u->r x y H Q->X⁻¹ X.A (f v u) (EP X a b Q) X.xe s
def Sn (X:Cx)(f:Zt->Sem Zt)(r:V->Hp->VK->Prop):Prop:=
 ∀(a:List (Zs×Obj))(s:Zu)(b:St)(H:Hp)(x:V)(v:Zt)(Q:VK),Inv X a b H s->RelV x v->r x H Q->X⁻¹ X.A (f v) (EP X a b Q) X.xe s
def i3 (X:Cx)(f:Zt)(r:Zb->Hp->VK->Prop):Prop:=
 ∀(a:List (Zs×Obj))(s:Zu)(d:St)(H:Hp)(c:Zb)(b:Zk)(Q:VK),Inv X a d H s->Vals c b->r c H Q->X⁻¹ X.A (call f b) (EP X a d Q) X.xe s
def abL (X:Cx)(r:V->Hp->(Bool->Hp->Prop)->Prop):Prop:=
 ∀(a:List (Zs×Obj))(s:Zu)(b:St)(H:Hp)(x:V)(v:Zt)(Q:Bool->Hp->Prop),Inv X a b H s->RelV x v->r x H Q->X⁻¹ X.A (truthy v) (TP X a b Q) X.xe s
def NV (r:R2)(e b:TE):TE:=λ a H Q=>e a H λx d=>b a d λy c=>r x y c Q
def tUn (r:V->Hp->VK->Prop)(b:TE):TE:=λ c H Q=>b c H λx a=>r x a Q
inductive rI (C:Int->Int->Prop)(g:Int->Int->V)(x y:V)(H:Hp)(Q:VK):Prop
 |mk (i j:Int):x=.int i->y=.int j->C i j->Q (g i j) H->rI C g x y H Q
inductive wc (g:Int->Int->V)(x y:V)(H:Hp)(Q:VK):Prop
 |mk (i j:Int):x=.int i->y=.int j->Q (g i j) H->wc g x y H Q
inductive rU (g:Int->V)(x:V)(H:Hp)(Q:VK):Prop
 |mk (i:Int):x=.int i->Q (g i) H->rU g x H Q
section
variable {X:Cx}{a b:Expr}{ta tb:TE}{pos:Pos}
def Lg (z:PE X a ta)(n:PE X b tb){d:List (Zs×Obj)}{s:Zu}{e:St}{H:Hp}{R:V->V->Hp->Prop}(I:Inv X d e H s)(h:ta e H λx l=>tb e l λy g=>R x y g){Q:Zt->Zu->Prop}{f:Zt->Zt->Sem Zt}(r:∀v u k x y g,Inv X d e g k->RelV x v->RelV y u->R x y g->X⁻¹ X.A (f v u) Q X.xe k):
 X⁻¹ X.A (eval a X.env) (λv j=>X⁻¹ X.A (eval b X.env) (λu i=>X⁻¹ X.A (f v u) Q X.xe i) X.xe j) X.xe s:=by
 rwa[bq (z d s e H _ I h) λv t ζ=>?_];let⟨x,l,o,m,p⟩:=ζ
 rwa[bq (n d t e l _ o p) λu k ζ=>?_];let⟨y,g,q,w,A⟩:=ζ
 rwa[r v u k x y g q m w A]
def aL {e:Operator}{r:R2}(j:fW X (binaryOp e) r)(o:PE X a ta)(f:PE X b tb):PE X (.BinOp a e b pos) (NV r ta tb):=by intro d s m H Q I h;rwa[wpAny_BinOp (Lg o f I h λv u g x y n i k l q=>j d g m n x y v u Q i k l q)]
def eF {e:UnaryOp}{r:V->Hp->VK->Prop}(g:Sn X (unaryOp e) r)(j:PE X a ta):PE X (.UnaryOp e a pos) (tUn r ta):=by intro d s f H Q I h;rwa[UnaryOp_ (bq (j d s f H _ I h) λv m ζ=>?_)];let⟨x,i,n,k,l⟩:=ζ;rwa[g d m f i x v Q n k l]
def Sq {f:Zt->Zt->Sem Zt}{C:Int->Int->Prop}{g:Int->Int->Int}(rule:∀(i j:Int) (t u:Tok) (s:Zu) (Q:Zt->Zu->Prop) (E:Zt->Zu->Prop),C i j->Q (.int (g i j) s.toks) { s with toks:=s.toks+ 1 }->X⁻¹ X.A (f (.int i t) (.int j u)) Q E s):
 fW X f (rI C λi j=>.int (g i j)):=by intro d s n H x y v u Q I k l h;let⟨i,j,rfl,rfl,m,q⟩:=h;let⟨t,rfl⟩:=k;let⟨e,rfl⟩:=l;rwa[rule i j t e s _ _ m ⟨.int (g i j),H,I.tok _,⟨12⟩,q⟩]
def Sr {f:Zt->Zt->Sem Zt}{g:Int->Int->Int}(rule:∀(i j:Int) (t u:Tok) (s:Zu) (Q:Zt->Zu->Prop) (E:Zt->Zu->Prop),Q (.int (g i j) s.toks) { s with toks:=s.toks+ 1 }->X⁻¹ X.A (f (.int i t) (.int j u)) Q E s):
 fW X f (wc λi j=>.int (g i j)):=by intro d s m H x y v u Q I k l h;let⟨i,j,rfl,rfl,q⟩:=h;let⟨t,rfl⟩:=k;let⟨e,rfl⟩:=l;rwa[rule i j t e s _ _ ⟨.int (g i j),H,I.tok _,⟨12⟩,q⟩]
def Gx {f:Zt->Zt->Sem Zt}{g:Int->Int->Bool}(rule:∀(i j:Int) (t u:Tok) (s:Zu) (Q:Zt->Zu->Prop) (E:Zt->Zu->Prop),Q (.bool (g i j)) s->X⁻¹ X.A (f (.int i t) (.int j u)) Q E s):
 fW X f (wc λi j=>.bl (g i j)):=by intro d s m H x y v u Q I k l h;let⟨i,j,rfl,rfl,q⟩:=h;let⟨t,rfl⟩:=k;let⟨e,rfl⟩:=l;rwa[rule i j t e s _ _ ⟨.bl (g i j),H,I,2,q⟩]
def abM (i j:Int):Prop:=0<j/\j<1073741824
def Lh (i j:Int):Prop:=(-(2 ^ 64)<i/\i<2 ^ 64)\/(-(2 ^ 64)<j/\j<2 ^ 64)
def Lh.ok (h:Lh z y):IntMulOk z y:=by
 rcases h with ⟨e,d⟩|⟨e,d⟩
 ·rwa[.of_left (intBits_le_64 e d)]
 ·rwa[.of_right (intBits_le_64 e d)]
def cw:fW X (binaryOp .Add) (wc λi j=>.int (i+ j)):=Sr λ_ _ _ _ _ _ _ q=>add_int q
def ig:fW X (binaryOp .Sub) (wc λi j=>.int (i - j)):=Sr λ_ _ _ _ _ _ _ q=>sub_int q
def j6:fW X (binaryOp .Mult) (rI Lh λi j=>.int (i* j)):=Sq λ_ _ _ _ _ _ _ d q=>mul_int q d.ok
def dh:fW X (binaryOp .FloorDiv) (rI abM λi j=>.int (i / j)):=Sq λi j _ _ _ _ _ d q=>by let f:(0:Int)<j:=d.1;let e:j<1073741824:=d.2;rwa[floordiv_int ∅ ([Int.fdiv_eq_ediv_of_nonneg i ∅]▸q) (.inl (PyProof.noPylong_small ∅))]
def bX:fW X (binaryOp .Mod) (rI (λ_ j=>0<j) λi j=>.int (i % j)):=Sq λi j _ _ _ _ _ d q=>by rwa[mod_int' ∅ ([Int.fmod_eq_emod_of_nonneg i ∅]▸q)]
def unI {f:Zt->Sem Zt}{g:Int->Int}(rule:∀(i:Int) (t:Tok) (s:Zu) (Q:Zt->Zu->Prop) (E:Zt->Zu->Prop),Q (.int (g i) s.toks) { s with toks:=s.toks+ 1 }->X⁻¹ X.A (f (.int i t)) Q E s):
 Sn X f (rU λi=>.int (g i)):=by intro d s j H x v Q I e h;let⟨i,rfl,q⟩:=h;let⟨t,rfl⟩:=e;rwa[rule i t s _ _ ⟨.int (g i),H,I.tok _,⟨12⟩,q⟩]
def dy:Sn X (unaryOp .USub) (rU λi=>.int (-i)):=unI λ_ _ _ _ _ q=>neg_int q
end
def Li:V->V->Bool
 |.non,.non=>true|.non,.int _=>true|.int _,.non=>true|.non,.bl _=>true|.bl _,.non=>true|.non,.str _=>true|.str _,.non=>true
 |.int _,.int _=>true|.bl _,.bl _=>true|.str _,.str _=>true|.nX _,.nX _=>true
 |.int _,.str _=>true|.str _,.int _=>true|.bl _,.str _=>true|.str _,.bl _=>true
 |_,_=>false
inductive Yw (x y:V)(H:Hp)(Q:VK):Prop
 |mk:Li x y=true->Q (.bl (decide (x=y))) H->Yw x y H Q
inductive Yx (x y:V)(H:Hp)(Q:VK):Prop
 |mk:Li x y=true->Q (.bl (!decide (x=y))) H->Yx x y H Q
def E3:decide (V.int z=V.int y)=(z==y):=by rw[akQ];simp
def Ig {i j:Bool}:decide (V.bl i=V.bl j)=(i==j):=by rw[akQ];simp
def E4:decide (V.str x=V.str f)=(x==f):=by rw[akQ];simp
def E5 {i j:Array UInt8}:decide (V.nX i=V.nX j)=(i.toList==j.toList):=by rw[akQ];ext i;ext j;simp
section
variable {X:Cx}{a b c:Expr}{ta tb tc:TE}{pos:Pos}
def cj {Q:VK}{k d:Bool}(I:Inv X o D H s)(q:Q (.bl k) H)(e:k=d):EP X o D Q (.bool d) s:=by subst e;rwa[.bl k,H,I,2,q]
def cV:fW X (compareOp .Eq) Yw:=by
 intro k s l H x y v u Q I g d h;let⟨f,q⟩:=h
 cases x with
 |non=>
  ext g
  cases y with
  |non=>ext d;rwa[PySem.EqNone.eq_none_none (cj I q (by simp))]
  |bl j=>ext d;rwa[PySem.EqNone.eq_none_bool (cj I q (by simp))]
  |int j=>let⟨e,rfl⟩:=d;rwa[PySem.EqNone.eq_none_int (cj I q (by simp))]
  |str j=>let⟨e,rfl⟩:=d;rwa[PySem.EqNone.eq_none_str (cj I q (by simp))]
  |_=>exact absurd (show false=true from f) akk
 |bl i=>
  ext g
  cases y with
  |non=>ext d;rwa[PySem.EqNone.eq_bool_none (cj I q (by simp))]
  |bl j=>ext d;rwa[eq_bool (cj I q Ig)]
  |str j=>let⟨e,rfl⟩:=d;rwa[PySem.EqMixed.eq_bool_str (cj I q (by simp))]
  |_=>exact absurd (show false=true from f) akk
 |int i=>
  let⟨t,rfl⟩:=g
  cases y with
  |non=>ext d;rwa[PySem.EqNone.eq_int_none (cj I q (by simp))]
  |int j=>let⟨e,rfl⟩:=d;rwa[eq_int (cj I q E3)]
  |str j=>let⟨e,rfl⟩:=d;rwa[PySem.EqMixed.eq_int_str (cj I q (by simp))]
  |_=>exact absurd (show false=true from f) akk
 |str i=>
  let⟨t,rfl⟩:=g
  cases y with
  |non=>ext d;rwa[PySem.EqNone.eq_str_none (cj I q (by simp))]
  |bl j=>ext d;rwa[PySem.EqMixed.eq_str_bool (cj I q (by simp))]
  |int j=>let⟨e,rfl⟩:=d;rwa[PySem.EqMixed.eq_str_int (cj I q (by simp))]
  |str j=>let⟨e,rfl⟩:=d;rwa[eq_str (cj I q E4)]
  |_=>exact absurd (show false=true from f) akk
 |nX i=>
  let⟨t,rfl⟩:=g
  cases y with
  |nX j=>let⟨e,rfl⟩:=d;rwa[PySem.W.eq_bytes (cj I q E5)]
  |_=>exact absurd (show false=true from f) akk
 |_=>cases y <;> rwa[absurd (show false=true from f) akk]
def i5:fW X (compareOp .NotEq) Yx:=by
 intro k s l H x y v u Q I g d h;let⟨f,q⟩:=h
 cases x with
 |non=>
  ext g
  cases y with
  |non=>ext d;rwa[PySem.EqNone.ne_none_none (cj I q (by simp))]
  |bl j=>ext d;rwa[PySem.EqNone.ne_none_bool (cj I q (by simp))]
  |int j=>let⟨e,rfl⟩:=d;rwa[PySem.EqNone.ne_none_int (cj I q (by simp))]
  |str j=>let⟨e,rfl⟩:=d;rwa[PySem.EqNone.ne_none_str (cj I q (by simp))]
  |_=>exact absurd (show false=true from f) akk
 |bl i=>
  ext g
  cases y with
  |non=>ext d;rwa[PySem.EqNone.ne_bool_none (cj I q (by simp))]
  |bl j=>ext d;rwa[ne_bool (cj I q (akK not Ig))]
  |str j=>let⟨e,rfl⟩:=d;rwa[PySem.EqMixed.ne_bool_str (cj I q (by simp))]
  |_=>exact absurd (show false=true from f) akk
 |int i=>
  let⟨t,rfl⟩:=g
  cases y with
  |non=>ext d;rwa[PySem.EqNone.ne_int_none (cj I q (by simp))]
  |int j=>let⟨e,rfl⟩:=d;rwa[ne_int (cj I q (akK not E3))]
  |str j=>let⟨e,rfl⟩:=d;rwa[PySem.EqMixed.ne_int_str (cj I q (by simp))]
  |_=>exact absurd (show false=true from f) akk
 |str i=>
  let⟨t,rfl⟩:=g
  cases y with
  |non=>ext d;rwa[PySem.EqNone.ne_str_none (cj I q (by simp))]
  |bl j=>ext d;rwa[PySem.EqMixed.ne_str_bool (cj I q (by simp))]
  |int j=>let⟨e,rfl⟩:=d;rwa[PySem.EqMixed.ne_str_int (cj I q (by simp))]
  |str j=>let⟨e,rfl⟩:=d;rwa[ne_str (cj I q (akK not E4))]
  |_=>exact absurd (show false=true from f) akk
 |nX i=>
  let⟨t,rfl⟩:=g
  cases y with
  |nX j=>let⟨e,rfl⟩:=d;rwa[PySem.W.ne_bytes (cj I q (akK not E5))]
  |_=>exact absurd (show false=true from f) akk
 |_=>cases y <;> rwa[absurd (show false=true from f) akk]
def j7:fW X (compareOp .Lt) (wc λi j=>.bl (decide (i<j))):=Gx λ_ _ _ _ _ _ _ q=>lt_int q
def Gy:fW X (compareOp .LtE) (wc λi j=>.bl (decide (i<=j))):=Gx λ_ _ _ _ _ _ _ q=>le_int q
def qd:fW X (compareOp .Gt) (wc λi j=>.bl (decide (j<i))):=Gx λ_ _ _ _ _ _ _ q=>gt_int q
def tM:fW X (compareOp .GtE) (wc λi j=>.bl (decide (j<=i))):=Gx λ_ _ _ _ _ _ _ q=>ge_int q
def ik:fW X (compareOp .Is) (λx y H Q=>y=.non/\Q (.bl (decide (x=.non))) H):=by
 intro d s g H x y v u Q I e f h;let⟨rfl,q⟩:=h;ext f;rwa[is_none_gen (cj I q ?_)]
 cases x <;> first
  |(ext e;rfl)
  |(let⟨t,rfl⟩:=e;rfl)
def oX:fW X (compareOp .IsNot) (λx y H Q=>y=.non/\Q (.bl (!decide (x=.non))) H):=by
 intro d s g H x y v u Q I e f h;let⟨rfl,q⟩:=h;ext f;rwa[isnot_none_gen (cj I q ?_)]
 cases x <;> first
  |(ext e;rfl)
  |(let⟨t,rfl⟩:=e;rfl)
def aO (b:Expr){d:CmpOp}(h:d≠.In:=by decide)(g:d≠.NotIn:=by decide):behindInMarks d b=false:=by
 let f:(d==CmpOp.In)=false:=by cbv
 let e:(d==CmpOp.NotIn)=false:=by cbv
 cases b <;> simp[behindInMarks,f,e]
def gM {e:CmpOp}{r:R2}(j:fW X (compareOp e) r)(p:PE X a ta)(f:PE X b tb)(n:behindInMarks e b=false):PE X (.Compare a [e] [b] pos) (NV r ta tb):=by intro d s m H Q I h;rwa[wpAny_Compare1 (Lg p f I h λv u g x y o i k l q=>j d g m o x y v u Q i k l q) n]
inductive Ss (x:V)(H:Hp)(Q:Bool->Hp->Prop):Prop
 |mk (k:Bool):x=.bl k->Q k H->Ss x H Q
def Xr (t:TE):TT:=λ e H Q=>t e H λx d=>Ss x d Q
def aM {g:CmpOp}{r:R2}(A:fW X (compareOp g) r)(G:PE X a ta)(l:PE X b tb)(E:behindInMarks g b=false):PT X (.Compare a [g] [b] pos) (Xr (NV r ta tb)):=by
 intro d s f H Q I h
 rwa[wpAny_isTrue_Compare1 (bq (G d s f H _ I h) λv C ζ=>?_) E];let⟨x,B,m,j,q⟩:=ζ;rwa[bq (l d C f B _ m q) λu p ζ=>?_];let⟨y,F,w,D,J⟩:=ζ;rwa[ bq (A d p f F x y v u _ w j D J) λc L ζ=>?_];let⟨z,n,o,i,k,e,t⟩:=ζ
 subst e;ext i;rwa[ale ⟨n,o,t⟩]
def Sv (r h:R2)(ta tb tc:TE):TE:=λ d H Q=>ta d H λx i=>tb d i λy f=>r x y f λz e=>∃k,z=.bl k/\(if k=true then tc d e λj g=>h y j g Q else Q (.bl false) e)
def Lj {j op':CmpOp}{r l:R2}(N:fW X (compareOp j) r)(i:fW X (compareOp op') l)(V:PE X a ta)(C:PE X b tb)(W:PE X c tc)(S:lastMarks [j,op'] [b,c]=false):PE X (.Compare a [j,op'] [b,c] pos) (Sv r l ta tb tc):=by
 intro f s g H Q I h
 rwa[Compare_chain (bq (V f s g H _ I h) λv R ζ=>?_) S];let⟨x,P,E,A,L⟩:=ζ;rwa[chain_link (bq (C f R g P _ E L) λu J ζ=>?_)];let⟨y,T,M,p,Y⟩:=ζ;rwa[ bq (N f J g T x y v u _ M A p Y) λd U ζ=>?_];let⟨z,m,n,q,k,e,o⟩:=ζ
 subst e;ext q;rwa[ale ?_]
 cases k with
 |false=>exact ite_ff ⟨.bl false,m,n,2,o⟩
 |true=>exact ite_tt (chain_last (bq (W f U g m _ n o) λt w ζ=>by let⟨D,G,B,F,O⟩:=ζ;rwa[i f w g G y D u t Q B p F O]))
def Sw (K:Za1)(x:V)(H:Hp)(k:Bool):Prop:=
 match x with
 |.non=>k=false
 |.bl b=>k=b
 |.int i=>k=(i !=0)
 |.str y=>⇑y<=sizeLine/\k=((⇑y:Int) !=0)
 |.nX y=>y.size<=sizeLine/\k=((y.size:Int) !=0)
 |.ref p=>(∃xs,aF K H p xs/\k=!xs.isEmpty)\/(∃xs,bu K H p xs/\k=!xs.isEmpty)\/∃d,H p\.dK d/\k=!d.isEmpty
 |_=>False
def Gz {f:Type}{d:List (f×V)}{e:List (f×Zt)}(r:KV d e):(!e.isEmpty)=!d.isEmpty:=by cases r <;> rfl
def wg {xs:Zb}(r:Vals xs N):(!N.toArray.isEmpty)=!xs.isEmpty:=by cases r <;> simp
def rS:(sizeLine:Nat)<2 ^ 63:=⋯
def Sx [o:eT X K]:abL X (λx H Q=>∃k,Sw K x H k/\Q k H):=by
 cases o.eq;intro w s D H x v Q I g h;let⟨k,e,q⟩:=h;let B:=rS;let C:sizeLine=16777216:=sizeLine_eq
 cases x with
 |non=>ext g;let d:k=false:=e;subst d;rwa[truthy_none ⟨H,I,q⟩]
 |bl b=>ext g;let d:k=b:=e;subst d;rwa[ale ⟨H,I,q⟩]
 |int i=>let⟨t,rfl⟩:=g;let d:k=(i !=0):=e;subst d;rwa[PySem.P.truthy_int ⟨H,I,q⟩]
 |str y=>let⟨t,rfl⟩:=g;obtain⟨z,d⟩:⇑y<=sizeLine/\k=((⇑y:Int) !=0):=e;subst d;rwa[PySem.P.truthy_str ∅ ⟨H,I.tok _,q⟩]
 |nX y=>let⟨t,rfl⟩:=g;obtain⟨z,d⟩:y.size<=sizeLine/\k=((y.size:Int) !=0):=e;subst d;rwa[PySem.W.truthy_bytes ∅ ⟨H,I.tok _,q⟩]
 |ref p=>
  ext g;let d:(∃xs,aF X.K H p xs/\k=!xs.isEmpty)\/(∃xs,bu X.K H p xs/\k=!xs.isEmpty)\/∃f,H p\.dK f/\k=!f.isEmpty:=e;rcases d with ⟨xs,j,d⟩|⟨xs,j,d⟩|⟨f,j,d⟩
  ·subst d;let⟨n,r,pl,u⟩:=I.list j;let hlen:=⇑r;rwa[wpAny_truthy_list pl.isList (by simp only[ajT];omega) ⟨H,I.tok _,[wg r]▸q⟩]
  ·subst d;let⟨n,r,pl,u⟩:=I.tuple j;let hlen:=⇑r;rwa[truthy_tuple pl (by simp only[ajT];omega) ⟨H,I.tok _,[wg r]▸q⟩]
  ·subst d;obtain⟨u,A,l,r,m⟩:⇑f<=sizeLine/\(p==sysModules)=false/\∃l,KV f l/\s.heap.DictOf (bZ X.prog X.w) p l:=I.aU p _ j;let hlen:⇑f=⇑l:=Paired.length r;rwa[wpAny_truthy_dict A m ∅ ⟨H,I.tok _,[Gz r]▸q⟩]
 |_=>exact(show False from e).elim
def A5 [f:eT X K](l:PE X a ta)(j:∀whole,isTrue a X.env whole=(do let v <-whole;standAt a.pos;holding [v] (truthy v))):
 PT X a (λ e H Q=>ta e H λx g=>∃k,Sw K x g k/\Q k g):=by cases f.eq;intro d s e H Q I h;rwa[isTrue_plain (bq (l d s e H _ I h) λv o ζ=>?_) (j _)];let⟨x,i,p,m,n⟩:=ζ;rwa[Sx d o e i x v Q p m n]
def vals1 {x:V}(r:Vals [x] N):∃u,N=[u]/\RelV x u:=by
 cases r with
 |cons e d=>ext d;rwa[12,e]
def vals2 {x:V}(r:Vals [x,q] N):∃u d,N=[u,d]/\RelV x u/\RelV q d:=by
 cases r with
 |cons h e=>
  cases e with
  |cons g f=>ext f;rwa[112,h,g]
def Lk:i3 X (.builtin "abs") (λd H Q=>∃i,d=[.int i]/\Q (.int (if i<0 then -i else i)) H):=by intro e s j H d f Q I r h;let⟨i,rfl,q⟩:=h;let⟨u,rfl,t,rfl⟩:=vals1 r;rwa[call_abs_int λu g=>⟨.int (if i<0 then -i else i),H,I.tok _,⟨12⟩,q⟩]
def Ih (g:X.calm=true):i3 X (.builtin "max") (λe H Q=>∃i j,e=[.int i,.int j]/\Q (.int (if j > i then j else i)) H):=by
 intro f s p H e v Q I r h;let⟨i,j,rfl,q⟩:=h;let⟨u,l,rfl,⟨t,rfl⟩,⟨m,rfl⟩⟩:=vals2 r;rwa[max_two_ints (I.ok.hd g) λn o k=>⟨_,H,I.kept k,5,q⟩]
 cases d:j > i
 ·rw[aj3 d,aj3 d];rwa[12]
 ·rw[ajY d,ajY d];rwa[12]
def Ii (g:X.calm=true):i3 X (.builtin "min") (λe H Q=>∃i j,e=[.int i,.int j]/\Q (.int (if j<i then j else i)) H):=by
 intro f s p H e v Q I r h;let⟨i,j,rfl,q⟩:=h;let⟨u,l,rfl,⟨t,rfl⟩,⟨m,rfl⟩⟩:=vals2 r;rwa[min_two_ints (I.ok.hd g) λn o k=>⟨_,H,I.kept k,5,q⟩]
 cases d:j<i
 ·rw[aj3 d,aj3 d];rwa[12]
 ·rw[ajY d,ajY d];rwa[12]
end
structure vd (h:Heap)(x dx C:Zs)(mA:Str->Zl):Prop where
 obj:h.get? x\(instObj C dx)
 ns:h.Ns1 dx mA
 ne:dx≠x
def y8 (n:h.Ns1 a M):∃d,h.get? a\d/\∀name,lookIn name d\(M name):=by
 let⟨o,l,m,j,f,i,_,g⟩:=n;rwa[⟨o,j,λname=>?_⟩];let e:=g name;unfold nsFind findBy at e;rw[<-Array.find?_toList]at e;unfold lookIn;rw[f];dsimp only;split
 ·cbv
 ·rename_i q;rw[q]at e
  let b:l.toList.any (·.refKey)=false:=by rw[List.any_eq_false];intro y k;let⟨z,t,c⟩:=i y (Array.mem_toList_iff.mp k);simp[DictEntry.refKey,c]
  cbv
def vd.look {x dx:Zs}(I:vd h x dx a M):∃b,PySem.W.InstAt h x (instObj a dx) a (some b)/\∀name,lookIn name b\(M name):=
 let ⟨b,c,d⟩:=y8 I.ns
 ⟨b,⟨I.obj,22,c⟩,d⟩
section
variable {prog:Program}{w:World}{A:Around}{E:Zt->Zu->Prop}{s:Zu}{K:Za1}{x dx C f:Zs}{mA:Str->Zl}{name:Str}{v:Zt}
def get_map {expr:Bool}(X:K.In s.heap)(I:vd s.heap x dx C mA)(g:plainGet K C name=true)(d:hasDictIn K C=true)(c:findIn K ↑C name\none)(b:mA name\v)(a:PySem.W.handedIn v=true)(h:Q v { s with toks:=s.toks+ 1 }):
 (prog<|>w) A (getAttr ↑x name expr) Q E s:=by let⟨i,J,e⟩:=I.look;rwa[PySem.W.get_value X J (plainGet_of g).1 (PySem.W.findObj_own d c rfl (by rw[e,b])) a h]
def Ln {pl:Sem Bool}{Q:Zt×Zk->Zu->Prop}(X:K.In s.heap)(I:vd s.heap x dx C mA)(a:plainGet K C name=true)(b:findIn K ↑C name\some ↑f)(g:isFn K ↑f=true)(c:mA name=none)(h:Q (↑f,[↑x]) s):
 (prog<|>w) A (getMethod ↑x name pl) Q E s:=by let⟨d,J,e⟩:=I.look;rwa[PySem.W.method_fn X J (plainGet_of a).1 (plainGet_of a).2 b (amx.mp g) (by show (lookIn name d).map (·.isSome)\false;rw[e,c];rfl) h]
def Qn {ns:Zp}(X:K.In s.heap)(I:vd s.heap x dx C mA)(t:findIn K ↑C "__setattr__"=some (some (.builtin "object.__setattr__")))(o:plainOver K C=true)(l:takerIn K C name\none)(q:hasDictIn K C=true)(p:PySem.Within mA ns)(n:⇑ns<=sizeLine)(h:∀e,vd e x dx C (λy=>if y=name then some v else mA y)->Heap.SameBut dx s.heap e->U () { s with heap:=e,toks:=s.toks+ 2 }):
 (prog<|>w) A (setAttr ↑x name v) U E s:=by
 let⟨H,J,G⟩:=I.look;rwa[PySem.W.set_plain X J t (PySem.W.osa_open (s:={ s with toks:=s.toks+ 1 }) (r:=none) X J o l λb=>?_)];let⟨F,z,k⟩:=PySem.W.any_some q;let u:s•x\⟨↑C,some dx,.plain,#[]⟩:=I.obj;rwa[ajx (ajG (ajx (ajx (wpAny_loadPart u (ajx (PySem.W.Looks.here (s:={ s with toks:=s.toks+ 1 }) (PySem.W.looks_clsIn X z) ?_))))))];rw[k];rwa[ajG (a:=some dx) (ajx (ajG (ajx ?_)))];rwa[wpAny_nsSet1 (s:={ s with toks:=s.toks+ 1 }) I.ns λe d c=>?_]
 let⟨D,B,m,j,g,i⟩:=d.count (PySem.Within.cons name v p);rwa[ajx (wpAny_lookBehind j ([g]▸pastItsLine_dict (ajO i (by rw[aj1];omega))) ?_)];rwa[ajG (h _ ⟨(c.2 _ (akI I.ne)).trans I.obj,d,I.ne⟩ c)]
def Lp {R:Result->Zu->Prop}{a:List (Str×Zt)}(X:K.In s.heap)(b:makesIn K C=true)(d:findIn K ↑C "__init__"=some (some ↑f))(c:PySem.W.typeIn K ↑f\(.type "function"))(h:codeAny (model prog w) (A.under (.builtin "type.__call__" ⟨↑C::N,a⟩)) (.call ↑f ⟨↑(↥s+ 1)::N,a⟩) (PySem.W.InitBack (↥s+ 1) R)
  { s with heap:=(s.heap.push emptyDict).push (instObj C ↥s) }):
 codeAny (model prog w) A (.call ↑C ⟨N,a⟩) R s:=by rwa[PySem.W.make_core (makes_of X b) (PySem.W.looks_findIn X d) (λself=>PySem.W.bind_fn X self c) (.inl rfl) h]
def Ij {R:Result->Zu->Prop}(X:K.In s.heap)(a:makesIn K C=true)(c:findIn K ↑C "__init__"=some (some (.builtin "object.__init__")))(b:∀self,PySem.W.Looks (model prog w) s.heap (bindSpecial (.builtin "object.__init__") self) (.builtin "object.__init__",[self]))(h:codeAny (model prog w) (A.under (.builtin "type.__call__" ⟨[↑C],[]⟩)) (.call (.builtin "object.__init__") ⟨[↑(↥s+ 1)],[]⟩) (PySem.W.InitBack (↥s+ 1) R)
  { s with heap:=(s.heap.push emptyDict).push (instObj C ↥s) }):
 codeAny (model prog w) A (.call ↑C ⟨[],[]⟩) R s:=by rwa[PySem.W.make_core (makes_of X a) (PySem.W.looks_findIn X c) b (.inr ⟨22⟩) h]
end
def bT (f:Str)(v:V):List (Str×V)->List (Str×V)
 |[]=>[(f,v)]
 |(g,x)::r=>if g=f then (g,v)::r else (g,x)::bT f v r
theorem oN (f g:Str)(v:V):∀fs:List (Str×V),(bT f v fs).lookup g=if g=f then some v else fs.lookup g
 |[]=>by
  show List.lookup g [(f,v)]=_
  cbv
 |(k,x)::r=>by
  let a:=oN f g v r;rw[show bT f v ((k,x)::r)=(if k=f then (k,v)::r else (k,x)::bT f v r) from rfl]
  cbv
theorem lF (f:Str)(v:V):∀fs:List (Str×V),f∈(bT f v fs).map (·.1)/\∀g,g∈fs.map (·.1)->g∈(bT f v fs).map (·.1)
 |[]=>⟨by simp[bT],λg h=>by simp at h⟩
 |(k,x)::r=>by
  let⟨a,b⟩:=lF f v r;rw[show bT f v ((k,x)::r)=(if k=f then (k,v)::r else (k,x)::bT f v r) from rfl]
  cbv
theorem uC (f:Str)(v:V):∀fs:List (Str×V),⇑(bT f v fs)<=⇑fs+ 1
 |[]=>by simp[bT]
 |(k,x)::r=>by
  let a:=uC f v r;rw[show bT f v ((k,x)::r)=(if k=f then (k,v)::r else (k,x)::bT f v r) from rfl]
  cbv
def fq.some_of {v:V}{o:Zl}(r:fq (some v) o):∃u,o\u/\RelV v u:=by
 cases o with
 |none=>exact(show False from r).elim
 |some u=>rwa[u,2,r]
def fq.none_of {o:Zl}(r:fq none o):o=none:=by
 cases o with
 |none=>rfl
 |some u=>exact(show False from r).elim
def y9 (r:RelV q u):PySem.W.handedIn u=true:=by
 cases q with
 |non=>cases (show u=Value.none from r);rfl
 |bl b=>cases (show u=Value.bool b from r);rfl
 |int i=>let⟨t,e⟩:=(show ∃t,u=Value.int i t from r);ext e;rfl
 |str x=>let⟨t,e⟩:=(show ∃t,u=Value.str x t from r);ext e;rfl
 |nX b=>let⟨t,e⟩:=(show ∃t,u=Value.bytes b t from r);ext e;rfl
 |AZ b=>let⟨t,e⟩:=(show ∃t,u=Value.float b t from r);ext e;rfl
 |ref a=>cases (show u=Value.ref a from r);rfl
 |ty n=>cases (show u=Value.type n from r);rfl
section
variable {P:Program}{w:World}{H:Hp}{h:Heap}{a C dx:Zs}{fs:List (Str×V)}
def tN (c:dS P w H h)(e:H a\.ins C dx fs):∃b,vd h a dx C b/\(∀f,fq (fs.lookup f) (b f))/\PySem.Within b (fs.map (·.1))/\⇑fs<=1000/\H dx\(.own a):=by let⟨d,z,ne,g,b,n,r,q⟩:=(show cu P w H h a (.ins C dx fs) from c a _ e);rwa[b,⟨g,n,ne⟩,r,q,z,d]
end
structure kA (K:Za1)(C:Zs):Prop where
 pg:plainGet K C Str.empty=true
 hd:hasDictIn K C=true
 po:plainOver K C=true
 sa:findIn K ↑C "__setattr__"=some (some (.builtin "object.__setattr__"))
def kA.get (c:kA K a)(f:Str):plainGet K a f=true:=c.pg
def lG (K:Za1)(C:Zs)(f:Str):Prop:=findIn K ↑C f\none
def lG.GA (n:lG K a f):takerIn K a f\none:=by unfold takerIn;rw[show findIn K ↑a f=some none from n];rfl
structure Con (K:Za1)(C:Zs)(f:Str)(v:V)(u:Zt):Prop where
 at_:findIn K ↑C f\(some u)
 rel:RelV v u
 get:specialIn K u "__get__"=some none
 cp:PySem.W.copiedNames.contains f=false
structure Meth (K:Za1)(C:Zs)(m:Str)(f:Zs):Prop where
 at_:findIn K ↑C m\(some ↑f)
 fn:isFn K ↑f=true
 kp:keepIn K ↑f=true
section
variable {X:Cx}{pins:List (Zs×Obj)}{σ:St}{H:Hp}{s:Zu}{a C dx:Zs}{fs:List (Str×V)}{f:Str}{v:V}{A:Around}{E:Zt->Zu->Prop}
def GB {b:Bool}(I:Inv X pins σ H s)(e:H a\.ins C dx fs)(c:kA X.K C)(n:lG X.K C f)(l:fs.lookup f\v)(h:∀u d,Inv X pins σ H d->RelV v u->Q u d):X⁻¹ A (getAttr ↑a f b) Q E s:=by let⟨j,O,r,_,_,_⟩:=tN I.aU e;let⟨u,i,g⟩:=fq.some_of (v:=v) (o:=j f) (by rw[<-l];rwa[r f]);rwa[get_map I.dQ O (c.get f) c.hd n i (y9 g) (h u _ (I.tok _) g)]
def wj {pl:Sem Bool}{Q:Zt×Zk->Zu->Prop}(I:Inv X pins σ H s)(e:H a\.ins C dx fs)(c:kA X.K C)(k:Meth X.K C x b)(l:fs.lookup x=none)(h:Q (↑b,[↑a]) s):X⁻¹ A (getMethod ↑a x pl) Q E s:=by let⟨g,O,r,_,_,_⟩:=tN I.aU e;let d:g x=none:=fq.none_of (by cbv);rwa[Ln I.dQ O (c.get x) k.at_ k.fn d h]
def GC (I:Inv X pins σ H s)(e:H a\.ins C dx fs)(c:kA X.K C)(n:lG X.K C f)(J:⇑fs<1000)(D:RelV q u)(h:∀j,Inv X pins σ (upd H a (.ins C dx (bT f q fs))) j->U () j):X⁻¹ A (setAttr ↑a f u) U E s:=by
 let⟨F,O,r,k,_,l⟩:=tN I.aU e;let B:⇑(fs.map (·.1))<=sizeLine:=by rw[ajD,sizeLine_eq];ext
 rwa[Qn I.dQ O c.sa c.po n.GA c.hd k B λw i G=>h _ ?_]
 let m:∃o,w.get? dx\o:=let ⟨o,_,_,y,_⟩:=i.ns;⟨o,y⟩
 rwa[I.write (x:=a) (e:=dx) ([e]▸True.intro) (.inr l) (λb d p z=>(G.2 b p).trans z) m ?_];rwa[⟨[ao O.ne]▸l,5,O.ne,i.obj,_,i.ns,λg=>?_,λg t=>?_⟩]
 ·have:=uC f q fs;ext
 ·show fq ((bT f q fs).lookup g) (if g=f then some u else F g);rw[oN];cases d:g=f
  ·rw[aj3 d,aj3 d];rwa[D]
  cbv
 ·cases d:g=f
  ·rw[d];rwa[(lF f q fs).1]
  ·rwa[(lF f q fs).2 g (k g λz=>t ?_)]
   cbv
def Inv.made (I:Inv X pins σ H s):Inv X pins σ (upd (upd H ↥s (.own (↥s+ 1))) (↥s+ 1) (.ins C ↥s []))
 { s with heap:=(s.heap.push emptyDict).push (instObj C ↥s) }:=by
 let c:(s.heap.push emptyDict).get? ↥s\emptyDict:=ajP s.heap rfl
 let k:((s.heap.push emptyDict).push (instObj C ↥s)).get? (↥s+ 1)\(instObj C ↥s):=by
  have:=ajP (s.heap.push emptyDict) (o:=instObj C ↥s) rfl
  rwa [ali]at this
 let d:(s.heap.push emptyDict).Ns ↥s (λ_=>none):=⟨emptyDict,#[],_,c,2,(λe g=>absurd g (by simp)),λ_=>rfl⟩;let j:=I.laid (a:=↥s) (o:=.own (↥s+ 1)) (h':=s.heap.push emptyDict) (t':=s.toks) (λb u q=>ajB _ q) (ajE _) ⟨_,c⟩;rwa[j.laid (a:=↥s+ 1) (o:=.ins C ↥s []) (t':=s.toks) (λb u q=>ajB _ q) (amy (ali _ _)) ?_];let ne:↥s≠↥s+ 1:=aj9 (akZ _);rwa[⟨by rw[ao ne,aj],aj8 _,ne,k,λ_=>none,(Heap.Ns1.of_empty d).at λo q=>ajB _ q,λ_=>True.intro,λy h=>absurd rfl h⟩]
def E6 {env:Env}{f:Str}{s:Zu}(c:attributeBase e f env (eval e env)=eval e env)(h:(P<|>w) A (eval e env) (λo b=>(P<|>w) A (getAttr o f true) Q E b) E s):(P<|>w) A (eval (.Attribute e f p) env) Q E s:=Attribute_any_ h (by rw[arm_eval_Attribute,c])
end
inductive Sy (K:Za1)(f:Str)(x:V)(H:Hp)(Q:VK):Prop
 |mk (a C dx:Zs)(fs:List (Str×V))(v:V):x=↑a->H a\.ins C dx fs->kA K C->lG K C f->fs.lookup f\v->Q v H->Sy K f x H Q
def Sz (K:Za1)(b:TE)(f:Str):TE:=λ c H Q=>b c H λx a=>Sy K f x a Q
inductive SD (K:Za1)(f:Str)(y x:V)(H:Hp)(N:Hp->Prop):Prop
 |mk (a C dx:Zs)(fs:List (Str×V)):x=↑a->H a\.ins C dx fs->kA K C->lG K C f->⇑fs<1000->N (upd H a (.ins C dx (bT f y fs)))->SD K f y x H N
def abN (K:Za1)(e b:TE)(f:Str):TS:=λD a H=>b a H λy d=>e a d λx c=>SD K f y x c (D.nx a)
section
variable {X:Cx}{o e value:Expr}{f:Str}{pos pos':Pos}{ta tv:TE}
def aD [d:eT X K](r:PE X e ta)(g:attributeBase e f X.env (eval e X.env)=eval e X.env):PE X (.Attribute e f pos) (Sz K ta f):=by cases d.eq;intro b s p H Q I h;rwa[E6 g (bq (r b s p H _ I h) λu A ζ=>?_)];let⟨x,k,i,m,a,C,B,fs,v,ex,w,c,n,l,q⟩:=ζ;subst ex;obtain rfl:u=Value.ref a:=m;rwa[GB i w c n l λz y j t=>⟨v,k,j,t,q⟩]
def cE [d:eT X K](A:PE X o ta)(z:PE X value tv)(t:swapsWith value (some (.Attribute o f pos')) pos.line X.env=pure false):PS X (.Assign [.Attribute o f pos'] value pos) (abN K ta tv f):=by cases d.eq;intro b s g H D I h;rwa[plainObj_wpAny_Assign_Attribute (bq (z b s g H _ I h) λu p ζ=>?_) t];let⟨y,m,i,v,q⟩:=ζ;rwa[bq (A b p g m _ i q) λr F ζ=>?_];let⟨x,G,k,w,a,C,L,fs,ex,B,c,n,l,E⟩:=ζ;subst ex;obtain rfl:r=Value.ref a:=w;rwa[GC k B c n l v λJ j=>⟨g,_,j,E⟩]
inductive abP (x y:V)(H:Hp)(Q:VK):Prop
 |mk (i j:Int):x=.int i->y=.int j->Q (.int (i+ j)) H->abP x y H Q
inductive abQ (x y:V)(H:Hp)(Q:VK):Prop
 |mk (i j:Int):x=.int i->y=.int j->Q (.int (i - j)) H->abQ x y H Q
end
section
variable {X:Cx}{pins:List (Zs×Obj)}{σ:St}{H:Hp}{s:Zu}{A:Around}{E:Zt->Zu->Prop}{Q:Zt->Zu->Prop}{c:Zt}{b:Bool}
inductive j8 (K:Za1)(H:Hp):V->Zt->Prop where
 |non:j8 K H .non (.type "NoneType")
 |bl (x:Bool):j8 K H (.bl x) (.type "bool")
 |int (i:Int):j8 K H (.int i) (.type "int")
 |str (x:Str):j8 K H (.str x) (.type "str")
 |AZ (x:UInt64):j8 K H (.AZ x) (.type "float")
 |lst {a:Zs} {xs:Zb} (e:H a\.lst xs):j8 K H ↑a (.type "list")
 |cL {a:Zs} {o:Obj} {xs:Zb} (e:H a\.cL o (.lst xs)):j8 K H ↑a (.type "list")
 |tup {a:Zs} {xs:Zb} (e:H a\.tup xs):j8 K H ↑a (.type "tuple")
 |dK {a:Zs} {kvs:List (Key×V)} (e:H a\.dK kvs):j8 K H ↑a (.type "dict")
 |dT {a:Zs} {kvs:List (Zd×V)} (e:H a\.dT kvs):j8 K H ↑a (.type "dict")
 |ins {a C dx:Zs} {fs:List (Str×V)} (e:H a\.ins C dx fs) (cl:kA K C) (ha:findIn K ↑C "__class__"=some (some (.builtin "object.__class__")))
  (hn:specialIn K (.builtin "object.__class__") "__get__"=some (some (.builtin "getset_descriptor.__get__"))) (E7:PySem.W.takesIn K (.builtin "object.__class__")\true)
  (hm:mroIn K C (.type "object")\true):j8 K H ↑a ↑C
def Ik {x:V}{t:Zt}(I:Inv X pins σ H s)(d:RelV x u)(B:j8 X.K H x t)(e:kitOne X.K t c\b)(h:∀r,Q (.bool b) { s with toks:=r }):
 X⁻¹ A (call (.builtin "isinstance") [u,c]) Q E s:=by
 cases B with
 |non=>cases (show u=Value.none from d);rwa[akV PySem.W.kitx_none I.dQ True.intro e (λz=>nomatch z) h]
 |bl y=>cases (show u=Value.bool y from d);rwa[akV PySem.W.kitx_bool I.dQ True.intro e (λz=>nomatch z) h]
 |int i=>let⟨t,q⟩:=(show ∃t,u=Value.int i t from d);ext q;rwa[akV PySem.W.kitx_int I.dQ True.intro e (λz=>nomatch z) h]
 |str y=>let⟨t,q⟩:=(show ∃t,u=Value.str y t from d);ext q;rwa[akV PySem.W.kitx_str I.dQ True.intro e (λz=>nomatch z) h]
 |AZ y=>let⟨t,q⟩:=(show ∃t,u=Value.float y t from d);ext q;rwa[akV PySem.W.kitx_float I.dQ True.intro e (λz=>nomatch z) h]
 | @lst a k f=>cases (show u=Value.ref a from d);let⟨_,_,n,_,g⟩:=(show cu X.prog X.w H s.heap a (.lst k) from I.aU a _ f);rwa[akV PySem.W.kitx_list I.dQ ⟨_,g,2⟩ e (λz=>nomatch z) h]
 | @cL a v k f=>cases (show u=Value.ref a from d);let⟨_,_,_,n,_,g⟩:=(show cu X.prog X.w H s.heap a (.cL v (.lst k)) from I.aU a _ f);rwa[akV PySem.W.kitx_list I.dQ ⟨_,g,2⟩ e (λz=>nomatch z) h]
 | @tup a k f=>cases (show u=Value.ref a from d);let⟨_,_,_,p⟩:=(show cu X.prog X.w H s.heap a (.tup k) from I.aU a _ f);let⟨o,g,l,_⟩:=p;rwa[akV PySem.W.kitx_tuple I.dQ ⟨o,g,l⟩ e (λz=>nomatch z) h]
 | @dK a j f=>cases (show u=Value.ref a from d);let⟨_,_,M,_,p⟩:=(show cu X.prog X.w H s.heap a (.dK j) from I.aU a _ f);let⟨o,w,F,g,l,_⟩:=p;rwa[akV PySem.W.kitx_dict I.dQ ⟨o,g,l.1⟩ e (λz=>nomatch z) h]
 | @dT a j f=>cases (show u=Value.ref a from d);let⟨_,_,k,_,o,w,F,g,l,_⟩:=(show cu X.prog X.w H s.heap a (.dT j) from I.aU a _ f);rwa[akV PySem.W.kitx_dict I.dQ ⟨o,g,l.1⟩ e (λz=>nomatch z) h]
 | @ins a C R fs f cl L D m G=>cases (show u=Value.ref a from d);let⟨N,O,_⟩:=tN I.aU f;let⟨P,J,_⟩:=O.look;rwa[akV (PySem.W.kitx_own (cl.get _) cl.hd L D m G) I.dQ J e (λz=>nomatch z) h]
end
structure cR (k:Nat)(A:Around):Prop where
 hd:A.handled=none
 dp:A.depth+ 3* k+ 5<recursionLimit
 un:A.units+ 16* k+ 200<cLine
def cR.mono {k:Nat}(r:cR k A)(h:j<=k):cR j A:=⟨r.hd,by have:=r.dp;ext,by have:=r.un;ext⟩
def cR.Za5 {j k:Nat}{A:Around}(r:cR k A)(h:j<=k:=by decide):cR j A:=r.mono h
def cR.deeper {k:Nat}(r:cR (k+ 1) A)(env:Env):cR k (A.deeper env):=⟨r.hd,by have:=r.dp;show A.depth+ 1+ 3* k+ 5<_;ext,by have:=r.un;show A.units+ 3+ 16* k+ 200<_;ext⟩
def cR.in1 {k:Nat}(r:cR (k+ 1) A):cR k A.in1:=⟨r.hd,by have:=r.dp;show A.depth+ 3* k+ 5<_;ext,by have:=r.un;show A.units+ 1+ 16* k+ 200<_;ext⟩
def GD {b:List (Str×Zt)}:(A.under (.builtin "type.__call__" ⟨↑a::N,b⟩)).depth=A.depth+ 1:=by first|rfl|simp[Around.under,Code.weight,Code.isCreation,Code.isGuard,Code.isCaller,Code.frames,Code.isFrame,guardIds]
def GF {b:List (Str×Zt)}:(A.under (.builtin "type.__call__" ⟨↑a::N,b⟩)).units=A.units+ 1:=by first|rfl|simp[Around.under,Code.cUnits,Code.frames,Code.isFrame]
def cR.make {k:Nat}(r:cR (k+ 1) A)(C:Zs)(a:Zk)(b:List (Str×Zt)):cR k (A.under (.builtin "type.__call__" ⟨↑C::a,b⟩)):=⟨r.hd,by have:=r.dp;rw[GD];ext,by have:=r.un;rw[GF];ext⟩
def cR.depth {k:Nat}(r:cR k A):A.depth<recursionLimit:=by have:=r.dp;ext
def cR.units {k:Nat}(r:cR k A):A.units+ 64<cLine:=by have:=r.un;ext
def j9:TA:=λ_ H Q=>Q [] H
def ju (e:TE)(tr:TA):TA:=λ a H Q=>e a H λx c=>tr a c λd b=>Q (x::d) b
section
variable {X:Cx}{e:Expr}{es:Zr}{te:TE}{t:TA}{pos:Pos}
def ah:PA X [] j9:=λ_ _ _ _ H Q I h=>ak2 ⟨[],H,I,.nil,h⟩
def ae (p:PE X e te)(j:PA X es t)(m:starEach (e::es) X.env=(false,eval e X.env)::starEach es X.env:=by rfl):PA X (e::es) (ju te t):=by intro pos a s b H Q I h;rw[m];rwa[akw (bq (p a s b H _ I h) λu l ζ=>?_)];let⟨x,i,d,c,f⟩:=ζ;rwa[bq (j pos a l b i _ d f) λv r ζ=>?_];let⟨k,o,g,n,q⟩:=ζ;rwa[⟨x::k,o,g,.cons c n,q⟩]
inductive SF (xs:Zb)(H:Hp)(Q:VK):Prop
 |mk:⇑xs<=sizeLine->(∀p,H p=none->Q ↑p (upd H p (.tup xs)))->SF xs H Q
def abR (t:TA):TE:=λ c H Q=>t c H λb a=>SF b a Q
inductive SG (xs:Zb)(H:Hp)(Q:VK):Prop
 |mk:⇑xs<=sizeLine->(∀p,H p=none->Q ↑p (upd H p (.lst xs)))->SG xs H Q
def abS (t:TA):TE:=λ c H Q=>t c H λb a=>SG b a Q
def bG {l}(h:PA X es t):PE X (.Tuple es l pos) (abR t):=by intro a s j H Q I f;rwa[wpAny_Tuple_spliced (bq (h pos a s j H _ I f) λk s1 ζ=>?_)];let⟨i,d,c,r,z,q⟩:=ζ;rwa[⟨by rw[<-⇑r];rwa[z],5⟩];let g:d ↥s1=none:=c.aU.fresh (ajE _);rwa[⟨↑↥s1,upd d ↥s1 (.tup i),c.laid (t':=s1.toks) (λb u e=>ajB _ e) (ajE _) ?_,2,q _ g⟩];rwa[z,k,r,⟨_,ajP _ rfl,212⟩]
def bY (h:PA X es t):PE X (.List es pos) (abS t):=by intro a s k H Q I g;rwa[wpAny_List_spliced (bq (h pos a s k H _ I g) λi s1 ζ=>?_)];let⟨j,c,d,r,z,q⟩:=ζ;rwa[⟨by rw[<-⇑r];rwa[z],5⟩];let f:c ↥s1=none:=d.aU.fresh (ajE _);rwa[⟨↑↥s1,upd c ↥s1 (.lst j),d.laid (t':=s1.toks) (λb u e=>ajB _ e) (ajE _) ?_,2,q _ f⟩];rwa[z,i,(0),r,ajP _ rfl]
end
abbrev Sp:=Zb->Hp->VK->XK->Prop
abbrev lH:=Zq->Hp->Zu->XK->Zt->Zu->Prop
structure mK (P:Program)(w:World)(K:Za1)(mg:Str->Zl)(base:Heap)(A:Around)(outer:Zq)(s:Zu)(H:Hp):Prop where
 frames:A.frames\outer
 mod:Mod K mg base
 bs:∀b o,base.get? b\o->s•b\o/\H b=none
 rP:base.objs.size<=↥s
 jC:s.heap.FunFrames base outer
 uz:∀b∈c9 outer,H b=none
 aU:dS P w H s.heap
 bare:AllBare s.gens
def CE (a:Zq)(P:Program)(w:World)(H:Hp)(s:Zu)(Q:VK)(u:Zt)(b:Zu):Prop:=∃v c,b.os=s.os/\AllBare b.gens/\Un (c9 a) [] H c s.heap b.heap/\dS P w c b.heap/\RelV v u/\Q v c
def CR (c:lH)(a:Zq)(P:Program)(w:World)(H:Hp)(s:Zu)(Q:VK)(E:XK)(r:Result)(b:Zu):Prop:=
 match r with
 |.ok (.ret u)=>CE a P w H s Q u b
 |.ok _=>False
 |.error e=>c a H s E e b
structure dP (P:Program)(w:World)(K:Za1)(mg:Str->Zl)(base:Heap)(CX:lH)(k:Nat)(f:Zs)(fd:FuncData)(ps:Zp)(sp:Sp):Prop where
 len:∀vs H Q E,sp vs H Q E->⇑vs=⇑ps
 run:∀(A:Around)(outer:Zq)(s:Zu)(H:Hp)(args:Args)(us:Zk)(vs:Zb)(Q:VK)(E:XK),cR k A->mK P w K mg base A outer s H->BindsTo s fd args (ps.zip us)->Vals vs us->sp vs H Q E->codeAny (model P w) A (.call ↑f args) (CR CX outer P w H s Q E) s
def mK.make {mg:Str->Zl}{base:Heap}{outer:Zq}(e:mK P w K mg base A outer s H)(C:Zs)(a:Zk)(b:List (Str×Zt)):
 mK P w K mg base (A.under (.builtin "type.__call__" ⟨↑C::a,b⟩)) outer s H:=⟨by first|rwa[e.frames]|(simpa [Around.under,Code.envs,Code.isFrame,pushEnvs] using e.frames),e.mod,e.bs,e.rP,e.jC,e.uz,e.aU,e.bare⟩
def mK.in1 {mg:Str->Zl}{base:Heap}{outer:Zq}(e:mK P w K mg base A outer s H):
 mK P w K mg base A.in1 outer s H:=⟨e.frames,e.mod,e.bs,e.rP,e.jC,e.uz,e.aU,e.bare⟩
section
variable {X:Cx}{pins:List (Zs×Obj)}{σ:St}{H:Hp}{s s':Zu}
def Inv.A6 (I:Inv X pins σ H s):mK X.prog X.w X.K X.mg X.base X.A X.stack s H:=⟨I.ok.frames,I.ok.mod,I.bs,ajO I.ok.rP I.sz,I.stack,I.oW,I.aU,I.bare⟩
def Inv.after {Q:VK}(I:Inv X pins σ H s)(h:CE X.stack X.prog X.w H s Q u s'):EP X pins σ Q u s':=by let⟨v,e,os,bare,un,aU,r,q⟩:=h;let⟨c,g,d,t,a⟩:=s';obtain rfl:a=s.os:=os;rwa[v,e,I.call (h':=c) (g':=g) (d':=d) (t':=t) (ch:=[]) un aU bare (λb z=>absurd z (by simp)),r,q]
end
def NW (b:Sp)(a:Zb)(E:XK)(t:TA):TE:=λ e H Q=>t e H λc d=>b (c++a) d Q E
inductive SJ (C:Zs)(m:Str)(sp:Sp)(dvs:Zb)(E:XK)(t:TA)(σ:St)(x:V)(H:Hp)(Q:VK):Prop
 |mk (a dx:Zs)(fs:List (Str×V)):x=↑a->H a\.ins C dx fs->fs.lookup m=none->t σ H (λvs H2=>sp (x::(vs++dvs)) H2 Q E)->SJ C m sp dvs E t σ x H Q
def lj (C:Zs)(m:Str)(c:Sp)(a:Zb)(E:XK)(e:TE)(t:TA):TE:=λ b H Q=>e b H λx d=>SJ C m c a E t b x d Q
def Xs (C:Zs)(e:Sp)(c:Zb)(E:XK)(t:TA):TE:=λ g H Q=>t g H λf b=>∀x a,b x=none->b a=none->a≠x->e (↑x::(f++c)) (upd (upd b a (.own x)) x (.ins C a [])) (λv d=>v=.non/\Q ↑x d) E
def Binds (K:Za1)(fd:FuncData)(c:Zp)(b:Zk):Prop:=∀(s:Zu)(a:Zk),K.In s.heap->⇑(a++b)=⇑c->BindsTo s fd ⟨a,[]⟩ (c.zip (a++b))
def Binds.all {fd:FuncData}(h:∀us:Zk,⇑us=⇑Z->bindArgs fd ⟨us,[]⟩=pure (Z.zip us)):Binds K fd Z []:=λs us _ a=>by rw[akb]at a ⊢;rwa[.of_eq (h us a)]
def Passes (c:lH)(X:Cx)(E:XK):Prop:=∀(a:List (Zs×Obj))(d:St)(H:Hp)(s:Zu)(e:Zt)(b:Zu),Inv X a d H s->c X.stack H s E e b->X.xe e b
section
variable {X:Cx}{CX:lH}{k:Nat}{f C:Zs}{fd:FuncData}{ps:Zp}{sp:Sp}{dvs:Zb}{ds:Zk}{E:XK}{x m:Str}{p pos apos:Pos}{e o:Expr}{es:Zr}{ta:TE}{t:TA}
theorem A7 {a:List (Zs×Obj)}{Q:VK}{us:Zk}{vs:Zb}(F:dP X.prog X.w X.K X.mg X.base CX k f fd ps sp)(j:cR k X.A)(n:Binds X.K fd ps ds)(d:Vals dvs ds)(q:Passes CX X E)(I:Inv X a D H s)(r:Vals vs us)(h:sp (vs++dvs) H Q E):X⁻¹ X.A (call ↑f us) (EP X a D Q) X.xe s:=by
 let c:Vals (vs++dvs) (us++ds):=r.append d;let i:⇑(us++ds)=⇑ps:=by rw[<-⇑c];rwa[F.len _ _ _ _ h]
 rwa[al7 (alV (F.run X.A X.stack s H ⟨us,[]⟩ (us++ds) (vs++dvs) Q E j I.A6 (n s us I.dQ i) c h) λr g b=>?_)]
 cases r with
 |error e=>exact q a D H s e g I b
 |ok l=>
  cases l with
  |ret u=>exact I.after b
  |next=>exact False.elim b
  |brk=>exact False.elim b
  |cont=>exact False.elim b
def x8 (F:dP X.prog X.w X.K X.mg X.base CX k f fd ps sp)(u:cR k X.A)(l:Gl X x)(y:X.mg x\↑f)(n:keepIn X.K ↑f=true)(j:Binds X.K fd ps ds)(i:Vals dvs ds)(w:Passes CX X E)(A:PA X (e::es) t)(c:(x==("__debug__":Str))=false:=by decide)(z:starEach (e::es) X.env=(false,eval e X.env)::starEach es X.env:=by rfl)(b:(backTo pos (starEach es X.env)).any (·.1)=false:=by rfl):
 PE X (.Call (.Name x p) (e::es) [] pos) (NW sp dvs E t):=by intro a s v H Q I h;rwa[akH (kI I l y ?_ c)];rwa[ama (h₀:=X.base) I.ok.mod.vU n (bq (A pos a s v H _ I h) λJ G ζ=>?_) z b];let⟨B,D,d,r,q⟩:=ζ;rwa[⟨d.dQ,5⟩];rwa[A7 F u j i w d r q]
def kK {pl:Sem Bool}(O:PE X o ta)(c:kA X.K C)(hm:Meth X.K C m f)(F:dP X.prog X.w X.K X.mg X.base CX k f fd ps sp)(J:cR k X.A)(D:Binds X.K fd ps ds)(A:Vals dvs ds)(N:Passes CX X E)(P:PA X (e::es) t)(g:starEach (e::es) X.env=(false,eval e X.env)::starEach es X.env:=by rfl)(d:(backTo pos (starEach es X.env)).any (·.1)=false:=by rfl)(B:eval (.Call (.Attribute o m apos) (e::es) [] pos) X.env=(do
  let v <-eval o X.env
  standAt apos.atName
  let (f,first) <-holding [v] (getMethod v m pl)
  callWith pos f first (backTo pos (starEach (e::es) X.env)) (backToKw pos (keywordEach [] X.env))):=by rfl):
 PE X (.Call (.Attribute o m apos) (e::es) [] pos) (lj C m sp dvs E ta t):=by intro b s w H Q I h;rwa[PySem.W.methodCall_KW (pl:=pl) (bq (O b s w H _ I h) λu L ζ=>?_) B];let⟨x,G,i,M,a,W,fs,ex,R,l,q⟩:=ζ;subst ex;obtain rfl:u=Value.ref a:=M;rwa[wj i R c hm l ?_];rwa[ama (first:=[↑a]) (h₀:=X.base) I.ok.mod.vU hm.kp (bq (P pos b L w G _ i q) λy T ζ=>?_) g d];let⟨j,U,n,r,S⟩:=ζ;rwa[⟨n.dQ,5⟩];rwa[A7 (us:=↑a::y) (vs:=↑a::j) F J D A N n (.cons rfl r) S]
def Lq {pl:Sem Bool}(z:PE X o ta)(c:kA X.K C)(hm:Meth X.K C m f)(F:dP X.prog X.w X.K X.mg X.base CX k f fd ps sp)(r:cR k X.A)(n:Binds X.K fd ps ds)(i:Vals dvs ds)(y:Passes CX X E)(j:eval (.Call (.Attribute o m apos) [] [] pos) X.env=(do
  let g <-eval o X.env
  standAt apos.atName
  let (f,first) <-holding [g] (getMethod g m pl)
  callWith pos f first (backTo pos (starEach [] X.env)) (backToKw pos (keywordEach [] X.env))):=by rfl):
 PE X (.Call (.Attribute o m apos) [] [] pos) (lj C m sp dvs E ta j9):=by intro b s w H Q I h;rwa[PySem.W.methodCall_KW (pl:=pl) (bq (z b s w H _ I h) λu G ζ=>?_) j];let⟨x,D,d,v,a,L,fs,ex,A,l,q⟩:=ζ;subst ex;obtain rfl:u=Value.ref a:=v;rwa[wj d A c hm l ?_];rwa[PySem.W.callWith_K0 (first:=[↑a]) d.dQ hm.kp (A7 (us:=[↑a]) (vs:=[↑a]) F r n i y d (.cons rfl .nil) q)]
structure Mk (K:Za1)(C f:Zs):Prop where
 makes:makesIn K C=true
 init:findIn K ↑C "__init__"=some (some ↑f)
 fn:isFn K ↑f=true
 kp:keepIn K ↑C=true
theorem Ls {a:List (Zs×Obj)}{Q:VK}(M:Mk X.K C f)(F:dP X.prog X.w X.K X.mg X.base CX k f fd ps sp)(B:cR (k+ 1) X.A)(n:Binds X.K fd ps ds)(j:Vals dvs ds)(J:Passes CX X E)(I:Inv X a D H s)(r:Vals L N)(h:∀x d,H x=none->H d=none->d≠x->sp (↑x::(L++dvs)) (upd (upd H d (.own x)) x (.ins C d [])) (λv O=>v=.non/\Q ↑x O) E):
 X⁻¹ X.A (call ↑C N) (EP X a D Q) X.xe s:=by
 let g:=h (↥s+ 1) ↥s (I.aU.fresh (amT _)) (I.aU.fresh (ajE _)) (aj9 (akZ _));let c:=Inv.made (C:=C) I;let i:Vals (V.ref (↥s+ 1)::(L++dvs)) (Value.ref (↥s+ 1)::(N++ds)):=.cons rfl (r.append j)
 let A:⇑(Value.ref (↥s+ 1)::N++ds)=⇑ps:=by let e:=⇑i;rw[F.len _ _ _ _ g]at e;rwa[e.symm]
 refine al7 (Lp (f:=f) I.dQ M.makes M.init (amx.mp M.fn) (alV (F.run _ X.stack _ _ ⟨Value.ref (↥s+ 1)::N,[]⟩ (Value.ref (↥s+ 1)::(N++ds)) _ _ E (B.make C N [])
  (c.A6.make C N []) (n _ (Value.ref (↥s+ 1)::N) c.dQ A) i g) λr l b=>?_))
 cases r with
 |error e=>exact J a D _ _ e l c b
 |ok G=>
  cases G with
  |ret u=>let⟨v,P,w,z,q,y⟩:=c.after b;subst q;rwa[z,⟨V.ref (↥s+ 1),P,w,2,y⟩]
  |next=>exact False.elim b
  |brk=>exact False.elim b
  |cont=>exact False.elim b
def x9 (M:Mk X.K C f)(F:dP X.prog X.w X.K X.mg X.base CX k f fd ps sp)(n:cR (k+ 1) X.A)(l:Gl X x)(w:X.mg x\↑C)(j:Binds X.K fd ps ds)(i:Vals dvs ds)(v:Passes CX X E)(z:PA X (e::es) t)(c:(x==("__debug__":Str))=false:=by decide)(y:starEach (e::es) X.env=(false,eval e X.env)::starEach es X.env:=by rfl)(b:(backTo pos (starEach es X.env)).any (·.1)=false:=by rfl):
 PE X (.Call (.Name x p) (e::es) [] pos) (Xs C sp dvs E t):=by intro a s u H Q I h;rwa[akH (kI I l w ?_ c)];rwa[ama (h₀:=X.base) I.ok.mod.vU M.kp (bq (z pos a s u H _ I h) λG D ζ=>?_) y b];let⟨A,B,d,r,q⟩:=ζ;rwa[⟨d.dQ,5⟩];rwa[Ls M F n j i v d r q]
end
def PK (X:Cx)(kws:List Keyword)(t:TA):Prop:=∀(b:Pos)(a:List (Zs×Obj))(s:Zu)(c:St)(H:Hp)(Q:Zb->Hp->Prop),Inv X a c H s->t c H Q->X⁻¹ X.A (evalAll ((backToKw b (keywordEach kws X.env)).map (·.2))) (AP X a c Q) X.xe s
section
variable {X:Cx}{fd:FuncData}{ps ks:Zp}{x:Str}{pos abT:Pos}{e:Expr}{kws:List Keyword}{te:TE}{t:TA}{nm:Option Str}
def Il:PK X [] j9:=λ_ _ _ _ H Q I h=>wpAny_evalAll_nil ⟨[],H,I,.nil,h⟩
def E8 (w:PE X e te)(l:PK X kws t):PK X (⟨nm,e,abT⟩::kws) (ju te t):=by intro pos a s b H Q I h;rwa[wpAny_evalAll_cons (ajx (bq (w a s b H _ I h) λu q ζ=>?_))];let⟨x,j,d,c,g⟩:=ζ;rwa[ajx (amE (ajG ?_))];rwa[bq (l pos a q b j _ d g) λA z ζ=>?_];let⟨n,v,i,r,y⟩:=ζ;rwa[⟨x::n,v,i,.cons c r,y⟩]
structure adh (K:Za1)(fd:FuncData)(ps ks:Zp)(g:Zk->Zk->Zk)(gV:Zb->Zb->Zb):Prop where
 to:∀(s:Zu)(us ws:Zk),K.In s.heap->⇑(g us ws)=⇑ps->BindsTo s fd ⟨us,ks.zip ws⟩ (ps.zip (g us ws))
 rel:∀{vs:Zb}{us:Zk}{zs:Zb}{ws:Zk},Vals vs us->Vals zs ws->Vals (gV vs zs) (g us ws)
end
structure aP (N P:Zp)(sc:Scope):Prop where
 kind:sc.kind=.function
 co:sc.isCoroutine=false
 gen:sc.isGenerator=false
 nd:N.Nodup
 pre:N.take ⇑P=P
 par:∀x∈P,sc.names.lookup x=some .local\/sc.names.lookup x=some .cell
 SK:∀y∈sc.names,y.2≠.free
theorem za {kindOf:Str->Option NameKind}:∀{binds:List (Str×Zt)}{m:Str->Zl},(∀v,(x,v)∉binds)->bindL kindOf binds m x=m x
 |[],_,_=>rfl
 |(n,v)::r,m,h=>by
  unfold bindL;rw[za λw a=>h w (akc _ a)];split
  ·cbv
  ·rfl
theorem zb {kindOf:Str->Option NameKind}:∀{binds:List (Str×Zt)}{m:Str->Zl},(∀v,(x,v)∉binds)->bindC kindOf binds m x=m x
 |[],_,_=>rfl
 |(n,v)::r,m,h=>by
  unfold bindC;rw[zb λw a=>h w (akc _ a)];split
  ·rfl
  cbv
theorem zc {kindOf:Str->Option NameKind}{x:Str}{v:Zt}:∀{P:Zp}{a:Zk}{i:Nat}{m:Str->Zl},P.Nodup->P[i]?\x->a[i]?\v->kindOf x=some .local->
 bindL kindOf (P.zip a) m x=some v
 |[],_,_,_,_,h,_,_=>by simp at h
 |_::_,[],_,_,_,_,h,_=>by simp at h
 |p::P,w::a,0,m,d,c,b,e=>by simp at c b;subst c;subst b;show bindL kindOf ((p,w)::P.zip a) m p=_;unfold bindL;rw[za λv f=>(akf.mp d).1 (List.of_mem_zip f).1,aj3 e];simp
 |p::P,w::a,i+ 1,m,d,c,b,e=>by unfold bindL;rwa[zc (i:=i) (akf.mp d).2 (by simpa using c) (by simpa using b) e]
theorem zf {kindOf:Str->Option NameKind}{x:Str}{v:Zt}:∀{P:Zp}{a:Zk}{i:Nat}{m:Str->Zl},P.Nodup->P[i]?\x->a[i]?\v->kindOf x≠some .local->
 bindC kindOf (P.zip a) m x=some v
 |[],_,_,_,_,h,_,_=>by simp at h
 |_::_,[],_,_,_,_,h,_=>by simp at h
 |p::P,w::a,0,m,d,c,b,e=>by simp at c b;subst c;subst b;show bindC kindOf ((p,w)::P.zip a) m p=_;unfold bindC;rw[zb λv f=>(akf.mp d).1 (List.of_mem_zip f).1,ajY e];simp
 |p::P,w::a,i+ 1,m,d,c,b,e=>by unfold bindC;rwa[zf (i:=i) (akf.mp d).2 (by simpa using c) (by simpa using b) e]
def start (N:Zp)(a:Zb):St:=a.map some++List.replicate (⇑N - ⇑a) none
def cK (c:lH)(P:Program)(w:World)(K:Za1)(mg:Str->Zl)(base:Heap)(N:Zp)(qual:Str)(scope:Scope)(f:Zs)(b:Zt)(A:Around)(outer:Zq)(s:Zu)(H:Hp)(E:XK):Cx where
 prog:=P
 w:=w
 K:=K
 mg:=mg
 base:=base
 A:=A.deeper (envOfC qual scope ↥s f b)
 N:=N
 e8:=s
 uY:=H
 env:=envOfC qual scope ↥s f b
 outer:=outer
 stack:=envOfC qual scope ↥s f b::outer
 ex:=[]
 calm:=true
 fn:=λ_=>true
 pn:=[]
 xe:=λe d=>(P<|>w) (A.deeper (envOfC qual scope ↥s f b)) (leaving (envOfC qual scope ↥s f b) e) (λ_ a=>c outer H s E e a) (λg a=>c outer H s E g a) d
instance eT.cx {CX:lH}{P:Program}{w:World}{K:Za1}{mg:Str->Zl}{base:Heap}{N:Zp}{qual:Str}{scope:Scope}{f:Zs}{cd:Zt}{A:Around}{outer:Zq}{s:Zu}{H:Hp}{E:XK}:eT (cK CX P w K mg base N qual scope f cd A outer s H E) K:=⟨2⟩
def A8 {sc:Scope}(h:sc.names.lookup x=some .cell):∃c,(cellsFrom n sc.names []).lookup x\c:=by let q:=amN sc.names n [] (.inl h);rwa[ak3.mp q]
def zg {O:lH}{base:Heap}{N:Zp}{qual:Str}{scope:Scope}{f:Zq}{J:Zu}{E:XK}{F:Zk}(S:aP N Z scope)(Q:A.handled=none)(j:mK P w K M base A f s H)(X:⇑L=⇑Z)(r:Vals L F)(x:InCallC s ↥s (bindL (envOfC qual scope ↥s a v).kindOf (Z.zip F) λ_=>none) (cellsFrom (↥s+ 1) scope.names []) (bindC (envOfC qual scope ↥s a v).kindOf (Z.zip F) λ_=>none) J):
 Inv (cK O P w K M base N qual scope a v A f s H E) [] (start N L) H J:=by
 let R:⇑Z<=⇑N:=by have:=akK List.length S.pre;rw[ake]at this;ext
 let⟨C,W,rfl,G⟩:=x.done;let m:∀b:Zs,b∉(cK O P w K M base N qual scope a v A f s H E).ex:=λb z=>absurd (show b∈([]:Zn) from z) (by simp)
 erw[⟨j.mod,S.kind,22,ajE _,λy z c C l=>?_,λy t=>?_,λy c _ h=>?_,λ_=>Q,Around.frames_deeper j.frames,.inr ⟨22⟩,λb z=>absurd z (m b),j.bs,j.rP,λb _ _=>m b,λb z=>absurd z (m b),j.jC,j.uz⟩,2,j.bare,Un.kept G,⟨_,x.toInCall.ns,λi y g C l Y=>?_⟩,λy c h=>⟨_,x.cell y c h⟩,j.aU.fresh (ajE _),λy c h=>?_,λp o=>absurd (show p∈([]:List (Zs×Obj)) from o) (by simp),j.aU.kept G]
 ·rwa[name_of_addr x.apart (alA C) (alA l)]
 ·rcases t with t|t
  ·rwa[A8 t]
  ·rwa[absurd rfl (S.SK _ (alA t))]
 ·rwa[alm (x.above y c (alA h))]
 ·let D:i<⇑L:=by
   unfold start at l;cases D:i<⇑L
   ·rwa[D]
   ·cbv
  let U:L[i]?\g:=by
   unfold start at l;rw[ajM (by simpa using D),aj0]at l
   cases e:L[i]? with
   |none=>rw[e]at l;ext l
   |some d=>cbv
  let⟨u,I,T⟩:=r.get U
  let o:Z[i]?\y:=by rw[<-S.pre,alQ ∅];rwa[C]
  let B:Z.Nodup:=by rw[<-S.pre];rwa[S.nd.sublist (List.take_sublist _ _)]
  erw[u,T];rcases S.par y (ajA o) with k|k
  ·rwa[.inl ⟨k,zc B o I k⟩]
  ·let⟨c,e⟩:=A8 (n:=↥s+ 1) k;rwa[.inr ⟨.inl k,c,e,5⟩];let q:=x.cell y c e;rw[zf B o I (by show scope.names.lookup y≠_;cbv)]at q;rwa[q]
 ·rwa[j.aU.fresh (alm (x.above y c (alA h)))]
 ·unfold start;show _=⇑N;rw[ajC,ajD,List.length_replicate];ext
def AO {B:lH}{base:Heap}{k:Nat}{name qual:Str}{params:Arguments}{body:List Stmt}{scope:Scope}{dV kV doc pm d X Y:Zt}{W od:Zo}{O:Array Zl}{N z:Zp}{C:Sp}(lk:K.lookup a\⟨Y,od,.func (fnOf name qual params body scope dV kV doc pm W d X),O⟩)(L:codeIn K d qual=true)(S:aP N z scope)(len:∀f H Q E,C f H Q E->⇑f=⇑z)(j:∀(A:Around) (c:Zq) (s:Zu) (H:Hp) (f:Zb) (Q:VK) (E:XK),cR k (A.deeper (envOfC qual scope ↥s a d))->C f H Q E->∃t,jM (cK B P w K M base N qual scope a d A c s H E) body t/\t { nx:=λ_ h=>Q .non h,rt:=Q } (start N f) H):
 dP P w K M base B (k+ 1) a (fnOf name qual params body scope dV kV doc pm W d X) z C:=by
 rwa[⟨len,λA c s H R us f Q E G m hb r p=>?_⟩];let hl:=len _ _ _ _ p;let T:K.In s.heap:=m.mod.vU.keeps λb o e=>(m.bs b o e).1
 let lim:s.heap.NoLimit:=m.mod.nolimit.keeps λb o e=>(m.bs b o e).1
 let i:∀y∈z.zip us,scope.names.lookup y.1=some .local\/(scope.names.lookup y.1=some .cell/\((cellsFrom (↥s+ 1) scope.names []).lookup y.1).isSome=true):=λζ hy=>by
  let⟨n,v⟩:=ζ
  rcases S.par n (List.of_mem_zip hy).1 with q|q
  ·rwa[.inl q]
  ·rwa[.inr ⟨q,amN _ _ _ (.inl q)⟩]
 rwa[codeAny_call_function G.depth (T^lk) rfl S.co S.gen rfl (PySem.W.codeRec_of T L) (hb _ _ _ _ ?_)];rwa[wpAny_newFunctionEnv_cells S.kind i λenv he U x=>?_]
 subst he;rwa[⟨lim.keeps x.toInCall.keep,codeAny_func ?_⟩];let⟨t,Z,hq⟩:=j A c s H f Q E (G.deeper _) p;let I:Inv (cK B P w K M base N qual scope a d A c s H E) [] (start N f) H U:=zg S G.hd m hl r x;rwa[akM (Z [] U (start N f) H _ I hq) (λfl D l=>?_) λe D l=>l]
 let fin:∀{g:St}{h:Hp}{v:V}{u:Zt},Inv (cK B P w K M base N qual scope a d A c s H E) [] g h D->RelV v u->Q v h->CE c P w H s Q u D:=λ{g h v u} J F q=>⟨v,h,J.os,J.bare,J.base,J.aU,F,q⟩
 cases fl with
 |ret u=>let⟨v,g,h,J,F,q⟩:=l;rwa[fin J F q]
 |next=>let⟨g,h,J,q⟩:=l;rwa[fin (v:=V.non) (u:=Value.none) J rfl q]
 |brk=>let⟨_,_,_,q⟩:=l;rwa[False.elim q]
 |cont=>let⟨_,_,_,q⟩:=l;rwa[False.elim q]
variable {X:Cx}{x:Str}{p pos:Pos}{e:Expr}{es:Zr}{t:TA}{id T:String}{r:Zb->Hp->VK->Prop}
def Yy (r:Zb->Hp->VK->Prop)(t:TA):TE:=λ c H Q=>t c H λa b=>r a b Q
def bx (l:i3 X (.builtin id) r)(g:Gl X x)(q:X.mg x=none)(v:bootBuiltins x\.builtin id)(w:PA X (e::es) t)(o:x≠"__name__":=by decide)(c:(x==("__debug__":Str))=false:=by decide)(y:starEach (e::es) X.env=(false,eval e X.env)::starEach es X.env:=by rfl)(b:(backTo pos (starEach es X.env)).any (·.1)=false:=by rfl):PE X (.Call (.Name x p) (e::es) [] pos) (Yy r t):=by intro a s d H Q I h;rwa[akH (gJ I g q v ?_ o c)];rwa[PyProof.Rows.callWith_builtin1 (bq (w pos a s d H _ I h) λu n ζ=>?_) y b];let⟨j,m,i,f,k⟩:=ζ;rwa[l a n d m j u Q i f k]
def fX (l:i3 X (.type T) r)(g:Gl X x)(q:X.mg x=none)(v:bootBuiltins x\.type T)(w:PA X (e::es) t)(o:x≠"__name__":=by decide)(c:(x==("__debug__":Str))=false:=by decide)(y:starEach (e::es) X.env=(false,eval e X.env)::starEach es X.env:=by rfl)(b:(backTo pos (starEach es X.env)).any (·.1)=false:=by rfl):PE X (.Call (.Name x p) (e::es) [] pos) (Yy r t):=by intro a s d H Q I h;rwa[akH (gJ I g q v ?_ o c)];rwa[aks (bq (w pos a s d H _ I h) λu n ζ=>?_) y b];let⟨j,m,i,f,k⟩:=ζ;rwa[l a n d m j u Q i f k]
end L2
namespace HT
def lexLt:Zg->Zg->Bool
 |[],[]=>false
 |[],_::_=>true
 |_::_,[]=>false
 |x::a,y::ys=>if x=y then lexLt a ys else decide (x<y)
def hO (x y:Int)(a ys:Zg):lexLt (x::a) (y::ys)=if x=y then lexLt a ys else decide (x<y):=rfl
def jv:lexLt [] []=false:=rfl
def ya (y:Int)(ys:Zg):lexLt [] (y::ys)=true:=rfl
def yb (x:Int)(a:Zg):lexLt (x::a) []=false:=rfl
def Lv (A:Around)(s:Zu)(a:Int)(t:Tok)(c:Int)(u:Tok):∃e,SeqAt.EqAt A s (.int a t) (.int c u) e/\(e=true↔a=c):=⟨(a==c),SeqAt.EqAt.int_int a t c u,by simp⟩
def Lx (A:Around)(s:Zu)(a:Int)(t:Tok)(c:Int)(u:Tok)(b:Program)(w:World)(E Q:Zt->Zu->Prop)(h:Q (.bool (decide (a<c))) s):
 (b<|>w) A (richCompare .Lt (.int a t) (.int c u)) Q E s:=(PyProof.Rows.lt_int h:(b<|>w) A (compareOp .Lt (.int a t) (.int c u)) Q E s)
section
open PySem.SeqAt
open PySem.AutoSeq1 (wpAny_loadPart')
open PySem.MeetsSeq PySem.MeetsSeq2 PySem.MeetsSeq3
theorem zY (l b:Zs)(items f:Zm)(n n2:Nat)(Y J:Zo)(T M:Array Zl)(ns ms:Zg)(O:IntsAre items.toList ns)(P:IntsAre f.toList ms):
 Meets (Builtin.«tuple.__lt__» ⟨[↑l,↑b],[]⟩)
  (λ_ R s=>s•l\{ cls:=.type "tuple",dict:=Y,data:=.seq items n,slots:=T }/\s•b\{ cls:=.type "tuple",dict:=J,data:=.seq f n2,slots:=M }/\
   R (.ok (.ret (.bool (lexLt ns ms)))) s):=
 .of_wp λp w A R s h=>by
  let⟨H,g,d,E,os⟩:=s;let⟨V,S,h⟩:=h;let f2:=AutoSeq1.sub_tuple_tuple;let z1:items.size=⇑ns:=by rw[<-⇑O];simp
  let z2:f.size=⇑ms:=by rw[<-⇑P];simp
  wp_walk using aln V,aln S,wpAny_forIn_list _ (λrest b I=>b.1=none/\I=⟨H,g,d,E,os⟩/\∃(F G:Zk)(j i:Zg),rest=F.zip G/\IntsAre F j/\IntsAre G i/\⇑j+ f.size=⇑i+ items.size/\R (.ok (.ret (.bool (lexLt j i)))) ⟨H,g,d,E,os⟩) _
  case turn=>
   rintro ⟨y,x⟩ rest b I ⟨z,rfl,F,G,j,i,m,v,k,hlen,r⟩
   cases v with
   |nil=>rw[List.zip_nil_left]at m;ext m
   |cons a t C=>
    cases k with
    |nil=>rw[List.zip_nil_right]at m;ext m
    |cons c u D=>
     rw[List.zip_cons_cons]at m;injection m with L B
     injection L with W X
     subst W X;rw[hO]at r;simp only[aj1]at hlen;let⟨e,Z,o⟩:=Lv A.in1 ⟨H,g,d,E,os⟩ a t c u;rwa[ajx (Z p w _ _ ?_)]
     cases e with
     |true=>
      rw[aj3 (o.mp rfl)]at r
      wp_walk
      rwa[221111,B,C,D,3,r]
     |false=>
      rw[ajY (λq=>absurd (o.mpr q) akk)]at r;let N:=Lx A.in1 ⟨H,g,d,E,os⟩ a t c u p w
      wp_walk using N
      rwa[12,by simpa using r]
  case fin=>
   rintro ⟨b1,b2⟩ I ⟨z,rfl,F,G,j,i,m,v,k,hlen,r⟩;simp only at z;subst z
   let Q:lexLt j i=decide (items.size<f.size):=by
    cases v with
    |nil=>
     cases k with
     |nil=>simp only[akL]at hlen;rw[jv];rwa[(akj ∅).symm]
     |cons c u U=>simp only[akL,aj1]at hlen;rw[ya];rwa[(ajZ ∅).symm]
    |cons a t Q=>
     cases k with
     |nil=>simp only[akL,aj1]at hlen;rw[yb];rwa[(akj ∅).symm]
     |cons c u U=>rw[List.zip_cons_cons]at m;ext m
   rw[Q]at r
   wp_walk
   rwa[12,by simpa [Builtin.Tuple.tupleCompareSizes] using r]
  case h=>rwa[22,items.toList,f.toList,ns,ms,2,O,P,3,h]
end
variable {prog:Program}{w:World}{A:Around}{E:Zt->Zu->Prop}{s:Zu}
def GH {items c:Zm}{d:Zg}(r:IsTup s.heap a items)(p:IsTup s.heap b c)(u:IntsAre items.toList l)(y:IntsAre c.toList d)(t:A.units<cLine)(h:Q (.bool (lexLt l d)) s):(prog<|>w) A (compareOp .Lt ↑a ↑b) Q E s:=by
 let⟨⟨cls,v,data,q⟩,m,B,n,o⟩:=id r;let⟨⟨k,g,data2,j⟩,e,i,z,f⟩:=id p;subst B o i f
 exact richCompare_meets_room (op:=.Lt) ⟨_,m,2⟩ ⟨_,e,2⟩ PySem.F.slot_tuple_lt PySem.F.entry_tuple_lt (PySem.F.args_tuple_lt_2 _ _) (zY a b items c n z v g q j l d u y)
  ⟨m,e,show Value.bool (lexLt l d)≠Value.notImplemented/\Q (.bool (lexLt l d)) s from ⟨(λx=>nomatch x),h⟩⟩ t
def Qo {t:Zs}{ws:Zk}(r:IsTup s.heap t N.toArray)(u:IsTup s.heap b ws.toArray)(m:N≠[])(v:ws=[]->Q ↑t s)(q:ws≠[]->Q ↑↥s { s with heap:=s.heap.push ("tuple">>>.seq (N++ws).toArray) })(x:⇑N+ ⇑ws<=sizeLine):(prog<|>w) A (binaryOp .Add ↑t ↑b) Q E s:=by
 let⟨⟨cls,l,data,j⟩,g,y,n,p⟩:=id r;let⟨⟨k,c,data2,d⟩,a,i,o,h⟩:=id u;subst y p i h;let e:N.toArray++ws.toArray=(N++ws).toArray:=by simp
 cases f:ws=[]
 ·exact concat_meets ⟨_,g,2⟩ ⟨_,a,2⟩ noFill_tuple_add seq_tuple_add amO amG (amA _ _)
   (tuple_addW1 t b N.toArray ws.toArray n o l c j d (by simpa using m) (by simp[f])) ⟨g,a,v f⟩
 ·refine concat_meets ⟨_,g,2⟩ ⟨_,a,2⟩ noFill_tuple_add seq_tuple_add amO amG (amA _ _)
   (tuple_addW2 t b N.toArray ws.toArray n o l c j d (by simpa using m) (by simpa using f) ∅) ⟨g,a,5⟩
  rw[e];rwa[q f]
def cD (n d:Nat):Zj->Nat
 |none=>d
 |some v=>if v<0 then (v+ (n:Int)).toNat else min v.toNat n
def yc (n d k:Nat):cD n d (some (k:Int))=min k n:=by show (if (k:Int)<0 then ((k:Int)+ (n:Int)).toNat else min (k:Int).toNat n)=min k n;rw[ajY ∅,aka]
def E9 (v:Int)(n d:Nat):(if v<0 then max (v+ (n:Int)) 0 else min v (n:Int))=((cD n d (some v):Nat):Int):=by
 show (if v<0 then max (v+ (n:Int)) 0 else min v (n:Int))=(((if v<0 then (v+ (n:Int)).toNat else min v.toNat n):Nat):Int);cases a:v<0
 ·cbv
 ·simp only[ajY a];ext
def GJ (lo a:Zj)(n:Nat):Builtin.Slice.sliceAdjust lo a 1 (n:Int)=(((cD n 0 lo:Nat):Int),((cD n n a:Nat):Int)):=by
 let b:¬((1:Int)<0):=∅
 unfold Builtin.Slice.sliceAdjust;rwa[Prod.ext ?_ ?_]
 ·cases lo with
  |none=>rfl
  |some v=>exact E9 v n 0
 ·cases a with
  |none=>rfl
  |some v=>exact E9 v n n
def GK (i j:Nat):Builtin.Slice.slicePlaces (i:Int) (j:Int) 1=j - i:=by
 unfold Builtin.Slice.slicePlaces;let a:(1:Int) > 0:=∅
 split <;> ext
def wm {o:Zj}{Q:Zj->Zu->Prop}(p:IsPart v o)(h:Q o s):(prog<|>w) A (Builtin.Slice.slicePartIndex v) Q E s:=by
 cases p with
 |none=>exact slicePart_none h
 |int i t=>exact slicePart_int h
def mM {lo d:Zj}{Q:Int×Int×Nat->Zu->Prop}(g:s.heap.IsSliceOf a v u .none)(pl:IsPart v lo)(e:IsPart u d)(h:Q (((cD n 0 lo:Nat):Int),1,cD n n d - cD n 0 lo) s):(prog<|>w) A (Builtin.Slice.sliceApplied ↑a (pure (n:Int))) Q E s:=by let⟨os,b,f,c⟩:=id g;rwa[ajx (ajx (akA b c (x:=v) rfl (ajx (akA b c (x:=u) rfl (ajx (akA b c (x:=.none) rfl (ajG ?_)))))))];rwa[ajx (slicePart_none ?_)];rwa[ajx (wm pl (ajx (wm e (ajx (ajG ?_)))))];show wpAny _ _ (match Builtin.Slice.sliceAdjust lo d 1 (n:Int) with|(lo,d)=>pure (lo,(1:Int),Builtin.Slice.slicePlaces lo d 1)) _ _ s;rw[GJ lo d n];show wpAny _ _ (pure (((cD n 0 lo:Nat):Int),(1:Int),Builtin.Slice.slicePlaces ((cD n 0 lo:Nat):Int) ((cD n n d:Nat):Int) 1)) _ _ s;rw[GK];rwa[ajG h]
def Ly (xs:Zm)(i k:Nat):((~~~k).filterMap λ(m:Nat)=>xs[((i:Int)+ (m:Int)* 1).toNat]?).toArray=((xs.toList.drop i).take k).toArray:=by
 let e:(λ(m:Nat)=>xs[((i:Int)+ (m:Int)* 1).toNat]?)=λm=>xs[i+ m]?:=by
  funext m
  have:((i:Int)+ (m:Int)* 1).toNat=i+ m:=∅
  rw[this]
 rw[e];have:=pick_run xs i k;rw[List.filterMap_map]at this;let a:((λx=>xs[x]?) ∘ λx=>i+ x)=λm=>xs[i+ m]?:=rfl
 cbv
def ui {t:Zs}{items:Zm}{lo c:Zj}(d:IsTup s.heap t items)(j:s.heap.IsSliceOf a v u .none)(pl:IsPart v lo)(o:IsPart u c)(n:¬(cD items.size 0 lo=0/\cD items.size items.size c=items.size))(h:Q ↑↥s { s with heap:=s.heap.push ("tuple">>>.seq ((items.toList.drop (cD items.size 0 lo)).take (cD items.size items.size c - cD items.size 0 lo)).toArray) })(l:items.size<=sizeLine):(prog<|>w) A (getItem ↑t ↑a) Q E s:=by
 let b:sizeOk (.seq ((items.toList.drop (cD items.size 0 lo)).take (cD items.size items.size c - cD items.size 0 lo)).toArray):=by show ((items.toList.drop (cD items.size 0 lo)).take (cD items.size items.size c - cD items.size 0 lo)).toArray.size<=sizeLine;rw[ajT,ake,akx,alz];ext
 let⟨os,g,f,k⟩:=id j;let i:s.TypeIs ↑a "slice":=⟨os,g,f⟩;unfold getItem
 try with_reducible rwa[akz ?_]
 rwa[ajx (wpAny_sequenceKey d.typeIs ⋯ ?_)]
 refine ajx (akS (name:=Str.ofString "__getitem__") d.typeIs akF
  (akY akF d.typeIs entry_tuple_getitem ?_ (args_tuple_getitem _ _)))
 show wpAny _ _ (Builtin.Tuple.tupleItemsOf ↑t >>=_) _ _ s;rwa[ajx (tupleItemsOf_ d ?_)];rwa[ajx (alW i ?_)];rwa[ajx (mM j pl o ?_)]
 let e:¬((((cD items.size 0 lo:Nat):Int)==0 && (1:Int)==1 && (cD items.size items.size c - cD items.size 0 lo)==items.size)=true):=by intro q;rw[als,als]at q;let p:((cD items.size 0 lo:Nat):Int)=0:=eq_of_beq q.1.1;let r:cD items.size items.size c - cD items.size 0 lo=items.size:=eq_of_beq q.2;rwa[n ⟨33⟩]
 show wpAny _ _ (if (((cD items.size 0 lo:Nat):Int)==0 && (1:Int)==1 && (cD items.size items.size c - cD items.size 0 lo)==items.size)=true then _ else _) _ _ s;rw[ajY e,Ly]
 first
  |rwa[ajx (m:=Builtin.Tuple.tupleExact _) (aku (ajG ⟨_,rfl,ajG h⟩) b)]
  |rwa[ajx (m:=Builtin.Tuple.tupleExact _) (aku (ajx (ajG (ajG ⟨_,rfl,ajG h⟩))) b)]
  |rwa[ajx (ajx (m:=Builtin.Tuple.tupleExact _) (aku (ajG (ajG ⟨_,rfl,ajG h⟩)) b))]
  |rwa[ajx (ajx (m:=Builtin.Tuple.tupleExact _) (aku (ajG ⟨_,rfl,ajG h⟩) b))]
end HT
namespace L2
abbrev TO:=St->Hp->(Zj->Hp->Prop)->Prop
def PO (X:Cx)(e:Option Expr)(t:TO):Prop:=
 ∀(a:List (Zs×Obj))(s:Zu)(b:St)(H:Hp)(Q:Zj->Hp->Prop),Inv X a b H s->t b H Q->X⁻¹ X.A (evalPart e X.env) (λu d=>∃o c,Inv X a b c d/\IsPart u o/\Q o c) X.xe s
def Qp:TO:=λ_ H Q=>Q none H
def Xt (t:TE):TO:=λ b H Q=>t b H λx a=>∃i,x=.int i/\Q (some i) a
def intsAre_of {ns:Zg}:∀{a:Zk},Vals (ns.map V.int) a->IntsAre a ns:=by
 induction ns with
 |nil=>intro a r;ext r;rwa[.nil]
 |cons n ns c=>
  intro a r
  cases r with
  |cons d b=>let⟨t,e⟩:=d;subst e;rwa[.cons n t (c b)]
section
variable {X:Cx}{e:Expr}{te:TE}{lo hi:Option Expr}{tl th:TO}{pos p2:Pos}
def yd:PO X none Qp:=by intro a s b H Q I h;rwa[ajG ⟨none,H,I,.none,h⟩]
def kL (h:PE X e te):PO X (some e) (Xt te):=by
 intro a s j H Q I b;rwa[bq (h a s j H _ I b) λu k ζ=>?_];let⟨x,c,g,d,f⟩:=ζ
 let⟨i,rfl,q⟩:=f;let⟨t,rfl⟩:=d;rwa[some i,c,g,.int i t,q]
def NX (X:Cx)(r:V->Zj->Zj->Hp->VK->Prop):Prop:=
 ∀(a:List (Zs×Obj))(s:Zu)(f:St)(H:Hp)(x:V)(v d c:Zt)(lo hi:Zj)(b:Zs)(Q:VK),Inv X a f H s->RelV x v->s.heap.IsSliceOf b d c .none->IsPart d lo->IsPart c hi->r x lo hi H Q->∃T id,typeLookup (.type T) "__getitem__"=pure (some (.builtin id))/\s.TypeIs v T/\X⁻¹ X.A (getItem v ↑b) (EP X a f Q) X.xe s
def tSl (r:V->Zj->Zj->Hp->VK->Prop)(te:TE)(tl th:TO):TE:=λ a H Q=>te a H λx c=>tl a c λl b=>th a b λu d=>r x l u d Q
def mO {r:V->Zj->Zj->Hp->VK->Prop}(C:NX X r)(J:PE X e te)(B:PO X lo tl)(E:PO X hi th):PE X (.Subscript e (.Slice lo hi none p2) pos) (tSl r te tl th):=by
 intro a s c H Q I h;rwa[Subscript_ (bq (J a s c H _ I h) λv F ζ=>?_)];let⟨x,A,m,i,w⟩:=ζ;rwa[wpAny_Slice (bq (B a F c A _ m w) λf p ζ=>?_)];let⟨l,G,z,pl,L⟩:=ζ;rwa[bq (E a p c G _ z L) λd s3 ζ=>?_];let⟨u,g,o,D,y⟩:=ζ;rwa[ajG ?_];let j:Inv X a c g { s3 with heap:=s3.heap.push ("slice">>>.fields #[f,d,.none]) }:=o.kept (t':=s3.toks) λb N q=>ajB _ q
 let⟨T,id,t,k,n⟩:=C a { s3 with heap:=s3.heap.push ("slice">>>.fields #[f,d,.none]) } c g x v f d l u ↥s3 Q j i (Heap.IsSliceOf.new ..) pl D y;rwa[tail_any (ops:=[↑↥s3,v]) k t n (by with_unfolding_all rfl)]
def iE (xs:Zb)(lo hi:Zj):Zb:=(xs.drop (HT.cD ⇑xs 0 lo)).take (HT.cD ⇑xs ⇑xs hi - HT.cD ⇑xs 0 lo)
def uD (xs:Zb)(lo hi:Zj):⇑(iE xs lo hi)<=⇑xs:=by unfold iE;rw[ake,akx];ext
inductive SM (K:Za1)(x:V)(lo hi:Zj)(H:Hp)(Q:VK):Prop
 |mk (a:Zs)(xs:Zb):x=↑a->bu K H a xs->¬(HT.cD ⇑xs 0 lo=0/\HT.cD ⇑xs ⇑xs hi=⇑xs)->(∀p,H p=none->Q ↑p (upd H p (.tup (iE xs lo hi))))->SM K x lo hi H Q
def SN [d:eT X K]:NX X (SM K):=by
 cases d.eq;intro i s z H x v y p lo hi u Q I l m pl k h;let⟨a,xs,rfl,n,j,q⟩:=h;ext l;let⟨c,r,f,g⟩:=I.tuple n;let hlen:c.toArray.size=⇑xs:=by rwa[r.length.symm]
 erw["tuple",_,akF.lookup,f.typeIs];rwa[HT.ui f m pl k ([hlen]▸j) ?_ ([hlen]▸g)];rw[hlen];rwa[⟨↑↥s,_,I.laid (t':=s.toks) (o:=.tup (iE xs lo hi)) (λb w q=>ajB _ q) (ajE _) ?_,2,q _ (I.aU.fresh (ajE _))⟩];rwa[ajO (uD xs lo hi) g,_,(r.drop (HT.cD ⇑xs 0 lo)).take (HT.cD ⇑xs ⇑xs hi - HT.cD ⇑xs 0 lo),IsTup.new _ _]
inductive SQ (K:Za1)(x y:V)(H:Hp)(Q:VK):Prop
 |mk (a b:Zs)(ns ms:Zg):x=↑a->y=↑b->bu K H a (ns.map V.int)->bu K H b (ms.map V.int)->Q (.bl (HT.lexLt ns ms)) H->SQ K x y H Q
def SR [f:eT X K](o:X.A.units<cLine):fW X (compareOp .Lt) (SQ K):=by cases f.eq;intro j s A H x y v u Q I p r h;let⟨a,b,i,g,rfl,rfl,z,m,q⟩:=h;ext p;ext r;let⟨d,k,n,_⟩:=I.tuple z;let⟨c,t,p2,_⟩:=I.tuple m;let w:IntsAre d.toArray.toList i:=intsAre_of k;let l:IntsAre c.toArray.toList g:=intsAre_of t;rwa[HT.GH n p2 w l o ⟨.bl (HT.lexLt i g),H,I,2,q⟩]
inductive NZ (K:Za1)(x y:V)(H:Hp)(Q:VK):Prop
 |mk (a b:Zs)(xs ys:Zb):x=↑a->y=↑b->bu K H a xs->bu K H b ys->xs≠[]->⇑xs+ ⇑ys<=sizeLine->(ys=[]->Q ↑a H)->(ys≠[]->∀p,H p=none->Q ↑p (upd H p (.tup (xs++ys))))->NZ K x y H Q
def Vals.tO (r:Vals L N):N=[]↔L=[]:=by
 cases r with
 |nil=>simp
 |cons _ _=>simp
def Qq [f:eT X K]:fW X (binaryOp .Add) (NZ K):=by cases f.eq;intro i s F H x y v u Q I r t h;let⟨a,b,p,ys,rfl,rfl,B,k,A,g,m,C⟩:=h;ext r;ext t;let⟨l,d,n,_⟩:=I.tuple B;let⟨j,c,p2,_⟩:=I.tuple k;rwa[HT.Qo n p2 (λz=>A (d.tO.mp z)) (λz=>⟨↑a,H,I,2,m (c.tO.mp z)⟩) (λz=>?_) (by rw[<-⇑d,<-⇑c];rwa[g])];rwa[⟨↑↥s,_,I.laid (t':=s.toks) (o:=.tup (p++ys)) (λb E q=>ajB _ q) (ajE _) ?_,2,C (λw=>z (c.tO.mpr w)) _ (I.aU.fresh (ajE _))⟩];rwa[[ajC]▸g,_,d.append c,IsTup.new _ _]
end
def uE (n:Nat)(i:Int):Zi:=if 0<=i then (if i<n then some i.toNat else none) else if -(n:Int)<=i then some (i+ n).toNat else none
def fY {a:Type}(xs:List a)(i:Int):Option a:=(uE ⇑xs i).bind λj=>xs[j]?
def ye (h:uE n z\j):seqIndex? z n\j/\j<n/\-(n:Int)<=z/\z<n:=by
 unfold uE at h;cases b:0<=z
 ·rw[aj3 b]at h;cases a:z<n
  ·rw[aj3 a]at h;let e:z.toNat=j:=Za0 h;rwa[by rw[seqIndex_of b a,e],33,a]
  ·rw[ajY a]at h;ext h
 ·rw[ajY b]at h;cases a: -(n:Int)<=z
  ·rw[aj3 a]at h;let e:(z+ n).toNat=j:=Za0 h;rwa[by rw[seqIndex_neg ∅ a,e],3,a,3]
  ·rw[ajY a]at h;ext h
def Fb {a:Type}{xs:List a}{v:a}(h:fY xs z\v):∃j,seqIndex? z ⇑xs\j/\xs[j]?\v/\j<⇑xs/\-(⇑xs:Int)<=z/\z<⇑xs:=by
 unfold fY at h
 cases e:uE ⇑xs z with
 |none=>rw[e]at h;ext h
 |some j=>rw[e]at h;let⟨d,b,f,c⟩:=ye e;rwa[j,d,h,b,f,c]
def b6 {a:Type}{xs:List a}{v:a}(h:xs[j]?\v):fY xs (j:Int)\v:=by
 let b:j<⇑xs:=(ajy.mp h).1
 let e:uE ⇑xs (j:Int)\j:=by unfold uE;rw[aj3 ∅,aj3 ∅];simp
 unfold fY;rw[e];rwa[h]
def Qr (b:Expr):Prop:=∀o i,subscripted b false o i=operate [o,i] (getItem o i)
def Io (X:Cx)(r:R2):Prop:=
 ∀(value slice:Expr)(a:List (Zs×Obj))(s:Zu)(b:St)(H:Hp)(x y:V)(v u:Zt)(Q:VK),Inv X a b H s->RelV x v->RelV y u->r x y H Q->subscripted slice false v u=operate [v,u] (getItem v u)->X⁻¹ X.A (subscriptTail value slice v u) (EP X a b Q) X.xe s
def SV (X:Cx)(id:String)(r:V->Zb->Hp->VK->Prop):Prop:=
 ∀(a:List (Zs×Obj))(s:Zu)(d:St)(H:Hp)(x:V)(c:Zb)(v:Zt)(b:Zk)(Q:VK),Inv X a d H s->RelV x v->Vals c b->r x c H Q->X⁻¹ X.A (call (.builtin id) (v::b)) (EP X a d Q) X.xe s
section
variable {X:Cx}{a b:Expr}{ta tb:TE}{pos:Pos}
def aH {r:R2}(g:Io X r)(n:PE X a ta)(d:PE X b tb)(j:Qr b):PE X (.Subscript a b pos) (NV r ta tb):=by intro c s l H Q I h;rwa[Subscript_ (Lg n d I h λv u e x y m f i k q=>g a b c e l m x y v u Q f i k q (j _ _))]
inductive Lz (K:Za1)(x y:V)(H:Hp)(Q:VK):Prop
 |mk (p:Zs)(xs:Zb)(i:Int)(v:V):x=↑p->y=.int i->aF K H p xs->fY xs i\v->Q v H->Lz K x y H Q
inductive LC (K:Za1)(x y:V)(H:Hp)(Q:VK):Prop
 |mk (p:Zs)(xs:Zb)(i:Int)(v:V):x=↑p->y=.int i->bu K H p xs->fY xs i\v->Q v H->LC K x y H Q
inductive abU (x y:V)(H:Hp)(Q:VK):Prop
 |mk (z:Str)(i:Int)(c:Nat):x=.str z->y=.int i->⇑z<=sizeLine->fY z.cps.toList i\c->Q (.str ⟨#[c]⟩) H->abU x y H Q
def bM [g:eT X K]:Io X (Lz K):=by
 cases g.eq;intro value slice c s o H x y v u Q I G J h n;let⟨p,N,i,z,rfl,rfl,C,L,q⟩:=h;ext G;let⟨t,rfl⟩:=J;let⟨f,r,pl,M⟩:=I.list C;let⟨j,d,B,O,D,E⟩:=Fb L;let⟨w,m,e⟩:=r.get B;let F:=⇑r;let P:=rS;let fin:EP X c o Q w s:=⟨z,H,I,e,q⟩;cases l:0<=i
 ·let k:i.toNat=j:=by rw[seqIndex_of l E]at d;rwa[Za0 d]
  rwa[item_listR pl.isList l ∅ (by rw[k];simpa using m) fin n]
 ·let k:(i+ (f.toArray.size:Int)).toNat=j:=by rw[seqIndex_neg ∅ D]at d;rw[ajT,<-F];rwa[Za0 d]
  exact subscriptTail_builtinR (x:=w) pl.isList.typeIs slot_list_getitem.lookup
   (wpAny_getItem_list_neg (Q:=λr A=>r=w/\EP X c o Q r A) pl.isList ∅ (by rw[ajT] <;> omega) ∅ (by rw[k];simpa using m) ⟨2,fin⟩) n
def aX [e:eT X K]:Io X (LC K):=by
 cases e.eq;intro value slice c s f H x y v u Q I o B h A;let⟨p,L,i,z,rfl,rfl,l,C,q⟩:=h;ext o;let⟨t,rfl⟩:=B;let⟨m,r,pl,G⟩:=I.tuple l;let⟨j,E,k,M,D,F⟩:=Fb C;let⟨w,n,d⟩:=r.get k;let J:=⇑r;let N:=rS;let fin:EP X c f Q w s:=⟨z,H,I,d,q⟩
 exact subscriptTail_builtinR (x:=w) pl.typeIs slot_tuple_getitem.lookup
  (getItem_tuple (j:=j) (Q:=λr g=>r=w/\EP X c f Q r g) pl ∅ ∅ (by cbv) (by simpa using n) ⟨2,fin⟩) A
def GN (c:Zk)(n j:Nat)(u:Zt):Obj.mapSeq (·.setIfInBounds j u) ("list">>>.seq c.toArray n)=("list">>>.seq (c.set j u).toArray n):=by simp[Obj.mapSeq]
def Inv.lst {xs:Zb}(I:Inv X o D H s)(h:H c\.lst xs):
 ∃(d:Zk)(n:Nat),Vals xs d/\s•c\("list">>>.seq d.toArray n)/\⇑xs<=sizeLine:=by let⟨z,d,n,r,e⟩:=I.aU c _ h;rwa[d,n,r,e,z]
def Inv.SW {ys:Zb}{d:Zk}{f:Obj->Obj}(I:Inv X o D H s)(h:H c\.lst L)(j:s•c\("list">>>.seq N.toArray n))(g:f ("list">>>.seq N.toArray n)=("list">>>.seq d.toArray m))(r:Vals ys d)(hz:⇑ys<=sizeLine)(t:Nat):
 Inv X o D (upd H c (.lst ys)) { s with heap:=s.heap.update c f,toks:=t }:=by
 let e:(s.heap.update c f).get? c\("list">>>.seq d.toArray m):=by rw[akm f j (by rw[g] <;> rfl),g]
 rwa[I.write (x:=c) (e:=c) (by rw[h];trivial) (.inl rfl) (λb u i q=>(ako^akI i).trans q) ⟨_,e⟩ ?_];rwa[hz,d,m,r,e]
inductive N0 (o i v:V)(H:Hp)(Q:(Hp->Prop)):Prop
 |mk (p:Zs)(xs:Zb)(k:Int)(j:Nat):o=↑p->i=.int k->H p\.lst xs->uE ⇑xs k\j->Q (upd H p (.lst (xs.set j v)))->N0 o i v H Q
def set_list:Sh X N0:=by
 intro d s D H o i v J M u Q I A E B h;let⟨p,xs,k,j,rfl,rfl,y,F,q⟩:=h;ext A;let⟨t,rfl⟩:=E;let⟨c,n,r,g,C⟩:=I.lst y;let⟨e,G,z,w⟩:=ye F;let l:=⇑r;let L:=rS
 let x:Inv X d D (upd H p (.lst (xs.set j v))) { s with heap:=s.heap.update p (Obj.mapSeq (·.setIfInBounds j u)) }:=I.SW y g (GN c n j u) (r.set B j) ([aj5]▸C) s.toks
 cases m:0<=k
 ·let f:k.toNat=j:=by rw[seqIndex_of m w]at e;rwa[Za0 e]
  rwa[PySem.W.ki_setAt g m ∅ (by rw[ajT,<-l];rwa[w]) ([f]▸⟨_,x,q⟩)]
 ·let f:(k+ (c.toArray.size:Int)).toNat=j:=by rw[seqIndex_neg ∅ z]at e;rw[ajT,<-l];rwa[Za0 e]
  rwa[PySem.W.ki_setBack g ∅ (by rw[ajT,<-l];rwa[z]) ∅ ([f]▸⟨_,x,q⟩)]
def A9 (lo c:Zj)(n:Nat):(sliceBounds lo c none n).1=((HT.cD n 0 lo:Nat):Int)/\(sliceBounds lo c none n).2.1=((HT.cD n n c:Nat):Int)/\(sliceBounds lo c none n).2.2=1:=by
 rwa[⟨552⟩]
 ·cases lo with
  |none=>simp[sliceBounds,HT.cD]
  |some i=>
   simp only[sliceBounds,HT.cD,Option.getD_none,show (1:Int) > 0 by decide,am5];cases h:i<0
   ·simp only[h,am5] <;> ext
   ·simp only[h,amZ] <;> ext
 ·cases c with
  |none=>simp[sliceBounds,HT.cD]
  |some i=>
   simp only[sliceBounds,HT.cD,Option.getD_none,show (1:Int) > 0 by decide,am5];cases h:i<0
   ·simp only[h,am5] <;> ext
   ·simp only[h,amZ] <;> ext
def zZ (c:Zk)(lo d:Zj):slicePick c.toArray lo d none=((c.drop (HT.cD ⇑c 0 lo)).take (HT.cD ⇑c ⇑c d - HT.cD ⇑c 0 lo)).toArray:=by let⟨f,e,g⟩:=A9 lo d c.toArray.size;unfold slicePick;rw[f,e,g];simp only[sliceRange_one,pick_run,ajT] <;> rfl
inductive SX (K:Za1)(x:V)(lo hi:Zj)(H:Hp)(Q:VK):Prop
 |mk (a:Zs)(xs:Zb):x=↑a->aF K H a xs->(∀p,H p=none->Q ↑p (upd H p (.lst (iE xs lo hi))))->SX K x lo hi H Q
def Fd [c:eT X K]:NX X (SX K):=by cases c.eq;intro f s y H x v w n lo d t Q I k l pl j h;let⟨a,xs,rfl,m,q⟩:=h;ext k;let⟨g,r,e,i⟩:=I.list m;let hlen:=⇑r;erw["list",_,slot_list_getitem.lookup,e.isList.typeIs];rwa[wpAny_getItem_list_slice e.isList l pl j .none (by simp) ?_ (by rw[ajT] <;> omega)];rw[zZ,<-hlen];rwa[⟨↑↥s,_,I.laid (t':=s.toks) (o:=.lst (iE xs lo d)) (λb u q=>ajB _ q) (ajE _) ?_,2,q _ (I.aU.fresh (ajE _))⟩];rwa[ajO (uD xs lo d) i,_,(0),(r.drop (HT.cD ⇑xs 0 lo)).take (HT.cD ⇑xs ⇑xs d - HT.cD ⇑xs 0 lo),ajP _ rfl]
def N1:V->Bool
 |.non=>true
 |.bl _=>true
 |.int _=>true
 |.str _=>true
 |_=>false
def eqV:V->V->Bool
 |.non,.non=>true
 |.bl a,.bl b=>a==b
 |.bl a,.int b=>(if a then 1 else 0)==b
 |.int a,.bl b=>a==(if b then 1 else 0)
 |.int a,.int b=>a==b
 |.str a,.str b=>a==b
 |_,_=>false
def Yz (x:V)(xs:Zb):Bool:=xs.any λy=>eqV y x
inductive rIn (K:Za1)(neg:Bool)(x y:V)(H:Hp)(Q:VK):Prop
 |mk (p:Zs)(xs:Zb):y=↑p->(aF K H p xs\/bu K H p xs)->N1 x=true->xs.all N1=true->Q (.bl (if neg then !Yz x xs else Yz x xs)) H->rIn K neg x y H Q
inductive GO (K:Za1)(xs:Zb)(H:Hp)(Q:VK):Prop
 |mk (p:Zs)(ys:Zb):xs=[↑p]->(aF K H p ys\/bu K H p ys)->Q (.int ⇑ys) H->GO K xs H Q
def bh [f:eT X K]:i3 X (.builtin "len") (GO K):=by
 cases f.eq;intro g s l H k n Q I r h;let⟨p,ys,rfl,c,q⟩:=h;let⟨u,rfl,j⟩:=vals1 r;ext j;let m:=rS;rcases c with c|c
 ·let⟨e,d,pl,i⟩:=I.list c;let hlen:=⇑d;rwa[Calls.call_len_list pl.isList (by simp only[ajT] <;> omega) ⟨.int ⇑ys,H,I.tok _,⟨s.toks+ 1,by cbv⟩,q⟩]
 ·let⟨e,d,pl,i⟩:=I.tuple c;let hlen:=⇑d;rwa[len_tuple pl (by simp only[ajT] <;> omega) ⟨.int ⇑ys,H,I.tok _,⟨s.toks+ 1,by cbv⟩,q⟩]
def Ba [v:eT X K]:i3 X (.type "list") (λx H Q=>∃p ys,x=[↑p]/\(aF K H p ys\/bu K H p ys)/\∀l,H l=none->Q ↑l (upd H l (.lst ys))):=by
 cases v.eq;intro k s A H x C Q I r h;let⟨p,ys,rfl,i,q⟩:=h;let⟨u,rfl,z⟩:=vals1 r;ext z
 let fin:∀(c:Zk),Vals ys c->⇑ys<=sizeLine->∀(d:Heap)(g:Nat),(∀b y,s•b\y->d.get? b\y)->
  d.get? ↥s=some { cls:=.type "list",dict:=none,data:=.seq c.toArray g,slots:=#[] }->EP X k A Q ↑↥s (s<*d):=λc f j d g kp e=>⟨↑↥s,_,I.laid (t':=s.toks) kp (ajE _) (show cu X.prog X.w _ d _ (.lst ys) from ⟨j,c,g,f,e⟩),2,q _ (I.aU.fresh (ajE _))⟩
 rcases i with i|i
 ·let⟨c,f,pl,j⟩:=I.list i;let hlen:=⇑f;let⟨o,t,w,n,m⟩:=pl.isList;rwa[call_list_seq p (.inl rfl) t w m (λd g kp e=>fin c f j d g kp e) (by simp only[ajT] <;> omega)]
 ·let⟨c,f,pl,j⟩:=I.tuple i;let hlen:=⇑f;let⟨o,t,w,n,m⟩:=pl;rwa[call_list_seq p (.inr rfl) t w m (λd g kp e=>fin c f j d g kp e) (by simp only[ajT] <;> omega)]
def qS [j:eT X K]:i3 X (.type "tuple") (λn H Q=>∃p ys,n=[↑p]/\((aF K H p ys/\∀l,H l=none->Q ↑l (upd H l (.tup ys)))\/(bu K H p ys/\Q ↑p H))):=by
 cases j.eq;intro c s t H n y Q I r h;let⟨p,ys,rfl,h⟩:=h;let⟨u,rfl,x⟩:=vals1 r;ext x;rcases h with ⟨i,q⟩|⟨i,q⟩
 ·let⟨d,g,pl,m⟩:=I.list i;let hlen:=⇑g;rwa[call_tuple_list pl.isList (λf kp=>?_) (by simp only[ajT] <;> omega)];let k:Inv X c t H (s<*f):=I.kept (t':=s.toks) kp
  let w:Inv X c t (upd H f.objs.size (.tup ys)) { s with heap:=f.push ("tuple">>>.seq d.toArray) }:=k.laid (t':=s.toks) (λb o e=>ajB _ e) (ajE _) (show cu X.prog X.w _ _ _ (.tup ys) from ⟨m,d,g,IsTup.new _ _⟩)
  rwa[↑f.objs.size,_,w,2,q _ (k.aU.fresh (ajE _))]
 ·let⟨d,g,pl,m⟩:=I.tuple i;rwa[call_tuple_same pl ⟨↑p,H,I,2,q⟩]
def N2 (K:Za1)(T:String)(x:V)(H:Hp):Prop:=match x with
 |.str _=>T="str"
 |.int _=>T="int"
 |.ref p=>(T="list"/\∃d,aF K H p d)\/(T="tuple"/\∃o,K.lookup p\o/\o.cls=.type "tuple"/\o.dict=none)\/
  (T="dict"/\((∃c,H p\.dK c)\/∃c,H p\.dT c))\/(T="set"/\∃S n,H p\.set S n)
 |_=>False
def Ip {T:String}{x:V}(I:Inv X o D H s)(r:RelV x v)(g:N2 X.K T x H):
 s.TypeIs v T/\∀a,v=↑a->∃l,s•a\l/\l.dict=none:=by
 cases x with
 |str z=>let⟨t,rfl⟩:=r;cases (show T="str" from g);rwa[typeIs_str s z t,λ_ e=>nomatch e]
 |int i=>let⟨t,rfl⟩:=r;cases (show T="int" from g);rwa[typeIs_int s i t,λ_ e=>nomatch e]
 |ref p=>
  ext r;rcases g with ⟨rfl,w,m⟩|⟨rfl,d,f,u,h⟩|⟨rfl,f⟩|⟨rfl,S,n,f⟩
  ·let⟨q,_,pl,_⟩:=I.list m;rwa[⟨pl.isList.typeIs,λa e=>?_⟩];ext e;let⟨d,n,e,c,h,_⟩:=pl;rwa[d,e,h]
  ·rwa[⟨⟨d,I.dQ p d f,u⟩,λa e=>?_⟩];ext e;rwa[d,I.dQ _ d f,h]
  ·let z:∃d,s•p\d/\d.ExactDict:=by
    rcases f with ⟨j,f⟩|⟨j,f⟩
    ·let⟨_,_,_,_,d,_,_,e,ex,_⟩:=I.aU p _ f;rwa[d,e,ex]
    ·let⟨_,_,_,_,d,_,_,e,ex,_⟩:=I.aU p _ f;rwa[d,e,ex]
   let⟨d,e,ex⟩:=z;rwa[⟨⟨d,e,ex.1⟩,λa k=>?_⟩];ext k;rwa[d,e,ex.2.1]
  ·let⟨d,_,_,_,e,ex,_⟩:=I.aU p _ f;rwa[⟨⟨d,e,ex.1⟩,λa k=>?_⟩];ext k;rwa[d,e,ex.2.1]
 |_=>exact False.elim g
def abV (K:Za1)(T:String)(r:V->Zb->Hp->VK->Prop)(to:TE):TE:=λ d H Q=>to d H λx c=>N2 K T x c/\r x [] c Q
def tBM (K:Za1)(T:String)(r:V->Zb->Hp->VK->Prop)(to:TE)(t:TA):TE:=λ d H Q=>to d H λx c=>N2 K T x c/\t d c λf e=>r x f e Q
variable {o e:Expr}{es:Zr}{to:TE}{t:TA}{name:Str}{apos cW:Pos}{T id:String}{r:V->Zb->Hp->VK->Prop}
def Iq [f:eT X K](z:PlainAttrs T)(slot:Slot T name id)(g:typeOf (.builtin id)=pure (.type "method_descriptor"))(y:SV X id r)(p:PE X o to)(d:attributeBase o name X.env (eval o X.env)=eval o X.env:=by rfl)(hline:(apos.endLine==cW.line)=true:=by rfl):PE X (.Call (.Attribute o name apos) [] [] cW) (abV K T r to):=by cases f.eq;intro c s k H Q I h;rwa[wpAny_Call_method0_late d hline (bq (p c s k H _ I h) λv u ζ=>?_)];let⟨x,q,j,i,w,m⟩:=ζ;let⟨n,l⟩:=Ip j i w;rwa[T,id,z,slot,g,n,l,akD rfl (PySem.evalArgs_none (y c u k q x [] v [] Q j i .nil m))]
def df [i:eT X K](N:PlainAttrs T)(slot:Slot T name id)(j:typeOf (.builtin id)=pure (.type "method_descriptor"))(G:SV X id r)(A:PE X o to)(M:PA X (e::es) t)(f:attributeBase o name X.env (eval o X.env)=eval o X.env:=by rfl)(g:((backTo cW (starEach (e::es) X.env)).all (λx=>!x.1) && (backToKw cW (keywordEach [] X.env)).all (λx=>x.1.isSome)
  && decide (⇑(e::es)+ ⇑([]:List Keyword)+ (if ([]:List Keyword).isEmpty then 0 else 1)<30))=true:=by rfl)(hline:(apos.endLine==cW.line)=true:=by rfl)(D:starEach (e::es) X.env=(false,eval e X.env)::starEach es X.env:=by rfl)(d:(backTo cW (starEach es X.env)).any (·.1)=false:=by rfl):
 PE X (.Call (.Attribute o name apos) (e::es) [] cW) (tBM K T r to t):=by cases i.eq;intro c s k H Q I h;rwa[wpAny_Call_method_late f g hline rfl (bq (A c s k H _ I h) λv C ζ=>?_)];let⟨x,B,m,l,E,w⟩:=ζ;let⟨y,p⟩:=Ip m l E;erw[T,id,N,slot,j,y,p];let n:=M cW c C k B _ m w;rw[D]at n ⊢;rwa[akD (by show (false || (backTo cW (starEach es X.env)).any (·.1))=false;rw[d] <;> rfl) (ak9 ?_)];rwa[bq n λL u ζ=>?_];let⟨q,J,z,F,O⟩:=ζ;rwa[G c u k J x q v L Q z l F O]
/- xs.append(e),list.index on a module's tuple .. are SV facts of 06m -/
end
def Fe (X:Cx)(id:String)(r:V->Zb->Hp->VK->Prop):Prop:=
 ∀(a:List (Zs×Obj))(s:Zu)(d:St)(H:Hp)(x:V)(c:Zb)(v:Zt)(b:Zk)(Q:VK),Inv X a d H s->RelV x v->Vals c b->r x c H Q->X⁻¹ X.A (call (.builtin id) (v::b)) (EP X a d Q) X.xe s
theorem Vals.one:∀{x:V}{a:Zk},Vals [x] a->∃u,a=[u]/\RelV x u
 |_,_,.cons r .nil=>⟨12,r⟩
theorem Vals.zero:∀{a:Zk},Vals [] a->a=[]
 |_,.nil=>rfl
def Vals.dropLast {xs:Zb}{us:Zk}(h:Vals xs us):Vals xs.dropLast us.dropLast:=by
 induction h with
 |nil=>exact .nil
 |cons r t a=>
  cases t with
  |nil=>exact .nil
  |cons q b=>exact .cons r a
theorem Vals.eraseIdx:∀{xs:Zb}{us:Zk}(i:Nat),Vals xs us->Vals (xs.eraseIdx i) (us.eraseIdx i)
 |_,_,_,.nil=>.nil
 |_,_,0,.cons _ t=>t
 |_,_,i+ 1,.cons r t=>.cons r (Vals.eraseIdx i t)
theorem Vals.rep (h:Vals L N):∀k:Nat,Vals (List.replicate k L).flatten (List.replicate k N).flatten
 |0=>.nil
 |k+ 1=>by rwa[Vals.append h (Vals.rep h k)]
theorem zh {a:Type}:∀(l:List a)(i:Nat),⇑(l.eraseIdx i)<=⇑l
 |[],_=>ajE _
 |_::_,0=>amT _
 |_::r,i+ 1=>Nat.succ_le_succ (zh r i)
theorem foldl_rep (a:Zk):∀(k:Nat)(acc:Zk),
 List.foldl (λc d=>c++d) acc.toArray (List.replicate k a.toArray)=(acc++(List.replicate k a).flatten).toArray
 |0,acc=>by simp
 |k+ 1,acc=>by
  let e:acc.toArray++a.toArray=(acc++a).toArray:=by simp
  let b:(acc++a)++(List.replicate k a).flatten=acc++(List.replicate (k+ 1) a).flatten:=by rw[alZ,amU,akl]
  rw[<-b,<-foldl_rep a k (acc++a),<-e,alZ,List.foldl_cons]
section
variable {X:Cx}{pins:List (Zs×Obj)}{σ:St}{H:Hp}{s:Zu}{l:Zs}{xs ys:Zb}
def Inv.Bb {LD:Zk}{f:Zm->Zm}{t':Nat}(I:Inv X pins σ H s)(d:H l\.lst xs)(e:s•l\("list">>>.seq N.toArray n))(a:f N.toArray=LD.toArray)(c:Vals ys LD)(hz:⇑ys<=sizeLine):
 Inv X pins σ (upd H l (.lst ys)) { s with heap:=s.heap.update l (Obj.mapSeq f),toks:=t' }:=by let q:=PySem.IsL.update e f;rw[a]at q;rwa[I.write (x:=l) (e:=l) ([d]▸trivial) (.inl rfl) (λi u h g=>(ako s.heap (Obj.mapSeq f) (akI h)).trans g) ⟨_,q⟩ ?_];rwa[hz,LD,_,c,q]
def Inv.abW {t':Nat}(I:Inv X pins σ H s)(a:Vals ys N)(hz:⇑ys<=sizeLine):
 Inv X pins σ (upd H ↥s (.lst ys)) { s with heap:=s.heap.push ("list">>>.seq N.toArray),toks:=t' }:=I.laid (λ_ _ q=>ajB _ q) (ajE _) ⟨hz,N,(0),a,ajP _ rfl⟩
def Inv.fresh (I:Inv X pins σ H s):H ↥s=none:=I.aU.fresh (ajE _)
def Inv.qe (I:Inv X pins σ H s)(c:H l\.lst xs):⇑xs<=sizeLine/\∃(a:Zk)(n:Nat),Vals xs a/\⇑xs=⇑a/\s•l\("list">>>.seq a.toArray n):=by let⟨z,a,n,r,e⟩:=I.aU l _ c;rwa[z,a,n,r,⇑r,e]
def LJ (h:n<=sizeLine):Builtin.List.listTooLong n=false:=by rwa[akj ∅]
end
variable {X:Cx}
inductive Ff (x:V)(vs:Zb)(H:Hp)(Q:VK):Prop
 |mk (l:Zs)(xs:Zb)(y:V):x=↑l->vs=[y]->H l\.lst xs->⇑xs<sizeLine->Q .non (upd H l (.lst (xs++[y])))->Ff x vs H Q
theorem bV:Fe X "list.append" Ff:=by intro d s p H x j v t Q I g f h;let⟨l,o,y,rfl,rfl,c,k,q⟩:=h;ext g;let⟨u,rfl,i⟩:=f.one;let⟨z,a,n,r,m,e⟩:=I.qe c;rwa[amB F.slot_list_append ⟨_,e,2⟩ F.entry_list_append (F.args_list_append_2 _ _) (PySem.list_append l a.toArray n u (by rw[ajT];omega)) ⟨e,5⟩];rwa[⟨.non,_,I.Bb (LD:=a++[u]) c e (by simp) (r.append (.cons i .nil)) ?_,2,q⟩];rw[ajC,akJ];ext
inductive yf (x:V)(vs:Zb)(H:Hp)(Q:VK):Prop
 |mk (l b:Zs)(xs zs:Zb):x=↑l->vs=[↑b]->H l\.lst xs->H b\.lst zs->⇑xs+ ⇑zs<=sizeLine->Q .non (upd H l (.lst (xs++zs)))->yf x vs H Q
theorem zi:Fe X "list.extend" yf:=by
 intro j s J H x C v L Q I p m h;let⟨l,b,G,B,rfl,rfl,i,y,D,q⟩:=h;ext p;let⟨u,rfl,w⟩:=m.one;ext w;let⟨z,c,n,r,E,e⟩:=I.qe i;let⟨z2,a,A,t,k,o⟩:=I.qe y;let f:c.toArray.size+ a.toArray.size<=sizeLine:=by rw[ajT,ajT];ext
 let d:¬(!c.toArray.isEmpty && Builtin.List.listTooLong (c.toArray.size+ a.toArray.size))=true:=by rw[LJ f,Bool.and_false];rwa[akk]
 refine amB F.slot_list_extend ⟨_,e,2⟩ F.entry_list_extend (F.args_list_extend_2 _ _)
  (AutoSeq1.list_extend_list_list_0 l c.toArray n b a.toArray A d ∅ ∅) ⟨e,o,5⟩
 rwa[⟨.non,_,I.Bb (LD:=c++a) i e (by simp) (r.append t) ?_,2,q⟩];rw[ajC];ext
inductive SY (x:V)(vs:Zb)(H:Hp)(Q:VK):Prop
 |mk (l:Zs)(xs:Zb)(y:V):x=↑l->vs=[]->H l\.lst xs->xs[⇑xs - 1]?\y->Q y (upd H l (.lst xs.dropLast))->SY x vs H Q
theorem Ir:Fe X "list.pop" SY:=by
 intro g s A H x t v B Q I o i h;let⟨l,w,y,rfl,rfl,f,k,q⟩:=h;ext o;let b:=i.zero;subst b;let⟨z,a,n,r,j,e⟩:=I.qe f;let⟨u,m,p⟩:=r.get k
 let c:a.toArray[a.toArray.size - 1]?\u:=by
  show a.toArray[⇑a - 1]?\u
  rw[<-ak4,<-j];rwa[m]
 rwa[amB F.slot_list_pop ⟨_,e,2⟩ F.entry_list_pop (F.args_list_pop_1 _) (MeetsSeq.list_pop_last l a.toArray n u c (by rw[ajT];omega)) ⟨e,5⟩];rwa[⟨y,_,I.Bb (LD:=a.dropLast) f e ?_ r.dropLast ?_,p,q⟩]
 ·cbv
 ·rw[List.length_dropLast];ext
inductive Iu (x:V)(vs:Zb)(H:Hp)(Q:VK):Prop
 |mk (l:Zs)(xs:Zb)(i:Int)(k:Nat)(y:V):x=↑l->vs=[.int i]->H l\.lst xs-> -(2 ^ 63)<=i->i<2 ^ 63->seqIndex? i ⇑xs\k->xs[k]?\y->Q y (upd H l (.lst (xs.eraseIdx k)))->Iu x vs H Q
theorem LK:Fe X "list.pop" Iu:=by
 intro f s J H x D v L Q I A m h;let⟨l,p,i,k,y,rfl,rfl,d,j,g,C,o,q⟩:=h;ext A;let⟨u,rfl,B⟩:=m.one;let⟨t,rfl⟩:=B;let⟨z,a,n,r,G,e⟩:=I.qe d;let⟨w,E,b⟩:=r.get o
 refine amB F.slot_list_pop ⟨_,e,2⟩ F.entry_list_pop (F.args_list_pop_2 _ _)
  (MeetsSeq.list_pop_at l a.toArray n i t k w (fitsIndex_both j g) (by cbv) (by cbv) (by rw[ajT];omega)) ⟨e,5⟩
 rwa[⟨y,_,I.Bb (LD:=a.eraseIdx k) d e ?_ (r.eraseIdx k) ?_,b,q⟩]
 ·cbv
 ·have:=zh p k;ext
inductive S0 (x:V)(vs:Zb)(H:Hp)(Q:VK):Prop
 |mk (l:Zs)(xs:Zb):x=↑l->vs=[]->H l\.lst xs->Q .non (upd H l (.lst []))->S0 x vs H Q
inductive S8 (x y:V)(H:Hp)(Q:VK):Prop
 |mk (l b:Zs)(xs zs:Zb):x=↑l->y=↑b->H l\.lst xs->H b\.lst zs->⇑xs+ ⇑zs<=sizeLine->(∀p,H p=none->Q ↑p (upd H p (.lst (xs++zs))))->S8 x y H Q
def oY:fW X (binaryOp .Add) S8:=by
 intro d s D H x y v u Q I j k h;let⟨l,b,C,w,rfl,rfl,i,p,A,q⟩:=h;ext j;ext k;let⟨z,c,n,r,B,e⟩:=I.qe i;let⟨z2,a,E,m,f,g⟩:=I.qe p;rwa[PySem.P.add_list e g ?_ (by rw[ajT,ajT];omega)];let o:c.toArray++a.toArray=(c++a).toArray:=by simp
 rw[o];rwa[↑_,_,I.abW (t':=s.toks) (r.append m) (by rw[ajC];omega),2,q _ I.fresh]
inductive abX (x y:V)(H:Hp)(Q:VK):Prop
 |mk (l:Zs)(k:Int)(xs:Zb):x=↑l->y=.int k->H l\.lst xs-> -(2 ^ 63)<=k->k<2 ^ 63->⇑xs* k.toNat<=sizeLine->(∀p,H p=none->Q ↑p (upd H p (.lst (List.replicate k.toNat xs).flatten)))->abX x y H Q
def len_rep {a:Type}(xs:List a)(k:Nat):(List.replicate k xs).flatten.length=k* ⇑xs:=by
 induction k with
 |zero=>simp
 |succ k b=>cbv
end L2
namespace Att
open PySem PySem.W PySem.Calls PyProof.Rows
def wq {P:Params}:∀(ns:Zg)(c:Zk),WellAll P h c (ns.map WData.int)->IntsAre c ns:=by
 intro ns
 induction ns with
 |nil=>intro c w;ext w;rwa[.nil]
 |cons n ns d=>
  intro c w
  cases w with
  |cons a b=>ext a;rwa[.cons _ _ (d _ b)]
def Iv {l:OpenLaw}(v:l.most\n){P:Params}{h:Heap}{b:List WData}{c:Zk}(e:l.row.toRowW.claim.pre b=true)(i:WellAll P h c b):
 ∃a m ns,c=[Value.ref a]/\b=[WData.list (ns.map WData.int)]/\h.get? a\("list">>>.seq m.toArray)/\IntsAre m ns/\⇑ns<=n:=by
 let k:WShape.hasAll [] b [.list .int]=true:=(pre_splitW e).1;let x:l.pre.holds [] { args:=b }=true:=(pre_splitW e).2;let⟨d,r,rfl,s,p⟩:=hasAllW_cons k;obtain rfl:=hasAllW_nil p;let⟨y,rfl,u⟩:=hasW_list s;let⟨ns,rfl⟩:=items_int u
 let hlen:⇑ns<=n:=by
  let g:(WTm.not (.lt (.lit (.int (n:Int))) (.len (.arg 0)))).holds [] { args:=[.list (ns.map .int)] }=true:=by let g:=(holds_andW x).1;rw[v]at g;rwa[g]
  let j:=condW_of g (w_not (w_lt w_lit (w_len_list (w_arg rfl))));rwa[Nat.le_of_not_lt λq=>?_]
  first
   |(rw[ajZ z]at j;rwa[absurd j (by decide)])
   |(simp at j;omega)
 cases i with
 |cons o w=>
  ext w
  cases o with
  |list t f=>rwa[11,ns,22,t,wq ns _ f,hlen]
def Iw (l:OpenLaw)(a:List WData):l.row.toRowW.claim.post a (.bool true) a=true:=
 postW_of (r:=l.row.toRowW) (X:=(true==true))
  (show WShape.has [] (.bool true) .bool=true by first|rfl|decide|simp[WShape.has,WShape.arms,WShape.armsAll])
  (show (WTm.eq .res (.lit (.bool true))).value [] { args:=a,res:=some (.bool true),after:=a }=some (.bool (true==true)) from w_eq_bool (w_res rfl) w_lit) rfl
def Ed {l:OpenLaw}{loose:Zp}{XP:(Str->Zl)->Heap->Prop}{z:World->Heap->Prop}{d:DefRec}(I:l.most\n)(q:d.params.defaults=[])(call:∀(w:World) (c b:Zu) (m s:Str->Zl) (h:Zs) (o:Obj) (pm k doc:Zt) (a:Zs) (e:Zk) (ns:Zg),
  Ground P loose [] XP w c m s b.heap->z w b.heap->
  b•h=some o->o.data=.func (docDef d.name d.params d.body d.scope pm k doc)->b.heap.CodeRec k d.name->m d.name\↑h->
  b•a=some ("list">>>.seq e.toArray)->IntsAre e ns->⇑ns<=n->b.gens=#[]->codeAny (model l.prog w) callerA (.call ↑h ⟨[↑a],[]⟩) (λr j=>r=.ok (.ret (.bool true))/\OldK b.heap j.heap/\j.os=b.os/\AllBare j.gens) b):
 WalkO P loose XP z l.row.toRowW d [] (λf e=>PySem.call f e):=by intro w c b m s G Y h o pm k doc dV kV F A u y t C v x as i hlay M p L;obtain rfl:dV=.none:=Dflts.none y q;obtain rfl:kV=.none:=Dflts.noKw y;let⟨a,e,ns,rfl,rfl,g,hints,hlen⟩:=Iv I i p;rwa[enter_call (alV (call w c b m s h o pm k doc a e ns G Y F (fd_plain A) u t g hints hlen C) λr j D=>?_)];let⟨rfl,B,H,E⟩:=D;rwa[.inl ⟨.bool true,.bool true,[],2,λ_=>rfl,.bool true,Iw l _,λ_=>⟨List.Pairwise.nil,λ_ J=>(nomatch J)⟩⟩,B,H,E]
end Att
namespace L2
theorem zj:∀{a:Zk}{ns:Zg},IntsAre a ns->Vals (ns.map V.int) a
 |_,_,.nil=>.nil
 |_,_,.cons n t h=>.cons ⟨t,2⟩ (zj h)
def inClass (s:Stmt)(j:Nat):Stmt:=match s with
 |.ClassDef _ _ _ body _ _ _ _ _ _ _=>body.getD j (.Pass ⟨(0),(0),(0),(0)⟩)
 |_=>.Pass ⟨(0),(0),(0),(0)⟩
def ej (s:Stmt):Arguments:=match s with
 |.FunctionDef _ a _ _ _ _ _ _ _ _=>a
 |_=>{ posonlyargs:=[],args:=[],vararg:=none,kwonlyargs:=[],kw_defaults:=[],kwarg:=none,defaults:=[] }
def cY (s:Stmt):List Stmt:=match s with
 |.FunctionDef _ _ b _ _ _ _ _ _ _=>b
 |_=>[]
def az (s:Stmt):Scope:=match s with
 |.FunctionDef _ _ _ _ _ _ a _ _ _=>a
 |_=>{ kind:=.function,names:=[],isGenerator:=false,isCoroutine:=false }
abbrev YB:lH:=λ_ _ _ _ _ _=>False
abbrev E0:XK:=λ_ _ _=>False
structure rT (K:Za1)(x qual:Str)(st:Stmt)(f:Zs)(fd:FuncData):Prop where
 ex:∃(oc:Zt)(od:Zo)(kV doc pm:Zt)(an:Zo)(cy ct:Zt)(Bc:Array Zl),fd=fnOf x qual (ej st) (cY st) (az st) .none kV doc pm an cy ct/\K.lookup f\⟨oc,od,.func fd,Bc⟩/\codeIn K cy qual=true
 kp:keepIn K ↑f=true
section
variable {K:Za1}
theorem rT.binds {qual:Str}{st:Stmt}{fd:FuncData}{ps:Zp}(F:rT K x qual st a fd)(h:∀(kV doc pm:Zt) (c:Zo) (b ct:Zt) (us:Zk),⇑us=⇑ps->bindArgs (fnOf x qual (ej st) (cY st) (az st) .none kV doc pm c b ct) ⟨us,[]⟩=pure (ps.zip us)):Binds K fd ps []:=by let⟨g,f,kV,doc,pm,c,b,ct,e,rfl,lk,d⟩:=F.ex;rwa[.all (h kV doc pm c b ct)]
def Iy {qual:Str}{st:Stmt}{f d:Zo}{b:Array Zl}{kV doc pm e:Zt}(l:K.lookup a\⟨v,f,.func (fnOf x qual (ej st) (cY st) (az st) .none kV doc pm d u e),b⟩)(c:codeIn K u qual=true)(k:keepIn K ↑a=true):rT K x qual st a (fnOf x qual (ej st) (cY st) (az st) .none kV doc pm d u e):=⟨⟨v,f,kV,doc,pm,d,u,e,b,2,l,c⟩,k⟩
end
def eG {k:Nat}(a:cR k A):A.units+ 1<cLine:=ajJ (Nat.add_le_add_left (by decide:1<=64) _) a.units
section
variable {X:Cx}
def pv (i:Nat){x:Str}{a:Pos}(e:X.N[i]?\x:=by rfl)(d:Sb X.env.scope x:=by trivial)(c:(x==("__debug__":Str))=false:=by decide)(b:(x==("__classdict__":Str))=false:=by decide):PE X (.Name x a) (jD i):=Sd e d c b
end
def b8 {A B:Prop}(h:B):if false=true then A else B:=by cbv
def dg {A B:Prop}(h:A):if true=true then A else B:=by cbv
def bK {c A B:Prop} [Decidable c](b:c->A)(a:¬c->B):if c then A else B:=by cbv
def i6 {c A B:Prop} [Decidable c](a:c)(h:B):if (!decide c)=true then A else B:=by cbv
def av (H a:Hp):Prop:=∀b o,H b\o->a b\o
def av.refl (H:Hp):av H H:=λ_ _ h=>h
def av.trans (a:av H I)(b:av I J):av H J:=λc o h=>b c o (a c o h)
def av.free (e:av H I){l:Zs}(h:I l=Option.none):H l=Option.none:=by
 cases q:H l with
 |none=>rfl
 |some o=>rw[e l o q]at h;ext h
def av.seq (e:av H I)(h:aF K H a L):aF K I a L:=by
 rcases h with (h|⟨o,h⟩)|h
 ·rwa[.inl (.inl (e^h))]
 ·rwa[.inl (.inr ⟨o,e^h⟩)]
 ·rwa[.inr h]
def dU (X:Cx)(a:Zp)(scope:Scope)(cl:List (Str×Zs))(C:Zs)(s:Zu)(H:Hp)(ex:Zn):Cx where
 prog:=X.prog
 w:=X.w
 K:=X.K
 mg:=X.mg
 base:=X.base
 A:=X.A
 N:=a
 e8:=s
 uY:=H
 env:=compEnvC scope cl C X.env
 outer:=X.stack
 stack:=X.stack
 ex:=ex
 fn:=λ_=>false
 calm:=X.calm
 pn:=[]
 xe:=λ_ _=>False
def rV (d:TE)(g:St)(Q:VK)(J:It)(f:Hp):Prop:=∃W:Nat->Nat->Zb->Hp->Prop,(∃m,W 0 m [] f)/\∀i m ys a,W i m ys a->
 (J.stop i a/\⇑ys<=sizeLine/\∀D,a D=none->Q ↑D (upd a D (.lst ys)))\/
 (J.go i a/\⇑ys<sizeLine/\∀x c,J.uB i a x c->d (some x::g) c λy e=>∃b,b<m/\W (i+ 1) b (ys++[y]) e)
def N3 (b:TI)(d:St->St)(c:TE):TE:=λ a H Q=>b a H (rV c (d a) Q)
structure gZ (X:Cx)(x:Str)(fns:Zp)(ixs:Zh)(scope:Scope)(cl:List (Str×Zs)):Prop where
 abY:closureFor scope X.env=pure cl
 sub:∀y c,cl.lookup y\c->X.env.cells.lookup y\c
 cell:∀y∈scope.names,y.2≠.cell
 kind:scope.kind=.function
 names:∀y∈scope.names,y.2=.local->scope.names.lookup y.1=some .local
 own:scope.names.lookup x=some .local
 has:∀y,((relabel scope X.env).names.lookup y=some .cell\/(relabel scope X.env).names.lookup y=some .free)->∃c,cl.lookup y\c
 nd:(x::fns).Nodup
 len:⇑ixs=⇑fns
 at_:∀(j:Nat)(y:Str),fns[j]?\y->∃i:Nat,ixs[j]?\i/\X.N[i]?\y/\(X.env.kindOf y=some .cell\/X.env.kindOf y=some .free)/\∃c,cl.lookup y\c/\((relabel scope X.env).names.lookup y=some .cell\/(relabel scope X.env).names.lookup y=some .free)
def jm (ixs:Zh):St->St:=λ a=>ixs.map λi=>(a[i]?).join
section
variable {X:Cx}{x:Str}{scope:Scope}
def uF (a:scope.names.lookup x=some .local):(relabel scope X.env).names.lookup x=some .local:=lookup_relabel_local a
end
def jN {J:It}{Q:VK}(xs:Zb)(g:V->V)(h:∀i:Nat,i<⇑xs->J.go i H)(p:∀(i:Nat) (x:V) (c:Hp),i<⇑xs->J.uB i H x c->c=H/\xs[i]?\x)(d:J.stop ⇑xs H)(j:⇑xs<=sizeLine)(s:∀(i:Nat) (x:V),xs[i]?\x->∀R:VK,R (g x) H->r (some x::D) H R)(n:∀a,H a=none->Q ↑a (upd H a (.lst (xs.map g)))):
 rV r D Q J H:=by
 erw[λi m ys l=>m=⇑xs - i/\i<=⇑xs/\ys=(xs.take i).map g/\l=H,⟨⇑xs,by simp,aj8 _,by simp,2⟩];rintro i m ys l ⟨rfl,t,rfl,rfl⟩;cases b:i<⇑xs
 ·rwa[.inr ⟨h i b,by rw[ajD,ake];ext,λx c f=>?_⟩];let⟨q,k⟩:=p i x c b f;subst q;rwa[s i x k _ ⟨⇑xs - (i+ 1),32,b,52⟩];rw[aly,k];simp
 ·let e:i=⇑xs:=∅
  subst e;rwa[.inl ⟨d,by rw[ajD,ake];ext,λa o=>?_⟩];rw[akR];rwa[n a o]
def Ta {xs:Zb}(h:bu K H a xs):∀i,i<⇑xs->(HZ K a).go i H:=λi b=>⟨xs,xs[i],h,ajz b⟩
def Qs {xs:Zb}(h:bu K H a xs):∀i x b,i<⇑xs->(HZ K a).uB i H x b->b=H/\xs[i]?\x:=λi x b _ y=>⟨y.1,y.2 xs h⟩
def LN {xs:Zb}(h:bu K H a xs):(HZ K a).stop ⇑xs H:=⟨xs,h,2⟩
def ka {xs:Zb}(h:aF K H a xs):∀i,i<⇑xs->(HY K a).go i H:=λi b=>⟨xs,xs[i],h,ajz b⟩
def i7 {xs:Zb}(h:aF K H a xs):∀i x b,i<⇑xs->(HY K a).uB i H x b->b=H/\xs[i]?\x:=λi x b _ y=>⟨y.1,y.2 xs h⟩
def hU {xs:Zb}(h:aF K H a xs):(HY K a).stop ⇑xs H:=⟨xs,h,2⟩
inductive Tc (t:TS)(D:Ends)(σ:St)(H:Hp):Prop
 |mk (G:St->Hp->Prop):t { D with nx:=G } σ H->(∀ fV H',G fV H'->D.nx fV H')->Tc t D σ H
def bE {st:Stmt}{t:TS}(h:PS X st t):PS X st (Tc t):=by
 intro a s j H D I ⟨G,e,d⟩;rwa[bq (h a s j H { D with nx:=G } I e) λf k q=>?_]
 cases f with
 |next=>let⟨b,c,i,g⟩:=q;rwa[b,c,i,d b c g]
 |_=>exact q
def uG {scope:Scope}{env:Env}{k:NameKind}(h:(relabel scope env).names.lookup x\k)(g:k=.cell\/k=.free)(i:∀z∈scope.names,z.2≠.cell):(x,NameKind.free)∈scope.names:=by
 let f:=alA h;unfold relabel at f;let⟨⟨n,c⟩,d,e⟩:=akp.mp f;dsimp only at e;cases hf:(c==NameKind.free && env.scope.kind==.function && env.kindOf n==some .cell)=true
 ·rw[aj3 hf]at e;let a:n=x:=akK Prod.fst e;rw[als,als]at hf;let b:c=.free:=eq_of_beq hf.1.1;rw[<-a,<-b];rwa[d]
 ·rw[ajY hf]at e;let a:n=x:=akK Prod.fst e;let b:c=k:=akK Prod.snd e;subst a b;rcases g with rfl|rfl
  ·rwa[absurd rfl (i _ d)]
  ·rwa[d]
theorem kB {env:Env}(a:env.scope.kind=.function){y:Str}(b:env.kindOf y=some .cell):∀{names:List (Str×NameKind)},names.lookup y=some .free->
 (names.map λ(n,k)=>if (k==NameKind.free && env.scope.kind==.function && env.kindOf n==some .cell) then (n,NameKind.cell) else (n,k)).lookup y=some .cell
 |[],h=>by simp at h
 |(n,k)::r,h=>by
  let c:=@kB env a y b r
  cbv
def GP (X:Cx)(scope:Scope):Zp->Zh->List (Str×Zs)->Prop
 |y::fs,i::is,p::cl=>p.1=y/\X.env.cells.lookup y\p.2/\X.N[i]?\y/\X.env.kindOf y=some .cell/\scope.names.lookup y=some .free/\GP X scope fs is cl
 |[],[],[]=>True
 |_,_,_=>False
def GP.get {scope:Scope}{fns:Zp}{ixs:Zh}{cl:List (Str×Zs)}(h:GP X scope fns ixs cl):⇑fns=⇑ixs/\(∀y c,cl.lookup y\c->X.env.cells.lookup y\c)/\∀(k:Nat)(y:Str),fns[k]?\y->∃i c,ixs[k]?\i/\X.N[i]?\y/\X.env.kindOf y=some .cell/\cl.lookup y\c/\scope.names.lookup y=some .free:=by
 induction fns generalizing ixs cl with
 |nil=>
  cases ixs with
  |nil=>
   cases cl with
   |nil=>simp
   |cons=>exact h.elim
  |cons=>exact h.elim
 |cons y fs t=>
  cases ixs with
  |nil=>exact h.elim
  |cons i is=>
   cases cl with
   |nil=>exact h.elim
   |cons p cl=>
    let⟨j,m,s,o,r,h⟩:=h;let⟨a,b,g⟩:=t h;rwa[⟨akK _ a,λw d e=>?_,λk w e=>?_⟩]
    ·rw[am2]at e
     cases q:w==p.1 with
     |true=>rw[q]at e;rw[eq_of_beq q,j,m];rwa[e]
     |false=>rw[q]at e;rwa[b w d e]
    ·cases k with
     |zero=>obtain rfl:y=w:=Za0 e;rwa[i,p.2,2,s,o,by rw[am2,j,beq_self_eq_true],r]
     |succ k=>
      let⟨i,c,r1,r2,f,n,l⟩:=g k w e
      cases q:w==p.1 with
      |true=>rwa[i,p.2,r1,r2,f,by rw[am2,q],l]
      |false=>rwa[i,c,r1,r2,f,[am2,q]▸n,l]
def cM {fns:Zp}{ixs:Zh}{scope:Scope}(cl:List (Str×Zs))(d:closureFor scope X.env=pure cl)(y:GP X scope fns ixs cl)(j:X.env.scope.kind=.function)(f:(∀z∈scope.names,z.2≠.cell)/\(∀z∈scope.names,z.2=.local->scope.names.lookup z.1=some .local)/\(∀z∈scope.names,z.2=.free->z.1∈fns)/\(x::fns).Nodup/\scope.names.lookup x=some .local/\scope.kind=.function:=by decide):gZ X x fns ixs scope cl:=by
 let⟨a,b,g⟩:=y.get;let⟨f,w,u,m,v,p⟩:=f
 exact{ abY:=d,sub:=b,cell:=f,kind:=p,names:=w,own:=v,nd:=m,len:=a.symm
        has:=λz h=>by have:=u (z,.free) (h.elim (λh=>uG h (.inl rfl) f) λh=>uG h (.inr rfl) f) rfl;let⟨k,e⟩:=List.mem_iff_getElem?.mp this;let⟨_,c,_,_,_,r,_⟩:=g k z e;rwa[c,r]
        at_:=λk z h=>by let⟨i,c,s,o,n,q,t⟩:=g k z h;rwa[⟨i,s,o,.inl n,c,q,.inl (kB j n t)⟩ ]}
namespace Rv
def Iz:Slot "reversed" "__init__" "object.__init__":=
 .of (owner:="object") (n:="__init__") (by rw[typeLookup_type,builtinLookup_eq_fast];kernel_rfl) ⋯ ⋯ ⋯
  (by first|rwa[.inl (by decide)]|rwa[.inr (by decide)]) (by rw[isSubtype_type];kernel_rfl)
def called:TypeCalled "reversed" "reversed.__new__" "object.__init__":=⟨44,⟨11,PySem.F.mro_reversed⟩,PySem.F.made_reversed,4,by rw[isSubtype_type];kernel_rfl,Iz⟩
def aid (h:Heap)(it t:Zs)(i:Int):Prop:=∃o,h.get? it\o/\o.cls=.type "reversed"/\o.data=.fields #[↑t,rawInt i]
end Rv
def au (ns:Zg):Zb:=ns.map V.int
def bQ (h:l[i]?\z):(au l)[i]?\(V.int z):=by unfold au;rw[aj0,h];rfl
def aJ (ns:Zg):⇑(au ns)=⇑ns:=ajD ..
def cO (h:(au l)[i]?\q):∃z,q=V.int z/\l[i]?\z:=by
 unfold au at h;rw[aj0]at h
 cases e:l[i]? with
 |none=>rw[e]at h;ext h
 |some z=>rw[e]at h;rwa[z,(Za0 h).symm,2]
def ints_app (a b:Zg):au (a++b)=au a++au b:=akd ..
def all_eq (ns ms:Zg):((~~~(min ⇑ns ⇑ms)).all (λj=>decide (ns[j]?=ms[j]?)) && ⇑ns==⇑ms)=decide (ns=ms):=by
 rw[akQ,als,List.all_eq_true,akq,amx];constructor
 ·rintro ⟨b,a⟩;rwa[alf λi=>?_]
  cbv
 cbv
section
variable {X:Cx}
inductive Xu (K:Za1)(x y:V)(H:Hp)(Q:VK):Prop
 |mk (a b:Zs)(ns ms:Zg):x=↑a->y=↑b->bu K H a (au ns)->bu K H b (au ms)->Q (.bl (decide (ns=ms))) H->Xu K x y H Q
inductive N4 (K:Za1)(x y:V)(H:Hp)(Q:VK):Prop
 |mk (a b:Zs)(ns ms:Zg):x=↑a->y=↑b->bu K H a (au ns)->bu K H b (au ms)->Q (.bl (!decide (ns=ms))) H->N4 K x y H Q
def yg {b:Zg}{a:Zk}(c:Vals (au l) N)(g:Vals (au b) a)(j:Nat)(n:j<N.toArray.size)(i:j<a.toArray.size):
 SeqAt.EqAt A s N.toArray[j] a.toArray[j] (decide (l[j]?=b[j]?)):=by
 let w:=⇑c;let x:=⇑g;rw[aJ]at w x;let o:j<⇑N:=by simpa using n
 let k:j<⇑a:=by simpa using i
 let h:l[j]?=some l[j]:=ajz ∅
 let f:b[j]?=some b[j]:=ajz ∅
 let⟨u,p,t,rfl⟩:=c.get (bQ h);let⟨v,r,d,rfl⟩:=g.get (bQ f)
 let m:N.toArray[j]=Value.int l[j] t:=by rw[List.getElem_toArray];rwa[Za0 ((ajz o).symm.trans p)]
 let q:a.toArray[j]=Value.int b[j] d:=by rw[List.getElem_toArray];rwa[Za0 ((ajz k).symm.trans r)]
 rw[m,q,h,f];have:=SeqAt.EqAt.int_int (A:=A) (s:=s) l[j] t b[j] d
 let e:decide (some l[j]=some b[j])=(l[j]==b[j]):=by rw[akQ,akq,amx];rwa[Za0,akK some]
 rw[e];rwa[this]
def Fg [i:eT X K](A:X.A.units<cLine):fW X (compareOp .NotEq) (N4 K):=by cases i.eq;intro l s E H x y v u Q I B C h;let⟨a,b,f,d,rfl,rfl,D,t,q⟩:=h;ext B;ext C;let⟨g,k,z,_⟩:=I.tuple D;let⟨c,m,r,_⟩:=I.tuple t;rwa[SeqAt.RcNeAt.tuples (e:=λj=>decide (f[j]?=d[j]?)) (show s.heap.IsTuple a g.toArray from z) (show s.heap.IsTuple b c.toArray from r) A (λj w p=>yg k m j w p) X.prog X.w X.xe _ ⟨.bl (!decide (f=d)),H,I,5,q⟩];let n:=⇑k;let o:=⇑m;rw[aJ]at n o;show _=Value.bool (!decide (f=d));rw[<-all_eq,ajT,ajT,<-n,<-o]
inductive Td (K:Za1)(xs:Zb)(H:Hp)(Q:VK):Prop
 |mk (x:V)(T:String)(t:Zt)(b:Bool):xs=[x,.ty T]->j8 K H x t->kitOne K t (.type T)\b->Q (.bl b) H->Td K xs H Q
def jE [a:eT X K]:i3 X (.builtin "isinstance") (Td K):=by cases a.eq;intro c s l H k m Q I r h;let⟨x,T,t,b,rfl,f,e,q⟩:=h;let⟨u,j,rfl,g,i⟩:=vals2 r;ext i;rwa[Ik I g f e λd=>⟨.bl b,H,I.tok d,2,q⟩]
def kM (K:Za1)(T:String):kitOne K (.type T) (.type T)\true:=by unfold kitOne;rw[aj3 (beq_self_eq_true _)]
def Bd (K:Za1):kitOne K (.type "int") (.type "bool")\false:=by first|rfl|kernel_rfl|decide
end
def av.upd {o:HO}(h:H a=Option.none):av H (upd H a o):=λb u e=>by rw[ao (aw e h)];rwa[e]
variable {X:Cx}
inductive IA (x y:V)(H:Hp)(Q:VK):Prop
 |mk (a b:Zs)(xs ys:Zb):x=↑a->y=↑b->H a\.tup xs->H b\.tup ys->⇑xs+ ⇑ys<=sizeLine->(∀p H',av H H'->H' p\.tup (xs++ys)->Q ↑p H')->IA x y H Q
def LQ {t:Zs}{ws:Zk}(l:IsTup s.heap t ([]:Zk).toArray)(m:IsTup s.heap b ws.toArray)(h:Q ↑b s):(P<|>w) A (binaryOp .Add ↑t ↑b) Q E s:=by
 let⟨⟨cls,p,data,o⟩,j,k,n,g⟩:=id l;let⟨⟨i,e,data2,f⟩,d,c,q,a⟩:=id m;simp only at k g c a;subst k g c a
 exact concat_meets ⟨_,j,2⟩ ⟨_,d,2⟩ noFill_tuple_add seq_tuple_add amO amG (amA _ _)
  (tuple_addW0 t b ([]:Zk).toArray ws.toArray n q p e o f rfl) ⟨j,d,h⟩
def Be:fW X (binaryOp .Add) IA:=by
 intro c s z H x y v u Q I j k h;let⟨a,b,i,ys,rfl,rfl,g,d,r,q⟩:=h;cases l:i=[]
 ·subst l;ext j;ext k;let⟨f,o,w,_⟩:=I.tuple (bu.of g);let⟨m,A,n,_⟩:=I.tuple (bu.of d);let e:f=[]:=o.tO.mpr rfl;subst e;rwa[LQ w n ⟨↑b,H,I,2,q b H (av.refl H) d⟩]
 ·rwa[Qq c s z H ↑a ↑b v u Q I j k ⟨a,b,i,ys,22,bu.of g,bu.of d,l,r,λe=>?_,λ_ p t=>q p _ (av.upd t) aj⟩];subst e;rwa[q a H (av.refl H) ([akb]▸g)]
inductive N5 (x:V)(lo hi:Zj)(H:Hp)(Q:VK):Prop
 |mk (a:Zs)(xs:Zb):x=↑a->H a\.tup xs->(∀p H',av H H'->H' p\.tup (iE xs lo hi)->Q ↑p H')->N5 x lo hi H Q
end L2
namespace HT
section
variable {prog:Program}{w:World}{A:Around}{E:Zt->Zu->Prop}{s:Zu}
def rK {t:Zs}{items:Zm}{lo i:Zj}(b:IsTup s.heap t items)(g:s.heap.IsSliceOf a v u .none)(pl:IsPart v lo)(l:IsPart u i)(hw:cD items.size 0 lo=0/\cD items.size items.size i=items.size)(h:Q ↑t s):(prog<|>w) A (getItem ↑t ↑a) Q E s:=by
 let⟨os,d,f,n⟩:=id g;let e:s.TypeIs ↑a "slice":=⟨os,d,f⟩;unfold getItem
 try with_reducible rwa[akz ?_]
 first|rwa[ajx (ajG ?_)]|skip
 rwa[ajx (wpAny_sequenceKey b.typeIs (by decide) ?_)]
 refine ajx (akS (name:=Str.ofString "__getitem__") b.typeIs akF
  (akY akF b.typeIs entry_tuple_getitem ?_ (args_tuple_getitem _ _)))
 show wpAny _ _ (Builtin.Tuple.tupleItemsOf ↑t >>=_) _ _ s;rwa[ajx (tupleItemsOf_ b ?_)];rwa[ajx (alW e ?_)];rw[aj3 ⋯];rwa[ajx (mM g pl l ?_)];rw[hw.1,hw.2];let c:((((0:Nat):Int)==0 && (1:Int)==1 && (items.size - 0)==items.size)=true):=by simp
 show wpAny _ _ (if (((0:Nat):Int)==0 && (1:Int)==1 && (items.size - 0)==items.size)=true then _ else _) _ _ s;rw[aj3 c];let⟨o,j,k,_⟩:=id b;rwa[ajx (m:=Builtin.Tuple.tupleIsExact _) ?_];unfold Builtin.Tuple.tupleIsExact;rwa[ajx (alW b.typeIs (ajG ?_))];show wpAny _ _ (if (Value.type "tuple"==Value.type "tuple")=true then _ else _) _ _ s;rw[aj3 ⋯];rwa[ajx (amS (ajG ⟨12,ajG h⟩))]
end
def ve:fillsNumberSlot (.type "tuple") "mul"=pure false:=PySem.fillsNumberSlot_seq (id:="tuple.__mul__") (r:=some (.builtin "tuple.__rmul__")) PySem.F.slot_tuple_mul.lookup ⋯ PySem.F.slot_tuple_rmul.lookup ⋯
def Bf:seqRepeat? (.type "tuple")=pure (some (.builtin "tuple.__mul__")):=by unfold seqRepeat?;rw[PySem.seqSlot_of (T:="tuple") (name:="__mul__") (id:="tuple.__mul__") PySem.F.slot_tuple_mul.lookup ⋯,PySem.seqSlot_of (T:="tuple") (name:="__rmul__") (id:="tuple.__rmul__") PySem.F.slot_tuple_rmul.lookup ⋯];rfl
def yh (a:Int)(t:Tok)(l:Zs)(items:Zm)(n:Nat)(e:Zo)(c:Array Zl):
 Meets (Builtin.«int.__rmul__» ⟨[.int a t,↑l],[]⟩) (λ_ R s=>s•l\{ cls:=.type "tuple",dict:=e,data:=.seq items n,slots:=c }/\R (.ok (.ret Value.notImplemented)) s):=.of_wp λb w A R s h=>by let⟨f,g,d,i,os⟩:=s;let⟨j,h⟩:=h;wp_walk;rwa[12,h]
def yi (l:Zs)(items:Zm)(n:Nat)(j:Zo)(c:Array Zl)(x:Int)(u:Tok)(i:¬(decide (x < -(2 ^ 63)) || decide (x>=2 ^ 63))=true)(m:(items.isEmpty || x==1)=true):
 Meets (Builtin.«tuple.__mul__» ⟨[↑l,.int x u],[]⟩) (λ_ R s=>s•l\{ cls:=.type "tuple",dict:=j,data:=.seq items n,slots:=c }/\R (.ok (.ret ↑l)) s):=
 .of_wp λa w A R s h=>by
  let⟨b,g,d,e,os⟩:=s;let⟨f,h⟩:=h;let k:(⟨b,g,d,e,os⟩:Zu).TypeIs ↑l "tuple":=⟨_,f,2⟩
  wp_walk
  rwa[wpAny_ite_false (akj i) ?_]
  wp_walk
  rwa[12,h]
def yj (l:Zs)(items:Zm)(n:Nat)(j:Zo)(c:Array Zl)(x:Int)(u:Tok)(b:¬(decide (x < -(2 ^ 63)) || decide (x>=2 ^ 63))=true)(o:¬(items.isEmpty || x==1)=true)(m:(decide (x<=0) || items.isEmpty)=true):
 Meets (Builtin.«tuple.__mul__» ⟨[↑l,.int x u],[]⟩) (λ_ R s=>s•l\{ cls:=.type "tuple",dict:=j,data:=.seq items n,slots:=c }/\R (.ok (.ret ↑↥s)) { s with heap:=s.heap.push ("tuple">>>.seq #[]) }):=
 .of_wp λa w A R s h=>by
  let⟨f,g,d,e,os⟩:=s;let⟨i,h⟩:=h;let k:(⟨f,g,d,e,os⟩:Zu).TypeIs ↑l "tuple":=⟨_,i,2⟩
  wp_walk
  rwa[wpAny_ite_false (akj b) ?_]
  wp_walk
  rwa[12,h]
def yk (l:Zs)(items:Zm)(n:Nat)(o:Zo)(f:Array Zl)(x:Int)(u:Tok)(e:¬(decide (x < -(2 ^ 63)) || decide (x>=2 ^ 63))=true)(v:¬(items.isEmpty || x==1)=true)(t:¬(decide (x<=0) || items.isEmpty)=true)(j:¬((items.size:Int)* x > (2 ^ 63 - 1) / 8))(p:¬(Builtin.Tuple.tupleTooMany ((items.size:Int)* x))=true)(r:(List.foldl (λb a=>b++a) #[] (List.replicate x.toNat items)).size<=sizeLine):
 Meets (Builtin.«tuple.__mul__» ⟨[↑l,.int x u],[]⟩) (λ_ R s=>s•l\{ cls:=.type "tuple",dict:=o,data:=.seq items n,slots:=f }/\R (.ok (.ret ↑↥s)) { s with heap:=s.heap.push ("tuple">>>.seq (List.foldl (λb a=>b++a) #[] (List.replicate x.toNat items))) }):=
 .of_wp λc w A R s h=>by
  let⟨k,g,d,i,os⟩:=s;let⟨m,h⟩:=h;let q:(⟨k,g,d,i,os⟩:Zu).TypeIs ↑l "tuple":=⟨_,m,2⟩
  wp_walk
  rwa[wpAny_ite_false (akj e) ?_]
  wp_walk
  rwa[wpAny_ite_false (akj j) ?_]
  wp_walk
  rwa[12,h]
end HT
namespace L2
section
variable {X:Cx}{e:Expr}{lo hi:Option Expr}
def vg:NX X N5:=by
 intro b s o H x v n k lo hi l Q I i j pl g h;let⟨a,xs,rfl,d,q⟩:=h;cases hw:HT.cD ⇑xs 0 lo=0/\HT.cD ⇑xs ⇑xs hi=⇑xs
 ·ext i;let⟨c,r,f,t⟩:=I.tuple (bu.of d);let hlen:c.toArray.size=⇑xs:=by rw[ajT];rwa[r.length.symm]
  erw["tuple",_,akF.lookup,f.typeIs];rwa[HT.rK f j pl g ([hlen]▸hw) ⟨↑a,H,I,2,q a H (av.refl H) ?_⟩];unfold iE;rw[hw.1,hw.2,List.drop_zero,Nat.sub_zero,akR];rwa[d]
 ·rwa[SN b s o H ↑a v n k lo hi l Q I i j pl g ⟨a,xs,2,bu.of d,hw,λp m=>q p _ (av.upd m) aj⟩]
inductive N6 (x y:V)(H:Hp)(Q:VK):Prop
 |mk (a:Zs)(k:Int)(xs:Zb):x=↑a->y=.int k->H a\.tup xs-> -(2 ^ 63)<=k->k<2 ^ 63->⇑xs* k.toNat<=sizeLine->(∀p H',av H H'->H' p\.tup (List.replicate k.toNat xs).flatten->Q ↑p H')->N6 x y H Q
theorem Fh:fW X (binaryOp .Mult) N6:=by
 intro d s M H x y v u Q I W Z h;let⟨l,k,xs,rfl,rfl,L,h1,h2,J,q⟩:=h;ext W;let⟨t,rfl⟩:=Z;let⟨a,r,V,Y⟩:=I.tuple (bu.of L);let B:=⇑r;let⟨⟨cls,z,data,g⟩,j,hc,n,G⟩:=id V;simp only at hc G;subst hc G
 let A:¬(decide (k < -(2 ^ 63)) || decide (k>=2 ^ 63))=true:=by rw[amH,akq,akq];ext
 let D:∀{S:PySem.Spec},Meets (Builtin.«tuple.__mul__» ⟨[↑l,.int k t],[]⟩) (λP R c=>c•l\{ cls:=.type "tuple",dict:=z,data:=.seq a.toArray n,slots:=g }/\S P R c)->
  S X.A (wants (EP X d M Q) X.xe) s->X⁻¹ X.A (binaryOp .Mult ↑l (.int k t)) (EP X d M Q) X.xe s:=λ{S} m hS=>
  wpAny_binaryOp_repeat_ref (T:="tuple") (U:="int") ⋯ ⟨_,j,2⟩ (λc=>typeIs_int c k t) HT.ve F.fills_int_mul F.slot_int_rmul HT.Bf F.slot_int_index.lookup
   (amB F.slot_int_rmul (typeIs_int s k t) F.entry_int_rmul (F.args_int_rmul_2 _ _) (HT.yh k t l a.toArray n z g)
    ⟨j,2,⟨_,j,2⟩,amB F.slot_tuple_mul ⟨_,j,2⟩ F.entry_tuple_mul (F.args_tuple_mul_2 _ _) m ⟨j,hS⟩⟩)
 cases hc:(a.toArray.isEmpty || k==1)=true
 ·rwa[D (S:=λ_ R c=>R (.ok (.ret ↑l)) c) (HT.yi l a.toArray n z g k t A hc) ⟨↑l,H,I,2,q l H (av.refl H) ?_⟩]
  let e:(List.replicate k.toNat xs).flatten=xs:=by
   rw[amH]at hc;rcases hc with hc|hc
   ·have:a=[]:=by simpa using hc
    have:xs=[]:=by let w:=B;rw[this]at w;rwa[ak0 w]
    subst this;simp
   ·have:k=1:=by simpa using hc
    subst this;simp
  rw[e];rwa[L]
 ·cases f:(decide (k<=0) || a.toArray.isEmpty)=true
  ·rwa[D (S:=λ_ R c=>R (.ok (.ret ↑↥c)) { c with heap:=c.heap.push ("tuple">>>.seq #[]) }) (HT.yj l a.toArray n z g k t A hc f) ?_];rwa[⟨↑↥s,_,I.laid (t':=s.toks) (o:=.tup []) (λb O q=>ajB _ q) (ajE _) ?_,2,q _ _ (av.upd (I.aU.fresh (ajE _))) ?_⟩]
   ·rwa[aj8 _,[],.nil,IsTup.new _ _]
   ·let e:k.toNat=0:=by
     rw[amH,akq]at f;rcases f with f|f
     ·ext
     ·rwa[absurd (by rw[amH];rwa[.inl f]) hc]
    rw[e,aj];rfl
  ·let hk:0<k:=by rw[amH,akq]at f;ext
   let p:List.foldl (λE C=>E++C) #[] (List.replicate k.toNat a.toArray)=(List.replicate k.toNat a).flatten.toArray:=by have:=foldl_rep a k.toNat [];rw[amc]at this;rwa[this]
   let hlen:(List.replicate k.toNat a).flatten.length<=sizeLine:=by rw[len_rep,Nat.mul_comm,<-B];rwa[J]
   let i:((a.toArray.size:Int)* k)=((⇑xs* k.toNat:Nat):Int):=by rw[ajT,<-B,Int.natCast_mul,Int.toNat_of_nonneg ∅]
   let hline:(sizeLine:Nat)<=(2 ^ 63 - 1) / 8:=⋯
   refine D (S:=λ_ R c=>R (.ok (.ret ↑↥c)) { c with heap:=c.heap.push ("tuple">>>.seq (List.foldl (λE C=>E++C) #[] (List.replicate k.toNat a.toArray))) })
    (HT.yk l a.toArray n z g k t A hc f (by rw[i];omega) (by unfold Builtin.Tuple.tupleTooMany;rw[akq,i];omega) ([p,ajT]▸hlen)) ?_
   rw[p];rwa[⟨↑↥s,_,I.laid (t':=s.toks) (o:=.tup (List.replicate k.toNat xs).flatten) (λb O q=>ajB _ q) (ajE _) ?_,2,q _ _ (av.upd (I.aU.fresh (ajE _))) aj⟩];rwa[[len_rep,Nat.mul_comm]▸J,_,r.rep k.toNat,IsTup.new _ _]
end
def tx (l:Zh):Str:=⟨l.toArray⟩
def IB (l:Zh):⇑(tx l)=⇑l:=by show l.toArray.size=⇑l;simp
def IC {b:Zh}(h:tx B=tx b):B=b:=by have:=akK (λs:Str=>s.cps.toList) h;rwa[this]
def Fi (h:x.cps.toList=f.cps.toList):x=f:=by let⟨a⟩:=x;let⟨b⟩:=f;have:a=b:=Array.toList_inj.mp h;rw[this]
def Xv (x:Str):x=tx x.cps.toList:=Fi rfl
def IE (a b:Zh):tx a++tx b=tx (a++b):=by rwa[Fi ?_];show ((tx a).cps++(tx b).cps).toList=(a++b);rw[Array.toList_append];rfl
section
variable {X:Cx}{pos:Pos}
def dA {l:Zh}{j}(h:x=tx l):PE X (.Constant (.str x) j pos) (tC (.str (tx l))):=by rw[<-h];rwa[Se]
def Bg (n:Int):Zh:=(toString n:Str).cps.toList
def IG (h:n<10000000000):n.log2<1920:=by
 rcases Nat.eq_zero_or_pos n with e|e
 ·subst e;decide
 ·let a:HPow.hPow 2 n.log2<=n:=Nat.log2_self_le ∅;let b:(10000000000:Nat)<2 ^ 1920:=⋯
  rwa[(Nat.pow_lt_pow_iff_right (by decide:1<2)).mp (ajJ a (amC h b))]
def LR {n:Int}(a:0<=n)(h:n<10000000000):⇑(Bg n)<=10:=by have:=toString_length_le (v:=n) a (k:=10) ⋯ h;rwa[this]
end
structure Def (K:Za1)(mg:Str->Zl)(x:Str)(st:Stmt)(ps:Zp)(f:Zs)(fd:FuncData):Prop where
 F:rT K x x st f fd
 m:mg x\↑f
 b:Binds K fd ps []
inductive Xw (t:TE)(σ:St)(H:Hp)(Q:VK):Prop
 |mk (G:V->Hp->Prop):t σ H G->(∀v H',G v H'->Q v H')->Xw t σ H Q
def Bh (ns:Zg)(lo a:Zj):iE (au ns) lo a=au ((ns.drop (HT.cD ⇑ns 0 lo)).take (HT.cD ⇑ns ⇑ns a - HT.cD ⇑ns 0 lo)):=by unfold iE au;rw[ajD,List.map_take,List.map_drop]
def gu (r:Int){n:Nat}(h:0<n):∃j:Nat,r % (n:Int)=(j:Int)/\j<n:=by let b:=ak7 r (show (n:Int)≠0 by omega);let a:=akU r (show (0:Int)<(n:Int) by omega);rwa[(r % (n:Int)).toNat,33]
section
variable {κ:Type} [DecidableEq κ]
def bC (a:List (κ×V))(k:κ):Zc:=(a.find? λb=>decide (b.1=k)).map (·.2)
def putK (a:List (κ×V))(k:κ)(v:V):List (κ×V):=if (a.any λb=>decide (b.1=k))=true then a.map (λb=>if b.1=k then (b.1,v) else b) else a++[(k,v)]
def fJ (a:List (κ×V))(k:κ):List (κ×V):=a.filter λb=>decide (b.1≠k)
def dk {p:κ×V}{r:List (κ×V)}{k:κ}(e:p.1=k):bC (p::r) k\p.2:=by simp[bC,amd,e]
def dc {p:κ×V}{r:List (κ×V)}{k:κ}(e:¬p.1=k):bC (p::r) k=bC r k:=by simp[bC,amd,e]
theorem mP (k:κ):∀a:List (κ×V),(a.any λb=>decide (b.1=k))=(bC a k).isSome
 |[]=>rfl
 |p::r=>by
  rw[List.any_cons];cases e:p.1=k
  ·simp only[dk e,ajZ e,Bool.true_or,Option.isSome_some]
  ·rw[dc e,akj e,Bool.false_or];rwa[mP k r]
theorem Bi (k j:κ)(y:V):∀a:List (κ×V),bC (a.map λb=>if b.1=k then (b.1,y) else b) j=(bC a j).map λx=>if j=k then y else x
 |[]=>rfl
 |p::r=>by
  let c:=Bi k j y r;rw[akN];cases h:p.1=k
  ·rw[aj3 h];cases e:p.1=j
   ·rw[dk (p:=(p.1,y)) e,dk e,Option.map_some,aj3 (e.symm.trans h)]
   ·rw[dc (p:=(p.1,y)) e,dc e,c]
  ·rw[ajY h];cases e:p.1=j
   ·rw[dk (p:=p) e,dk e,Option.map_some,ajY (λz=>h (e.trans z))]
   ·rw[dc (p:=p) e,dc e,c]
theorem zk (k j:κ)(y:V):∀a:List (κ×V),bC a k=none->bC (a++[(k,y)]) j=if j=k then some y else bC a j
 |[],_=>by
  cases e:k=j
  ·rw[aj3 e.symm];rwa[dk (p:=(k,y)) e]
  ·rw[ajY (λz=>e z.symm)];rwa[dc (p:=(k,y)) e]
 |p::r,b=>by
  rw[al1];let c:¬p.1=k:=λz=>by rw[dk z]at b;ext b
  rw[dc c]at b;let d:=zk k j y r b;cases e:p.1=j
  ·rw[dk e,dk e,ajY (λz=>c (e.trans z))]
  ·rw[dc e,dc e,d]
def jF (b:List (κ×V))(k j:κ)(y:V):bC (putK b k y) j=if j=k then some y else bC b j:=by
 unfold putK;cases a:(b.any λc=>decide (c.1=k))=true
 ·rw[aj3 a,Bi];rw[mP]at a;cases e:j=k
  ·let⟨x,d⟩:=ak3.mp a
   cbv
  ·rw[ajY e]
   cases bC b j with
   |none=>rfl
   |some x=>cbv
 ·rw[ajY a];rwa[zk k j y b ?_];rw[mP]at a
  cases q:bC b k with
  |none=>rfl
  |some x=>rw[q]at a;rwa[(a rfl).elim]
def dR (a:List (κ×V))(k:κ)(v:V):⇑(putK a k v)<=⇑a+ 1:=by
 unfold putK;split
 ·rw[ajD];ext
 ·rw[ajC,aj1,akL];ext
def Bj {a:List (κ×V)}{k:κ}(v:V)(h:bC a k=none):putK a k v=a++[(k,v)]:=by unfold putK;rw[mP,h];rwa[ajY ⋯]
def fq.lI {o:Zc}{u:Zl}(r:fq o u):o.isSome=u.isSome:=by
 cases o with
 |none=>cases u with
  |none=>rfl
  |some _=>exact(show False from r).elim
 |some _=>cases u with
  |none=>exact(show False from r).elim
  |some _=>rfl
def fq.getD {o:Zc}{u:Zl}(r:fq o u)(rd:RelV q v):RelV (o.getD q) (u.getD v):=by
 cases o with
 |none=>cases u with
  |none=>exact rd
  |some _=>exact(show False from r).elim
 |some _=>cases u with
  |none=>exact(show False from r).elim
  |some _=>exact r
def KV.val {a:List (κ×V)}{f:List (κ×Zt)}(r:KV a f)(k:κ):fq (bC a k) (valueAt f k):=by
 induction r with
 |nil=>exact True.intro
 | @cons p q l c h t i=>
   let⟨g,j⟩:=h;cases e:p.1=k
   ·let d:q.1=k:=g.symm.trans e;let b:valueAt (q::c) k\q.2:=by simp[valueAt,amd,d]
    rw[dk e,b];rwa[j]
   ·let d:¬q.1=k:=λz=>e (g.trans z)
    let b:valueAt (q::c) k=valueAt c k:=by simp[valueAt,amd,d]
    rw[dc e,b];rwa[i]
def KV.any {a:List (κ×V)}{c:List (κ×Zt)}(r:KV a c)(k:κ):(a.any λb=>decide (b.1=k))=c.any λb=>decide (b.1=k):=by
 induction r with
 |nil=>rfl
 |cons h t d=>rw[List.any_cons,List.any_cons,d,h.1]
def KV.repl {b:List (κ×V)}{c:List (κ×Zt)}(r:KV b c)(k:κ){y:V}{u:Zt}(g:RelV y u):
 KV (b.map λa=>if a.1=k then (a.1,y) else a) (c.map λa=>if a.1=k then (a.1,u) else a):=by
 induction r with
 |nil=>exact .nil
 | @cons p q e f h t d=>
   rw[akN,akN];rwa[.cons ?_ d]
   cbv
def KV.put {a:List (κ×V)}{b:List (κ×Zt)}(r:KV a b)(k:κ){y:V}{u:Zt}(c:RelV y u):KV (putK a k y) (stored b k u):=by
 unfold putK stored;rw[r.any k];cases e:(b.any λd=>decide (d.1=k))=true
 ·rw[aj3 e,aj3 e];rwa[r.repl k c]
 ·rw[ajY e,ajY e];rwa[Paired.snoc r ⟨2,c⟩]
def KV.drop {c:List (κ×V)}{d:List (κ×Zt)}(r:KV c d)(k:κ):KV (fJ c k) (without d k):=by
 unfold fJ without
 induction r with
 |nil=>exact .nil
 | @cons p q l m h t g=>
   let⟨f,i⟩:=h;rw[List.filter_cons,List.filter_cons];cases e:p.1=k
   ·cbv
   ·let j:¬q.1=k:=λz=>e (f.trans z)
    let a:decide (p.1≠k)=true:=by simp[e]
    let b:decide (q.1≠k)=true:=by simp[j]
    rw[aj3 a,aj3 b];rwa[.cons ⟨f,i⟩ g]
def KV.length {a:List (κ×V)}{b:List (κ×Zt)}(r:KV a b):⇑a=⇑b:=Paired.length r
def LV (a:List (κ×V))(k:κ):⇑(fJ a k)<=⇑a:=alI _ _
end
def jw {k:Key}(r:RelV (kV k) u):(bZ P w).is k u=true:=by
 cases k with
 |inl i=>let⟨t,e⟩:=(show ∃t,u=Value.int i t from r);subst e;rwa[Eb P w i t]
 |inr x=>let⟨t,e⟩:=(show ∃t,u=Value.str x t from r);subst e;rwa[Ec P w x t]
theorem zl:∀{a:Zd}{b:Zk},Vals (a.map kV) b->ItemsAre (bZ P w) a b
 |[],_,r=>by ext r;rwa[.nil]
 |k::a,_,r=>by
  cases r with
  |cons h t=>exact .cons (jw h) (zl t)
abbrev KT (H:Hp):List (Zd×V)->List (Zd×Zs×Zt)->Prop:=Paired λp q=>p.1=q.1/\H q.2.1\.tup (p.1.map kV)/\RelV p.2 q.2.2
def KT.val {a:List (Zd×V)}{g:List (Zd×Zs×Zt)}(r:KT H a g)(k:Zd):fq (bC a k) ((atKey g k).map (·.2)):=by
 induction r with
 |nil=>exact True.intro
 | @cons p q l c h t i=>
   let⟨f,_,j⟩:=h;cases e:p.1=k
   ·let d:q.1=k:=f.symm.trans e;let b:atKey (q::c) k\q.2:=by simp[atKey,amd,d]
    rw[dk e,b];rwa[j]
   ·let d:¬q.1=k:=λz=>e (f.trans z)
    let b:atKey (q::c) k=atKey c k:=by simp[atKey,amd,d]
    rw[dc e,b];rwa[i]
def KT.repl {a:List (Zd×V)}{xs:List (Zd×Zs×Zt)}(r:KT H a xs)(k:Zd){y:V}{u:Zt}(j:RelV y u):
 KT H (a.map λb=>if b.1=k then (b.1,y) else b) (xs.map (putAt k u)):=by
 induction r with
 |nil=>exact .nil
 | @cons p q d e h t c=>
   rw[akN,akN];rwa[.cons ?_ c];let⟨g,f,i⟩:=h;unfold putAt
   cbv
def KT.put {a:List (Zd×V)}{c:List (Zd×Zs×Zt)}(r:KT H a c)(k:Zd){b:Zs}{y:V}{u:Zt}(g:H b\.tup (k.map kV))(d:RelV y u):
 KT H (putK a k y) (storedH c k b u):=by
 let e:(a.any λf=>decide (f.1=k))=(atKey c k).isSome:=by rw[mP,(r.val k).lI,Option.isSome_map]
 unfold putK storedH;rw[e];cases q:(atKey c k).isSome=true
 ·rw[aj3 q,aj3 q];rwa[r.repl k d]
 ·rw[ajY q,ajY q];rwa[Paired.snoc r ⟨2,g,d⟩]
def KT.keeps {a:List (Zd×V)}{c:List (Zd×Zs×Zt)}(r:KT H a c)(d:∀b ys,H b\.tup ys->I b\.tup ys):KT I a c:=Paired.Lc r λ_ _ z=>⟨z.1,d^z.2.1,z.2.2⟩
section
variable {P:Program}{w:World}{H:Hp}{h:Heap}{a:Zs}
def N7 {u:HO}(ok:dS P w H h)(e:Rd H a u):cu P w H h a u:=e.ok ok
def nZ {b:List (Key×V)}(ok:dS P w H h)(e:Rd H a (.dK b)):⇑b<=sizeLine/\(a==sysModules)=false/\∃c,KV b c/\h.DictOf (bZ P w) a c:=show cu P w H h a (.dK b) from N7 ok e
def tQ {b:List (Key×V)}(ok:dS P w H h)(e:H a\.dK b):⇑b<=sizeLine/\(a==sysModules)=false/\∃c,KV b c/\h.DictOf (bZ P w) a c:=nZ ok (.inl e)
def lJ {c:Zd}(ok:dS P w H h)(e:H a\.tup (c.map kV)):(tupleKind (bZ P w)).is h c a:=by let⟨_,b,r,o,f,d,n,g⟩:=(show cu P w H h a (.tup (c.map kV)) from ok a _ e);rwa[o,b.toArray,n,f,d,g,by simpa using zl r]
def n5 {b:List (Zd×V)}(ok:dS P w H h)(e:Rd H a (.dT b)):⇑b<=sizeLine/\(a==sysModules)=false/\
 ∃d,KT H b d/\h.DictOfH (tupleKind (bZ P w)) a d:=by
 let⟨z,y,d,r,o,n,u,j,g,s,i,k⟩:=(show cu P w H h a (.dT b) from N7 ok e);rwa[⟨z,y,d,r,o,n,u,j,g,s,i,λx c=>?_,k⟩]
 let all:∀{l:List (Zd×V)}{m:List (Zd×Zs×Zt)},KT H l m->∀x∈m,(tupleKind (bZ P w)).is h x.1 x.2.1:=by
  intro l m q
  induction q with
  |nil=>intro x c;rwa[nomatch c]
  | @cons p q A B f t v=>
    intro x c;rcases ajS.mp c with e|c
    ·subst e;rwa[lJ ok (by rw[<-f.1];rwa[f.2.1])]
    ·rwa[v x c]
 rwa[all r x c]
def N8 {b:List (Zd×V)}(ok:dS P w H h)(e:H a\.dT b):⇑b<=sizeLine/\(a==sysModules)=false/\∃c,KT H b c/\h.DictOfH (tupleKind (bZ P w)) a c:=n5 ok (.inl e)
end
def dv (H:Hp)(a:Zs)(y:V)(r:Zc):Prop:=(∃c k,Rd H a (.dK c)/\y=kV k/\r=bC c k)\/∃c k b,Rd H a (.dT c)/\y=↑b/\H b\.tup (k.map kV)/\r=bC c k
def kb (H:Hp)(a:Zs)(y v:V)(d:Hp):Prop:=
 (∃c k,H a\.dK c/\y=kV k/\⇑c<sizeLine/\d=upd H a (.dK (putK c k v)))\/
 ∃c k b,H a\.dT c/\y=↑b/\H b\.tup (k.map kV)/\⇑c<sizeLine/\d=upd H a (.dT (putK c k v))
def dv.k {b:List (Key×V)}{k:Key}(e:H a\.dK b):dv H a (kV k) (bC b k):=.inl ⟨b,k,.inl e,22⟩
def dv.t {c:List (Zd×V)}{k:Zd}(e:H a\.dT c)(d:H b\.tup (k.map kV)):dv H a ↑b (bC c k):=.inr ⟨c,k,b,.inl e,2,d,2⟩
def kb.k {b:List (Key×V)}{k:Key}(e:H a\.dK b)(c:⇑b<sizeLine):kb H a (kV k) q (upd H a (.dK (putK b k q))):=.inl ⟨b,k,e,2,c,2⟩
def kb.t {c:List (Zd×V)}{k:Zd}(e:H a\.dT c)(f:H b\.tup (k.map kV))(d:⇑c<sizeLine):
 kb H a ↑b q (upd H a (.dT (putK c k q))):=.inr ⟨c,k,b,e,2,f,d,2⟩
section
variable {X:Cx}{pins:List (Zs×Obj)}{σ:St}{H:Hp}{s:Zu}{a:Zs}{y v:V}{u r:Zt}{o:Zc}{A:Around}{E:Zt->Zu->Prop}
def Inv.big (I:Inv X pins σ H s):sysModules<↥s:=by let h:mainGlobals<↥s:=(I.mod.glob.keeps I.bk).lt;rwa[amC ⋯ h]
def IH (F:A.units+ 1<cLine)(I:Inv X pins σ H s)(g:dv H a y (some v))(t:RelV y u)(h:∀d q,Inv X pins σ H q->RelV v d->Q d q):
 X⁻¹ A (getItem ↑a u) Q E s:=by
 rcases g with ⟨f,k,e,n,l⟩|⟨f,k,b,e,n,B,l⟩
 ·subst n;let⟨z,w,x,rel,m⟩:=nZ I.aU e;let⟨d,j,c⟩:=fq.some_of (v:=v) (o:=valueAt x k) ([l]▸rel.val k);rwa[wpAny_getItem_of (jw t) m.mapOf j (h d _ (I.tok _) c)]
 ·subst n;cases (show u=Value.ref b from t);let⟨z,w,D,rel,m⟩:=n5 I.aU e;let⟨d,j,c⟩:=fq.some_of (v:=v) (o:=(atKey D k).map (·.2)) ([l]▸rel.val k);let⟨p,C,i⟩:=akE.mp j;rwa[wpAny_getItem_heap (alr F) (lJ I.aU B) m C ?_];rw[i];rwa[h d _ (I.tok _) c]
def abZ (n:A.units+ 1<cLine)(I:Inv X pins σ H s)(g:dv H a y o)(m:RelV y u)(h:∀j,Inv X pins σ H j->Q (.bool o.isSome) j):
 X⁻¹ A (compareOp .In u ↑a) Q E s:=by
 rcases g with ⟨d,k,e,f,l⟩|⟨d,k,b,e,f,p,l⟩
 ·subst f;let⟨z,c,t,rel,i⟩:=nZ I.aU e;rwa[wpAny_in_of (jw m) c i.mapOf ?_];rw[<-(rel.val k).lI,<-l];rwa[h _ (I.tok _)]
 ·subst f;cases (show u=Value.ref b from m);let⟨z,c,w,rel,i⟩:=n5 I.aU e;rwa[wpAny_in_heap (alr n) (lJ I.aU p) c i ?_];let q:=(rel.val k).lI;rw[Option.isSome_map]at q;rw[<-q,<-l];rwa[h _ (I.tok _)]
def Qt (n:A.units+ 1<cLine)(I:Inv X pins σ H s)(g:dv H a y o)(m:RelV y u)(h:∀j,Inv X pins σ H j->Q (.bool (!o.isSome)) j):
 X⁻¹ A (compareOp .NotIn u ↑a) Q E s:=by
 rcases g with ⟨d,k,e,f,l⟩|⟨d,k,b,e,f,p,l⟩
 ·subst f;let⟨z,c,t,rel,i⟩:=nZ I.aU e;rwa[wpAny_notIn_of (jw m) c i.mapOf ?_];rw[<-(rel.val k).lI,<-l];rwa[h _ (I.tok _)]
 ·subst f;cases (show u=Value.ref b from m);let⟨z,c,w,rel,i⟩:=n5 I.aU e;rwa[wpAny_notIn_heap (alr n) (lJ I.aU p) c i ?_];let q:=(rel.val k).lI;rw[Option.isSome_map]at q;rw[<-q,<-l];rwa[h _ (I.tok _)]
def kO {t':Nat}{c:HO}(I:Inv X pins σ H s)(mu:uy (H a))(g:Heap.SameBut a s.heap h)(d:∃q,h.get? a\q)(new:cu X.prog X.w (upd H a c) h a c):
 Inv X pins σ (upd H a c) { s with heap:=h,toks:=t' }:=I.write (x:=a) (e:=a) mu (.inl rfl) (λb q f z=>(g.2 b f).trans z) d new
def rX {b:List (Key×V)}{c:List (Key×Zt)}(z:⇑b<=sizeLine)(d:(a==sysModules)=false)(rel:KV b c)(e:h.DictOf (bZ P w) a c):
 cu P w I h a (.dK b):=⟨z,d,c,rel,e⟩
def II (S:A.units+ 1<cLine)(d:Inv X pins σ H s)(g:kb H a y v I)(M:RelV y u)(L:RelV v r)(h:∀D,Inv X pins σ I D->U () D):
 X⁻¹ A (setItem ↑a u r) U E s:=by
 rcases g with ⟨f,k,e,C,l,n⟩|⟨f,k,b,e,C,J,l,n⟩
 ·subst C n;let⟨z,m,O,rel,B⟩:=tQ d.aU e;let p:⇑O<=sizeLine:=by rw[<-⇑rel];rwa[z]
  let w:⇑(putK f k v)<=sizeLine:=by have:=dR f k v;ext
  rwa[wpAny_setItem_pairs (hsz:=p) (jw M) B λG i x=>h _ ?_]
  let Y:∃q,G.get? a\q:=let ⟨q,_,_,j,_⟩:=i;⟨q,j⟩
  rwa[kO d ([e]▸True.intro) x Y (rX w m (rel.put k L) i)]
 ·subst C n;cases (show u=Value.ref b from M);let⟨z,m,xs,rel,B⟩:=N8 d.aU e;let p:⇑xs<=sizeLine:=by rw[<-Paired.length rel];rwa[z]
  let w:⇑(putK f k v)<=sizeLine:=by have:=dR f k v;ext
  rwa[wpAny_setItem_heap (hsz:=p) (alr S) (lJ d.aU J) B λG i x=>h _ ?_]
  let⟨q,R,W,j,N,T,P,_,Q⟩:=i;rwa[kO d ([e]▸True.intro) x ⟨q,j⟩ ⟨w,m,_,(rel.put k J L).keeps λc ys F=>?_,q,R,W,j,N,T,P,Q⟩];rw[ao (cz F e (λz=>nomatch z))];rwa[F]
end
section
variable {X:Cx}{pins:List (Zs×Obj)}{σ:St}{H:Hp}{s:Zu}{a:Zs}{kvs:List (Key×V)}{k:Key}{u:Zt}{A:Around}{E:Zt->Zu->Prop}
def N9 {more:Zk}(I:Inv X pins σ H s)(e:H a\.dK kvs)(g:RelV (kV k) u)(l:bC kvs k\q)(p:more=[]\/∃x,more=[x])(h:∀c j,Inv X pins σ (upd H a (.dK (fJ kvs k))) j->RelV q c->Q c j):X⁻¹ A (call (.builtin "dict.pop") (↑a::u::more)) Q E s:=by
 let⟨z,r,m,rel,n⟩:=tQ I.aU e;let⟨c,y,f⟩:=fq.some_of (v:=q) (o:=valueAt m k) (by rw[<-l];rwa[rel.val k])
 let B:(keyPart u).isSome=true:=by
  cases k with
  |inl i=>let⟨t,b⟩:=(show ∃t,u=Value.int i t from g);subst b;rfl
  |inr x=>let⟨t,b⟩:=(show ∃t,u=Value.str x t from g);subst b;rfl
 let F:argsOk "dict.pop" ⟨↑a::u::more,[]⟩:=by
  rcases p with b|⟨x,b⟩
  ·subst b;rwa[PySem.F.args_dict_pop_2 _ _]
  ·subst b;rwa[PySem.F.args_dict_pop_3^_]
 refine alX ame n.typeIs PySem.F.entry_dict_pop F (meets_dict_pop_there (bZ X.prog X.w) a (jw g) more p B)
  ⟨m,c,n,by rw[<-⇑rel];rwa[z],y,λv d C=>h c _ ?_ f⟩
 let D:∃b,v.get? a\b:=let ⟨b,_,_,w,_⟩:=d;⟨b,w⟩
 rwa[kO I ([e]▸True.intro) C D (rX (ajO (LV kvs k) z) r (rel.drop k) d)]
def Te (I:Inv X pins σ H s)(e:H a\.dK kvs)(b:RelV (kV k) u)(l:bC kvs k=none)(h:∀c,Inv X pins σ H c->Q v c):
 X⁻¹ A (call (.builtin "dict.pop") [↑a,u,v]) Q E s:=by
 let⟨z,g,d,rel,f⟩:=tQ I.aU e;let m:valueAt d k=none:=fq.none_of (by rw[<-l];rwa[rel.val k])
 let j:(keyPart u).isSome=true:=by
  cases k with
  |inl i=>let⟨t,q⟩:=(show ∃t,u=Value.int i t from b);subst q;rfl
  |inr x=>let⟨t,q⟩:=(show ∃t,u=Value.str x t from b);subst q;rfl
 rwa[alX ame f.typeIs PySem.F.entry_dict_pop (PySem.F.args_dict_pop_3^_) (meets_dict_pop_default (bZ X.prog X.w) a (jw b) g j v) ⟨d,f,m,h _ (I.tok _)⟩]
end
def Tf (i:Expr):Prop:=∀b a,subscripted i false b a=operate [b,a] (getItem b a)
def Qu {env:Env}{value slice:Expr}{T id:String}(j:typeLookup (.type T) "__getitem__"=pure (some (.builtin id)))(k:Tf slice)(h:(P<|>w) A (eval value env) (λo d=>(P<|>w) A (eval slice env) (λi a=>a.TypeIs o T/\(P<|>w) A (getItem o i) Q E a) E d) E s):
 (P<|>w) A (eval (.Subscript value slice p) env) Q E s:=by
 rwa[Subscript_ (akM h (λo d e=>akM e (λi a b=>?_) λ_ _ x=>x) λ_ _ x=>x)];let⟨g,b⟩:=b;rwa[ajx ?_];rwa[ajx (wpAny_specialOf g j ?_)]
 let fin:(P<|>w) A (subscripted slice false o i) (λr c=>(P<|>w) A (letTemporaryGo value o r >>=λ_=>pure r) Q E c) E a:=by rw[k o i];rwa[wpAny_operating (akM b (λr c f=>ajx (wpAny_letTemporaryGo (ajG f))) λ_ _ x=>x)]
 first
  |rwa[ajG (ajx fin)]
  |rwa[ajx (ajG (ajx fin))]
  |rwa[ajx fin]
def Ee {c:Zc}(I:Inv X o D H s)(g:dv H a q c):s.TypeIs ↑a "dict":=by
 rcases g with ⟨d,k,e,_,_⟩|⟨d,k,b,e,_,_,_⟩
 ·let⟨_,_,h,_,f⟩:=nZ I.aU e;rwa[f.typeIs]
 ·let⟨_,_,i,_,f⟩:=n5 I.aU e;rwa[f.typeIs]
inductive Tg (x y:V)(H:Hp)(Q:VK):Prop
 |mk (a:Zs)(v:V):x=↑a->dv H a y (some v)->Q v H->Tg x y H Q
def Xx (td d:TE):TE:=λ a H Q=>td a H λx c=>d a c λy b=>Tg x y b Q
def ab0 (e td:TE):TE:=λ c H Q=>e c H λy d=>td c d λx b=>∃a o,x=↑a/\dv b a y o/\Q (.bl o.isSome) b
def Qw (e td:TE):TE:=λ c H Q=>e c H λy d=>td c d λx b=>∃a o,x=↑a/\dv b a y o/\Q (.bl (!o.isSome)) b
inductive Ti (x y v:V)(H:Hp)(N:Hp->Prop):Prop
 |mk (a:Zs)(H4:Hp):x=↑a->kb H a y v H4->N H4->Ti x y v H N
def Xy (td e b:TE):TS:=λD a H=>b a H λv d=>td a d λx c=>e a c λy f=>Ti x y v f (D.nx a)
section
variable {X:Cx}{o i value:Expr}{pos pos':Pos}{td ty tv:TE}
def tR (p:X.A.units+ 1<cLine)(m:PE X o td)(z:PE X i ty)(t:Tf i):PE X (.Subscript o i pos) (Xx td ty):=by intro b s f H Q I h;rwa[Qu PySem.F.slot_dict_getitem.lookup t (bq (m b s f H _ I h) λu q ζ=>?_)];let⟨x,n,j,r,l⟩:=ζ;rwa[bq (z b q f n _ j l) λF D ζ=>?_];let⟨y,A,d,w,a,v,ex,g,B⟩:=ζ;subst ex;obtain rfl:u=Value.ref a:=r;rwa[Ee d g,IH p d g w λC E k c=>⟨v,A,k,c,B⟩]
def o5 (n:X.A.units+ 1<cLine)(v:PE X i ty)(l:PE X o td):PC X .In i o (ab0 ty td):=by
 intro b s c H Q I h;rwa[bq (v b s c H _ I h) λC p ζ=>?_];let⟨y,m,d,t,j⟩:=ζ;rwa[bq (l b p c m _ d j) λu A ζ=>?_];let⟨x,w,k,q,a,r,ex,g,z⟩:=ζ
 subst ex;obtain rfl:u=Value.ref a:=q;rwa[abZ n k g t λB f=>⟨.bl r.isSome,w,f,2,z⟩]
def rY (n:X.A.units+ 1<cLine)(v:PE X i ty)(l:PE X o td):PC X .NotIn i o (Qw ty td):=by
 intro b s c H Q I h;rwa[bq (v b s c H _ I h) λC p ζ=>?_];let⟨y,m,d,t,j⟩:=ζ;rwa[bq (l b p c m _ d j) λu A ζ=>?_];let⟨x,w,k,q,a,r,ex,g,z⟩:=ζ
 subst ex;obtain rfl:u=Value.ref a:=q;rwa[Qt n k g t λB f=>⟨.bl (!r.isSome),w,f,2,z⟩]
def jO (z:X.A.units+ 1<cLine)(t:PE X o td)(F:PE X i ty)(J:PE X value tv)(C:swapsWith value (some (.Subscript o i pos')) pos.line X.env=pure false):
 PS X (.Assign [.Subscript o i pos'] value pos) (Xy td ty tv):=by intro b s c H D I h;rwa[wpAny_Assign_Subscript (bq (J b s c H _ I h) λr A ζ=>?_) C];let⟨v,w,f,q,m⟩:=ζ;rwa[bq (t b A c w _ f m) λu l ζ=>?_];let⟨x,G,p,B,L⟩:=ζ;rwa[bq (F b l c G _ p L) λP O ζ=>?_];let⟨y,N,j,E,a,k,ex,g,n⟩:=ζ;subst ex;obtain rfl:u=Value.ref a:=B;rwa[II z j g E q λM d=>⟨c,k,d,n⟩]
end
def Bk (h:Heap)(a:sysModules<h.objs.size):cu P w H (h.push ("dict">>>.dict #[])) h.objs.size (.dK []):=⟨aj8 _,aj2.mpr (akI (aj9 a)),[],.nil,Heap.DictOf.new h⟩
def LW (h:Heap)(a:sysModules<h.objs.size):cu P w H (h.push ("dict">>>.dict #[])) h.objs.size (.dT []):=⟨aj8 _,aj2.mpr (akI (aj9 a)),[],.nil,_,#[],(0),ajP _ rfl,⟨222⟩,22,akW⟩
def Tj:TE:=λ_ H Q=>∀p,H p=none->Q ↑p (upd H p (.dK []))
def Tn:TE:=λ_ H Q=>∀p,H p=none->Q ↑p (upd H p (.dT []))
section
variable {X:Cx}{pos:Pos}
def gw:PE X (.Dict [] [] pos) Tj:=λb s d H Q I h=>wpAny_Dict_empty ⟨↑↥s,_,I.laid (a:=↥s) (o:=.dK []) (t':=s.toks) (λ_ _ q=>ajB _ q) (ajE _) (Bk s.heap I.big),2,h _ (I.aU.fresh (ajE _))⟩
def qf:PE X (.Dict [] [] pos) Tn:=λb s d H Q I h=>wpAny_Dict_empty ⟨↑↥s,_,I.laid (a:=↥s) (o:=.dT []) (t':=s.toks) (λ_ _ q=>ajB _ q) (ajE _) (LW s.heap I.big),2,h _ (I.aU.fresh (ajE _))⟩
end
def Bl:List (TE×TE)->St->Hp->(List (V×V)->Hp->Prop)->Prop
 |[],_,H,Q=>Q [] H
 |(e,b)::r,a,H,Q=>e a H λx f=>b a f λy c=>Bl r a c λd g=>Q ((x,y)::d) g
abbrev VV:List (V×V)->List (Zt×Zt)->Prop:=Paired λp q=>RelV p.1 q.1/\RelV p.2 q.2
def Ob (X:Cx)(c:Pos)(keys:List (Option Expr))(values:Zr)(b:List (TE×TE)):Prop:=
 ∀(a:List (Zs×Obj))(s:Zu)(d:St)(H:Hp)(Q:List (V×V)->Hp->Prop),Inv X a d H s->Bl b d H Q->X⁻¹ X.A (evalPairs (pairTrees keys values X.env c)) (λg h=>∃e f,Inv X a d f h/\VV e g/\Q e f) X.xe s
def Qx:Ob X p [] [] []:=λa s b H Q I h=>pairTrees_nil_walk ⟨[],H,I,.nil,h⟩
def LX {k:Expr}{d:List (Option Expr)}{f:TE}{b:List (TE×TE)}(j:PE X k r)(E:PE X e f)(w:Ob X p d C b):
 Ob X p (some k::d) (e::C) ((r,f)::b):=λa s c H Q I h=>
 pairTrees_cons_walk (bq (j a s c H _ I h) λu z ⟨x,v,g,A,o⟩=>bq (E a z c v _ g o) λL m ⟨y,D,t,B,F⟩=>bq (w a m c D _ t F) λG J ζ=>by let⟨l,i,n,rel,q⟩:=ζ;rwa[⟨(x,y)::l,i,n,.cons ⟨A,B⟩ rel,q⟩])
def jo (a more:List (Key×V)):List (Key×V):=more.foldl (λacc b=>putK acc b.1 b.2) a
def KV.merge:∀{more:List (Key×V)}{rs:List (Key×Zt)}{a:List (Key×V)}{b:List (Key×Zt)},KV more rs->KV a b->KV (jo a more) (merged b rs):=by
 intro more rs a b r
 induction r generalizing a b with
 |nil=>intro q;rwa[q]
 | @cons p q f g h t c=>
   intro d
   let e:KV (putK a p.1 p.2) (stored b q.1 q.2):=by have:=d.put p.1 h.2;rw[<-h.1];rwa[this]
   rwa[c e]
theorem lX:∀(more a:List (Key×V)),⇑(jo a more)<=⇑a+ ⇑more
 |[],a=>by show ⇑a<=⇑a+ 0;ext
 |p::r,a=>by let b:=lX r (putK a p.1 p.2);let c:=dR a p.1 p.2;show ⇑(jo (putK a p.1 p.2) r)<=_;rw[aj1];ext
theorem wu {P:Program}{w:World}:∀{d:List (Key×V)}{g:List (Zt×Zt)},VV (d.map λf=>(kV f.1,f.2)) g->∃e,Carries (bZ P w) g e/\KV d e
 |[],_,r=>by ext r;rwa[[],True.intro,.nil]
 |p::d,_,r=>by
  cases r with
  | @cons a b as bs h t=>let⟨e,c,q⟩:=wu (P:=P) (w:=w) t;let⟨j,i⟩:=b;rwa[(p.1,i)::e,⟨jw h.1,2,c⟩,.cons ⟨2,h.2⟩ q]
def Xz (b:List (TE×TE)):TE:=λ f H Q=>∀p,H p=none->Bl b f (upd H p (.dK [])) λe c=>c p\.dK []/\∃a:List (Key×V),e=a.map (λd=>(kV d.1,d.2))/\⇑a<=15/\Q ↑p (upd c p (.dK (jo [] a)))
def Qy {keys:List (Option Expr)}{values:Zr}{d:List (TE×TE)}(h:Ob X p keys values d)(g:keys.all (·.isSome)=true)(B:⇑keys=⇑values)(n:keys≠[])(j:⇑keys<=15):PE X (.Dict keys values p) (Xz d):=by
 intro f s D H Q I q;let E:=I.aU.fresh (ajE ↥s);let r:=I.laid (a:=↥s) (o:=.dK []) (h':=s.heap.push ("dict">>>.dict #[])) (t':=s.toks) (λ_ _ q=>ajB _ q) (ajE _) (Bk s.heap I.big);rwa[wpAny_Dict_walk (knd:=bZ X.prog X.w) g B n j (bq (h f _ D _ _ r (q _ E)) λS R ζ=>?_)];let⟨O,T,l,rel,e,b,G,lk,M⟩:=ζ;subst G;let⟨A,c,rk⟩:=wu (P:=X.prog) (w:=X.w) rel;let⟨z,m,J,v,F⟩:=tQ l.aU e;ext v;rwa[⟨A,c,F,λk i C=>⟨↑↥s,152,M⟩⟩]
 let y:⇑(jo [] b)<=sizeLine:=by let x:=lX b [];rw[akL]at x;rw[sizeLine_eq];ext
 let L:∃q,k.get? ↥s\q:=let ⟨q,_,_,u,_⟩:=i;⟨q,u⟩
 rwa[kO l ([e]▸True.intro) C L (rX y m (rk.merge .nil) i)]
structure M1 (X:Cx)(o:Expr)(m:Str)(apos:Pos)(e:Expr)(cW:Pos):Prop where
 base:attributeBase o m X.env (eval o X.env)=eval o X.env
 few:((backTo cW (starEach [e] X.env)).all (λx=>!x.1) && (backToKw cW (keywordEach [] X.env)).all (λx=>x.1.isSome)
  && decide (⇑([e]:Zr)+ ⇑([]:List Keyword)+ (if ([]:List Keyword).isEmpty then 0 else 1)<30))=true
 line:(apos.endLine==cW.line)=true
 trees:backTo cW (starEach [e] X.env)=[(false,eval e X.env)]
structure M2 (X:Cx)(o:Expr)(m:Str)(apos:Pos)(e f:Expr)(cW:Pos):Prop where
 base:attributeBase o m X.env (eval o X.env)=eval o X.env
 few:((backTo cW (starEach [e,f] X.env)).all (λx=>!x.1) && (backToKw cW (keywordEach [] X.env)).all (λx=>x.1.isSome)
  && decide (⇑([e,f]:Zr)+ ⇑([]:List Keyword)+ (if ([]:List Keyword).isEmpty then 0 else 1)<30))=true
 line:(apos.endLine==cW.line)=true
 trees:backTo cW (starEach [e,f] X.env)=[(false,eval e X.env),(false,eval f X.env)]
def Fj (H:Hp)(a:Zs):Prop:=(∃b,Rd H a (.dK b))\/∃b,Rd H a (.dT b)
def mQ (I:Inv X o D H s)(d:Fj H a):
 s.TypeIs ↑a "dict"/\(∀b,Value.ref a=↑b->∃c,s•b\c/\c.dict=none)/\(a==sysModules)=false:=by
 rcases d with ⟨h,e⟩|⟨h,e⟩
 ·let⟨_,g,k,_,f⟩:=nZ I.aU e;rwa[⟨f.typeIs,λb q=>?_,g⟩];ext q;let⟨c,_,_,j,i,_⟩:=f;rwa[c,j,i.2.1]
 ·let⟨_,g,l,_,f⟩:=n5 I.aU e;rwa[⟨f.typeIs,λb q=>?_,g⟩];ext q;let⟨c,_,_,j,i,_⟩:=f;rwa[c,j,i.2.1]
section
variable {X:Cx}{pins:List (Zs×Obj)}{σ:St}{H:Hp}{s:Zu}{a:Zs}{y d:V}{u r:Zt}{o:Zc}{A:Around}{E:Zt->Zu->Prop}
def To (t:A.units+ 1<cLine)(I:Inv X pins σ H s)(g:dv H a y o)(p:RelV y u)(h:∀n m,Inv X pins σ H m->RelV (o.getD .non) n->Q n m):
 X⁻¹ A (call (.builtin "dict.get") [↑a,u]) Q E s:=by
 rcases g with ⟨i,k,e,j,l⟩|⟨i,k,b,e,j,v,l⟩
 ·subst j;let⟨z,f,w,rel,c⟩:=nZ I.aU e;rwa[alX alp c.typeIs al8 (PySem.F.args_dict_get_2 _ _) (meets_dict_get (bZ X.prog X.w) a (jw p) f) ⟨_,c.mapOf,h _ _ (I.tok _) ?_⟩];rw[l];rwa[(rel.val k).getD rfl]
 ·subst j;cases (show u=Value.ref b from p);let⟨z,f,q,rel,c⟩:=n5 I.aU e;rwa[alX alp c.typeIs al8 (PySem.F.args_dict_get_2 _ _) (meetsH_dict_get (tupleKind (bZ X.prog X.w)) a b f) ⟨alr t,k,q,lJ I.aU v,c,h _ _ (I.tok _) ?_⟩];rw[l];rwa[(rel.val k).getD rfl]
def Tp (t:A.units+ 1<cLine)(I:Inv X pins σ H s)(g:dv H a y o)(p:RelV y u)(rd:RelV d r)(h:∀n m,Inv X pins σ H m->RelV (o.getD d) n->Q n m):
 X⁻¹ A (call (.builtin "dict.get") [↑a,u,r]) Q E s:=by
 rcases g with ⟨i,k,e,j,l⟩|⟨i,k,b,e,j,v,l⟩
 ·subst j;let⟨z,f,w,rel,c⟩:=nZ I.aU e;rwa[alX alp c.typeIs al8 (PySem.F.args_dict_get_3^_) (meets_dict_get_default (bZ X.prog X.w) a (jw p) f r) ⟨_,c.mapOf,h _ _ (I.tok _) ?_⟩];rw[l];rwa[(rel.val k).getD rd]
 ·subst j;cases (show u=Value.ref b from p);let⟨z,f,q,rel,c⟩:=n5 I.aU e;rwa[alX alp c.typeIs al8 (PySem.F.args_dict_get_3^_) (meetsH_dict_get_default (tupleKind (bZ X.prog X.w)) a b f r) ⟨alr t,k,q,lJ I.aU v,c,h _ _ (I.tok _) ?_⟩];rw[l];rwa[(rel.val k).getD rd]
end
inductive Fm (x:V)(H:Hp)(G:Zs->Prop):Prop
 |mk (a:Zs):x=↑a->Fj H a->G a->Fm x H G
def Tq (td e:TE):TE:=λ d H Q=>td d H λx c=>Fm x c λa=>e d c λy b=>∃o,dv b a y o/\Q (o.getD .non) b
inductive Ts (ty tx:TE)(σ:St)(x:V)(H1:Hp)(Q:VK):Prop
 |mk (a:Zs):x=↑a->Fj H1 a->(ty σ H1 λy H2=>tx σ H2 λz H3=>∃o,dv H3 a y o/\Q (o.getD z) H3)->Ts ty tx σ x H1 Q
def Tt (td c tx:TE):TE:=λ a H Q=>td a H λx b=>Ts c tx a x b Q
inductive Tv (a:Zs)(y:V)(H:Hp)(Q:VK):Prop
 |mk (kvs:List (Key×V))(k:Key)(v:V):H a\.dK kvs->y=kV k->bC kvs k\v->Q v (upd H a (.dK (fJ kvs k)))->Tv a y H Q
def Tw (td e:TE):TE:=λ c H Q=>td c H λx b=>Fm x b λa=>e c b λy d=>Tv a y d Q
inductive LY (a:Zs)(y z:V)(H:Hp)(Q:VK):Prop
 |mk (kvs:List (Key×V))(k:Key):H a\.dK kvs->y=kV k->(∀v,bC kvs k\v->Q v (upd H a (.dK (fJ kvs k))))->(bC kvs k=none->Q z H)->LY a y z H Q
def Tx (td e tx:TE):TE:=λ b H Q=>td b H λx c=>Fm x c λa=>e b c λy d=>tx b d λz f=>LY a y z f Q
section
variable {X:Cx}{o e f:Expr}{apos cW:Pos}{td ty tx:TE}
def LZ (v:X.A.units+ 1<cLine)(q:PE X o td)(C:PE X e ty)(m:M1 X o "get" apos e cW):PE X (.Call (.Attribute o "get" apos) [e] [] cW) (Tq td ty):=by intro b s j H Q I h;rwa[alR m.base m.few m.line akT alp PySem.F.type_dict_get (bq (q b s j H _ I h) λu w ζ=>?_)];let⟨x,t,i,z,a,ex,d,n⟩:=ζ;subst ex;obtain rfl:u=Value.ref a:=z;let⟨r,k,_⟩:=mQ i d;erw[r,k];rw[m.trees];rwa[akD rfl (ak9 (akw (bq (C b w j t _ i n) λL F ζ=>?_)))];let⟨y,B,p,A,G,g,D⟩:=ζ;rwa[ak2 ?_];rwa[To v p g A λE J l c=>⟨_,B,l,c,D⟩]
def mR (D:X.A.units+ 1<cLine)(A:PE X o td)(M:PE X e ty)(w:PE X f tx)(m:M2 X o "get" apos e f cW):PE X (.Call (.Attribute o "get" apos) [e,f] [] cW) (Tt td ty tx):=by
 intro b s i H Q I h;rwa[alR m.base m.few m.line akT alp PySem.F.type_dict_get (bq (A b s i H _ I h) λu E ζ=>?_)];let⟨x,C,j,F,a,ex,d,r⟩:=ζ;subst ex;obtain rfl:u=Value.ref a:=F;let⟨B,k,_⟩:=mQ j d;erw[B,k];rw[m.trees]
 rwa[akD rfl (ak9 (akw (bq (M b E i C _ j r) λT q ζ=>?_)))];let⟨y,L,v,G,N⟩:=ζ;rwa[ akw (bq (w b q i L _ v N) λU S ζ=>?_)];let⟨z,n,p,J,R,g,t⟩:=ζ;rwa[ak2 ?_]
 rwa[Tp D p g G J λP O l c=>⟨_,n,l,c,t⟩]
def L0 (t:PE X o td)(D:PE X e ty)(m:M1 X o "pop" apos e cW):PE X (.Call (.Attribute o "pop" apos) [e] [] cW) (Tw td ty):=by intro b s i H Q I h;rwa[alR m.base m.few m.line akT ame PySem.F.type_dict_pop (bq (t b s i H _ I h) λu A ζ=>?_)];let⟨x,z,g,B,a,ex,d,q⟩:=ζ;subst ex;obtain rfl:u=Value.ref a:=B;let⟨w,j,_⟩:=mQ g d;erw[w,j];rw[m.trees];rwa[akD rfl (ak9 (akw (bq (D b A i z _ g q) λO L ζ=>?_)))];let⟨y,M,r,C,n,k,v,F,E,l,G⟩:=ζ;rwa[ak2 ?_];subst E;rwa[N9 r F C l (.inl rfl) λJ N p c=>⟨v,_,p,c,G⟩]
def vh (G:PE X o td)(S:PE X e ty)(F:PE X f tx)(m:M2 X o "pop" apos e f cW):PE X (.Call (.Attribute o "pop" apos) [e,f] [] cW) (Tx td ty tx):=by
 intro b s j H Q I h;rwa[alR m.base m.few m.line akT ame PySem.F.type_dict_pop (bq (G b s j H _ I h) λu N ζ=>?_)];let⟨x,L,n,O,a,ex,d,C⟩:=ζ;subst ex;obtain rfl:u=Value.ref a:=O;let⟨J,t,_⟩:=mQ n d;erw[J,t];rw[m.trees]
 rwa[akD rfl (ak9 (akw (bq (S b N j L _ n C) λZ B ζ=>?_)))];let⟨y,R,E,q,V⟩:=ζ;rwa[ akw (bq (F b B j R _ E V) λU Y ζ=>?_)];let⟨z,A,p,P,c,k,r,T,D,M⟩:=ζ;rwa[ak2 ?_]
 subst T
 cases l:bC c k with
 |some v=>exact N9 p r q l (.inr ⟨U,2⟩) λW w g i=>⟨v,_,g,i,D v l⟩
 |none=>exact Te p r q l λw g=>⟨z,A,g,P,M l⟩
end
section
variable {X:Cx}{pins:List (Zs×Obj)}{σ:St}{H:Hp}{s:Zu}{h':Heap}
def Inv.Bm {fp:Zn}{o:HO}{t':Nat}(I:Inv X pins σ H s)(k:∀b u,b∉fp->s•b\u->h'.get? b\u)(f:∀b∈fp,p9 X pins H b)(h:↥s<=a)(new:cu X.prog X.w (upd H a o) h' a o):Inv X pins σ (upd H a o) { s with heap:=h',toks:=t' }:=by
 let g:=I.aU.fresh h;let i:∀b u,H b\u->b∉fp:=λb u e z=>by rw[(f b z).1]at e;ext e
 refine I.step (g':=s.gens) (d':=s.drawn) (ch:=fp) (λb d=>⟨(f b d).2.2.2.1,(f b d).2.1,(f b d).2.2.2.2.1,(f b d).2.2.2.2.2⟩) (λb o _ _ hc e _=>k b o hc e) (λb o _ _ hc e _=>⟨o.slots,k b o hc e⟩)
  (λb o _ e n=>[ao (aj9 (aj7 (ajR e) h))]▸n) (λb o hc e=>⟨o,k b o hc e⟩) (λb l e=>[ao (aw e g)]▸e)
  (λb o u e=>[ao (aw e g)]▸e) (λb x e=>⟨#[],by rw[ao (aw e g),e];simp⟩) (λm t=>?_) (λb u e=>?_) I.bare
 ·let⟨o,p,w,j,r⟩:=t;rwa[o,p,w,k _ o (λz=>(f _ z).2.1 rfl) j,r]
 ·cases d:b=a
  ·subst d;rw[aj]at e;ext e;rwa[new]
  ·rw[ao d]at e;refine(I.aU b u e).fO (λc v hc q=>k c v ?_ q) (λc q=>[ao (aw q g)]▸q) λc l q=>by rw[ao (aw q g)];rwa[q]
   rcases hc with z|z
   ·rw[z];rwa[i b u e]
   ·rwa[i c _ z]
end
namespace En
variable {prog:Program}{w:World}{A:Around}{E:Zt->Zu->Prop}{s:Zu}
theorem IJ {it:Zs}{fp:Zn}{P:Nat->Zt->Prop}{St:Nat->Heap->Prop}{Q:Zl->Zu->Prop}(D:Draws prog w A.in1 it fp n P St)(he:IsEnum s.heap a it z v)(IK:St i s.heap)(o6:i<n)(o8:a≠it)(YC:a∉fp)(hQ:∀x h' I,P i x->IsEnumOut h' a it (z+ 1) x ↥s->St (i+ 1) h'->h'.get? ↥s\("tuple">>>.seq #[.int z I,x])->(∀b o,b≠a->b≠it->s•b\o->h'.get? b\o)->Q (some ↑↥s) { s with heap:=h',toks:=I+ 1 }):
 (prog<|>w) A (pyNext ↑a) Q E s:=by
 let hT:s.TypeIs ↑a "enumerate":=⟨_,he,2⟩;unfold pyNext;rwa[ajx (wpAny_attempt (akS (name:=Str.ofString "__next__") hT F.slot_enumerate_next (akY F.slot_enumerate_next hT F.entry_enumerate_next ?_ (F.args_enumerate_next_1 _))))];let⟨U,g,d,ah2,os⟩:=s;show wpAny _ _ (field ↑a 2 >>=_) _ _ _;rwa[ajx (akA he rfl (x:=↑it) rfl (ajx (D.item i _ _ _ o6 IK λx j I hPx N h=>?_)))];replace h:Heap.SameBut it U j:=h;let r:IsEnum j a it z v:=(h.2 a o8).trans he;show wpAny _ _ (field ↑a 3 >>=_) _ _ ⟨j,g,d,I,os⟩;rwa[ajx (akA r rfl (x:=rawInt z) rfl ?_)];show wpAny _ _ (field ↑a 4 >>=_) _ _ ⟨j,g,d,I,os⟩;rwa[ajx (akA r rfl (x:=.none) rfl ?_)];show wpAny _ _ (mkInt z >>=_) _ _ ⟨j,g,d,I,os⟩;rwa[ajx (wpAny_mkInt ?_)];show wpAny _ _ (setField ↑a 3 (rawInt (z+ 1)) >>=_) _ _ ⟨j,g,d,I+ 1,os⟩;rwa[ajx (akO r (by simp) λH t f=>?_)];replace f:Heap.SameBut a j H:=f;replace t:IsEnum H a it (z+ 1) v:=t;show wpAny _ _ (setField ↑a 4 .none >>=_) _ _ ⟨H,g,d,I+ 1,os⟩;rwa[ajx (akO t (by simp) λl u e=>?_)];replace e:Heap.SameBut a H l:=e;replace u:IsEnum l a it (z+ 1) v:=u;show wpAny _ _ (newTuple [.int z I,x] >>=_) _ _ ⟨l,g,d,I+ 1,os⟩;rwa[ajx (wpAny_newTuple ?_)];let B:IsEnum (l.push ("tuple">>>.seq #[.int z I,x])) a it (z+ 1) v:=ajB _ u;generalize C:l.push ("tuple">>>.seq #[.int z I,x])=G at B;let Z:l.objs.size=U.objs.size:=by rw[e.1,f.1,h.1]
 let X:a<U.objs.size:=ajR he;let XA:G.get? U.objs.size\("tuple">>>.seq #[.int z I,x]):=by rw[<-C,<-Z];rwa[ajP _ rfl]
 let V:∀b o,b≠a->b≠it->U.get? b\o->G.get? b\o:=λb o c Y W=>by rw[<-C];rwa[ajB _ (e.extBut b o c (f.extBut b o c (h.extBut b o Y W)))]
 let T:St (i+ 1) G:=D.frame _ _ _ N λb W o y=>by
  let c:b≠a:=λq=>YC (q ▸ W)
  rw[<-C];rwa[ajB _ (e.extBut b o c (f.extBut b o c y))]
 show wpAny _ _ (Builtin.SmallTypes.ownedTupleIsFree ↑a >>=_) _ _ ⟨G,g,d,I+ 1,os⟩;rw[Z];clear C u e t f r h N Z l H j;rwa[ajx ?_];unfold Builtin.SmallTypes.ownedTupleIsFree;rwa[ajx (akA B rfl (x:=.none) rfl (ajG ?_))];simp only[am5];rwa[ajx (amS (ajx (akA B rfl (x:=v) rfl (ajx (akO B (by simp) λO M m=>?_)))))];replace m:Heap.SameBut a G O:=m;replace M:IsEnum O a it (z+ 1) x:=M;show wpAny _ _ (Builtin.SmallTypes.ownedTupleHandOut ↑a ↑U.objs.size >>=_) _ _ ⟨O,g,d,I+ 1,os⟩;rwa[ajx ?_];unfold Builtin.SmallTypes.ownedTupleHandOut;rwa[ajx (akO M (by simp) λR L p=>?_)];replace p:Heap.SameBut a O R:=p;replace L:IsEnumOut R a it (z+ 1) x U.objs.size:=L;rwa[akO L (by simp) λS J k=>?_]
 replace k:Heap.SameBut a R S:=k;replace J:IsEnumOut S a it (z+ 1) x U.objs.size:=J;rwa[ajx (amV (ajG ⟨12,ajG (hQ x S I hPx J ?_ ?_ ?_)⟩))]
 ·exact D.frame _ _ _ T λb W o y=>by
   let c:b≠a:=λq=>YC (q ▸ W)
   rwa[k.extBut b o c (p.extBut b o c (m.extBut b o c y))]
 ·rwa[k.extBut _ _ (akP X) (p.extBut _ _ (akP X) (m.extBut _ _ (akP X) XA))]
 ·rwa[λb o c Y W=>k.extBut b o c (p.extBut b o c (m.extBut b o c (V b o c Y W)))]
def Qz {T newId:String}{self a:Zt}{kw:List (Str×Zt)}(f:typeLookup (.type T) "__init__"=pure (some (.builtin "object.__init__")))(e:Bind.madeBy (.type T)=pure (some newId))(c:(some newId !=some "object.__new__")=true):
 Meets (Builtin.«object.__init__» ⟨[self,a],kw⟩) (λ_ R s=>s.TypeIs self T/\R (.ok (.ret .none)) s):=by
 rwa[Meets.of_wp λprog w A R s d=>?_]
 let⟨g,b⟩:=d
 repeat (any_goals (first|assumption|wp_step))
 rwa[12,b]
def XB (a b:Zt):checkTypeCall "enumerate" ⟨[a],[("start",b)]⟩=pure ():=by kernel_rfl
def XC (a b:Zt):checkBuiltinCall "enumerate.__new__" ⟨[.type "enumerate",a],[("start",b)]⟩=pure ():=by kernel_rfl
theorem XE (a b c:Zt):argsOk "object.__init__" ⟨[a,b],[("start",c)]⟩:=by
 unfold argsOk;rw[signature?_of (id:="object.__init__") (n:=['_','_','t','i','n','i','_','_']) (o:=['t','c','e','j','b','o']) (by kernel_rfl) F.owner_object]
 kernel_rfl
end En
inductive XF (t:TT)(σ:St)(H:Hp)(Q:(Bool->Hp->Prop)):Prop
 |mk (G:Bool->Hp->Prop):t σ H G->(∀c H',G c H'->Q c H')->XF t σ H Q
def CXw (P:Program)(w:World):lH:=λa H s E e c=>∃(x C:Zs)(B:Heap)(d:Hp)(f:Zt),e=↑x/\c.os=s.os/\AllBare c.gens/\Heap.FlyingW B a x ↑C f c.heap/\Un (c9 a) [] H d s.heap c.heap/\dS P w d B/\(∀b o,s•b\o->H b=none->b∉c9 a->B.get? b\o)/\(∀b o,s•b\o->b∉c9 a->∃g,B.get? b\g)/\E ↑C none d
section
variable {X:Cx}{pos:Pos}
abbrev TJ:=St->Hp->Zh->VK->Prop
def PJ (X:Cx)(c:Zr)(t:TJ):Prop:=∀(a:List (Zs×Obj))(s:Zu)(b:St)(H:Hp)(acc:Zh)(Q:VK),Inv X a b H s->t b H acc Q->X⁻¹ X.A (joinParts (tx acc) (evalEach c X.env)) (EP X a b Q) X.xe s
def Tz:PJ X [] (λ b H acc Q=>⇑acc<=1000000/\Q (.str (tx acc)) H):=λa s b H acc Q I h=>joinParts_nil ⟨.str (tx acc),H,I.tok _,⟨12⟩,h.2⟩ ([IB]▸ajO h.1 ⋯)
def Fo {t:TJ}(n:PE X e r)(i:PJ X C t)(k:evalEach (e::C) X.env=eval e X.env::evalEach C X.env:=by rfl):
 PJ X (e::C) (λ c H acc Q=>r c H λv d=>∃l,v=.str (tx l)/\⇑acc+ ⇑l<=1000000/\t c d (acc++l) Q):=by
 intro b s c H acc Q I h;rw[k];rwa[joinParts_cons (bq (n b s c H _ I h) λv j ζ=>?_)];let⟨x,d,f,a,l,m,g,q⟩:=ζ;subst m;let⟨o,rfl⟩:=a;erw[5]
 ·rw[IE,IB,ajC];rwa[ajO g ⋯]
 ·rw[IE];rwa[i b j c d (acc++l) Q f q]
def IL {b:Expr}{t:TJ}(h:PJ X (e::b::C) t)(d:evalEach (e::b::C) X.env=eval e X.env::eval b X.env::evalEach C X.env):PE X (.JoinedStr (e::b::C) pos) (λ c H Q=>t c H [] Q):=by intro a s c H Q I q;rwa[JoinedStr_many ?_];have:=h a s c H [] Q I q;rw[d]at this;rwa[this]
def QB (j:PE X e r):PE X (.FormattedValue e (-1) none pos) (λ d H Q=>r d H λv c=>∃n:Int,v=.int n/\n.natAbs<10000000000/\Q (.str (tx (Bg n))) c):=by intro b s d H Q I h;rwa[FormattedValue_plain (bq (j b s d H _ I h) λv l ζ=>?_)];let⟨x,c,f,a,n,i,g,q⟩:=ζ;subst i;let⟨k,rfl⟩:=a;rwa[formatField_int_small (IG g) ?_];rwa[.str (tx (Bg n)),c,f.tok _,⟨_,by rw[Xv (toString n:Str)];rfl⟩,q]
abbrev Bn:Zk:=[.type "ValueError",.type "Exception",.type "BaseException",.type "object"]
end
def cu.get {o:HO}(x:cu P w H h a o):∃u,h.get? a\u:=by
 cases o with
 |lst c=>let⟨_,_,_,_,e⟩:=x;rwa[_,e]
 |tup c=>let⟨_,_,_,ob,e,_⟩:=x;rwa[_,e]
 |dK b=>let⟨_,_,_,_,o,_,_,e,_⟩:=x;rwa[_,e]
 |dT b=>let⟨_,_,_,_,o,_,_,e,_⟩:=x;rwa[_,e]
 |set S n=>let⟨o,_,_,_,e,_⟩:=x;rwa[_,e]
 |ins C dx fs=>let⟨_,_,_,e,_⟩:=x;rwa[_,e]
 |own y=>exact x
 |xd fs=>let⟨_,⟨_,_,_,e,_⟩,_⟩:=x;rwa[_,e]
 |fT lo i=>let⟨_,_,_,e⟩:=x;rwa[_,e]
 |cL ob u=>let⟨e,_⟩:=x;rwa[_,e]
 |fU d=>rwa[_,show h.get? a=some _ from x]
 |met f y=>rwa[_,show h.get? a=some _ from x]
 |ext g=>let⟨_,e,_⟩:=x;rwa[e]
def GQ (x C:Zs)(h:Heap):Prop:=∃a b,h.get? x\a/\a.cls=↑C/\a.data=.fields b
def ExO (x C:Zs):HO:=.ext (GQ x C)
def Thr (X:Cx)(a:List (Zs×Obj))(g:St)(d:Hp)(x C:Zs)(s:Zu):Prop:=
 ∃(B:Heap)(c:Hp)(s1:Zu)(e:Zt),Inv X a g c s1/\s.os=s1.os/\AllBare s.gens/\Heap.FlyingW B X.stack x ↑C e s.heap/\Un (c9 X.stack) [] c d s1.heap s.heap/\dS X.prog X.w d B/\(∀b o,s1•b\o->c b=none->b∉c9 X.stack->B.get? b\o)/\(∀b o,s1•b\o->b∉c9 X.stack->∃f,B.get? b\f)
section
variable {X:Cx}{pins:List (Zs×Obj)}{σ:St}{x:Zs}{s:Zu}
def Inv.Oc {s1:Zu}(I:Inv X pins σ H s1){b:Zs}(c:b∈c9 X.stack):∃o,s1•b\o/\∀a,o.data≠.fields a:=by let⟨_,o,e,n⟩:=I.stack.mem c;rwa[o,e,n]
abbrev Cx.zo (X:Cx) (x:Zs):Cx:={ X with A:=X.A.mark (some ↑x),calm:=false,xe:=λ_ _=>False }
def Inv.zo (I:Inv X pins σ H s)(x:Zs):Inv (X.zo x) pins σ H s:=⟨⟨I.ok.mod,I.ok.kind,I.ok.glob,I.ok.blt,I.ok.above,I.ok.inj,I.ok.has,I.ok.A0,(λz=>by ext z),I.ok.frames,I.ok.EV,I.ok.ND,I.ok.bs,I.ok.rP,I.ok.uZ,I.ok.x3,I.ok.jC,I.ok.uz⟩,I.os,I.bare,I.base,I.loc,I.cell,I.free,I.hM,I.pin,I.aU,I.len⟩
def Inv.AQ (ok:X.Ok)(I:Inv (X.zo x) pins σ H s):Inv X pins σ H s:=⟨ok,I.os,I.bare,I.base,I.loc,I.cell,I.free,I.hM,I.pin,I.aU,I.len⟩
def tS {M:Model}(I:Inv X pins σ H s)(Z:X.N.Nodup)(L:X.N[i]?\f)(n:X.env.scope.names.lookup f=some .local)(h:∀G,Inv X pins (σ.set i none) H G->U () G):wpAny M A (do bindName X.env f .none;unbindBehindTheSuite X.env f p) U E s:=by
 let⟨m,V,T⟩:=id I.loc;let u:(X.env.scope.kind==.class || (X.env.scope.kind==.module && X.env.locals !=X.env.globals))=false:=by rw[I.ok.kind];rfl
 let t:i < ⇑σ:=by rw[I.len];rwa[(ajy.mp L).1]
 rwa[wpAny_nameGoes_keeps n V u λh' v D l=>?_]
 let g:∀b o,X.e8.heap.get? b\o->b≠X.env.locals:=λb o e=>aj9 (aj7 (ajR e) I.ok.above)
 rwa[h _ ⟨I.ok,I.os,I.bare,⟨λb o e k B n=>(l.2 b (g b o e)).trans (I.base.keep b o e k B n),λb o e k B n=>?_,I.base.free,λb o e n=>?_,I.base.iJ,I.base.hJ,I.base.iK⟩,⟨_,D,λj y O r w Y=>?_⟩,λy c e=>?_,I.free,I.hM,λa S=>?_,λb Q e=>?_,by simpa using I.len⟩]
 ·let⟨P,r⟩:=I.base.slot b o e k B n;rwa[P,(l.2 b (g b o e)).trans r]
 ·let⟨W,r⟩:=I.base.there b o e n;rwa[W,(l.2 b (g b o e)).trans r]
 ·cases F:j=i
  ·subst F;rw[akh t]at w;ext w
  ·rw[aky (akI F)]at w;let⟨R,N,q⟩:=T j y O r w Y;erw[R,N];rcases q with ⟨k,e⟩|⟨k,c,e,z⟩
   ·rwa[.inl ⟨k,?_⟩];have:y≠f:=λe=>F (u0 Z r (e ▸ L))
    simp[this,e]
   ·rwa[.inr ⟨k,c,e,z.sameBut l (I.ml y c e)⟩]
 ·let⟨J,z⟩:=I.cell y c e;rwa[J,z.sameBut l (I.ml y c e)]
 ·let⟨e,k,ne,nf,d⟩:=I.pin a S;rwa[(l.2 a.1 ne).trans e,k,ne,nf,d]
 ·rwa[(I.aU b Q e).fO (λc J hc q=>(l.2 c ?_).trans q) (λ_ q=>q) λ_ _ q=>q]
  rintro rfl;rcases hc with rfl|hc
  ·rw[I.free]at e;ext e
  ·rw[I.free]at hc;ext hc
end
abbrev XR:=Zs->St->Hp->Prop
def XP (X:Cx)(a:List (Zs×Obj))(R:XR)(e:Zt)(s:Zu):Prop:=∃x C b H,e=↑x/\Thr X a b H x C s/\R C b H
abbrev TH:=Ends->Zs->St->Hp->Prop
def GQ.XG {M:Model}{x:Zs}(p:GQ x a h):PySem.W.Looks M h (typeOf ↑x) ↑a:=by let⟨o,_,c,b,_⟩:=p;rwa[b ▸ (PySem.W.Looks.ld c).andThen .now]
end L2
namespace L2
open PySem.Calls PySem.W Builtin Builtin.ObjectAttr Builtin.Getset_descriptor
structure ab1 (K:Za1)(C:Zs):Prop where
 ga:findIn K ↑C "__getattribute__"=some (some (.builtin "BaseException.__getattribute__"))
 gt:findIn K ↑C "__getattr__"=some none
 cl:isClsIn K C=true
 at_:findIn K ↑C "__class__"=some (some (.builtin "object.__class__"))
 gs:specialIn K (.builtin "object.__class__") "__get__"=some (some (.builtin "getset_descriptor.__get__"))
 tk:takesIn K (.builtin "object.__class__")\true
 mo:mroIn K C (.type "object")\true
 be:subIn K ↑C (.type "BaseException")\true
variable {A:Around}{E:Zt->Zu->Prop}{x C:Zs}
theorem IQ {M:Model}{g:Array GenState}{d:Drawn}{t:Nat}{os:OsState}(e:Looks M h (typeOf ↑x) ↑C)(b:Looks M h (isSubtype ↑C (.type "BaseException")) true)(f:U () ⟨h,g,d,t,os⟩):
 wpAny M A (checkBuiltinCall "BaseException.__getattribute__" ⟨[↑x,v],[]⟩) U E ⟨h,g,d,t,os⟩:=by
 let a:builtinKind "BaseException.__getattribute__"=some .slot:=⋯
 let hsplit:splitId "BaseException.__getattribute__"=some ("BaseException","__getattribute__"):=⋯
 let i:=F.args_bexc_ga ↑x v;let c:Looks M h (isInstance ↑x (.type "BaseException")) true:=e.andThen b;simp only[checkBuiltinCall,a,hsplit];rwa[ajx (c.at ?_)]
 repeat (any_goals (first|assumption|wp_step))
def vOf:V->Zl
 |.ref a=>some ↑a
 |.ty n=>some (.type n)
 |_=>none
end L2
namespace L2
section
variable {P:Program}{w:World}{K:Za1}{mg:Str->Zl}{base:Heap}
theorem rT.okN {h:lH}{qual:Str}{st:Stmt}{fd:FuncData}{e:Zp}{k:Nat}{sp:Sp}(F:rT K x qual st a fd)(S:aP Z e (az st))(len:∀c H Q E,sp c H Q E->⇑c=⇑e)(d:∀(b:Zt) (A:Around) (outer:Zq) (s:Zu) (H:Hp) (c:Zb) (Q:VK) (E:XK),cR k (A.deeper (envOfC qual (az st) ↥s a b))->sp c H Q E->
  ∃t,jM (cK h P w K mg base Z qual (az st) a b A outer s H E).uA (cY st) t/\t { nx:=λ_ m=>Q .non m,rt:=Q } (start Z c) H):dP P w K mg base h (k+ 1) a fd e sp:=by
 let⟨o,q,kV,doc,pm,p,b,ct,n,rfl,lk,g⟩:=F.ex;rwa[AO lk g S len λA outer s H c Q E l f=>?_]
 let⟨t,j,i⟩:=d b A outer s H c Q E l f;rwa[t,j.uA,i]
end
def Bo (k:TT)(g:TE)(e:St)(Q:VK)(J:It)(h:Hp):Prop:=∃W:Nat->Nat->Zb->Hp->Prop,(∃m,W 0 m [] h)/\∀i m ys a,W i m ys a->
 (J.stop i a/\⇑ys<=sizeLine/\∀D,a D=none->Q ↑D (upd a D (.lst ys)))\/
 (J.go i a/\⇑ys<sizeLine/\∀x f,J.uB i a x f->k (some x::e) f λb d=>match b with
  |true=>g (some x::e) d λy j=>∃c,c<m/\W (i+ 1) c (ys++[y]) j
  |false=>∃c,c<m/\W (i+ 1) c ys d)
def o9 (b:TI)(e:St->St)(d:TT)(c:TE):TE:=λ a H Q=>b a H (Bo d c (e a) Q)
def L1 {x:Int}(b:0<=x)(a:x<=100000):¬(!Builtin.List.listFitsIndex x)=true:=by
 have:Builtin.List.listFitsIndex x=true:=by unfold Builtin.List.listFitsIndex;simp;ext
 cbv
def TB (x:Int)(a:Zt):Zm->Zm:=λxs=>have k:=if x<0 then (x+ ((xs.size:Nat):Int)).toNat else min x.toNat xs.size;(xs.extract 0 k).push a++xs.extract k
def IU (l:Zs)(a:Zk)(n:Nat)(x:Int)(t:Tok)(b:Zt)(e:0<=x)(d:x<=100000)(c:a.toArray.size<=sizeLine):
 Meets (Builtin.«list.insert» ⟨[↑l,.int x t,b],[]⟩) (λ_ R s=>s•l\{ cls:=.type "list",dict:=none,data:=.seq a.toArray n,slots:=#[] }/\R (.ok (.ret Value.none)) { s with heap:=s.heap.update l (Obj.mapSeq (TB x b)),toks:=s.toks }):=PySem.AutoListH.list_insert_list_int_val_1 l a.toArray n x t b (L1 e d) c
def QC {w':Zt}(b:i<=⇑N):TB (i:Int) w' N.toArray=(N.take i++[w']++N.drop i).toArray:=by
 let a:(if (i:Int)<0 then ((i:Int)+ ((N.toArray.size:Nat):Int)).toNat else min (i:Int).toNat N.toArray.size)=i:=by rw[ajY ∅,ajT,aka];ext
 show (N.toArray.extract 0 (if (i:Int)<0 then ((i:Int)+ ((N.toArray.size:Nat):Int)).toNat else min (i:Int).toNat N.toArray.size)).push w'++N.toArray.extract (if (i:Int)<0 then ((i:Int)+ ((N.toArray.size:Nat):Int)).toNat else min (i:Int).toNat N.toArray.size)=_;rw[a];apply Array.ext';simp[List.extract_eq_take_drop];rwa[alE ([akx]▸ajE _)]
section
variable {X:Cx}
inductive Fq (x:V)(vs:Zb)(H:Hp)(Q:VK):Prop
 |mk (l:Zs)(xs:Zb)(i:Nat)(y:V):x=↑l->vs=[.int i,y]->H l\.lst xs->⇑xs<sizeLine->i<=⇑xs->i<=100000->Q .non (upd H l (.lst (xs.take i++[y]++xs.drop i)))->Fq x vs H Q
theorem yl:Fe X "list.insert" Fq:=by
 intro j s L H x D v N Q I w o h;let⟨l,xs,i,y,rfl,rfl,g,p,G,m,q⟩:=h;ext w;let⟨u,b,rfl,⟨t,rfl⟩,A⟩:=vals2 o;let⟨z,a,n,r,E,e⟩:=I.qe g;let rl:=⇑r
 let c:a.toArray.size<=sizeLine:=by rw[ajT,<-rl];rwa[alm p]
 let B:Vals (xs.take i++[y]++xs.drop i) (a.take i++[b]++a.drop i):=((r.take i).append (.cons A .nil)).append (r.drop i)
 let hlen:⇑(xs.take i++[y]++xs.drop i)<=sizeLine:=by simp only[ajC,ake,akx,aj1,akL];ext
 let J:=I.Bb (t':=s.toks) g e (QC (w':=b) (show i<=⇑a by omega)) B hlen;let d:(0:Int)<=(i:Int):=Int.natCast_nonneg i;let f:(i:Int)<=100000:=∅
 change (i:Int)=k at d f J ⊢;let M:=IU l a n k t b d f c;rwa[amB F.slot_list_insert ⟨_,e,2⟩ F.entry_list_insert (F.args_list_insert_3^_) M ⟨e,5⟩];rwa[.non,_,J,2,q]
end
def mS (h:n∈B):∃i:Nat,B[i]?\n/\∀j,j<i->B[j]?≠some n:=by
 induction B with
 |nil=>ext h
 |cons a B b=>
  cases e:a=n
  ·rwa[(0),by rw[e];rfl,λj c=>∅]
  ·let⟨i,f,d⟩:=b ((ajS.mp h).resolve_left (akI e));rwa[⟨i+ 1,f,λj c=>?_⟩]
   cases j with
   |zero=>exact λz=>e (Za0 z)
   |succ j=>exact d j ∅
section
variable {X:Cx}
inductive Od (x y:V)(H:Hp)(Q:VK):Prop
 |mk (a b:Zs)(ns ms:Zg):x=↑a->y=↑b->H a\.lst (au ns)->H b\.lst (au ms)->Q (.bl (decide (ns=ms))) H->Od x y H Q
def QD (i:X.A.units<cLine):fW X (compareOp .Eq) Od:=by
 intro k s D H x y v u Q I w A h;let⟨a,b,ns,ms,rfl,rfl,B,p,q⟩:=h;ext w;ext A;let⟨r,d,f,_⟩:=I.list (aF.of B);let⟨m,l,c,_⟩:=I.list (aF.of p);let n:=⇑d;let C:=⇑l;rw[aJ]at n C;cases g:⇑ns=⇑ms
 ·rwa[SeqAt.eq_listAt (e:=λj=>decide (ns[j]?=ms[j]?)) f.isList c.isList (by cbv) i (λj t o=>yg d l j t o) ⟨.bl (decide (ns=ms)),H,I,5,q⟩];show _=Value.bool (decide (ns=ms))
  congr 1
  rw[<-all_eq,ajT,<-n];simp[g]
 ·let e:decide (ns=ms)=false:=akj (λz=>g (by rw[z]));rw[e]at q;rwa[SeqAt.eq_list_lengthsAt f.isList c.isList ?_ i ⟨.bl false,H,I,2,q⟩]
  cbv
end
def fT (lo:Int)(n:Nat):Zg:=(~~~n).map λi:Nat=>lo+ (i:Int)
def pe (lo:Int)(n:Nat):⇑(fT lo n)=n:=by unfold fT;cbv
def TC {lo:Int}(h:i<n):(fT lo n)[i]?\(lo+ (i:Int)):=by unfold fT;rw[aj0,amv h];rfl
theorem Bp:∀(zs:Zg)(us:Zk),⇑us=⇑zs->(∀(i:Nat)(z:Int)(u:Zt),zs[i]?\z->us[i]?\u->∃t,u=.int z t)->Vals (au zs) us
 |[],[],_,_=>.nil
 |z::zs,u::us,a,h=>.cons (h 0 z u rfl rfl) (Bp zs us (by simpa using a) λi z u c b=>h (i+ 1) z u c b)
 |[],_::_,a,_=>by simp at a
 |_::_,[],a,_=>by simp at a
def GU {lo:Int}{acc:Zm}(h:ItemsOf (λi v=>∃t,v=Value.int (lo + (i:Int)* 1) t) acc n):Vals (au (fT lo n)) acc.toList:=by
 rwa[Bp _ _ ?_ λi z u a b=>?_]
 ·rw[pe,alz];rwa[h.1]
 ·let c:i<n:=by have:=(ajy.mp a).1;rw[pe]at this;rwa[this]
  rw[TC c]at a;let⟨t,e⟩:=h.2 i u (by rw[<-ak4];rwa[b]);rwa[t,by rw[e,<-Za0 a,Int.mul_one]]
section
variable {X:Cx}{a:Expr}{ta:TA}{p p2 pos ym:Pos}
def ab2 (ta:TA):TE:=λ e H Q=>ta e H λd c=>∃j:Nat,d=[.int j]/\j<=10000/\∀l,c l=none->Q ↑l (upd c l (.lst (au (fT 0 j))))
def list_range {Q:VK}{lo:Int}{t u v:Tok}(k:X.calm=true)(I:Inv X o D H s)(A:0<=lo)(m:lo<=10000)(B:0<=z)(y:z<=10000)(q:∀l,H l=none->Q ↑l (upd H l (.lst (au (fT lo (z - lo).toNat))))):X⁻¹ X.A (call (.type "list") [↑↥s]) (EP X o D Q) X.xe { s with heap:=s.heap.push ("range">>>.fields #[.int lo t,.int z u,.int 1 v]),toks:=n }:=by
 let i:Inv X o D H { s with heap:=s.heap.push ("range">>>.fields #[.int lo t,.int z u,.int 1 v]),toks:=n }:=I.kept λb c e=>ajB _ e
 let g:Builtin.Range.rangeSize lo z 1=(((z - lo).toNat:Nat):Int):=by rw[rangeSize_one];split <;> ext
 rwa[call_list_range (n:=(z - lo).toNat) (I.ok.hd k) (IsRange.new ..) (small_one ∅ ∅ ∅ ∅) g ∅ λx h f j kp w hit=>?_]
 rwa[⟨↑_,_,i.laid (t':=h) (o:=.lst (au (fT lo (z - lo).toNat))) kp (ajE _) ⟨5,f.toList,j,GU hit,5⟩,2,q _ (i.aU.fresh (ajE _))⟩]
 ·rw[aJ,pe];rwa[ajO (show (z - lo).toNat<=10000 by omega) ⋯]
 ext
def qT (x:X.calm=true)(g:Gl X "list")(f:X.mg "list"=none)(l:Gl X "range")(v:X.mg "range"=none)(w:PA X [a] ta)(o:starEach [a] X.env=[(false,eval a X.env)]:=by rfl)(d:starEach [.Call (.Name "range" p) [a] [] pos] X.env=[(false,eval (.Call (.Name "range" p) [a] [] pos) X.env)]:=by rfl):PE X (.Call (.Name "list" p2) [.Call (.Name "range" p) [a] [] pos] [] ym) (ab2 ta):=by
 intro c s u H Q I h;rwa[akH (gJ I g f boot_list ?_)];rwa[aks ?_ d rfl];rw[d];show wpAny _ _ (spliced ((false,eval (.Call (.Name "range" p) [a] [] pos) X.env)::backTo ym [])) _ _ s;rwa[akw ?_];rwa[Call_ (gJ I l v boot_range (aks (bq (w pos c s u H _ I h) λB A ζ=>?_) o rfl))];let⟨y,z,k,i,m⟩:=ζ;let⟨j,e,C,q⟩:=m;subst e
 cases i with
 |cons r n=>ext n;let⟨t,rfl⟩:=r;rwa[call_range_1 (ak2 ?_)];rwa[list_range x k ∅ ∅ ∅ ∅ (by simpa using q)]
end
def fk (H:Hp)(rs:Zn)(rows:Za3):Prop:=⇑rs=⇑rows/\∀(i:Nat)(r:Zs)(a:Zg),rs[i]?\r->rows[i]?\a->H r\(.lst (au a))
def TabAt (H:Hp)(a:Zs)(rows:Za3):Prop:=∃rs:Zn,H a\.lst (rs.map V.ref)/\fk H rs rows
def fk.same {rs:Zn}{rows:Za3}(h:fk H rs rows)(s:av H I):fk I rs rows:=⟨h.1,λi r ns b a=>s^h.2 i r ns b a⟩
def TabAt.same {rows:Za3}(h:TabAt H a rows)(s:av H I):TabAt I a rows:=by let⟨rs,c,b⟩:=h;rwa[rs,s^c,b.same s]
def IV {rs:Zn}:∀{a:Zk},Vals (rs.map V.ref) a->a=rs.map Value.ref:=by
 induction rs with
 |nil=>intro a r;ext r;rfl
 |cons c rs b=>
  intro a r
  cases r with
  |cons e d=>ext e;rw[b d];rfl
def QF {a:Type} [DecidableEq a]{ns ms:List a}(h:⇑ns=⇑ms):(List.range ⇑ns).all (λj=>decide (ns[j]?=ms[j]?))=decide (ns=ms):=by
 rw[akQ,List.all_eq_true,akq];constructor
 ·intro b;rwa[alf λi=>?_]
  cbv
 cbv
section
variable {X:Cx}
inductive XH (x y:V)(H:Hp)(Q:VK):Prop
 |mk (a b:Zs)(ns ms:Za3):x=↑a->y=↑b->TabAt H a ns->TabAt H b ms->Q (.bl (decide (ns=ms))) H->XH x y H Q
inductive XI (x y:V)(H:Hp)(Q:VK):Prop
 |mk (a b:Zs)(ns ms:Za3):x=↑a->y=↑b->TabAt H a ns->TabAt H b ms->Q (.bl (!decide (ns=ms))) H->XI x y H Q
inductive Oe (x y:V)(H:Hp)(Q:VK):Prop
 |mk (a b:Zs)(ns ms:Zg):x=↑a->y=↑b->H a\.lst (au ns)->H b\.lst (au ms)->Q (.bl (!decide (ns=ms))) H->Oe x y H Q
def Fs (i:X.A.units<cLine):fW X (compareOp .NotEq) Oe:=by
 intro k s D H x y v u Q I w A h;let⟨a,b,ns,ms,rfl,rfl,B,p,q⟩:=h;ext w;ext A;let⟨r,d,f,_⟩:=I.list (aF.of B);let⟨m,l,c,_⟩:=I.list (aF.of p);let n:=⇑d;let C:=⇑l;rw[aJ]at n C;cases g:⇑ns=⇑ms
 ·rwa[SeqAt.RcNeAt.lists (e:=λj=>decide (ns[j]?=ms[j]?)) f.isList c.isList (by cbv) i (λj t o=>yg d l j t o) X.prog X.w X.xe _ ⟨.bl (!decide (ns=ms)),H,I,5,q⟩];show _=Value.bool (!decide (ns=ms));rw[ajT,<-n,QF g]
 ·let e:decide (ns=ms)=false:=akj (λz=>g (by rw[z]));rw[e]at q;rwa[SeqAt.RcNeAt.lists_lengths f.isList c.isList ?_ i X.prog X.w X.xe _ ⟨.bl true,H,I,2,q⟩]
  cbv
inductive Og (xs:Zb)(H:Hp)(Q:VK):Prop
 |mk (b:Bool):xs=[.bl b]->Q (.int (if b=true then 1 else 0)) H->Og xs H Q
def IW:i3 X (.type "int") Og:=by intro a s f H e d Q I r h;let⟨b,rfl,q⟩:=h;let⟨u,rfl,c⟩:=vals1 r;ext c;rwa[call_int_bool ⟨.int _,H,I.tok _,⟨12⟩,q⟩]
def vi (h:X.K=K):Io X (Lz K):=by subst h;rwa[bM]
def mH (h:X.K=K):Io X (LC K):=by subst h;rwa[aX]
def Aa (h:X.K=K):i3 X (.builtin "len") (GO K):=by subst h;rwa[bh]
end
def ck (H:Hp)(a:Zn)(ws:Za3):Prop:=⇑a=⇑ws/\∀(i:Nat)(p:Zs)(w:Zg),a[i]?\p->ws[i]?\w->H p\(.tup (au w))
def bR (H:Hp)(a:Zs)(c:Za3):Prop:=∃b:Zn,H a\.lst (b.map V.ref)/\ck H b c
def ck.keep {ws:Za3}(h:ck H F ws)(s:∀p a,H p\.tup a->I p\.tup a):ck I F ws:=⟨h.1,λi p w c b=>s^h.2 i p w c b⟩
def ck.same {ws:Za3}(h:ck H F ws)(s:av H I):ck I F ws:=h.keep λp a e=>s^e
def bR.same {ws:Za3}(h:bR H a ws)(s:av H I):bR I a ws:=by let⟨b,d,c⟩:=h;rwa[b,s^d,c.same s]
def ck.snoc {ps:Zn}{ws:Za3}(h:ck H ps ws)(e:H a\.tup (au l)):ck H (ps++[a]) (ws++[l]):=by
 rwa[⟨by rw[ajC,ajC,h.1];rfl,λi q u c b=>?_⟩];cases d:i<⇑ps
 ·rw[ajM d]at c;rw[ajM (by rw[<-h.1];rwa[d])]at b;rwa[h.2 i q u c b]
 ·rw[ajN ∅]at c;rw[ajN (by rw[<-h.1];omega)]at b;rw[ajF.mp (ajA c),ajF.mp (ajA b)];rwa[e]
inductive XJ (x y:V)(H:Hp)(Q:VK):Prop
 |mk (a b:Zs)(ns ms:Za3):x=↑a->y=↑b->bR H a ns->bR H b ms->Q (.bl (decide (ns=ms))) H->XJ x y H Q
section
variable {X:Cx}
inductive XM (x y:V)(H:Hp)(Q:VK):Prop
 |mk (k:Int)(a:Zs)(ns:Zg):x=.int k->y=↑a->H a\.lst (au ns)->Q (.bl (decide (k∈ns))) H->XM x y H Q
inductive L3 (x y:V)(H:Hp)(Q:VK):Prop
 |mk (k:Int)(a:Zs)(ns:Zg):x=.int k->y=↑a->H a\.lst (au ns)->Q (.bl (!decide (k∈ns))) H->L3 x y H Q
def isInt (k:Int):Zt->Bool
 |.int z _=>z==k
 |_=>false
inductive Ft (x:V)(vs:Zb)(H:Hp)(Q:VK):Prop
 |mk (a:Zs)(ns:Zg)(k:Int):x=↑a->vs=[.int k]->H a\.lst (au ns)->k∈ns->(∀i:Nat,ns[i]?\k->(∀j,j<i->ns[j]?≠some k)->Q (.int i) H)->Ft x vs H Q
def IX (h:z∈l):∃i:Nat,l[i]?\z/\∀j,j<i->l[j]?≠some z:=by
 induction l with
 |nil=>ext h
 |cons a l c=>
  cases e:a=z
  ·rwa[(0),by rw[e];rfl,λj d=>∅]
  ·let⟨i,g,f⟩:=c ((ajS.mp h).resolve_left (akI e));rwa[⟨i+ 1,g,λj d=>?_⟩]
   cases j with
   |zero=>exact λb=>e (Za0 b)
   |succ j=>exact f j ∅
theorem Ab:Fe X "list.index" Ft:=by
 intro B s R H x O v S Q I L C h;let⟨a,ns,k,rfl,rfl,J,d,q⟩:=h;ext L;let⟨u,rfl,M⟩:=C.one;let⟨t,rfl⟩:=M;let⟨z,b,n,r,E,e⟩:=I.qe J;rw[aJ]at z E;let⟨i,o,A⟩:=IX d;let P:i<⇑ns:=(ajy.mp o).1
 let at_:∀(m:Nat)(d:m<b.toArray.size),isInt k b.toArray[m]=decide (ns[m]?\k):=λm d=>by
  let c:m<⇑b:=by simpa using d
  let g:ns[m]?\(ns[m]'∅):=ajz ∅
  let⟨w,p,f,rfl⟩:=r.get (bQ g)
  let l:b.toArray[m]=Value.int (ns[m]'∅) f:=by rw[List.getElem_toArray];rwa[Za0 ((ajz c).symm.trans p)]
  rw[l,g];show (ns[m]'∅==k)=_;rw[akQ,amx,akq];rwa[λz=>by rw[z],λz=>Za0 z]
 let D:(sizeLine:Nat)<2 ^ 62:=⋯
 refine amB F.slot_list_index ⟨_,e,2⟩ F.entry_list_index (F.args_list_index_2 _ _)
  (SeqAt.list_indexAt a b.toArray n none #[] (.int k t) (isInt k) i (by rw[ajT];omega) ∅ ([at_]▸ajZ o) (λm d j=>[at_]▸akj (A m j))) ⟨e,λy G=>?_,5⟩
 ·let⟨m,d,N⟩:=alu.mp (Array.mem_toList_iff.mpr G);let c:m<⇑b:=by simpa using d
  let g:ns[m]?\(ns[m]'∅):=ajz ∅
  let⟨w,p,f,rfl⟩:=r.get (bQ g)
  let l:y=Value.int (ns[m]'∅) f:=by rw[<-N];rwa[Za0 ((ajz c).symm.trans p)]
  rw[l];rwa[SeqAt.EqAt.int_int _ f k t]
 ·rwa[.int i,H,I.tok _,⟨12⟩,q i o A]
end
def Fu (Q:Hp->Zb->Prop)(f:Nat->Int):It:=⟨(EY Q).go,λi H x a=>∃p v,H p=none/\(∀ys,Q H ys->ys[i]?\v)/\x=↑p/\a=upd H p (.tup [.int (f i),v]),(EY Q).stop⟩
abbrev ab3 (K:Za1) (a:Zs):It:=Fu (λH=>aF K H a) Nat.cast
theorem QG {elts:Zr}{x1:Nat}{tp:Pos}{Q:Hp->Zb->Prop}{f:Nat->Int}{it:Zs}{tn:Nat->Heap->Prop}(S:Ia K Q b it tn)(hei:a≠it)(TF:∀i,f (i+ 1)=f i+ 1):
 Turn P w K (.Tuple elts x1 tp) (Fu Q f) [a,it] a (λi h=>(∃d,IsEnum h a it (f i) d)/\tn i h) where
 mem:=by simp
 obj:=λi h st c g=>by
  let⟨⟨d,j⟩,st⟩:=st;let⟨o,n,vs,_,_,_,_⟩:=S.ob i h st
  cbv
 keep:=λi h L st k=>by let⟨⟨d,j⟩,hl⟩:=st;rwa[⟨d,k a (by simp) _ j⟩,S.kp _ _ _ hl λo a=>k it (by simp) o a]
 item:=by
  intro X Z W O hc i r s σ H E I t st G;subst Z W;let⟨⟨d,j⟩,l⟩:=st;let⟨xs,x,M,v⟩:=G;let⟨inj,m,oa,St,T,ha,C,D,_,R,h2⟩:=S.dr O hc I M l;let⟨u,hu,ru⟩:=T.get v;let hea:a≠b:=vW j ha (akI C);let N:a<↥s:=ajR j;let Oh:i<⇑m:=(ajy.mp hu).1;rwa[En.IJ D j R (by simp;omega) hei (by cbv) λy L tk Y ho B p hk=>?_]
  obtain rfl:u=y:=by
   simp at Y
   cbv
  rwa[⟨12,wpAny_letOwnedTupleGo_enum ho λJ U e=>?_⟩]
  rwa[⟨↑↥s,_,I.Bm (fp:=[a,it]) (a:=↥s) (o:=.tup [.int (f i),x]) (h':=J) (t':=tk+ 1) (λc ob g q=>?_) t (ajE _) ⟨Za4 2,[.int (f i) tk,u],.cons ⟨12⟩ (.cons ru .nil),_,(e.2 _ (akP N)).trans p,212⟩,2,⟨_,x,I.aU.fresh (ajE _),λys hy=>[inj ys hy]▸v,22⟩,⟨⟨u,[TF]▸U⟩,h2^(D.frame _ _ _ B λc g o q=>(e.2 c (by cbv)).trans q)⟩,λc g=>?_⟩]
  ·simp at g;rwa[(e.2 c g.1).trans (hk c ob g.1 g.2 q)]
  ·let⟨o2,_,_,h3,_⟩:=S.ob^l;have:=ajR h3;rw[ao (by cbv)];rwa[(t c g).1]
 done:=by intro X Z W O hc i r s σ H E I t st G;subst Z W;let⟨⟨d,j⟩,l⟩:=st;let⟨xs,M,v⟩:=G;let⟨_,m,_,_,T,_,_,D,_,R,_⟩:=S.dr O hc I M l;rwa[wpAny_pyNext_enum_endD D j (by rw[ajT,<-⇑T,v];rwa[R]) λL eb=>⟨2,I.mG (fp:=[a,it]) (t':=s.toks) (λc o g q=>eb c o (λz=>g (by simp[z])) q) t⟩]
 self:=λA i s Q E st h=>by let⟨⟨d,j⟩,_⟩:=st;let p:s.TypeIs ↑a "enumerate":=⟨_,j,2⟩;rwa[wpAny_pyIter_slot p F.slot_enumerate_iter (akY F.slot_enumerate_iter p F.entry_enumerate_iter (ajG ⟨12,"enumerate",_,p,F.slot_enumerate_next.lookup,h⟩) (F.args_enumerate_iter_1 _))]
section
variable {X:Cx}
def yn {R:It->Hp->Prop}{elts:Zr}{Q:Hp->Zb->Prop}{f:Nat->Int}{e:Nat->Heap->Prop}(I:Inv X o D H s)(S:Ia X.K Q a ↥s e)(k:∀i,f (i+ 1)=f i+ 1)(g:IsEnum h (↥s+ 1) ↥s (f 0) v)(d:e 0 h)(j:∀b c,s•b\c->h.get? b\c)(q:R (Fu Q f) H):X⁻¹ X.A (pyIter ↑(↥s+ 1)) (NQ X o D (.Tuple elts n p) R) X.xe (s<*h):=by
 let T:=QG (P:=X.prog) (w:=X.w) (elts:=elts) (x1:=n) (tp:=p) S (Nat.succ_ne_self _) k;rwa[T.self _ 0 _ _ _ ⟨⟨_,g⟩,d⟩ ⟨1111,H,2,I.kept (t':=s.toks) j,T,⟨⟨_,g⟩,d⟩,λb m=>?_,q⟩];have:↥s<=b:=by cbv
 rwa[I.Gu this (I.aU.fresh this)]
def TK (K:Za1)(e:TA):TI:=λ f H R=>e f H λc b=>∃a,c=[↑a]/\(∃d,aF K b a d)/\R (ab3 K a) b
def L4 [f:eT X K]{a:Expr}{i:TE}{elts:Zr}{A:Nat}{v p c:Pos}(m:Gl X "enumerate")(x:X.mg "enumerate"=none)(y:PE X a i)(j:starEach [a] X.env=[(false,eval a X.env)]):
 PI X (.Tuple elts A v) (.Call (.Name "enumerate" p) [a] [] c) (TK K (ju i j9)):=by cases f.eq;intro b s w H R I h;rwa[Call_ (gJ I m x boot_enumerate (aks (bq ((ae y ah j) c b s w H _ I h) λL J ζ=>?_) j rfl))];let⟨C,F,g,k,l,e,⟨G,o⟩,q⟩:=ζ;subst e;let⟨u,rfl,z⟩:=vals1 k;ext z;let⟨r,D,pl,E⟩:=g.list o;rwa[call_enumerate_list pl.isList λB d hit t n=>yn g (u9 l _) (λ_=>rfl) d hit n q]
end
def Bq {g:TG}{e:TS}{Q:Hp->Zb->Prop}{f:Nat->Int}{xs:Zb}(a:Nat->St->Hp->Prop)(j:a 0 D H)(b:∀i D H,i<=⇑xs->a i D H->Q H xs)(l:∀i v D H p,xs[i]?\v->H p=none->a i D H->g ↑p D (upd H p (.tup [.int (f i),v])) λ d m=>e { G with nx:=a (i+ 1),ct:=a (i+ 1),bk:=G.nx } d m)(h:∀ D H,a ⇑xs D H->G.nx D H):qc (Fu Q f) g e G D H:=tL j (λi D H c p=>⟨⟨xs,xs[i],b i D H (alm c) p,ajz c⟩,λx o y=>by let⟨r,v,k,n,rfl,rfl⟩:=y;rwa[l i v D H r (n xs (b i D _ (alm c) p)) k p]⟩) λ D H p=>⟨⟨xs,b _ D H (ajE _) p,2⟩,h D H p⟩
namespace En
open AutoSeq1 (wpAny_loadPart')
def GV (l:Zs)(items:Zm)(n:Nat)(dct:Zo)(m:Array Zl)(k:Int)(u:Tok)(q:0<=k)(j:k<1000):
 Meets (Builtin.«enumerate.__new__» ⟨[.type "enumerate",↑l],[("start",.int k u)]⟩) (λ_ R s=>s•l\{ cls:=.type "list",dict:=dct,data:=.seq items n,slots:=m }/\
  R (.ok (.ret (↑(s.heap.push ("list_iterator">>>.fields #[↑l,.int 0 0])).objs.size)))
    { s with heap:=(s.heap.push ("list_iterator">>>.fields #[↑l,.int 0 0])).push ("enumerate">>>.fields #[.none,.bool false,↑↥s,rawInt k,.none,.none]) }):=
 .of_wp λf w A R s h=>by
  let⟨p,g,d,o,os⟩:=s;let⟨a,h⟩:=h;let i:=sub_enumerate;let r:=AutoSeq1.idx_int;let b:Heap.IsList (Shared.heap ⟨p,g,d,o,os⟩) l items:=⟨_,a,2,n,2⟩
  let e:(!Builtin.SmallTypes.fitsIndex k)=false:=by unfold Builtin.SmallTypes.fitsIndex;simp;ext
  wp_walk using aln a
  rwa[wpAny_stack_any λst=>ajG ?_]
  split
  ·rename_i c _ _ _ _ _;cases (c==Value.type "enumerate")
   ·wp_walk using aln a,alP b
    rwa[12,h]
   ·wp_walk using aln a,alP b
    rwa[12,h]
  ·wp_walk using aln a,alP b
   rwa[12,h]
variable {prog:Program}{w:World}{A:Around}{E:Zt->Zu->Prop}{s:Zu}
theorem Ef {items:Zm}{k:Int}{u:Tok}(V:s.heap.IsList a items)(O:0<=k)(x:k<1000)(h:∀t,IsEnum t (↥s+ 1) ↥s k .none->t.IsListIter ↥s a 0->(∀b o,s•b\o->t.get? b\o)->Q ↑(↥s+ 1) (s<*t)):
 (prog<|>w) A (call (.type "enumerate") [↑a] [("start",.int k u)]) Q E s:=by
 let⟨⟨c0,dct,W,P⟩,X,l,n,v⟩:=V;replace l:c0=.type "list":=l;replace v:W=.seq items n:=v;subst l v;let i:=F.called_enumerate;let⟨c,tl,N⟩:=i.mro;let B:=i.made;let L:=i.sub;let U:=XB ↑a (.int k u);let z:=XC ↑a (.int k u);rwa[al7 (codeAny_of_tree ?_)];show wpAny _ _ (callAny (.type "enumerate") _) _ _ _;rwa[ajG ⟨Code.quiet_builtin _ ⋯,amI F.entry_type_call ?_⟩];rw[Around.under_plain (weight_type_call_type "enumerate" [↑a] [("start",.int k u)]) (units_type_call_type "enumerate" [↑a] [("start",.int k u)])];let h1:=i.notType;let h2:=i.canCreate
 repeat (any_goals (first|assumption|wp_step))
 rwa[alV (ala i.plain F.entry_enumerate_new (wpAny_of_eq z (GV a items n dct P k u O x prog w A.in1 (wants (λobj f=>f.TypeIs obj "enumerate"/\Q obj f) E) s ⟨X,5⟩))) λr f D=>?_]
 ·let J:(s.heap.push ("list_iterator">>>.fields #[↑a,.int 0 0])).objs.size=↥s+ 1:=ali ..;show _/\_;rw[J]
  let M:IsEnum ((s.heap.push ("list_iterator">>>.fields #[↑a,.int 0 0])).push ("enumerate">>>.fields #[.none,.bool false,↑↥s,rawInt k,.none,.none])) (↥s+ 1) ↥s k .none:=by let q:=ajP (s.heap.push ("list_iterator">>>.fields #[↑a,.int 0 0])) (o:=("enumerate">>>.fields #[.none,.bool false,↑↥s,rawInt k,.none,.none])) rfl;rw[J]at q;rwa[q]
  rwa[⟨_,M,2⟩,h _ M ⟨_,ajB _ (ajP _ rfl),22⟩ λb o y=>ajB _ (ajB _ y)]
 cases r with
 |error e=>exact D
 |ok Y=>
  cases Y with
  |ret obj=>
   let⟨I,H⟩:=D;let Z:=i.init.lookup;let S:=i.init.bind obj;let G:=XE obj ↑a (.int k u);let C:(λ(_:Around)(R:Result->Zu->Prop)(s:Zu)=>s.TypeIs obj "enumerate"/\R (.ok (.ret .none)) s) A.in1 (wants (λr j=>r=.none/\Q obj j) E) f:=⟨I,2,H⟩;let gi:=Qz (T:="enumerate") (self:=obj) (a:=↑a) (kw:=[("start",.int k u)]) i.init.lookup i.made ⋯
   repeat (any_goals (first|assumption|wp_step))
   rwa[alV (ala i.init.plain F.entry_object_init (i.init.check _ _ _ _ _ _ _ _ I G (gi prog w A.in1 _ f C))) λp j g=>?_]
   cases p with
   |error e=>exact g
   |ok m=>
    cases m with
    |ret r=>
     let⟨rfl,H⟩:=g
     repeat (any_goals (first|assumption|wp_step))
    |_=>exact g.elim
  |_=>exact D.elim
end En
abbrev Oi (K:Za1) (a:Zs) (n:Int):It:=Fu (λH=>aF K H a) λi=>n+ i
def e9 (h:Heap)(d:Zs)(a:Array DictEntry)(b:Nat):Prop:=∃o,h.get? d\o/\o.ExactDict/\o.data=.dict a b
namespace Dk
variable {prog:Program}{w:World}{A:Around}{E:Zt->Zu->Prop}{s:Zu}{d:Zs}{es:Array DictEntry}{ep:Nat}
def typ (b:e9 s.heap d es ep):s.TypeIs ↑d "dict":=let ⟨o,a,c,_⟩:=b;⟨o,a,c.1⟩
theorem iter (f:(d==sysModules)=false)(c:e9 s.heap d es ep)(g:Q ↑↥s { s with heap:=s.heap.push ("dict_keyiterator">>>.fields #[↑d,.int 0 0,.int es.size 0,.int ep 0]) }):(prog<|>w) A (pyIter ↑d) Q E s:=by let b:=typ c;let⟨o,e,h,a⟩:=c;rwa[wpAny_pyIter_slot b F.slot_dict_iter (akY F.slot_dict_iter b F.entry_dict_iter ?_ (F.args_dict_iter_1 _))];unfold Builtin.«dict.__iter__»;rwa[ajx ?_];unfold Builtin.Dict.dictSlotNone;rwa[ajx (amf b ?_)];show wpAny _ _ (pure (Value.ref d)) _ _ s;rwa[ajG ?_];show wpAny _ _ (Builtin.Dict.showsAll d >>=_) _ _ s;unfold Builtin.Dict.showsAll;rw[ajY ([f]▸akk)];rwa[ajx (ajG (ajx (ami e a (ajx (wpAny_dictEpoch e a ?_)))))];rwa[ajx (aku (ajG ⟨12,"dict_keyiterator",_,⟨_,ajP _ rfl,2⟩,amb.lookup,by simpa [rawInt] using g⟩))]
theorem next {it:Zs}{Q:Zl->Zu->Prop}(n:A.handled=none)(hit:s.heap.IsKeyIter it d i es.size ep)(p:e9 s.heap d es ep)(l:∀en g,es[i]?\en->g.IsKeyIter it d (i+ 1) es.size ep->Heap.SameBut it s.heap g->Q (some en.key) (s<*g))(r:∀g,es[i]?=none->Heap.ExtBut it s.heap g->Q none (s<*g)):(prog<|>w) A (pyNext ↑it) Q E s:=by
 let⟨o,h,t,c⟩:=id hit;let⟨u,f,q,e⟩:=id p;unfold pyNext;rwa[ajx (wpAny_attempt (akS (name:=Str.ofString "__next__") hit.typeIs amb (akY amb hit.typeIs F.entry_dict_keyiterator_next ?_ (F.args_dict_keyiterator_next_1 _))))];rwa[ajx (ajG (ajx (ajx ?_)))]
 first|rwa[ajx (wpAny_typeNameOfWhole_keyiter hit.typeIs (ajG ?_))]|rwa[ajx (wpAny_typeNameOf_keyiter hit.typeIs (ajG ?_))]
 rwa[ajx (wpAny_fieldsOf h c ?_)];let own:Builtin.Dict_items.ownsTuple "dict_keyiterator"=false:=⋯
 simp only[own,amJ,amZ];show wpAny _ _ (if (Value.ref d==Value.none)=true then _ else _) _ _ s;rw[ajY (show ¬((Value.ref d==Value.none)=true) from akk)];rwa[ajx (ajG (ajx (ami f e ?_)))];rw[ajY (by simp)];rwa[ajx (ajG (ajx (wpAny_dictEpoch f e ?_)))];rw[ajY (by simp)];rwa[ajG ?_];rcases j:es[i]? with _|en <;> simp only[show ¬((i:Int)<0) from by ext,amZ,aka,j]
 all_goals
  rwa[ajx ?_]
  first|rwa[ajx (wpAny_typeNameOfWhole_keyiter hit.typeIs (ajG ?_))]|rwa[ajx (wpAny_typeNameOf_keyiter hit.typeIs (ajG ?_))]
 ·show wpAny _ _ (setField ↑it 0 .none >>=_) _ _ s;rwa[ajx (alK h c (by simp) ?_)];show wpAny _ _ (newExc (.type "StopIteration") [] >>=_) _ _ _;rwa[ajx ?_];simp only[newExc,newTuple];rwa[ajx (aku ?_ (by size_fits))];rwa[ajx (m:=firstArgMember _ _) (wpAny_of_eq (a:=Value.none) (by first|rfl|(simp only[firstArgMember];rfl)) ?_)];rwa[aku ?_ (by size_fits)];simp only[raiseNew];rwa[ajx (wpAny_handled ?_)];rw[show A.in1.handled=none from n];rwa[ajx (ajG (wpAny_throw ?_))];rwa[ajx (wpAny_isInstance (T:="StopIteration") (b:=true) ⟨_,ajP _ rfl,2⟩ isSubtype_stop ?_)];rwa[ajG (r _ j (((ak1 ..).extBut.push _).push _))]
 ·rwa[ajx (wpAny_isOneOf_keyiter hit.typeIs ?_)];show wpAny _ _ (setField ↑it 1 (rawInt ((i:Int)+ 1)) >>=_) _ _ s;rwa[ajx (alK h c (by simp) ?_)]
  let k:(s.heap.update it (Obj.mapFields (·.setIfInBounds 1 (rawInt ((i:Int)+ 1))))).IsKeyIter it d (i+ 1) es.size ep:=⟨_,akm _ h (alH (ak6 c _)),(Obj.cls_mapFields ..).trans t,by rw[ak6 c];simp[rawInt]⟩
  rwa[ajx (akz ?_)];rwa[ajx (wpAny_isOneOf_keyiter (s:={ s with heap:=s.heap.update it (Obj.mapFields (·.setIfInBounds 1 (rawInt ((i:Int)+ 1)))) }) k.typeIs ?_)];show wpAny _ _ (pure (DictEntry.key _)) _ _ _;rwa[ajG (ajG ⟨12,ajG (l _ _ j k (ak1 ..))⟩)]
def e9.at (x:e9 h d es ep)(e:∀o,h.get? d\o->g.get? d\o):e9 g d es ep:=let ⟨o,a,r⟩:=x;⟨o,e _ a,r⟩
def walks (m:A.handled=none)(I:Zs)(k:d≠I):Walks prog w A I [I,d] [I] es.size (λi v=>∃c,es[i]?\c/\v=c.key) (λi h=>h.IsKeyIter I d i es.size ep/\e9 h d es ep) where
 sub:=λb j=>by cbv
 frame:=λ_ _ _ st l=>⟨st.1.at λo e=>l I (by simp) o e,e9.at st.2 λo e=>l d (by simp) o e⟩
 item:=λi s Q E q st a=>next m st.1 st.2 (λc g e n f=>a _ g s.toks ⟨c,e,2⟩ ⟨n,e9.at st.2 λo e=>f.extBut _ _ k e⟩ λb o j e=>f.extBut b o (λh=>j (by simp[h])) e) λg e=>by simp[q]at e
 done:=λs Q E st a=>next m st.1 st.2 (λc g e=>by simp at e) λp _ f=>a p s.toks λb o j e=>f b o (λh=>j (by simp[h])) e
 self:=λ_ _ _ _ st a=>wpAny_pyIter_keyiter st.1 a
theorem hint {Q:Bool->Zu->Prop}(e:e9 s.heap d es ep)(h:Q false s):(prog<|>w) A (Builtin.List.listLengthHint ↑d) Q E s:=by
 unfold Builtin.List.listLengthHint;rwa[ajx (wpAny_specialOf (typ e) F.slot_dict_len.lookup ?_)];generalize c:("dict.__len__":String)=f
 wp_delta
 rw[show splitId f=some ("dict","__len__") from by subst c;decide];subst c;rwa[ajx (wpAny_isInstance (T:="dict") (b:=true) (typ e) (by rw[isSubtype_type];kernel_rfl) ?_)];rwa[amK (λa=>absurd a ⋯) (λ_=>?_)];rwa[amK (λ_=>?_) (λa=>absurd ⋯ a)];rwa[ajx (alW (T:="dict") (typ e) (ajG h))]
theorem extend {R:Result->Zu->Prop}(X:A.handled=none)(O:(d==sysModules)=false)(y:e9 s.heap d es ep)(hlen:es.size<=sizeLine)(S:Zs)(res:Zt)(n:Nat)(N:s•S\("list">>>.seq #[] n))(Z:∀g1 Q c m,(∀b o,b≠S->s•b\o->g1.get? b\o)->g1.get? S\{ cls:=.type "list",dict:=none,data:=.seq c m,slots:=#[] }->ItemsOf (λi v=>∃M,es[i]?\M/\v=M.key) c es.size->R (.ok (.ret res)) { s with heap:=g1,toks:=Q }):
 (prog<|>w) A.in1 (Builtin.List.listExtendWith ↑S ↑d res)
  (λfin g=>match fin with|.done f=>R (.ok f) g|.again m=>m.quiet=true/\codeAny (model prog w) A m R g) (λe g=>R (.error e) g) s:=by
 let l:S≠d:=λe=>by
  let⟨o,L,hc,J⟩:=y
  cbv
 let H:d<↥s:=by let⟨o,L,_⟩:=y;rwa[ajR L]
 let z:S≠↥s:=aj9 (ajR N);let I:d≠↥s:=aj9 H;unfold Builtin.List.listExtendWith;rwa[ajx (alW (T:="dict") (typ y) ?_)];let U:Builtin.List.listSameRef ↑S ↑d=false:=by simp[Builtin.List.listSameRef,l]
 let P:(Value.type "dict"==Value.type "list")=false:=⋯
 let Y:(Value.type "dict"==Value.type "tuple")=false:=⋯
 simp only[U,P,Y,Bool.or_false,amJ,amZ];rwa[ajx (iter O y ?_)];let j:e9 (s.heap.push ("dict_keyiterator">>>.fields #[↑d,.int 0 0,.int es.size 0,.int ep 0])) d es ep:=e9.at y λo e=>ajB _ e
 rwa[ajx (akz (hint (s:={ s with heap:=s.heap.push ("dict_keyiterator">>>.fields #[↑d,.int 0 0,.int es.size 0,.int ep 0]) }) j ?_))];let k:=ajB ("dict_keyiterator">>>.fields #[↑d,.int 0 0,.int es.size 0,.int ep 0]) N;let r:(s.heap.push ("dict_keyiterator">>>.fields #[↑d,.int 0 0,.int es.size 0,.int ep 0])).IsKeyIter ↥s d 0 es.size ep:=⟨_,ajP _ rfl,22⟩;let kp:∀b o,s•b\o->(s.heap.push ("dict_keyiterator">>>.fields #[↑d,.int 0 0,.int es.size 0,.int ep 0])).get? b\o:=λb o e=>ajB _ e
 change s.heap.push ("dict_keyiterator">>>.fields #[↑d,.int 0 0,.int es.size 0,.int ep 0])=x at k r kp j ⊢;rwa[amK (λ_=>?_) (λB=>absurd ⋯ B)];rwa[ajx (amS ?_)];rwa[ajx ?_];show wpAny _ _ (updateSeq S (·.push .none) >>=λ_=>updateSeq S (·.pop)) _ _ _;rwa[ajx (amg k rfl ?_)];let t:=akm (Obj.mapSeq (·.push Value.none)) k rfl;rwa[amg (hz:=by seq_fits) t rfl ?_];let G:=akm (Obj.mapSeq (·.pop)) t rfl;let h:∀b o,b≠S->x.get? b\o->((x.update S (Obj.mapSeq (·.push Value.none))).update S (Obj.mapSeq (·.pop))).get? b\o:=λb o p e=>(ako^akI p).trans ((ako^akI p).trans e)
 let W:=(walks (prog:=prog) (w:=w) (A:=A.in1) (d:=d) (es:=es) (ep:=ep) X ↥s I).toS
 let C:S∉[↥s,d]:=λa=>by
  rcases ajS.mp a with e|a
  ·rwa[z e]
  ·rwa[l (ajF.mp a)]
 rwa[ajG ⟨al0 F.plain_extend_loop _,?_⟩];rwa[codeAny_extend_loopS W hlen S C res es.size 0 _ #[] _ rfl (aj8 _) ⟨r.at λo e=>h _ o (akI z) e,e9.at j λo e=>h _ o (akI l) e⟩ G (ItemsOf.nil _) λg c m q D u=>?_]
 rw[Moved.eq_with q];rwa[Z g.heap g.toks c m (λb o p e=>q.heap b o (λa=>?_) (h b o p (kp b o e))) D u];rcases ajS.mp a with V|a
 ·rwa[p V]
 ·rwa[absurd (ajR e) (by rw[ajF.mp a];rwa[akX _])]
def zp {Q:Fin->Zu->Prop}(g:s•a\("list">>>.seq #[]))(h:∀f c,f.get? a\("list">>>.seq #[] c)->(∀b o,b≠a->s•b\o->f.get? b\o)->(prog<|>w) A (Builtin.List.listExtendWith ↑a v .none) Q E (s<*f)):(prog<|>w) A (Builtin.«list.__init__» ⟨[↑a,v],[]⟩) Q E s:=by show wpAny _ _ (do let old <-Builtin.List.listItems ↑a;Builtin.List.listUpdate ↑a (λ_=>#[]);letGo old.toList.reverse;Builtin.List.listExtendWith ↑a v .none) _ _ s;rwa[ajx ?_];unfold Builtin.List.listItems;rwa[ajx (amn g rfl (ajG ?_))];show wpAny _ _ (updateSeq a (λ_=>#[]) >>=λ_=>letGo (#[]:Zm).toList.reverse >>=λ_=>Builtin.List.listExtendWith ↑a v .none) _ _ s;rwa[ajx (amg g rfl (ajx (amV (h _ _ (akm (Obj.mapSeq (λ_=>(#[]:Zm))) g rfl) λb o i e=>(ako^akI i).trans e))))]
def init {R:Result->Zu->Prop}(B:A.handled=none)(x:(d==sysModules)=false)(u:e9 s.heap d es ep)(hlen:es.size<=sizeLine)(S:Zs)(C:s•S\("list">>>.seq #[]))(D:∀g1 l a g,(∀b o,b≠S->s•b\o->g1.get? b\o)->g1.get? S\{ cls:=.type "list",dict:=none,data:=.seq a g,slots:=#[] }->ItemsOf (λi v=>∃t,es[i]?\t/\v=t.key) a es.size->R (.ok (.ret .none)) { s with heap:=g1,toks:=l }):
 (prog<|>w) A.in1 (Builtin.«list.__init__» ⟨[↑S,↑d],[]⟩)
  (λfin k=>match fin with|.done f=>R (.ok f) k|.again g=>g.quiet=true/\codeAny (model prog w) A g R k) (λe k=>R (.error e) k) s:=by
 let p:d≠S:=λe=>by
  let⟨o,F,G,q⟩:=u
  cbv
 rwa[zp C λz c m h=>extend (s:=(s<*z)) B x (e9.at u λo e=>h _ o p e) hlen S .none _ m λg1 l a g y n j=>D g1 l a g (λb o r e=>y b o r (h b o r e)) n j]
theorem IY (t:A.handled=none)(p:(d==sysModules)=false)(u:e9 s.heap d es ep)(hlen:es.size<=sizeLine)(q:∀g1 j a h,(∀b o,s•b\o->g1.get? b\o)->g1.get? ↥s\{ cls:=.type "list",dict:=none,data:=.seq a h,slots:=#[] }->ItemsOf (λi v=>∃l,es[i]?\l/\v=l.key) a es.size->Q ↑↥s { s with heap:=g1,toks:=j }):
 (prog<|>w) A (call (.type "list") [↑d]) Q E s:=by
 rwa[callType_codes (Q₁:=λobj c=>obj=↑↥s/\c={ s with heap:=s.heap.push ("list">>>.seq #[]) }) F.called_list (F.typeCall_list_1 _) F.entry_list_init (code_list_new _ ⟨22⟩) λobj c f=>?_]
 let⟨rfl,rfl⟩:=f;let n:(s.heap.push ("list">>>.seq #[])).get? ↥s\("list">>>.seq #[]):=ajP _ rfl;rwa[⟨⟨_,n,2⟩,F.args_list_init_2 _ _,init (A:=A.in1) (s:={ s with heap:=s.heap.push ("list">>>.seq #[]) }) t p (e9.at u λo e=>ajB _ e) hlen _ n λg1 j a h r k g=>?_⟩];rwa[2,q g1 j a h (λb o e=>r b o (aj9 (ajR e)) (ajB _ e)) k g]
end Dk
structure MDef (K:Za1)(C:Zs)(x q:Str)(st:Stmt)(ps:Zp)(f:Zs)(fd:FuncData):Prop where
 F:rT K x q st f fd
 m:Meth K C x f
 b:Binds K fd ps []
open PySem.W (KasT kas_rev kas_asc kas_desc kas_tail3 kas_descPart kas_count kas_place kas_bin kas_sort kas_ask kas_ask_eq kas_runs kas_st kas_range kas_item kas_item_eq)
namespace Srt
def Gd {b:Type}(P:Nat->Nat->Prop)(f:Nat->Nat->Bool):KasT b->(b->Prop)->Prop
 |.ret a,Q=>Q a
 |.ask i j k,Q=>P i j/\Gd P f (k (f i j)) Q
variable {n:Nat}{key:Nat->Int}
structure Pr (n:Nat)(p:Array Nat):Prop where
 sz:p.size=n
 lt:∀i,i<n->p.getD i 0<n
 inj:∀i j,i<n->j<n->p.getD i 0=p.getD j 0->i=j
def Up (key:Nat->Int)(p:Array Nat)(m:Nat):Prop:=∀i j,i<j->j<m->key (p.getD i 0)<key (p.getD j 0)
def Dn (key:Nat->Int)(p:Array Nat)(m:Nat):Prop:=∀i j,i<j->j<m->key (p.getD j 0)<key (p.getD i 0)
def Ok (n:Nat)(key:Nat->Int)(i j:Nat):Prop:=i<n/\j<n/\key i≠key j
def Inj (n:Nat)(key:Nat->Int):Prop:=∀i j,i<n->j<n->key i=key j->i=j
abbrev ask (key:Nat->Int) (i j:Nat):Bool:=decide (key i<key j)
end Srt
end L2
namespace L2
def IZ:typeLookup (.type "list") "keys"=pure none:=by rw[typeLookup_type,builtinLookup_eq_fast];kernel_rfl
theorem L5 {m:Zm}{k:Nat}{Q:Zl->Zu->Prop}(n:s•a\("list">>>.seq m k))(p:A.handled=none)(h:∀i j,(∀b o,s•b\o->i.get? b\o)->Q none { s with heap:=i,toks:=j }):
 (P<|>w) A (getAttr? ↑a "keys") Q E s:=by
 let⟨q,g,d,j,os⟩:=s;let l:∀f,(⟨q,g,d,f,os⟩:Zu).TypeIs ↑a "list":=λ_=>⟨_,n,2⟩
 let t:=sub_AttributeError;let z:=F.slot_list_getattribute.lookup;let x:=F.slot_list_getattribute.bind ↑a;let v:=am_list_getattr_none;unfold getAttr? getAttrBy? getAttrBy
 repeat (any_goals (first|assumption|rwa[l _]|((with_reducible show wpAny _ _ (call (Value.builtin "list.__getattribute__") _ _) _ _ _);rwa[amB F.slot_list_getattribute (l _) am_entry_list_getattribute (F.args_list_getattribute_2 _ _) (meets_getattribute_miss_list a m k #[] "keys" _ IZ (by decide) (by decide)) ⟨n,p,λi f e c=>?_⟩])|wp_step))
 let⟨r,u,y⟩:=c.there;show wpAny _ _ (getattributeRaised _ _ _ _ _ _ _) _ _ _;unfold getattributeRaised
 repeat (any_goals (first|assumption|wp_step))
 rwa[h^c.keeps]
def pf:entryFor table "dict.update.loop"=some Builtin.«dict.update.loop»:=entryFor_of_fast (by kernel_rfl)
def i9:plainId "dict.update.loop"=true:=⋯
section
variable {prog:Program} {w:World} {K:Type} [DecidableEq K] {knd:KeyKind prog w K} {A:Around} {E:Zt->Zu->Prop}
def GW {R:Result->Zu->Prop}{it l:Zs}{its:Zk}{rs:List (K×Zt)}(hh:A.in1.handled=none)(N:l≠it)(t:d≠it)(O:d≠l)(hlen:⇑its=⇑rs)(hsz:⇑rs<=sizeLine):
 ∀(k i:Nat)(s:Zu),⇑its - i=k->i<=⇑its->s.heap.IsListIter it l i->s.heap.IsList l its.toArray->s.heap.DictOf knd d (merged [] (rs.take i))->
 (∀(j:Nat)(u:Zt)(m:K×Zt),its[j]?\u->rs[j]?\m->∃p a,u=↑p/\p≠d/\p≠it/\knd.is m.1 a=true/\IsTup s.heap p #[a,m.2])->
 (∀h J,h.DictOf knd d (merged [] rs)->(∀b o,b≠d->b≠it->s•b\o->h.get? b\o)->R (.ok (.ret .none)) { s with heap:=h,toks:=J })->
 codeAny (model prog w) A (.builtin "dict.update.loop" ⟨[↑d,↑it,rawInt (i:Int),.none],[]⟩) R s:=by
 let W:=Walks.list (prog:=prog) (w:=w) (A:=A.in1) hh it l N its.toArray;let c:∀b:Zs,b≠it->b∉[it]:=λb f z=>f (ajF.mp z)
 intro k
 induction k with
 |zero=>
  intro i s hk L hit hl H Y hR;let ei:i=⇑its:=∅
  rwa[amI pf ?_];rw[amm i9 _];show wpAny _ A.in1 (pyNext ↑it >>=_) _ _ s;rwa[ajx (W.done s _ _ ⟨by cbv,hl⟩ λh J kp=>?_)];show wpAny _ A.in1 (Builtin.Dict.addKeywords d [] >>=_) _ _ _;rwa[ajx (ajG (ajG ?_))];rw[alE ∅]at H;let⟨od,x1,x2,D,q⟩:=id H;rwa[hR h J ⟨od,x1,x2,kp _ _ (c _ t) D,q⟩ λb o _ f e=>kp b o (c _ f) e]
 |succ k ih=>
  intro i s hk L hit hl H Y hR;let o6:i<⇑its:=∅
  rwa[amI pf ?_];rw[amm i9 _];show wpAny _ A.in1 (pyNext ↑it >>=_) _ _ s;rwa[ajx (W.item i s _ _ ∅ ⟨hit,hl⟩ λv h J hP P kp=>?_)];let⟨B,Q⟩:=P;let Z:its[i]?\v:=by simpa using hP
  let x:rs[i]?\(rs[i]'∅):=ajz ∅
  change rs[i]'∅=m at x;let⟨p,a,rfl,pd,pi,C,o,ho,hc,n,y⟩:=Y i v m Z x;let F:=kp _ _ (c _ pi) ho;let V:rs.take (i+ 1)=rs.take i++[m]:=by rw[aly,x];rfl
  let M:h.DictOf knd d (merged [] (rs.take i)):=by let⟨od,x1,x2,D,q⟩:=id H;rwa[od,x1,x2,kp _ _ (c _ t) D,q]
  let TL:=merged_length_le ([]:List (K×Zt)) (rs.take i)
  let G:⇑(merged [] (rs.take i))<=sizeLine:=by rw[ake,akL]at TL;ext
  show wpAny _ A.in1 (holding [Value.ref p] _ >>=_) _ _ _;rwa[ajx (akz ?_)];rwa[ajx (am0 ?_)];show wpAny _ A.in1 (typeOf (Value.ref p) >>=_) _ _ _;rwa[ajx (alW (T:="tuple") ⟨o,F,hc⟩ ?_)];rw[aj3 ⋯];rwa[ajx (amn F y ?_)];rwa[ajG ?_];show wpAny _ A.in1 (holding [a,m.2] (dictSet d a m.2)) _ _ _;rwa[akz (wpAny_dictSet_pairs C M (λg S sb=>?_) G)];let I:∀b o,b≠d->h.get? b\o->g.get? b\o:=λb o f e=>(sb.2 b f).trans e
  rwa[ajG ⟨al0 i9 _,5⟩];let r:rawInt ((i:Int)+ 1)=rawInt (((i+ 1:Nat)):Int):=rfl;rw[r];rwa[ih (i+ 1) _ ∅ ∅ (B.at λo e=>I _ _ (akI t) e) (Q.at λo e=>I _ _ (akI O) e) ?_ ?_ ?_]
  ·rw[V,merged,amj];rwa[S]
  ·intro j u kv2 D q;let⟨p,a,rfl,a1,a2,a3,o,b1,b2⟩:=Y j u kv2 D q;rwa[p,a,2,a1,a2,a3,o,I _ _ a1 (kp _ _ (c _ a2) b1),b2]
  ·intro q U hd4 X;rwa[hR q U hd4 λb o f L e=>X b o f L (I _ _ f (kp _ _ (c _ L) e))]
theorem yo {rs:List (K×Zt)}(J:A.handled=none)(hlen:⇑N=⇑rs)(B:⇑rs<=sizeLine)(I:s•a\("list">>>.seq N.toArray n))(S:∀(j:Nat) (u:Zt) (r:K×Zt),N[j]?\u->rs[j]?\r->∃p d,u=↑p/\knd.is r.1 d=true/\IsTup s.heap p #[d,r.2])(P:∀m H,m.DictOf knd ↥s (merged [] rs)->(∀b o,s•b\o->m.get? b\o)->Q ↑↥s { s with heap:=m,toks:=H }):
 (prog<|>w) A (call (.type "dict") [↑a]) Q E s:=by
 rwa[callType_codes (Q₁:=λobj f=>obj=↑↥s/\f={ s with heap:=s.heap.push ("dict">>>.dict #[]) }) F.kt_called_dict (F.kt_typeCall_dict_1 _) F.entry_dict_init (kt_code_dict_new _ ⟨22⟩) ?_];rintro obj f ⟨rfl,rfl⟩;let c:(s.heap.push ("dict">>>.dict #[])).DictOf knd ↥s []:=Heap.DictOf.new s.heap;let h:(s.heap.push ("dict">>>.dict #[])).get? a\("list">>>.seq N.toArray n):=ajB _ I;let t:=ajR I;erw[c.typeIs,F.args_dict_init_2 _ _];unfold Builtin.«dict.__init__»;rwa[ajx ?_];unfold Builtin.Dict.selfAndRest;rwa[ajx (amf c.typeIs ?_)];show wpAny _ _ (pure (↥s,[Value.ref a])) _ _ _;rwa[ajG ?_];show wpAny _ _ (Builtin.Dict.updateFrom "dict.__init__" ↥s ↑a [] .none) _ _ _;unfold Builtin.Dict.updateFrom;rwa[ajx (alW (T:="list") ⟨_,h,2⟩ ?_)];rw[aj3 ⋯];rwa[ajx (L5 h J λg H kp=>?_)];rw[aj3 ⋯];rwa[ajx (amS ?_)];let i:=kp^h;rwa[ajx (alP (items:=N.toArray) ⟨_,i,2,n,2⟩ ?_)]
 let k:↥s<g.objs.size:=by let⟨O,_,_,q,_⟩:=id c;rwa[ajR (kp^q)]
 let z:=ajR i;let M:∀b o,s•b\o->(g.push ("list_iterator">>>.fields #[↑a,.int 0 0])).get? b\o:=λb o e=>ajB _ (kp^ajB _ e)
 rwa[ajG ⟨al0 i9 _,GW (knd:=knd) (A:=A.in1) (rs:=rs) (its:=N) (l:=a) (it:=g.objs.size) J (aj9 z) (aj9 k) (akP t) hlen B ⇑N 0 _ rfl (aj8 _) ?_ ⟨_,ajB _ i,2,n,2⟩ ?_ ?_ ?_⟩]
 ·rwa[_,ajP _ rfl,22]
 ·let⟨O,W,V,q,v⟩:=id c;rwa[O,W,V,ajB _ (kp^q),v]
 ·intro j u r q v;let⟨p,d,rfl,R,o,D,U⟩:=S j u r q v;let l:=ajR D;rwa[p,d,2,aj9 l,aj9 (amC l k),R,o,M^D,U]
 ·intro m x C y;rwa[⟨2,P m x C λb o e=>?_⟩];let G:=ajR e;rwa[y b o (aj9 G) (aj9 (amC G k)) (M^e)]
end
section
variable {X:Cx}
inductive I0 (xs:Zb)(H:Hp)(Q:VK):Prop
 |mk (l:Zs)(ps:Zn)(kvs:List (Key×V)):xs=[↑l]->H l\.lst (ps.map V.ref)->⇑ps=⇑kvs->(∀(i:Nat)(p:Zs)(kv:Key×V),ps[i]?\p->kvs[i]?\kv->H p\.tup [kV kv.1,kv.2])->(∀d,H d=none->Q ↑d (upd H d (.dK (jo [] kvs))))->I0 xs H Q
def L6 (ok:dS P w H h):∀(c:Zn)(a:List (Key×V)),⇑c=⇑a->(∀(i:Nat)(p:Zs)(b:Key×V),c[i]?\p->a[i]?\b->H p\.tup [kV b.1,b.2])->
 ∃k:List (Key×Zt),KV a k/\∀(j:Nat)(p:Zs)(b:Key×Zt),c[j]?\p->k[j]?\b->∃e,(bZ P w).is b.1 e=true/\IsTup h p #[e,b.2]:=by
 intro c
 induction c with
 |nil=>exact λa l _=>by cases a with|nil=>exact⟨[],.nil,λj p b d=>by simp at d⟩|cons=>ext l
 |cons p c y=>
  intro a l n
  cases a with
  |nil=>ext l
  |cons b a=>
   let⟨k,o,x⟩:=y a (by simpa using l) λi q b d g=>n (i+ 1) q b (by simpa using d) (by simpa using g)
   obtain⟨-,s,t,r⟩:=ok p _ (n 0 p b rfl rfl);let⟨u,v,rfl,z,m⟩:=vals2 t;rwa[⟨(b.1,v)::k,.cons ⟨2,m⟩ o,λj q f d g=>?_⟩]
   cases j with
   |zero=>
    obtain rfl:p=q:=by simpa using d
    obtain rfl:(b.1,v)=f:=by simpa using g
    rwa[u,jw z,r]
   |succ j=>exact x j q f (by simpa using d) (by simpa using g)
def wy (M:X.calm=true):i3 X (.type "dict") I0:=by
 intro m s P H O R Q I r h;let⟨l,k,a,rfl,C,hlen,B,q⟩:=h;let⟨u,rfl,D⟩:=vals1 r;ext D;let⟨A,y,c,z,v⟩:=I.aU l _ C;obtain rfl:=IV z;let⟨rs,i,G⟩:=L6 I.aU k a hlen B;let t:⇑a=⇑rs:=⇑i;rw[ajD]at A;rwa[yo (knd:=bZ X.prog X.w) (rs:=rs) (I.ok.hd M) (by cbv) ∅ v (λj u E b o=>?_) λg w F kp=>?_]
 ·rw[aj0]at b
  cases e:k[j]? with
  |none=>rw[e]at b;ext b
  |some p=>rw[e]at b;let⟨d,n,J⟩:=G j p E e o;rwa[p,d,(Za0 b).symm,n,J]
 ·let L:KV (jo [] a) (merged [] rs):=KV.merge i .nil;let f:=lX a [];rw[akL]at f;rwa[↑↥s,_,I.laid (t':=w) kp (ajE _) (rX ∅ (aj2.mpr (akI (aj9 I.big))) L F),2,q _ (I.aU.fresh (ajE _))]
end
section
variable {X:Cx}{pins:List (Zs×Obj)}{σ:St}{H:Hp}{s:Zu}{d:Zs}{u:HO}{o:Obj}
def Inv.freeze (I:Inv X pins σ H s)(e:H d\u)(mu:uy (some u))(g:s•d\o):Inv X pins σ (upd H d (.cL o u)) s:=by
 let a:uy (H d):=by rw[e];rwa[mu]
 let b:∀c y,H c\.own y->c≠d:=λc y r z=>by subst z;rw[r]at a;rwa[a]
 let jB:∀c f,H c\.tup f->c≠d:=λc f r z=>by subst z;rw[r]at a;rwa[a]
 let new:cu X.prog X.w (upd H d (.cL o u)) s.heap d u:=(I.aU d u e).fO (λc v _ r=>r) (λc r=>[ao (b^r)]▸r) λc f r=>by rw[ao (jB^r)];rwa[r]
 rwa[kO (t':=s.toks) I a (Heap.SameBut.refl _ _) ⟨o,g⟩ ⟨g,new⟩]
def Inv.GX (I:Inv X pins σ H s)(e:H d\.cL o u)(mu:uy (some u))(k:∀o u,X.uY d≠some (.cL o u)):Inv X pins σ (upd H d u) s:=by
 let i:∀b,H b=none->b≠d:=λb n z=>by cbv
 let g:∀c y,H c\.own y->c≠d:=λc y r z=>by cbv
 let jB:∀c h,H c\.tup h->c≠d:=λc h r z=>by cbv
 rwa[⟨I.ok,I.os,I.bare,⟨I.base.keep,I.base.slot,λb ob q n w=>?_,I.base.there,λb h q=>?_,λb ob v q=>?_,λb l q=>?_⟩,I.loc,I.cell,5,λx c q=>?_,λp t=>?_,λb v q=>?_,I.len⟩]
 ·let f:=I.base.free b ob q n w;rw[ao (i b f)];rwa[f]
 ·let f:=I.base.iJ b h q;rw[ao (jB^f)];rwa[f]
 ·let f:=I.base.hJ b ob v q;rw[ao (λz=>k ob v (by rw[<-z];rwa[q]))];rwa[f]
 ·let⟨m,f⟩:=I.base.iK b l q;erw[m];rw[ao (λz=>by cbv)];rwa[f]
 ·rw[ao (i _ I.free)];rwa[I.free]
 ·let f:=I.hM x c q;rw[ao (i _ f)];rwa[f]
 ·let⟨a,b,c⟩:=I.pin p t;rwa[⟨a,5,c⟩];rw[ao (i _ b)];rwa[b]
 ·let st:∀b v,cu X.prog X.w H s.heap b v->cu X.prog X.w (upd H d u) s.heap b v:=λb v q=>q.fO (λc v _ r=>r) (λc r=>[ao (g^r)]▸r) λc h r=>by rw[ao (jB^r)];rwa[r]
  cases j:b=d
  ·subst j;rw[aj]at q;obtain rfl:=Za0 q;rwa[st^(I.aU^e).2]
  ·rw[ao j]at q;rwa[st^I.aU b v q]
def Inv.L7 (I:Inv X pins σ H s)(e:H d\u)(mu:uy (some u)):∀o u,X.uY d≠some (.cL o u):=λo v q=>by rw[I.base.hJ d o v q]at e;ext e;rwa[mu]
def XQ (t:TS):TS:=λD σ H=>∃(d:Zs)(u:HO),H d\u/\uy (some u)/\
 t { nx:=λ b a=>∃o,a d\.cL o u/\D.nx b (upd a d u),rt:=λv a=>∃o,a d\.cL o u/\D.rt v (upd a d u),bk:=λ b a=>∃o,a d\.cL o u/\D.bk b (upd a d u),ct:=λ b a=>∃o,a d\.cL o u/\D.ct b (upd a d u) } σ H
def tT {st:Stmt}{t:TS}(h:PS X st t):PS X st (XQ t):=by
 intro pins s σ H D I q;let⟨d,u,e,mu,q⟩:=q;let i:=I.L7 e mu;rwa[bq (h pins s σ H _ I q) λf l p=>?_]
 cases f with
 |next=>let⟨a,j,b,o,c,g⟩:=p;rwa[a,_,b.GX c mu i,g]
 |brk=>let⟨a,j,b,o,c,g⟩:=p;rwa[a,_,b.GX c mu i,g]
 |cont=>let⟨a,j,b,o,c,g⟩:=p;rwa[a,_,b.GX c mu i,g]
 |ret v=>let⟨k,a,j,b,r,o,c,g⟩:=p;rwa[k,a,_,b.GX c mu i,r,g]
end
def I7 (d:Zs)(o:Obj)(u:HO)(n:Nat)(Y:Nat->Hp->V->Hp->Prop):It:=⟨λi H=>i<n/\H d\.cL o u,Y,λi H=>i=n/\H d\.cL o u⟩
abbrev TN (d:Zs) (o:Obj) (kvs:List (Zd×V)):It:=I7 d o (.dT kvs) ⇑kvs λi H x H'=>H'=H/\∃p kv,kvs[i]?\kv/\x=↑p/\H p\(.tup (kv.1.map kV))
abbrev TQ (d:Zs) (o:Obj) (kvs:List (Key×V)):It:=I7 d o (.dK kvs) ⇑kvs λi H x H'=>H'=H/\∃kv,kvs[i]?\kv/\x=kV kv.1
theorem zq {c b:Type}{R:c->b->Prop}:∀{e:List c}{ys:List b},Paired R e ys->∀{i:Nat}{x:c}{y:b},e[i]?\x->ys[i]?\y->R x y
 |[],_,h,i,x,y,a,_=>by simp at a
 |k::f,_,h,i,x,y,a,d=>by
  cases h with
  |cons g j=>
   cases i with
   |zero=>rw[<-Za0 a,<-Za0 d];rwa[g]
   |succ i=>exact zq j a d
def I8 {it:Zs}{o:Obj}{u:HO}{b:Array DictEntry}{Y:Nat->Hp->V->Hp->Prop}(A:∀(X:Cx) (H:Hp) (h:Heap),dS X.prog X.w H h->H d\.cL o u->e9 h d b m/\b.size=n/\∀i f,b[i]?\f->∃x,RelV x f.key/\Y i H x H):Turn P w K e (I7 d o u n Y) [it] it (λi h=>h.IsKeyIter it d i b.size m):=
 Ib (λi h ζ=>by let⟨o,a,c,d⟩:=ζ;rwa[⟨o,11,a,c,d,4⟩]) (λi h D st k=>st.at k) (λX l J H s i E C I st q=>by
  let⟨r,rfl,y⟩:=A X H s.heap I.aU (q.elim (·.2) (·.2));let⟨G,j,t,_⟩:=id r;let⟨F,p,z,_⟩:=id st
  rwa[1111,Dk.walks (I.ok.hd C) it (vW j p (by rw[t.1,z];decide)),⟨st,r⟩,λ_ _ h=>h.1,λg=>⟨g.1,λv B=>by let⟨f,j,rfl⟩:=B;rwa[y i f j]⟩,λg=>g.1]) λ_ _ _ _ _ st h=>wpAny_pyIter_keyiter st h
def Br {o:Obj}{a:List (Zd×V)}{b:Array DictEntry}(I:dS P w H h)(u:H d\.cL o (.dT a))(q:o.data=.dict b n):
 e9 h d b n/\b.size=⇑a/\∀(i:Nat)(f:DictEntry),b[i]?\f->∃g p v,a[i]?\g/\f.key=↑p/\H p\.tup (g.1.map kV)/\f.val=v/\RelV g.2 v:=by
 obtain⟨c,-,C,ys,j,G,E,B,m,x,s,l,F⟩:=I d _ u;rw[c]at m;obtain rfl:=Za0 m;rw[q]at s;injection s with D y
 subst D y;let A:⇑a=⇑ys:=Paired.length j;let z:b.size=⇑ys:=size_of_entries l;rwa[⟨⟨_,c,x,q⟩,z.trans A.symm,λi f e=>?_⟩];let t:i<⇑a:=by cbv
 let r:ys[i]?\(ys[i]'∅):=ajz ∅
 rw[entry_at l,r]at e;obtain rfl:=Za0 e;let k:=zq j (ajz t) r;rwa[111,ajz t,2,k.2.1,2,k.2.2]
variable {X:Cx}{tg:Expr}
def iDT (tl:TE):TI:=λ c H R=>tl c H λx b=>∃d a,x=↑d/\b d\.dT a/\∀o,R (TN d o a) (upd b d (.cL o (.dT a)))
def Oj {tl:TE}(A:PE X e tl):PI X tg e (iDT tl):=by
 intro g s E H R I h;rwa[bq (A g s E H _ I h) λu N ζ=>?_];let⟨x,L,l,B,d,t,ex,k,q⟩:=ζ
 subst ex;ext B;obtain⟨-,j,ys,F,o,M,O,m,w,n,G,J⟩:=l.aU d _ k
 exact Dk.iter j ⟨o,m,w,n⟩ (vX (l.freeze k True.intro m) (I8 λX H h I f=>by let⟨r,z,y⟩:=Br I f n;rwa[⟨r,z,λi C f=>?_⟩];let⟨D,p,v,a,b,c,_⟩:=y i C f;rwa[↑p,b,2,p,D,a,2,c]) ⟨_,ajP _ rfl,22⟩ (q o))
def QH {k:Key}(h:(bZ P w).is k v=true):RelV (kV k) v:=by
 cases k with
 |inl i=>
  let a:Value.isInt i v=true:=h
  cases v with
  |int j t=>simp[Value.isInt]at a;subst a;rwa[12]
  |_=>simp[Value.isInt]at a
 |inr x=>
  let a:Value.isStrOf x v=true:=h
  cases v with
  |str j t=>simp[Value.isStrOf]at a;subst a;rwa[12]
  |_=>simp[Value.isStrOf]at a
section
variable {g:TG}{tb:TS}{D:Ends}{σ:St}{H:Hp}{d:Zs}{o:Obj}
def GY {u:HO}{Y:Nat->Hp->V->Hp->Prop}{a:Nat->St->Hp->Prop}(k:a 0 σ H)(e:∀i σ H,i<=n->a i σ H->H d\.cL o u)(l:∀i σ H x b,a i σ H->Y i H x b->g x σ b λ c j=>tb { D with nx:=a (i+ 1),ct:=a (i+ 1),bk:=D.nx } c j)(h:∀ σ H,a n σ H->D.nx σ H):qc (I7 d o u n Y) g tb D σ H:=tL k (λi σ H f p=>⟨⟨f,e i σ H (alm f) p⟩,λx b=>l i σ H x b p⟩) λ σ H p=>⟨⟨2,e n σ H (ajE _) p⟩,h σ H p⟩
def I9 {kvs:List (Zd×V)}(a:Nat->St->Hp->Prop)(m:a 0 σ H)(h:∀i σ H,i<=⇑kvs->a i σ H->H d\.cL o (.dT kvs))(n:∀i b σ H p,kvs[i]?\b->H p\.tup (b.1.map kV)->a i σ H->g ↑p σ H λ c f=>tb { D with nx:=a (i+ 1),ct:=a (i+ 1),bk:=D.nx } c f)(e:∀ σ H,a ⇑kvs σ H->D.nx σ H):qc (TN d o kvs) g tb D σ H:=GY m h (λi σ H x q p y=>by let⟨rfl,k,b,l,rfl,j⟩:=y;rwa[n i b σ _ k l j p]) e
end
inductive Dt where
 |i (n:Int)|s (l:Zh)|n|b (k:Bool)|t (xs:List Dt)|l (xs:List Dt)
inductive bW (H:Hp):Nat->V->Dt->Prop where
 |i {k:Nat} {n:Int}:bW H k (.int n) (.i n)
 |s {k:Nat} {l:Zh}:bW H k (.str (tx l)) (.s l)
 |n {k:Nat}:bW H k .non .n
 |b {k:Nat} {c:Bool}:bW H k (.bl c) (.b c)
 |t {k:Nat} {a:Zs} {vs:Zb} {ds:List Dt}:H a\.tup vs->⇑vs=⇑ds->(∀(j:Nat)(v:V)(d:Dt),vs[j]?\v->ds[j]?\d->bW H k v d)->bW H (k+ 1) ↑a (.t ds)
 |l {k:Nat} {a:Zs} {vs:Zb} {ds:List Dt}:H a\.lst vs->⇑vs=⇑ds->(∀(j:Nat)(v:V)(d:Dt),vs[j]?\v->ds[j]?\d->bW H k v d)->bW H (k+ 1) ↑a (.l ds)
def bW.keep (j:∀a e,H a\.tup e->I a\.tup e)(g:∀a e,H a\.lst e->I a\.lst e){k:Nat}{v:V}{d:Dt}(h:bW H k v d):bW I k v d:=by
 induction h with
 |i=>exact .i
 |s=>exact .s
 |n=>exact .n
 |b=>exact .b
 |t a b c f=>exact .t (j^a) b f
 |l a b c f=>exact .l (g^a) b f
def bW.same (s:av H I){k:Nat}{v:V}{d:Dt}(h:bW H k v d):bW I k v d:=h.keep (λ_ _ e=>s^e) (λ_ _ e=>s^e)
def bW.up {k:Nat}{d:Dt}(h:bW H k q d):bW H (k+ 1) q d:=by
 induction h with
 |i=>exact .i
 |s=>exact .s
 |n=>exact .n
 |b=>exact .b
 |t a b c e=>exact .t a b e
 |l a b c e=>exact .l a b e
def bW.le {k:Nat}{d:Dt}(h:bW H k q d)(a:k<=m):bW H m q d:=by
 let⟨j,rfl⟩:=Nat.exists_eq_add_of_le a;clear a
 induction j with
 |zero=>exact h
 |succ j b=>exact b.up
inductive XS (x y:V)(H:Hp)(Q:VK):Prop
 |mk (d:Dt)(a b:Zs):x=↑a->y=↑b->bW H 8 x d->bW H 8 y d->Q (.bl true) H->XS x y H Q
inductive XT (x y:V)(H:Hp)(Q:VK):Prop
 |mk (d:Dt)(a b:Zs):x=↑a->y=↑b->bW H 8 x d->bW H 8 y d->Q (.bl false) H->XT x y H Q
def nI (l:Zh):Zg:=l.map λn:Nat=>(n:Int)
def bO (l:Zh):⇑(nI l)=⇑l:=ajD ..
def eU (h:B[i]?\n):(nI B)[i]?\(n:Int):=by unfold nI;rw[aj0,h];rfl
def iN (a b:Zh):nI (a++b)=nI a++nI b:=akd ..
def TR (l:Zh)(i n:Nat):(nI l).set i (n:Int)=nI (l.set i n):=by unfold nI;rw[List.map_set]
structure RS where
 L:Nat
 q:Nat
 rows:List Dt
 ways:List (List (Int×Nat))
 gaps:Za3
 aV:Zh
 called:List Zh
 bz:Zh
def wK (l:List (Int×Nat)):List (Key×V):=l.map λp=>(Sum.inl p.1,V.int p.2)
def gK (l:Zg):List (Key×V):=l.map λs=>(Sum.inl s,V.bl true)
def fP (l:List (Int×Nat))(s:Int):Zi:=(l.find? λp=>decide (p.1=s)).map (·.2)
def kc (l:List (Int×Nat))(s:Int)(r:Nat):List (Int×Nat):=if (l.any λp=>decide (p.1=s))=true then l.map λp=>if p.1=s then (p.1,r) else p else l++[(s,r)]
def Bs (l:List (Int×Nat)):⇑(wK l)=⇑l:=ajD ..
def TV (l:Zg):⇑(gK l)=⇑l:=ajD ..
def TX (a b:Int):decide ((Sum.inl a:Key)=Sum.inl b)=decide (a=b):=by rw[akQ,akq,akq];rwa[Sum.inl.inj,akK Sum.inl]
theorem lK (s:Int):∀l:List (Int×Nat),bC (wK l) (Sum.inl s)=(fP l s).map λr:Nat=>V.int (r:Int)
 |[]=>rfl
 |p::l=>by
  let b:=lK s l;cases h:p.1=s
  ·let e:bC (wK (p::l)) (Sum.inl s)\(V.int p.2):=dk (p:=(Sum.inl p.1,V.int p.2)) (by rw[h]);let a:fP (p::l) s\p.2:=by unfold fP;rw[amP (by cbv)];rfl
   rw[e,a];rfl
  ·let e:bC (wK (p::l)) (Sum.inl s)=bC (wK l) (Sum.inl s):=dc (p:=(Sum.inl p.1,V.int p.2)) (λz=>h (Sum.inl.inj z));let a:fP (p::l) s=fP l s:=by unfold fP;rw[al9 (by simpa using h)]
   rw[e,a,b]
def Bu (l:List (Int×Nat))(s:Int)(r:Nat):putK (wK l) (Sum.inl s) (.int r)=wK (kc l s r):=by
 unfold putK kc
 let a:((wK l).any λb=>decide (b.1=Sum.inl s))=l.any λp=>decide (p.1=s):=by
  unfold wK;rw[List.any_map]
  congr 1
  funext p
  rwa[TX _ _]
 rw[a];split
 ·unfold wK;rw[aki,aki];rwa[akB λp _=>?_]
  cbv
 ·unfold wK;rw[akd];rfl
def L8 (l:List (Int×Nat))(s t:Int)(r:Nat):fP (kc l s r) t=if t=s then some r else fP l t:=by
 let c:=lK t (kc l s r);rw[<-Bu,jF,lK]at c
 let inj:∀a b:Zi,(a.map λr:Nat=>V.int (r:Int))=(b.map λr:Nat=>V.int (r:Int))->a=b:=λa b h=>by
  cases a <;> cases b <;> simp at h ⊢
  ext
 apply inj;rw[<-c];cases e:t=s
 ·rw[aj3 e,aj3 (by rw[e])];rfl
 ·rw[ajY e,ajY (λz=>e (Sum.inl.inj z))]
def L9 (l:List (Int×Nat))(s:Int)(r:Nat):⇑(kc l s r)<=⇑l+ 1:=by
 unfold kc;split
 ·rw[ajD];ext
 ·rw[ajC];rwa[ajE _]
def QI (l:Zg)(s:Int):fJ (gK l) (Sum.inl s)=gK (l.filter λx=>decide (x≠s)):=by
 unfold fJ gK;rw[List.filter_map]
 congr 1
 rwa[amW λx _=>?_]
 cbv
theorem Ja (s:Int):∀l:Zg,bC (gK l) (Sum.inl s)=if s∈l then some (V.bl true) else none
 |[]=>rfl
 |x::l=>by
  cases h:x=s
  ·rw[aj3 (by cbv)];rwa[dk (p:=(Sum.inl x,V.bl true)) (by rw[h])]
  ·let e:bC (gK (x::l)) (Sum.inl s)=bC (gK l) (Sum.inl s):=dc (p:=(Sum.inl x,V.bl true)) (λz=>h (Sum.inl.inj z));rw[e,Ja s l]
   cbv
theorem zr:∀(more acc:List (Key×V)),((acc++more).map (·.1)).Nodup->jo acc more=acc++more
 |[],acc,_=>(akb _).symm
 |p::more,acc,h=>by
  let a:bC acc p.1=none:=by unfold bC;rw[List.find?_eq_none.mpr ?_];rfl;intro q b;rw[akq];intro e;rw[akd,akv]at h;rwa[h.2.2 q.1 (alB b) p.1 (alB ajU) e]
  show jo (putK acc p.1 p.2) more=_;rw[Bj _ a,zr more (acc++[(p.1,p.2)]) ([akl]▸h),akl];rfl
structure RA where
 dx:Zs
 aR:Zs
 aW:Zs
 aG:Zs
 aE:Zs
 aC:Zs
 aN:Zs
 rs:Zn
 ws:Zn
 gs:Zn
 cs:Zn
def gx (L made:Int)(a:RA):List (Str×V):=[("letters",.int L),("made",.int made),("rows",↑a.aR),("ways",↑a.aW),("gaps",↑a.aG),("elders",↑a.aE),("called",↑a.aC),("went",↑a.aN)]
def Jb (L m n:Int)(a:RA):bT "made" (.int n) (gx L m a)=gx L n a:=by
 let h:¬(("letters":Str)="made"):=⋯
 unfold gx;simp only[bT,ajY h,am5]
def wz (L m:Int)(a:RA):(gx L m a).lookup ("letters":Str)\(.int L):=by kernel_rfl
def tU (L m:Int)(a:RA):(gx L m a).lookup ("made":Str)\(.int m):=by kernel_rfl
def tV (L m:Int)(a:RA):(gx L m a).lookup ("rows":Str)\↑a.aR:=by kernel_rfl
def ja (L m:Int)(a:RA):(gx L m a).lookup ("ways":Str)\↑a.aW:=by kernel_rfl
def tW (L m:Int)(a:RA):(gx L m a).lookup ("gaps":Str)\↑a.aG:=by kernel_rfl
def jP (L m:Int)(a:RA):(gx L m a).lookup ("elders":Str)\↑a.aE:=by kernel_rfl
def n7 (L m:Int)(a:RA):(gx L m a).lookup ("called":Str)\↑a.aC:=by kernel_rfl
def tX (L m:Int)(a:RA):(gx L m a).lookup ("went":Str)\↑a.aN:=by kernel_rfl
def da (L m:Int)(a:RA){x:Str}(h:x∉(["letters","made","rows","ways","gaps","elders","called","went"]:Zp)):(gx L m a).lookup x=none:=by simp only[ajS,akn,alJ,not_or]at h;let⟨f,d,i,e,g,b,j,c⟩:=h;unfold gx;simp only[List.lookup,aj2.mpr f,aj2.mpr d,aj2.mpr i,aj2.mpr e,aj2.mpr g,aj2.mpr b,aj2.mpr j,aj2.mpr c]
theorem eI:∀{fs:List (Str×V)},fs.lookup f=none->bT f q fs=fs++[(f,q)]
 |[],_=>rfl
 |(g,x)::r,h=>by
  cases e:g=f
  ·cbv
  ·let a:(f==g)=false:=aj2.mpr (akI e);simp only[List.lookup,a]at h;show (if g=f then _ else _)=_;rw[ajY e,eI h];rfl
inductive mU:Dt->Prop where
 |i {n:Int}:mU (.i n)
 |s {l:Zh}:mU (.s l)
 |t {ds:List Dt}:⇑ds<=100000->(∀d∈ds,mU d)->mU (.t ds)
def bW.gF (q:∀a g,H a\.tup g->I a\.tup g){k:Nat}{v:V}{d:Dt}(h:bW H k v d)(m:mU d):bW I k v d:=by
 induction h with
 |i=>exact .i
 |s=>exact .s
 |n=>exact .n
 |b=>exact .b
 |t a b c e=>
  cases m with
  |t _ o=>exact .t (q^a) b λj v d p f=>e j v d p f (o d (ajA f))
 |l a b c e=>ext m
def Each {a:Type}(R:Zs->a->Prop)(b:Zn)(xs:List a):Prop:=⇑b=⇑xs/\∀(i:Nat)(p:Zs)(x:a),b[i]?\p->xs[i]?\x->R p x
def Each.imp {e:Type}{R c:Zs->e->Prop}{a:List e}(h:Each R F a)(f:∀p x,p∈F->x∈a->R p x->c p x):Each c F a:=⟨h.1,λi p x d b=>f p x (ajA d) (ajA b) (h.2 i p x d b)⟩
def Each.snoc {d:Type}{R:Zs->d->Prop}{ps:Zn}{xs:List d}{x:d}(h:Each R ps xs)(f:R a x):Each R (ps++[a]) (xs++[x]):=by
 rwa[⟨by rw[ajC,ajC,h.1];rfl,λi q y c b=>?_⟩];cases e:i<⇑ps
 ·rw[ajM e]at c;rw[ajM (by rw[<-h.1];rwa[e])]at b;rwa[h.2 i q y c b]
 ·rw[ajN ∅]at c;rw[ajN (by rw[<-h.1];omega)]at b;rw[ajF.mp (ajA c),ajF.mp (ajA b)];rwa[f]
def Each.at {a:Type}{R:Zs->a->Prop}{b:List a}(h:Each R F b){i:Nat}{x:a}(d:b[i]?\x):∃p,F[i]?\p/\R p x:=by
 let c:i<⇑F:=by rw[h.1];rwa[(ajy.mp d).1]
 rwa[_,ajz c,h.2 i _ x (ajz c) d]
def Each.mem {b:Type}{R:Zs->b->Prop}{xs:List b}(h:Each R F xs){p:Zs}(d:p∈F):∃x,x∈xs/\R p x:=by
 let⟨i,c⟩:=akr d;let a:i<⇑xs:=by rw[<-h.1];rwa[(ajy.mp c).1]
 rwa[_,ajA (ajz a),h.2 i p _ c (ajz a)]
theorem Each.set {k:Type}{R g:Zs->k->Prop}{xs:List k}{x:k}(h:Each R F xs)(c:F[i]?\a)(m:g a x)(n:F.Nodup)(f:∀q y,q∈F->q≠a->R q y->g q y):Each g F (xs.set i x):=by
 rwa[⟨[aj5]▸h.1,λj q y b d=>?_⟩];cases e:i=j
 ·subst e;rw[c]at b;obtain rfl:=Za0 b;let l:i<⇑xs:=by rw[<-h.1];rwa[(ajy.mp c).1]
  rw[akh l]at d;obtain rfl:=Za0 d;rwa[m]
 ·rw[aky e]at d;rwa[f q y (ajA b) (λz=>?_) (h.2 j q y b d)];subst z;rwa[e ((amX (ajy.mp c).1 n).mp (c.trans b.symm))]
def RA.lists (a:RA):Zn:=a.aR::a.aW::a.aG::a.aE::a.aC::a.aN::a.cs
def RA.ft (a:RA):Zn:=a.ws++a.gs
def RA.own (a:RA)(r b:Zs):Prop:=b=r\/b∈a.lists\/b∈a.ft
structure ay (C:Zs)(H:Hp)(r:Zs)(S:RS)(a:RA):Prop where
 ins:H r\(.ins C a.dx (gx S.L S.q a))
 hR:H a.aR\(.lst (a.rs.map V.ref))
 hW:H a.aW\(.lst (a.ws.map V.ref))
 hG:H a.aG\(.lst (a.gs.map V.ref))
 hE:H a.aE\(.lst (au (nI S.aV)))
 hC:H a.aC\(.lst (a.cs.map V.ref))
 hN:H a.aN\(.lst (au (nI S.bz)))
 rR:Each (λp d=>bW H 4 ↑p d) a.rs S.rows
 rW:Each (λp l=>H p\.dK (wK l)) a.ws S.ways
 rG:Each (λp l=>H p\.dK (gK l)) a.gs S.gaps
 rC:Each (λp l=>H p\.lst (au (nI l))) a.cs S.called
 flat:∀d∈S.rows,mU d
 ji:a.lists.Nodup
 mV:a.ft.Nodup
variable {C:Zs}{H H':Hp}{r:Zs}{S:RS}{a:RA}
def ay.keep (h:ay C H r S a)(k:∀b o,a.own r b->H b\o->H' b\o)(j:∀b g,H b\.tup g->H' b\.tup g):ay C H' r S a:=by
 let c:∀b o,b∈a.lists->H b\o->H' b\o:=λb o f=>k b o (.inr (.inl f))
 let i:∀b o,b∈a.ft->H b\o->H' b\o:=λb o f=>k b o (.inr (.inr f))
 rwa[k _ _ (.inl rfl) h.ins,c _ _ (by simp[RA.lists]) h.hR,c _ _ (by simp[RA.lists]) h.hW,c _ _ (by simp[RA.lists]) h.hG,c _ _ (by simp[RA.lists]) h.hE,c _ _ (by simp[RA.lists]) h.hC,c _ _ (by simp[RA.lists]) h.hN,h.rR.imp λp x _ l e=>e.gF j (h.flat x l),h.rW.imp λp x d _ e=>i _ _ (aj4 _ d) e,h.rG.imp λp x d _ e=>i _ _ (ajI _ d) e,h.rC.imp λp x d _ e=>c _ _ (by simp[RA.lists,d]) e,h.flat,h.ji,h.mV]
def ay.same (h:ay C H r S a)(s:av H H'):ay C H' r S a:=h.keep (λ_ _ _ e=>s^e) (λ_ _ e=>s^e)
def ay.there (h:ay C H r S a){b:Zs}(c:a.own r b):∃o,H b\o:=by
 rcases c with rfl|c|c
 ·rwa[⟨_,h.ins⟩]
 ·unfold RA.lists at c;simp only[ajS]at c;rcases c with rfl|rfl|rfl|rfl|rfl|rfl|c
  ·rwa[⟨_,h.hR⟩]
  ·rwa[⟨_,h.hW⟩]
  ·rwa[⟨_,h.hG⟩]
  ·rwa[⟨_,h.hE⟩]
  ·rwa[⟨_,h.hC⟩]
  ·rwa[⟨_,h.hN⟩]
  ·let⟨x,_,e⟩:=h.rC.mem c;rwa[_,e]
 ·rcases ajK.mp c with c|c
  ·let⟨x,_,e⟩:=h.rW.mem c;rwa[_,e]
  ·let⟨x,_,e⟩:=h.rG.mem c;rwa[_,e]
def ay.tY (h:ay C H r S a){b:Zs}{f:Zb}(e:H b\.tup f):¬a.own r b:=λc=>by
 rcases c with rfl|c|c
 ·rw[h.ins]at e;ext e
 ·unfold RA.lists at c;simp only[ajS]at c;rcases c with rfl|rfl|rfl|rfl|rfl|rfl|c
  ·rw[h.hR]at e;ext e
  ·rw[h.hW]at e;ext e
  ·rw[h.hG]at e;ext e
  ·rw[h.hE]at e;ext e
  ·rw[h.hC]at e;ext e
  ·rw[h.hN]at e;ext e
  ·let⟨x,_,d⟩:=h.rC.mem c;cbv
 ·rcases ajK.mp c with c|c
  ·let⟨x,_,d⟩:=h.rW.mem c;cbv
  ·let⟨x,_,d⟩:=h.rG.mem c;cbv
end L2
variable {S T:L2.RS}{O:L2.RA}
namespace L2
section
variable {C:Zs}{H:Hp}{r:Zs}{S:RS}{a:RA}
def gG:a.aR∈a.lists:=by simp[RA.lists]
def gH:a.aW∈a.lists:=by simp[RA.lists]
def jx:a.aG∈a.lists:=by simp[RA.lists]
def hV:a.aE∈a.lists:=by simp[RA.lists]
def jb:a.aC∈a.lists:=by simp[RA.lists]
def iF:a.aN∈a.lists:=by simp[RA.lists]
def gN (h:b∈a.cs):b∈a.lists:=by simp[RA.lists,h]
def dW (h:b∈a.ws):b∈a.ft:=aj4 _ h
def gO (h:b∈a.gs):b∈a.ft:=ajI _ h
def ay.Ol (h:ay C H r S a){b:Zs}(c:b∈a.lists):∃d,H b\(.lst d):=by
 unfold RA.lists at c;simp only[ajS]at c;rcases c with rfl|rfl|rfl|rfl|rfl|rfl|c
 ·rwa[⟨_,h.hR⟩]
 ·rwa[⟨_,h.hW⟩]
 ·rwa[⟨_,h.hG⟩]
 ·rwa[⟨_,h.hE⟩]
 ·rwa[⟨_,h.hC⟩]
 ·rwa[⟨_,h.hN⟩]
 ·let⟨x,_,e⟩:=h.rC.mem c;rwa[_,e]
def ay.qU (h:ay C H r S a){b:Zs}(c:b∈a.ft):∃d,H b\(.dK d):=by
 rcases ajK.mp c with c|c
 ·let⟨x,_,e⟩:=h.rW.mem c;rwa[_,e]
 ·let⟨x,_,e⟩:=h.rG.mem c;rwa[_,e]
def ay.rl (h:ay C H r S a){b:Zs}(c:b∈a.lists):r≠b:=by let⟨d,e⟩:=h.Ol c;rwa[cz h.ins e (by cbv)]
def ay.rd (h:ay C H r S a){b:Zs}(c:b∈a.ft):r≠b:=by let⟨d,e⟩:=h.qU c;rwa[cz h.ins e (by cbv)]
def ay.ld (h:ay C H r S a){b c:Zs}(d:b∈a.lists)(hc:c∈a.ft):b≠c:=by
 let⟨f,e⟩:=h.Ol d;let⟨ys,g⟩:=h.qU hc
 cbv
def ay.tl (h:ay C H r S a){b c:Zs}{d:Zb}(e:H b\.tup d)(hc:c∈a.lists):b≠c:=λz=>h.tY e (.inr (.inl ([z]▸hc)))
def ay.td (h:ay C H r S a){b c:Zs}{d:Zb}(e:H b\.tup d)(hc:c∈a.ft):b≠c:=λz=>h.tY e (.inr (.inr ([z]▸hc)))
def ay.tr (h:ay C H r S a){b:Zs}{c:Zb}(d:H b\.tup c):b≠r:=λz=>h.tY d (.inl z)
def ay.QJ (h:ay C H r S a)(n:Nat):ay C (upd H r (.ins C a.dx (gx S.L n a))) r { S with q:=n } a:=by
 let c:∀b o,b∈a.lists->H b\o->upd H r (.ins C a.dx (gx S.L n a)) b\o:=λb o f e=>by rw[ao (h.rl f).symm];rwa[e]
 let g:∀b o,b∈a.ft->H b\o->upd H r (.ins C a.dx (gx S.L n a)) b\o:=λb o f e=>by rw[ao (h.rd f).symm];rwa[e]
 rwa[aj,c _ _ gG h.hR,c _ _ gH h.hW,c _ _ jx h.hG,c _ _ hV h.hE,c _ _ jb h.hC,c _ _ iF h.hN,h.rR.imp λp x _ j e=>e.gF (λb k i=>[ao (h.tr i)]▸i) (h.flat x j),h.rW.imp λp x d _ e=>g _ _ (dW d) e,h.rG.imp λp x d _ e=>g _ _ (gO d) e,h.rC.imp λp x d _ e=>c _ _ (gN d) e,h.flat,h.ji,h.mV]
def ay.jQ (h:ay C H r S a){q:Zs}{o:HO}(c:q∈a.lists):upd H q o r\.ins C a.dx (gx S.L S.q a)/\(∀b x,b∈a.lists->b≠q->H b\x->upd H q o b\x)/\(∀b x,b∈a.ft->H b\x->upd H q o b\x)/\∀b d,H b\.tup d->upd H q o b\(.tup d):=⟨[ao (h.rl c)]▸h.ins,λb x _ n e=>[ao n]▸e,λb x f e=>[ao (h.ld c f).symm]▸e,λb d e=>[ao (h.tl e c)]▸e⟩
def wA (b:a.lists.Nodup):(a.aR≠a.aW/\a.aR≠a.aG/\a.aR≠a.aE/\a.aR≠a.aC/\a.aR≠a.aN)/\(a.aW≠a.aG/\a.aW≠a.aE/\a.aW≠a.aC/\a.aW≠a.aN)/\(a.aG≠a.aE/\a.aG≠a.aC/\a.aG≠a.aN)/\(a.aE≠a.aC/\a.aE≠a.aN)/\a.aC≠a.aN/\∀p∈a.cs,p≠a.aR/\p≠a.aW/\p≠a.aG/\p≠a.aE/\p≠a.aC/\p≠a.aN:=by
 unfold RA.lists at b
 cbv
def ay.Bv (h:ay C H r S a){p:Zs}{d:Dt}(j:bW H 4 ↑p d)(hd:mU d):ay C (upd H a.aR (.lst (a.rs.map V.ref++[↑p]))) r { S with rows:=S.rows++[d] } { a with rs:=a.rs++[p] }:=by
 let⟨m,c,i,g⟩:=h.jQ (o:=.lst (a.rs.map V.ref++[↑p])) (gG (a:=a));obtain⟨⟨n1,n2,n,s,k⟩,-,-,-,-,l⟩:=wA h.ji
 rwa[⟨m,5,c _ _ gH n1.symm h.hW,c _ _ jx n2.symm h.hG,c _ _ hV n.symm h.hE,c _ _ jb s.symm h.hC,c _ _ iF k.symm h.hN,(h.rR.imp λq x _ f e=>e.gF g (h.flat x f)).snoc (j.gF g hd),h.rW.imp λq x b _ e=>i _ _ (dW b) e,h.rG.imp λq x b _ e=>i _ _ (gO b) e,h.rC.imp λq x b _ e=>c _ _ (gN b) (l q b).1 e,λx f=>?_,h.ji,h.mV⟩]
 ·rw[aj,akd];rfl
 ·rcases ajK.mp f with f|f
  ·rwa[h.flat x f]
  cbv
def ay.TY (h:ay C H r S a){p:Zs}{l:List (Int×Nat)}(g:H p\.dK (wK l))(t:p∉a.ft):ay C (upd H a.aW (.lst (a.ws.map V.ref++[↑p]))) r { S with ways:=S.ways++[l] } { a with ws:=a.ws++[p] }:=by
 let⟨j,c,f,n⟩:=h.jQ (o:=.lst (a.ws.map V.ref++[↑p])) (gH (a:=a));obtain⟨⟨n1,-⟩,⟨n2,k,m,i⟩,-,-,-,u⟩:=wA h.ji;let d:upd H a.aW (.lst (a.ws.map V.ref++[↑p])) p\(.dK (wK l)):=by rw[ao (cz g h.hW f!"")];rwa[g]
 erw[j,c _ _ gG n1 h.hR,5,c _ _ jx n2.symm h.hG,c _ _ hV k.symm h.hE,c _ _ jb m.symm h.hC,c _ _ iF i.symm h.hN,h.rR.imp λq x _ s e=>e.gF n (h.flat x s),(h.rW.imp λq x b _ e=>f _ _ (dW b) e).snoc d,h.rG.imp λq x b _ e=>f _ _ (gO b) e,h.rC.imp λq x b _ e=>c _ _ (gN b) (u q b).2.1 e,h.flat,h.ji]
 ·show upd H a.aW _ a.aW\.lst ((a.ws++[p]).map V.ref);rw[aj,akd];rfl
 ·show (a.ws++[p]++a.gs).Nodup;rw[akl];rwa[(List.perm_middle.nodup_iff).mpr (akf.mpr ⟨t,h.mV⟩)]
def ay.T1 (h:ay C H r S a){p:Zs}{l:Zg}(i:H p\.dK (gK l))(u:p∉a.ft):ay C (upd H a.aG (.lst (a.gs.map V.ref++[↑p]))) r { S with gaps:=S.gaps++[l] } { a with gs:=a.gs++[p] }:=by
 let⟨k,c,g,s⟩:=h.jQ (o:=.lst (a.gs.map V.ref++[↑p])) (jx (a:=a));obtain⟨⟨-,n1,-⟩,⟨n2,-⟩,⟨m,n,j⟩,-,-,v⟩:=wA h.ji;let d:upd H a.aG (.lst (a.gs.map V.ref++[↑p])) p\(.dK (gK l)):=by rw[ao (cz i h.hG (by cbv))];rwa[i]
 erw[k,c _ _ gG n1 h.hR,c _ _ gH n2 h.hW,5,c _ _ hV m.symm h.hE,c _ _ jb n.symm h.hC,c _ _ iF j.symm h.hN,h.rR.imp λq x _ f e=>e.gF s (h.flat x f),h.rW.imp λq x b _ e=>g _ _ (dW b) e,(h.rG.imp λq x b _ e=>g _ _ (gO b) e).snoc d,h.rC.imp λq x b _ e=>c _ _ (gN b) (v q b).2.2.1 e,h.flat,h.ji]
 ·rw[aj,akd];rfl
 ·show (a.ws++(a.gs++[p])).Nodup;rw[<-akl];rwa[akv.mpr ⟨h.mV,by simp,λx f y t z=>?_⟩];rw[ajF.mp t]at z;rwa[u (z ▸ f)]
def ay.zt (h:ay C H r S a)(d:Zh):ay C (upd H a.aE (.lst (au (nI d)))) r { S with aV:=d } a:=by
 let⟨k,c,f,g⟩:=h.jQ (o:=.lst (au (nI d))) (hV (a:=a));obtain⟨⟨-,-,n1,-⟩,⟨-,n2,-⟩,⟨l,-⟩,⟨n,i⟩,-,j⟩:=wA h.ji
 rwa[k,c _ _ gG n1 h.hR,c _ _ gH n2 h.hW,c _ _ jx l h.hG,aj,c _ _ jb n.symm h.hC,c _ _ iF i.symm h.hN,h.rR.imp λq x _ m e=>e.gF g (h.flat x m),h.rW.imp λq x b _ e=>f _ _ (dW b) e,h.rG.imp λq x b _ e=>f _ _ (gO b) e,h.rC.imp λq x b _ e=>c _ _ (gN b) (j q b).2.2.2.1 e,h.flat,h.ji,h.mV]
def ay.QK (h:ay C H r S a)(d:Zh):ay C (upd H a.aN (.lst (au (nI d)))) r { S with bz:=d } a:=by
 let⟨k,c,f,g⟩:=h.jQ (o:=.lst (au (nI d))) (iF (a:=a));obtain⟨⟨-,-,-,-,n1⟩,⟨-,-,-,n2⟩,⟨-,-,l⟩,⟨-,n⟩,i,j⟩:=wA h.ji
 rwa[k,c _ _ gG n1 h.hR,c _ _ gH n2 h.hW,c _ _ jx l h.hG,c _ _ hV n h.hE,c _ _ jb i h.hC,aj,h.rR.imp λq x _ m e=>e.gF g (h.flat x m),h.rW.imp λq x b _ e=>f _ _ (dW b) e,h.rG.imp λq x b _ e=>f _ _ (gO b) e,h.rC.imp λq x b _ e=>c _ _ (gN b) (j q b).2.2.2.2.2 e,h.flat,h.ji,h.mV]
def ay.Jc (h:ay C H r S a){p:Zs}{l:Zh}(u:H p\.lst (au (nI l)))(j:p∉a.lists):ay C (upd H a.aC (.lst (a.cs.map V.ref++[↑p]))) r { S with called:=S.called++[l] } { a with cs:=a.cs++[p] }:=by
 let⟨m,c,i,t⟩:=h.jQ (o:=.lst (a.cs.map V.ref++[↑p])) (jb (a:=a));obtain⟨⟨-,-,-,n1,-⟩,⟨-,-,n2,-⟩,⟨-,n,-⟩,⟨s,-⟩,k,w⟩:=wA h.ji;let f:p≠a.aC:=λz=>j ([z]▸jb)
 let d:upd H a.aC (.lst (a.cs.map V.ref++[↑p])) p\(.lst (au (nI l))):=by rw[ao f];rwa[u]
 rwa[⟨m,c _ _ gG n1 h.hR,c _ _ gH n2 h.hW,c _ _ jx n h.hG,c _ _ hV s h.hE,5,c _ _ iF k.symm h.hN,h.rR.imp λq x _ g e=>e.gF t (h.flat x g),h.rW.imp λq x b _ e=>i _ _ (dW b) e,h.rG.imp λq x b _ e=>i _ _ (gO b) e,(h.rC.imp λq x b _ e=>c _ _ (gN b) (w q b).2.2.2.2.1 e).snoc d,h.flat,5,h.mV⟩]
 ·show upd H a.aC _ a.aC\.lst ((a.cs++[p]).map V.ref);rw[aj,akd];rfl
 ·show (a.lists++[p]).Nodup;rwa[akv.mpr ⟨h.ji,by simp,λx g y v z=>?_⟩];rw[ajF.mp v]at z;rwa[j (z ▸ g)]
def ay.Jd (h:ay C H r S a){i:Nat}{p:Zs}(g:a.cs[i]?\p)(l:Zh):ay C (upd H p (.lst (au (nI l)))) r { S with called:=S.called.set i l } a:=by
 let j:=ajA g;let⟨m,b,f,u⟩:=h.jQ (o:=.lst (au (nI l))) (gN j);obtain⟨-,-,-,-,-,z⟩:=wA h.ji;let⟨n1,n2,s,t,k,v⟩:=z p j
 let d:a.cs.Nodup:=by have:=h.ji;unfold RA.lists at this;simp only[akf]at this;rwa[this.2.2.2.2.2.2]
 rwa[m,b _ _ gG n1.symm h.hR,b _ _ gH n2.symm h.hW,b _ _ jx s.symm h.hG,b _ _ hV t.symm h.hE,b _ _ jb k.symm h.hC,b _ _ iF v.symm h.hN,h.rR.imp λq x _ w e=>e.gF u (h.flat x w),h.rW.imp λq x c _ e=>f _ _ (dW c) e,h.rG.imp λq x c _ e=>f _ _ (gO c) e,h.rC.set g aj d λq y c n e=>b _ _ (gN c) n e,h.flat,h.ji,h.mV]
def ay.Fv (h:ay C H r S a){q:Zs}{o:HO}(c:q∈a.ft):upd H q o r\.ins C a.dx (gx S.L S.q a)/\(∀b x,b∈a.ft->b≠q->H b\x->upd H q o b\x)/\(∀b x,b∈a.lists->H b\x->upd H q o b\x)/\∀b d,H b\.tup d->upd H q o b\(.tup d):=⟨[ao (h.rd c)]▸h.ins,λb x _ n e=>[ao n]▸e,λb x f e=>[ao (h.ld f c)]▸e,λb d e=>[ao (h.td e c)]▸e⟩
def ay.Bw (h:ay C H r S a){i:Nat}{p:Zs}(d:a.ws[i]?\p)(l:List (Int×Nat)):ay C (upd H p (.dK (wK l))) r { S with ways:=S.ways.set i l } a:=by
 let f:=ajA d;let⟨k,g,b,j⟩:=h.Fv (o:=.dK (wK l)) (dW f);let nd:=akv.mp h.mV
 rwa[k,b _ _ gG h.hR,b _ _ gH h.hW,b _ _ jx h.hG,b _ _ hV h.hE,b _ _ jb h.hC,b _ _ iF h.hN,h.rR.imp λq x _ m e=>e.gF j (h.flat x m),h.rW.set d aj nd.1 λq y c n e=>g _ _ (dW c) n e,h.rG.imp λq x c _ e=>g _ _ (gO c) (λz=>nd.2.2 p f q c z.symm) e,h.rC.imp λq x c _ e=>b _ _ (gN c) e,h.flat,h.ji,h.mV]
def ay.T2 (h:ay C H r S a){i:Nat}{p:Zs}(d:a.gs[i]?\p)(l:Zg):ay C (upd H p (.dK (gK l))) r { S with gaps:=S.gaps.set i l } a:=by
 let f:=ajA d;let⟨k,g,b,j⟩:=h.Fv (o:=.dK (gK l)) (gO f);let nd:=akv.mp h.mV
 rwa[k,b _ _ gG h.hR,b _ _ gH h.hW,b _ _ jx h.hG,b _ _ hV h.hE,b _ _ jb h.hC,b _ _ iF h.hN,h.rR.imp λq x _ m e=>e.gF j (h.flat x m),h.rW.imp λq x c _ e=>g _ _ (dW c) (λz=>nd.2.2 q c p f z) e,h.rG.set d aj nd.2.1 λq y c n e=>g _ _ (gO c) n e,h.rC.imp λq x c _ e=>b _ _ (gN c) e,h.flat,h.ji,h.mV]
end
def RS.kP (S:RS)(i:Nat)(l:List (Int×Nat)):RS:={ S with ways:=S.ways.set i l }
def RS.setG (S:RS)(i:Nat)(l:Zg):RS:={ S with gaps:=S.gaps.set i l }
def RS.way (S:RS)(c:Nat):List (Int×Nat):=S.ways.getD c []
def RS.gap (S:RS)(c:Nat):Zg:=S.gaps.getD c []
def RS.by (S:RS)(c:Nat)(z:Int):Zi:=fP (S.way c) z
def RS.cH (S:RS)(c:Nat)(z:Int)(d:Nat):RS:=S.kP c (kc (S.way c) z d)
def RS.mx (S:RS)(c:Nat)(z:Int):RS:=S.setG c ((S.gap c).filter λx=>decide (x≠z))
def RS.keep (S:RS)(c:Nat)(z:Int)(d:Nat):RS:=(((S.cH c z d).cH d (-z) c).mx c z).mx d (-z)
def il (c:Nat)(z:Int)(n:Nat):Dt:=.t [.s [110,101,119],.i c,.i z,.i n]
def RS.grown (S:RS)(c:Nat)(z:Int)(gaps:Zg):RS:={ S with q:=S.q+ 1,rows:=S.rows++[il c z S.q],ways:=S.ways++[[]],gaps:=S.gaps++[gaps],aV:=S.aV++[S.q],called:=S.called++[[S.q]] }
def RS.make (S:RS)(c:Nat)(z:Int)(gaps:Zg):RS:=(S.grown c z gaps).keep c z S.q
def RS.new (L:Nat)(gaps:Zg):RS:=⟨L,(1),[],[[]],[gaps],[0],[[0]],[]⟩
structure RS.Wf (S:RS):Prop where
 w:⇑S.ways=S.q
 g:⇑S.gaps=S.q
 e:⇑S.aV=S.q
 c:⇑S.called=S.q
section
variable {X:Cx}{e:Expr}{f:Str}{ta:TE}{pos:Pos}
def QL (a:X.K=K)(b:PE X e ta)(c:attributeBase e f X.env (eval e X.env)=eval e X.env):PE X (.Attribute e f pos) (Sz K ta f):=by subst a;rwa[aD b c]
end
def oh {J:It}{Q:VK}(n:Nat)(u:Nat->V)(R:Hp->V->Nat->Prop)(I:∀q b v i,av q b->R q v i->R b v i)(p:n<=sizeLine)(l:∀(i:Nat) b,av H b->i<n->J.go i b)(C:∀(i:Nat) (x:V) (b d:Hp),av H b->i<n->J.uB i b x d->d=b/\x=u i)(g:∀b,av H b->J.stop n b)(E:∀(i:Nat) (b:Hp) (y:VK),i<n->av H b->(∀v d,av b d->R d v i->y v d)->r (some (u i)::D) b y)(z:∀a b ys,av H b->b a=none->⇑ys=n->(∀(i:Nat) (v:V),ys[i]?\v->R b v i)->Q ↑a (upd b a (.lst ys))):rV r D Q J H:=by
 erw[λi m ys b=>m=n - i/\i<=n/\⇑ys=i/\av H b/\∀(j:Nat)(v:V),ys[j]?\v->R b v j,⟨n,by simp,aj8 _,2,λ_ _ e=>e,λj v h=>by simp at h⟩];rintro i m ys b ⟨rfl,M,s,s2,t⟩;cases c:i<n
 ·rwa[.inr ⟨l i b s2 c,3,λx d k=>?_⟩];let⟨rfl,rfl⟩:=C i x b d s2 c k;rwa[E i _ _ c s2 λv L o F=>⟨n - (i+ 1),32,c,by rw[ajC,s];rfl,s2.trans o,λj w f=>?_⟩]
  cases G:j<⇑ys
  ·rw[ajM G]at f;rwa[I _ _ _ _ o (t j w f)]
  ·rw[ajN ∅]at f
   let B:j - ⇑ys=0:=by have:=(ajy.mp f).1;rw[akJ]at this;ext
   rw[B]at f;have:j=i:=∅
   subst this;rw[<-Za0 f];rwa[F]
 ·let e:i=n:=∅
  subst e;rwa[.inl ⟨g b s2,3,λa A=>z a b ys s2 A s t⟩]
theorem tZ {P:Nat->Zs->Prop}:∀(ys:Zb)(k:Nat),(∀(i:Nat)(v:V),ys[i]?\v->∃p,v=↑p/\P (k+ i) p)->∃a:Zn,ys=a.map V.ref/\∀(i:Nat)(p:Zs),a[i]?\p->P (k+ i) p
 |[],_,_=>⟨[],2,λi p h=>by simp at h⟩
 |v::ys,k,h=>by
  let⟨p,rfl,f⟩:=h 0 v rfl
  let⟨a,rfl,b⟩:=tZ (P:=P) ys (k+ 1) λi w c=>by
   let⟨q,e,d⟩:=h (i+ 1) w (by simpa using c)
   cbv
  rwa[⟨p::a,2,λi q d=>?_⟩]
  cases i with
  |zero=>cbv
  |succ i=>cbv
theorem jR {f:Str}{v:V}{n:Nat}:∀{fs:List (Str×V)},⇑fs<=n->⇑(bT f v fs)<=n+ 1
 |[],h=>by show 1<=n+ 1;ext
 |(g,x)::r,h=>by
  show ⇑(if g=f then (g,v)::r else (g,x)::bT f v r)<=n+ 1;rw[aj1]at h;split
  ·rw[aj1];ext
  ·have:=jR (f:=f) (v:=v) (n:=n - 1) (fs:=r) ∅;rw[aj1];ext
def Ac (K:Za1):kitOne K (.type "int") (.type "tuple")\false:=by first|rfl|kernel_rfl
def Bx (K:Za1):kitOne K (.type "int") (.type "list")\false:=by first|rfl|kernel_rfl
def By (K:Za1):kitOne K (.type "int") (.type "dict")\false:=by first|rfl|kernel_rfl
def Ad (K:Za1):kitOne K (.type "str") (.type "tuple")\false:=by first|rfl|kernel_rfl
def Bz (K:Za1):kitOne K (.type "str") (.type "list")\false:=by first|rfl|kernel_rfl
def BD (K:Za1):kitOne K (.type "str") (.type "dict")\false:=by first|rfl|kernel_rfl
theorem rZ:∀{d:List DictEntry}{f:List (Key×Zt)}{c:List (Key×V)},Pairs (bZ P w) d f->KV c f->Vals (c.map λi=>kV i.1) (d.map (·.key))
 |[],_,_,.nil,r=>by ext r;rwa[.nil]
 |e::d,_,_,.cons g j h,r=>by
  cases r with
  |cons a b=>rw[akN,akN];rwa[.cons ?_ (rZ h b)];rw[a.1];rwa[QH g]
theorem pairs_len:∀{a:List DictEntry}{b:List (Key×Zt)},Pairs (bZ P w) a b->⇑a=⇑b
 |_,_,.nil=>rfl
 |_,_,.cons _ _ h=>by rw[aj1,aj1,pairs_len h]
section
variable {X:Cx}
inductive Je (xs:Zb)(H:Hp)(Q:VK):Prop
 |mk (d:Zs)(kvs:List (Key×V)):xs=[↑d]->H d\.dK kvs->(∀l,H l=none->Q ↑l (upd H l (.lst (kvs.map λkv=>kV kv.1))))->Je xs H Q
def kg (O:X.calm=true):i3 X (.type "list") Je:=by
 intro w s U H S Y Q I r h;let⟨d,c,rfl,x,q⟩:=h;let⟨u,rfl,G⟩:=vals1 r;ext G;let⟨C,n,A,rel,o,g,W,E,k,e,R,t,V⟩:=tQ I.aU x;let hlen:⇑c=⇑A:=⇑rel;let m:=pairs_len t;let D:g.size=⇑c:=by rw[<-alz,m,hlen]
 rwa[Dk.IY (I.ok.hd O) n ⟨o,E,k,e⟩ ∅ λF z a y l f b=>?_]
 let N:a.toList=g.toList.map (·.key):=by
  rwa[alf λi=>?_]
  rw[ak4,aj0,ak4]
  cases j:a[i]? with
  |none=>
   let L:g.size<=i:=by let p:a.size<=i:=Array.getElem?_eq_none_iff.mp j;rw[b.1]at p;rwa[p]
   rw[Array.getElem?_eq_none L];rfl
  |some v=>let⟨T,M,rfl⟩:=b.2 i v j;rw[M];rfl
 let B:a=(g.toList.map (·.key)).toArray:=by rw[<-N]
 rw[B]at f;let j:=rZ t rel;rwa[↑↥s,_,I.laid (t':=z) l (ajE _) (show cu X.prog X.w _ F _ (.lst (c.map λJ=>kV J.1)) from ⟨[ajD]▸C,_,y,j,f⟩),2,q _ (I.aU.fresh (ajE _))]
end
section
variable {C:Zs}{H:Hp}{r:Zs}{S:RS}{a:RA}
theorem ay.T3 (h:ay C H r S a){i:Nat}(v:i<⇑a.ws){q:Zs}{l:List (Int×Nat)}(d:H q\.dK (wK l))(w:q∉a.ft):ay C (upd H a.aW (.lst ((a.ws.map V.ref).set i ↑q))) r { S with ways:=S.ways.set i l } { a with ws:=a.ws.set i q }:=by
 let⟨D,g,n,G⟩:=h.jQ (o:=.lst ((a.ws.map V.ref).set i ↑q)) (gH (a:=a));obtain⟨⟨n1,-⟩,⟨n2,E,F,B⟩,-,-,-,Q⟩:=wA h.ji;let k:upd H a.aW (.lst ((a.ws.map V.ref).set i ↑q)) q\(.dK (wK l)):=by rw[ao (cz d h.hW f!"")];rwa[d]
 let nd:=akv.mp h.mV
 erw[D,g _ _ gG n1 h.hR,5,g _ _ jx n2.symm h.hG,g _ _ hV E.symm h.hE,g _ _ jb F.symm h.hC,g _ _ iF B.symm h.hN,h.rR.imp λq x _ f e=>e.gF G (h.flat x f),5,h.rG.imp λq x d _ e=>n _ _ (gO d) e,h.rC.imp λq x d _ e=>g _ _ (gN d) (Q q d).2.1 e,h.flat,h.ji]
 ·show upd H a.aW _ a.aW\.lst ((a.ws.set i q).map V.ref);rw[aj,List.map_set]
 ·rwa[⟨by show ⇑(a.ws.set i q)=⇑(S.ways.set i l);rw[aj5,aj5];rwa[h.rW.1],λj p x O L=>?_⟩];let b:(a.ws.set i q)[j]?\p:=O
  let c:(S.ways.set i l)[j]?\x:=L
  cases z:i=j
  ·subst z;rw[akh v]at b;rw[akh (by rw[<-h.rW.1];rwa[v])]at c;obtain rfl:=Za0 b;obtain rfl:=Za0 c;rwa[k]
  ·rw[aky z]at b c;rwa[n _ _ (dW (ajA b)) (h.rW.2 j p x b c)]
 ·show (a.ws.set i q++a.gs).Nodup;let M:q∉a.ws:=λz=>w (aj4 _ z)
  let s:q∉a.gs:=λz=>w (ajI _ z)
  rwa[akv.mpr ⟨5,nd.2.1,λx f y u z=>?_⟩]
  ·have:∀(l:Zn)(i:Nat),l.Nodup->q∉l->(l.set i q).Nodup:=by
    intro l
    induction l with
    |nil=>intro i _ _;simp
    |cons x l P=>
     intro i I m;let⟨N,t⟩:=akf.mp I;let J:q≠x:=λz=>m ([z]▸ajU)
     let A:q∉l:=λz=>m (akc _ z)
     cases i with
     |zero=>exact akf.mpr ⟨A,t⟩
     |succ i=>
      rwa[akf.mpr ⟨λz=>?_,P i t A⟩];rcases alL z with z|z
      ·rwa[N z]
      ·rwa[J z.symm]
   rwa[this a.ws i nd.1 M]
  ·rcases alL f with f|f
   ·rwa[nd.2.2 x f y u z]
   ·rw[<-f,z]at s;rwa[s u]
end
def QM (l:List (Int×Nat))(s:Int):fJ (wK l) (Sum.inl s)=wK (l.filter λp=>decide (p.1≠s)):=by
 unfold fJ wK;rw[List.filter_map]
 congr 1
 rwa[amW λx _=>?_]
 cbv
def Jf (l:List (Int×Nat))(s t:Int):fP (l.filter λp=>decide (p.1≠s)) t=if t=s then none else fP l t:=by
 induction l with
 |nil=>split <;> rfl
 |cons p l a=>
  let b:∀(q:Int×Nat)(m:List (Int×Nat)),fP (q::m) t=if q.1=t then some q.2 else fP m t:=λq m=>by
   unfold fP
   cbv
  cbv
abbrev Way:=Nat×Int×Nat
abbrev Ze:=List Way
def RS.ax (S:RS)(c:Nat):Nat:=S.aV.getD c 0
def RS.cI (S:RS)(c:Nat):Zh:=S.called.getD c []
def fS (c:Nat)(z:Int)(x y:Nat):Dt:=.t [.s [109,101,101,116],.i c,.i z,.i x,.i y]
def RS.joined (S:RS)(c:Nat)(z:Int)(x y:Nat):RS:={ S with rows:=S.rows++[fS c z x y],bz:=S.bz++[y],aV:=(S.cI y).foldl (λa n=>a.set n x) S.aV,called:=S.called.set x (S.cI x++S.cI y) }
def RS.ph (S:RS)(c:Nat)(z:Int):RS:=S.kP c ((S.way c).filter λp=>decide (p.1≠z))
def jS (c:Nat)(st:RS×Ze)(p:Int×Nat):RS×Ze:=(if p.2≠c then st.1.ph p.2 (-p.1) else st.1,st.2++[(c,p.1,p.2)])
def RS.pj (S:RS)(c:Nat)(a:Ze):RS×Ze:=(S.way c).foldl (jS c) (S.kP c [],a)
def RS.meet (S:RS)(c:Nat)(z:Int)(x y:Nat)(a:Ze):RS×Ze:=(S.joined c z (min x y) (max x y)).pj (max x y) a
def RS.takeIn (S:RS)(a:Ze)(w:Way):RS×Ze:=
 if (S.by (S.ax w.1) w.2.1).getD (S.ax w.2.2)≠S.ax w.2.2 then S.meet (S.ax w.1) w.2.1 ((S.by (S.ax w.1) w.2.1).getD (S.ax w.2.2)) (S.ax w.2.2) a
 else if (S.by (S.ax w.2.2) (-w.2.1)).getD (S.ax w.1)≠S.ax w.1 then S.meet (S.ax w.2.2) (-w.2.1) ((S.by (S.ax w.2.2) (-w.2.1)).getD (S.ax w.1)) (S.ax w.1) a
 else (S.keep (S.ax w.1) w.2.1 (S.ax w.2.2),a)
structure GZ (S:RS)(c:Nat):Prop where
 nd:((S.way c).map (·.1)).Nodup
 lt:∀q∈S.way c,q.2<S.q
 bk:∀q∈S.way c,q.2≠c->(S.by q.2 (-q.1)).isSome=true
def jG {l:List (Int×Nat)}(a:n<⇑S.ways):(S.kP n l).way m=if m=n then l else S.way m:=by
 unfold RS.kP RS.way;show (S.ways.set n l).getD m []=_;rw[ajH,ajH];cases h:n=m
 ·subst h;rw[akh a,aj3 rfl];rfl
 ·rw[aky h,ajY (akI h)]
def jT (a:n<⇑S.ways):(S.cH n z i).by m y=if m=n/\y=z then some i else S.by m y:=by
 unfold RS.cH RS.by;rw[jG a];cases h:m=n
 ·subst h;rw[aj3 rfl,L8]
  cbv
 cbv
def G0 (a:n<⇑S.ways):(S.ph n z).by m y=if m=n/\y=z then none else S.by m y:=by
 unfold RS.ph RS.by;rw[jG a];cases h:m=n
 ·subst h;rw[aj3 rfl,Jf]
  cbv
 ·rw[ajY h,ajY (λq=>h q.1)]
def QN {l:List (Int×Nat)}(a:n<⇑S.ways):(S.kP n l).by m z=if m=n then fP l z else S.by m z:=by unfold RS.by;rw[jG a];split <;> rfl
def dm (c:Nat)(S:RS)(a:Ze)(b:List (Int×Nat)):RS×Ze:=b.foldl (jS c) (S.kP c [],a)
def iO (c:Nat)(S:RS)(a:Ze)(b:List (Int×Nat))(p:Int×Nat):dm c S a (b++[p])=jS c (dm c S a b) p:=by unfold dm;cbv
def snoc_ind {b:Type}{P:List b->Prop}(f:P [])(d:∀l x,P l->P (l++[x])):∀l,P l:=λl=>by
 have:∀n (l:List b),⇑l=n->P l:=by
  intro n
  induction n with
  |zero=>cbv
  |succ n c=>
   intro l e;let a:l≠[]:=λz=>by rw[z]at e;ext e
   rw[<-alv a];rwa[d^(c _ (by rw[List.length_dropLast];omega))]
 rwa[this _ l rfl]
def zu (c:Nat)(S:RS)(a:Ze):∀b:List (Int×Nat),(dm c S a b).2=a++b.map λp=>(c,p.1,p.2):=by
 rwa[snoc_ind (by simp[dm]) λb p d=>?_]
 rw[iO];show (dm c S a b).2++_=_
 cbv
def g6 (c:Nat)(S:RS)(a:Ze):∀b:List (Int×Nat),(dm c S a b).1.ways.length=⇑S.ways/\(dm c S a b).1={ S with ways:=(dm c S a b).1.ways }:=by
 rwa[snoc_ind ⟨by simp[dm,RS.kP],2⟩ λb p d=>?_]
 rw[iO];unfold jS;cases h:p.2≠c
 ·simp only[h,am5,alS,ne_eq];erw[5]
  ·show ⇑(List.set^_)=_;rw[aj5];rwa[d.1]
  ·unfold RS.ph RS.kP;rw[d.2]
 ·simp only[h,amZ];rwa[d]
def yp {c:Ze}(m:n<⇑S.ways):∀f:List (Int×Nat),(∀q∈f,q.2<⇑S.ways)->∀d z,(dm n S c f).1.by d z=if d=n\/∃q∈f,q.2=d/\z= -q.1 then none else S.by d z:=by
 rwa[snoc_ind (λ_ d z=>?_) λf p l i d z=>?_]
 ·show (S.kP n []).by d z=_;rw[QN m];cases h:d=n
  ·rw[aj3 h,aj3 (.inl h)];rfl
  ·rw[ajY h,ajY (by rintro (q|⟨q,a,_⟩);rwa[h q];ext a)]
 ·let g:=l (λq a=>i q (aj4 _ a)) d z;let j:=i p (ajI _ ajU);rw[iO];unfold jS;cases h:p.2≠n
  ·simp only[h,am5,alS,ne_eq];rw[G0 ([(g6 n S c f).1]▸j),g];cases e:d=p.2/\z= -p.1
   ·rw[aj3 e,aj3 (.inr ⟨p,ajI _ ajU,e.1.symm,e.2⟩)]
   ·rw[ajY e];cases b:d=n\/∃q∈f,q.2=d/\z= -q.1
    ·rw[aj3 b,aj3 (b.imp id λζ=>by let⟨q,a,r⟩:=ζ;rwa[⟨q,aj4 _ a,r⟩])]
    ·rw[ajY b,ajY];rintro (q|⟨q,a,r⟩)
     ·rwa[b (.inl q)]
     ·rcases ajK.mp a with a|a
      ·rwa[b (.inr ⟨q,a,r⟩)]
      ·rw[ajF.mp a]at r;rwa[e ⟨r.1.symm,r.2⟩]
  ·simp only[h,amZ];rw[g];let k:p.2=n:=amk.mp h;cases b:d=n\/∃q∈f,q.2=d/\z= -q.1
   ·rw[aj3 b,aj3 (b.imp id λζ=>by let⟨q,a,r⟩:=ζ;rwa[⟨q,aj4 _ a,r⟩])]
   ·rw[ajY b,ajY];rintro (q|⟨q,a,r⟩)
    ·rwa[b (.inl q)]
    ·rcases ajK.mp a with a|a
     ·rwa[b (.inr ⟨q,a,r⟩)]
     ·rw[ajF.mp a]at r;rwa[b (.inl (r.1.symm.trans k))]
inductive Cg (R:Za2):Nat->Nat->Prop where
 |refl (a:Nat):Cg R a a
 |symm {a b:Nat}:Cg R a b->Cg R b a
 |trans {a b c:Nat}:Cg R a b->Cg R b c->Cg R a c
 |step {a a' b b':Nat} {z:Int}:R a z b->R a' z b'->Cg R a a'->Cg R b b'
def Cg.mono {e:Za2}(h:∀a z b,R a z b->e a z b){a b:Nat}(c:Cg R a b):Cg e a b:=by
 induction c with
 |refl=>exact .refl _
 |symm _ d=>exact .symm d
 |trans _ _ f g=>exact .trans f g
 |step r1 r2 _ d=>exact .step (h _ _ _ r1) (h _ _ _ r2) d
def Im (S:RS)(R:Za2)(c:Nat)(z:Int)(d:Nat):Prop:=∃a b,R a z b/\S.ax a=c/\S.ax b=d
def zv (S:RS)(a:Ze)(c:Nat)(z:Int)(d:Nat):Prop:=S.by c z=some d\/∃w∈a,(S.ax w.1=c/\w.2.1=z/\S.ax w.2.2=d)\/(S.ax w.1=d/\w.2.1= -z/\S.ax w.2.2=c)
structure Good (S:RS)(pend:Ze)(R:Za2):Prop where
 wf:S.Wf
 el:∀c,c<S.q->S.ax c<=c/\S.ax (S.ax c)=S.ax c
 ca:∀e,e<S.q->S.ax e=e->∀c,c∈S.cI e↔c<S.q/\S.ax c=e
 cb:∀e c,c∈S.cI e->c<S.q
 cn:∀e,(S.cI e).Nodup
 kn:∀c,((S.way c).map (·.1)).Nodup
 st:∀c z d,S.by c z=some d->c<S.q/\d<S.q/\S.ax c=c/\S.ax d=d
 sy:∀c z d,S.by c z=some d->S.by d (-z)=some c
 pl:∀w∈pend,w.1<S.q/\w.2.2<S.q
 rl:∀c z d,R c z d->c<S.q/\d<S.q/\R d (-z) c
 cv:∀c z d,R c z d->zv S pend (S.ax c) z (S.ax d)
 so:∀c z d,S.by c z=some d->Im S R c z d
 sp:∀w∈pend,Im S R (S.ax w.1) w.2.1 (S.ax w.2.2)
 cg:∀c,c<S.q->Cg R c (S.ax c)
section
variable {S:RS}{pend:Ze}{R:Za2}
def Good.lt (h:Good S pend R){c:Nat}(hc:c<S.q):S.ax c<S.q:=ajJ (h.el c hc).1 hc
def Im.back (h:Good S pend R){c d:Nat}{z:Int}(i:Im S R c z d):Im S R d (-z) c:=by let⟨b,e,r,a,f⟩:=i;rwa[e,b,(h.rl _ _ _ r).2.2,f,a]
def Good.must (h:Good S pend R){c x y:Nat}{z:Int}(i:Im S R c z x)(j:Im S R c z y):Cg R x y:=by let⟨p,n,r1,e,l⟩:=i;let⟨m,o,r2,f1,d⟩:=j;let⟨g,l2,_⟩:=h.rl _ _ _ r1;let⟨k,f,_⟩:=h.rl _ _ _ r2;let a1:=h.cg _ g;let a2:=h.cg _ l2;let a:=h.cg _ k;let b:=h.cg _ f;rw[e]at a1;rw[l]at a2;rw[f1]at a;rw[d]at b;rwa[a2.symm.trans ((Cg.step r1 r2 (a1.trans a.symm)).trans b)]
def Good.keep (h:Good S pend R){c d:Nat}{z:Int}(hc:c<S.q)(hd:d<S.q)(B:S.ax c=c)(ed:S.ax d=d)(i:Im S R c z d)(I:S.by c z=none\/S.by c z=some d)(G:S.by d (-z)=none\/S.by d (-z)=some c){f:Ze}(v:∀w∈f,w∈pend)(A:∀w∈pend,w∉f->S.ax w.1=c/\w.2.1=z/\S.ax w.2.2=d):Good (S.keep c z d) f R:=by
 let o:c<⇑S.ways:=by rw[h.wf.w];rwa[hc]
 let n:d<⇑S.ways:=by rw[h.wf.w];rwa[hd]
 let k:∀a s,(S.keep c z d).by a s=if a=d/\s= -z then some c else if a=c/\s=z then some d else S.by a s:=λa s=>by show ((S.cH c z d).cH d (-z) c).by a s=_;rw[jT (by show d<⇑(S.ways.set c _);rw[aj5];rwa[n]),jT o]
 let old:∀a s b,S.by a s=some b->(S.keep c z d).by a s=some b:=λa s b e=>by
  rw[k];cases g:a=d/\s= -z
  ·rw[aj3 g];let⟨rfl,rfl⟩:=g;rcases G with q|q <;> rw[q]at e <;> ext e
   rfl
  ·rw[ajY g];cases j:a=c/\s=z
   ·rw[aj3 j];let⟨rfl,rfl⟩:=j;rcases I with q|q <;> rw[q]at e <;> ext e
    rfl
   ·rw[ajY j];rwa[e]
 let el:∀a,(S.keep c z d).ax a=S.ax a:=λa=>rfl
 let new:∀a s b,(S.keep c z d).by a s=some b->(a=d/\s= -z/\b=c)\/(a=c/\s=z/\b=d)\/S.by a s=some b:=λa s b e=>by
  rw[k]at e;cases g:a=d/\s= -z
  ·rw[aj3 g]at e;rwa[.inl ⟨g.1,g.2,(Za0 e).symm⟩]
  ·rw[ajY g]at e;cases j:a=c/\s=z
   ·rw[aj3 j]at e;rwa[.inr (.inl ⟨j.1,j.2,(Za0 e).symm⟩)]
   ·rw[ajY j]at e;rwa[.inr (.inr e)]
 let m:(S.keep c z d).by d (-z)=some c:=by rw[k,aj3 ⟨22⟩]
 let put2:(S.keep c z d).by c z=some d:=by
  rw[k];cases g:c=d/\z= -z
  ·rw[aj3 g,g.1]
  ·rw[ajY g,aj3 ⟨22⟩]
 let t:∀(l:List (Int×Nat))(s:Int)(r:Nat),(l.map (·.1)).Nodup->((kc l s r).map (·.1)).Nodup:=λl s r C=>by
  unfold kc;split
  ·rw[aki]
   have:((λx:Int×Nat=>x.1) ∘ λp:Int×Nat=>if p.1=s then (p.1,r) else p)=λx=>x.1:=by
    funext p
    show (if p.1=s then (p.1,r) else p).1=p.1;split <;> rfl
   rw[this];rwa[C]
  ·rename_i q;rw[akd];rwa[akv.mpr ⟨C,by simp,λa L b H e=>q ?_⟩];let⟨p,v,rfl⟩:=akp.mp L;have:b=s:=by simpa using H
   rwa[List.any_eq_true.mpr ⟨p,v,ajZ (e.trans this)⟩]
 rwa[⟨⟨55,h.wf.e,h.wf.c⟩,h.el,h.ca,h.cb,h.cn,λa=>?_,λa s b e=>?_,λa s b e=>?_,λw u=>h.pl w (v w u),h.rl,λa s b r=>?_,λa s b e=>?_,λw u=>h.sp w (v w u),h.cg⟩]
 ·show ⇑((List.set^_).set _ _)=S.q;rw[aj5,aj5];rwa[h.wf.w]
 ·show ⇑((List.set^_).set _ _)=S.q;rw[aj5,aj5];rwa[h.wf.g]
 ·show ((((S.cH c z d).cH d (-z) c).way a).map (·.1)).Nodup;unfold RS.cH;rw[jG (by show d<⇑(S.ways.set c _);rw[aj5];rwa[n])]
  let k1:∀a,(((S.kP c (kc (S.way c) z d)).way a).map (·.1)).Nodup:=λa=>by
   rw[jG o];split
   ·rwa[t _ _ _ (h.kn c)]
   ·rwa[h.kn a]
  split
  ·rwa[t _ _ _ (k1 d)]
  ·rwa[k1 a]
 ·rcases new a s b e with ⟨rfl,rfl,rfl⟩|⟨rfl,rfl,rfl⟩|e
  ·rwa[⟨hd,hc,ed,B⟩]
  ·rwa[⟨hc,hd,B,ed⟩]
  ·rwa[h.st a s b e]
 ·rcases new a s b e with ⟨rfl,rfl,rfl⟩|⟨rfl,rfl,rfl⟩|e
  ·rw[alg];rwa[put2]
  ·rwa[m]
  ·rwa[old _ _ _ (h.sy _ _ _ e)]
 ·rcases h.cv a s b r with q|⟨w,u,q⟩
  ·rwa[.inl (old _ _ _ q)]
  ·cases E:w∈f
   ·rwa[.inr ⟨w,E,q⟩]
   ·let⟨f1,D,F⟩:=A w u E;rwa[.inl ?_];show (S.keep c z d).by (S.ax a) s=some (S.ax b);rcases q with ⟨g,j,y⟩|⟨g,j,y⟩
    ·rw[<-g,<-j,<-y,f1,D,F];rwa[put2]
    ·let J:s= -z:=by rw[<-D,j,alg]
     rw[<-g,<-y,f1,F,J];rwa[m]
 ·rcases new a s b e with ⟨rfl,rfl,rfl⟩|⟨rfl,rfl,rfl⟩|e
  ·rwa[Im.back h i]
  ·rwa[i]
  ·rwa[h.so a s b e]
end
theorem BE (x:Nat):∀(l b:Zh)(a:Nat),(∀n∈l,n<⇑b)->(l.foldl (λb n=>b.set n x) b).getD a 0=if a∈l then x else b.getD a 0
 |[],b,a,_=>by simp
 |n::l,b,a,h=>by
  rw[List.foldl_cons,BE x l (b.set n x) a (λm c=>[aj5]▸h m (akc _ c))]
  cbv
theorem zx (x:Nat):∀(l a:Zh),⇑(l.foldl (λa n=>a.set n x) a)=⇑a
 |[],_=>rfl
 |n::l,a=>by rw[List.foldl_cons,zx x l,aj5]
def r0 {l:List (Int×Nat)}(h:fP l z\n):(z,n)∈l:=by
 let⟨q,a,rfl⟩:=akE.mp h
 cbv
def jU {l:List (Int×Nat)}(a:(l.map (·.1)).Nodup){q:Int×Nat}(h:q∈l):fP l q.1\q.2:=by
 induction l with
 |nil=>ext h
 |cons p l b=>
  unfold fP;rw[akN,akf]at a;cases e:p.1=q.1
  ·rw[amP (by rwa[ajZ e])];rcases ajS.mp h with rfl|h
   ·rfl
   ·rwa[absurd (by rw[e];rwa[alB h]) a.1]
  ·rw[al9 (by simpa using e)];rcases ajS.mp h with rfl|h
   ·rwa[absurd rfl e]
   ·rwa[b a.2 h]
theorem my:∀(n:Nat)(l:Zh),l.Nodup->(∀x∈l,x<n)->⇑l<=n
 |0,[],_,_=>ajE _
 |0,a::l,_,h=>absurd (h a (ajU ..)) ∅
 |n+ 1,l,b,h=>by
  cases c:n∈l
  ·have:=my n (l.erase n) (b.erase n) (λx d=>by cbv)
   rw[alT c]at this;ext
  ·have:=my n l b (λx d=>by cbv)
   ext
theorem r6:∀(k l:Zg),l.Nodup->(∀x∈l,x∈k)->⇑l<=⇑k
 |[],[],_,_=>ajE _
 |[],a::l,_,h=>by have:=h a ajU;cbv
 |y::k,l,b,h=>by
  cases c:y∈l
  ·have:=r6 k (l.erase y) (b.erase y) (λx d=>by cbv)
   rw[alT c]at this;rw[aj1];ext
  ·have:=r6 k l b (λx d=>by cbv)
   rw[aj1];ext
def QO {pend:Ze}(i:n<⇑S.ways)(e:∀a,((S.way a).map (·.1)).Nodup):∀c:List (Int×Nat),(∀q∈c,q.2<⇑S.ways)->∀a,(((dm n S pend c).1.way a).map (·.1)).Nodup:=by
 rwa[snoc_ind (λ_ a=>?_) λc p g d a=>?_]
 ·show (((S.kP n []).way a).map (·.1)).Nodup;rw[jG i];split
  ·rwa[akW]
  ·rwa[e a]
 ·let b:=g (λq f=>d q (aj4 _ f));rw[iO];unfold jS;cases h:p.2≠n
  ·simp only[h,am5,alS,ne_eq];unfold RS.ph;rw[jG ([(g6 n S pend c).1]▸d p (ajI _ ajU))];split
   ·rwa[List.Nodup.sublist (List.Sublist.map _ alC) (b p.2)]
   ·rwa[b a]
  ·simp only[h,amZ];rwa[b a]
section
variable {S:RS}{pend:Ze}{R:Za2}
def zv.back (h:Good S pend R){b:RS}{a:Ze}(sy:∀c z d,b.by c z=some d->b.by d (-z)=some c){c d:Nat}{z:Int}(i:zv b a c z d):zv b a d (-z) c:=by
 rcases i with q|⟨w,j,q⟩
 ·rwa[.inl (sy _ _ _ q)]
 ·rwa[.inr ⟨w,j,?_⟩];rcases q with ⟨e,g,f⟩|⟨e,g,f⟩
  ·rwa[.inr ⟨e,by rw[g,alg],f⟩]
  ·rwa[.inl ⟨e,g,f⟩]
def Good.meet (h:Good S pend R){c x y:Nat}{z:Int}(Y:S.by c z=some x)(hy:y<S.q)(ey:S.ax y=y)(hxy:x≠y)(iy:Im S R c z y){d:Ze}(hp:∀w∈d,w∈pend)(hcv:∀w∈pend,w∉d->(S.ax w.1=c/\w.2.1=z/\S.ax w.2.2=y)\/(S.ax w.1=y/\w.2.1= -z/\S.ax w.2.2=c)):
 Good (S.meet c z x y d).1 (S.meet c z x y d).2 R/\(∀a,(S.meet c z x y d).1.ax a=if S.ax a=max x y then min x y else S.ax a)/\(S.meet c z x y d).2=d++(S.way (max x y)).map (λp=>(max x y,p.1,p.2)):=by
 let⟨hc,hxm,ec,ex⟩:=h.st _ _ _ Y;let A:Cg R x y:=h.must (h.so _ _ _ Y) iy;let Q:min x y<S.q:=∅
 let F:max x y<S.q:=∅
 let J:min x y<max x y:=∅
 let T:S.ax (min x y)=min x y:=by rcases alY x y with q|q;rw[alD ∅];rwa[ex];rw[ams ∅];rwa[ey]
 let N:S.ax (max x y)=max x y:=by rcases alY x y with q|q;rw[amt ∅];rwa[ey];rw[amL ∅];rwa[ex]
 let L:x=min x y\/x=max x y:=∅
 let H:y=min x y\/y=max x y:=∅
 let j:Cg R (max x y) (min x y):=by
  rcases alY x y with q|q
  ·rw[amt (by omega),alD (by omega)];rwa[A.symm]
  ·rw[amL ∅,ams ∅];rwa[A]
 unfold RS.meet;change max x y=v at F J N L H j ⊢;change min x y=u at Q J T L H j ⊢;let I:v<⇑S.ways:=by rw[h.wf.w];rwa[F]
 let O:∀q∈S.way v,q.2<⇑S.ways:=λq E=>by rw[h.wf.w];rwa[(h.st v q.1 q.2 (jU (h.kn v) E)).2.1]
 let hP:((S.joined c z u v).pj v d)=dm v (S.joined c z u v) d (S.way v):=rfl;rw[hP];let rest:=g6 v (S.joined c z u v) d (S.way v);let byJ:∀a s,(S.joined c z u v).by a s=S.by a s:=λa s=>rfl
 let T4:∀a s,(dm v (S.joined c z u v) d (S.way v)).1.by a s=if a=v\/S.by a s=some v then none else S.by a s:=λa s=>by
  rw[yp (S:=S.joined c z u v) I _ O,byJ]
  have:(a=v\/∃q∈S.way v,q.2=a/\s= -q.1)↔(a=v\/S.by a s=some v):=by
   rwa[or_congr Iff.rfl ⟨5,λe=>?_⟩]
   ·rintro ⟨q,E,rfl,rfl⟩;rwa[h.sy _ _ _ (jU (h.kn v) E)]
   ·have:=r0 (h.sy _ _ _ e);rwa[_,this,2,(alg s).symm]
  simp only[this]
 let o:(dm v (S.joined c z u v) d (S.way v)).2=d++(S.way v).map λp=>(v,p.1,p.2):=zu _ _ _ _
 let G:=QO (S:=S.joined c z u v) (pend:=d) I h.kn (S.way v) O
 let heq:∀a,(dm v (S.joined c z u v) d (S.way v)).1.ax a=if S.ax a=v then u else S.ax a:=λa=>by
  rw[rest.2];show ((S.cI v).foldl (λD n=>D.set n u) S.aV).getD a 0=_;rw[BE u _ _ _ (λn hn=>[h.wf.e]▸h.cb v n hn)];cases i:a<S.q
  ·have:=h.ca v F N a;cases e:S.ax a=v
   ·cbv
   ·rw[ajY (λq=>e (this.mp q).2),ajY e];rfl
  ·let P:S.ax a=0:=by unfold RS.ax;rw[ajH,akg (by rw[h.wf.e];omega)];rfl
   rw[ajY (λq=>i (h.cb v a q)),ajY ∅];rfl
 let k:∀e,(dm v (S.joined c z u v) d (S.way v)).1.cI e=if e=u then S.cI u++S.cI v else S.cI e:=λe=>by
  rw[rest.2];show (S.called.set u (S.cI u++S.cI v)).getD e []=_;rw[ajH];cases q:e=u
  ·subst q;rw[akh ([h.wf.c]▸Q),aj3 rfl];rfl
  ·rw[aky (akI q),ajY q];unfold RS.cI;cbv
 let f:(dm v (S.joined c z u v) d (S.way v)).1.q=S.q:=by rw[rest.2];rfl
 let M:(dm v (S.joined c z u v) d (S.way v)).1.Wf:=by
  erw[[rest.1,f]▸h.wf.w,55]
  ·rw[rest.2];rwa[h.wf.g]
  ·rw[rest.2];show ⇑((S.cI v).foldl (λD n=>D.set n u) S.aV)=S.q;rw[zx];rwa[h.wf.e]
  ·rw[rest.2];show ⇑(S.called.set u (S.cI u++S.cI v))=S.q;rw[aj5];rwa[h.wf.c]
 change (dm v (S.joined c z u v) d (S.way v)).2=P2 at o ⊢;change (dm v (S.joined c z u v) d (S.way v)).1=g at rest T4 G heq k f M ⊢;rwa[⟨5,heq,o⟩]
 let bo:∀a s b,g.by a s=some b↔S.by a s=some b/\a≠v/\b≠v:=λa s b=>by cbv
 let nv2:∀a,g.ax (S.ax a)=g.ax a:=λa=>by
  rw[heq,heq];cases i:a<S.q
  ·rw[(h.el a i).2]
  ·let P:∀a,¬a<S.q->S.ax a=0:=λa i=>by unfold RS.ax;rw[ajH,akg (by rw[h.wf.e];omega)];rfl
   rw[P a i];have:S.ax 0=0:=by have:=(h.el 0 ∅).1;ext
   rw[this]
 let l:∀{a b},S.ax a=S.ax b->g.ax a=g.ax b:=λ{a b} e=>by cbv
 let C:∀a s b,g.by a s=some b->g.by b (-s)=some a:=λa s b e=>by rw[bo]at e ⊢;rwa[h.sy _ _ _ e.1,e.2.2,e.2.1]
 let std:∀{a},S.ax a=a->g.ax a=if a=v then u else a:=λ{a} e=>by rw[heq,e]
 let kept:∀p s q,S.by p s=some q->zv g P2 (g.ax p) s (g.ax q):=λp s q e=>by
  let⟨lp,lq,ep,eq⟩:=h.st _ _ _ e;cases h1:p=v
  ·rwa[.inr ⟨(v,s,q),5,.inl ⟨by rw[h1],22⟩⟩];rw[o];rw[h1]at e;rwa[ajI _ (akp.mpr ⟨(s,q),r0 e,2⟩)]
  ·cases h2:q=v
   ·rwa[.inr ⟨(v,-s,p),5,.inr ⟨by rw[h2],22⟩⟩];rw[o];let e':=h.sy _ _ _ e;rw[h2]at e';rwa[ajI _ (akp.mpr ⟨(-s,p),r0 e',2⟩)]
   ·rwa[.inl ?_]
    cbv
 let eu2:g.ax u=u:=by rw[std T,ajY ∅]
 let V:g.ax v=u:=by rw[std N,aj3 rfl]
 let exy:g.ax x=g.ax y:=by
  let t:g.ax x=u:=by cbv
  let m:g.ax y=u:=by cbv
  rw[t,m]
 let imq:∀{a b s},Im S R (S.ax a) s (S.ax b)->Im g R (g.ax a) s (g.ax b):=λ{a b s} ζ=>by let⟨a',b',r,e1,e2⟩:=ζ;rwa[⟨a',b',r,l e1,l e2⟩]
 rwa[⟨M,λa i=>?_,λe he ee a=>?_,λe a i=>?_,λe=>?_,G,λa s b e=>?_,C,λw hw=>?_,λa s b r=>?_,λa s b r=>?_,λa s b e=>?_,λw hw=>?_,λa i=>?_⟩]
 ·rw[f]at i;let⟨U,l2⟩:=h.el a i;rw[heq]
  cbv
 ·rw[f]at he ⊢;rw[k];let nev:e≠v:=λz=>by rw[z,V]at ee;ext
  cases q:e=u
  ·subst q;rw[aj3 rfl,ajK,h.ca _ Q T,h.ca v F N,heq]
   cbv
  ·rw[ajY q]
   let P:S.ax e=e:=by
    rw[heq]at ee;cases B:S.ax e=v
    ·cbv
    ·cbv
   rw[h.ca e he P,heq]
   cbv
 ·rw[f];rw[k]at i;split at i
  ·rcases ajK.mp i with i|i
   ·rwa[h.cb^i]
   ·rwa[h.cb^i]
  ·rwa[h.cb^i]
 ·rw[k];split
  ·rwa[akv.mpr ⟨h.cn _,h.cn _,λa i b hb e=>?_⟩];let t:=((h.ca _ Q T a).mp i).2;let m:=((h.ca v F N b).mp hb).2;rw[e,m]at t;ext
  ·rwa[h.cn _]
 ·rw[bo]at e;let⟨U,l2,W,X⟩:=h.st _ _ _ e.1;rwa[[f]▸U,[f]▸l2,by rw[std W,ajY e.2.1],by rw[std X,ajY e.2.2]]
 ·rw[f];rw[o]at hw;rcases ajK.mp hw with hw|hw
  ·rwa[h.pl w (hp w hw)]
  ·let⟨q,E,rfl⟩:=akp.mp hw;rwa[F,(h.st v q.1 q.2 (jU (h.kn v) E)).2.1]
 ·rw[f];rwa[h.rl a s b r]
 ·rcases h.cv a s b r with q|⟨w,hw,q⟩
  ·cbv
  ·cases hm:w∈d
   ·rwa[.inr ⟨w,by cbv,?_⟩];rcases q with ⟨t,m,B⟩|⟨t,m,B⟩
    ·rwa[.inl ⟨l t,m,l B⟩]
    ·rwa[.inr ⟨l t,m,l B⟩]
   ·let base:zv g P2 (g.ax c) z (g.ax y):=by rw[<-exy];rwa[kept _ _ _ Y]
    let one:∀{p q:Nat},S.ax p=c->S.ax q=y->g.ax p=g.ax c/\g.ax q=g.ax y:=λ{p q} e1 e2=>⟨by cbv,by cbv⟩
    rcases hcv w hw hm with ⟨f1,Z,f3⟩|⟨f1,Z,f3⟩
    ·rcases q with ⟨t,m,B⟩|⟨t,m,B⟩
     ·cbv
     ·let⟨g1,g2⟩:=one (t.symm.trans f1) (B.symm.trans f3);let D:s= -z:=by rw[<-Z,m,alg]
      rw[g1,g2,D];rwa[zv.back h C base]
    ·rcases q with ⟨t,m,B⟩|⟨t,m,B⟩
     ·let⟨g1,g2⟩:=one (B.symm.trans f3) (t.symm.trans f1);let D:s= -z:=by rw[<-m,Z]
      rw[g1,g2,D];rwa[zv.back h C base]
     cbv
 ·rw[bo]at e;let⟨U,l2,W,X⟩:=h.st _ _ _ e.1;have:=h.so _ _ _ e.1
  cbv
 ·rw[o]at hw;rcases ajK.mp hw with hw|hw
  ·rwa[imq (h.sp w (hp w hw))]
  ·let⟨q,E,rfl⟩:=akp.mp hw;let e:=jU (h.kn v) E;let⟨U,l2,W,X⟩:=h.st v q.1 q.2 e;have:=h.so _ _ _ e
   cbv
 ·rw[f]at i;rw[heq];split
  ·rename_i q;have:=h.cg a i;rw[q]at this;rwa[this.trans j]
  ·rwa[h.cg a i]
end
def RS.stand (S:RS):Nat:=(~~~S.q).countP λc=>decide (S.ax c=c)
theorem mz {p p':Nat->Bool}{v:Nat}(h:∀a,p' a=(p a && decide (a≠v)))(b:p v=true):∀n,(~~~n).countP p'+ (if v<n then 1 else 0)=(~~~n).countP p
 |0=>rfl
 |n+ 1=>by
  let c:=mz h b n;rw[ak8,List.countP_append,List.countP_append,<-c];rw[List.countP_singleton,List.countP_singleton,h n];cases e:n=v
  ·subst e;rw[b,ajY (akX n),aj3 (akZ n)];simp
  ·have:decide (n≠v)=true:=ajZ e;rw[this,Bool.and_true];let d:(v<n+ 1)=(v<n):=propext ⟨λ_=>∅,λ_=>∅⟩;simp only[d];ext
def mu (k:Nat)(S:RS)(pend:Ze):Nat:=S.stand* (k+ 1)+ ⇑pend
section
variable {S:RS}{pend:Ze}{R:Za2}{w:Way}{ks:Zg}
def Good.Jg (h:Good S pend R)(e:∀c z d,R c z d->z∈ks)(c:Nat):⇑(S.way c)<=⇑ks:=by
 have:=r6 ks ((S.way c).map (·.1)) (h.kn c) (λx g=>by let⟨q,f,rfl⟩:=akp.mp g;let⟨a,b,r,_⟩:=h.so c q.1 q.2 (jU (h.kn c) f);rwa[e _ _ _ r])
 rw[ajD]at this;rwa[this]
def Good.T5 (h:Good S pend R)(c:Nat):⇑(S.cI c)<=S.q:=my _ _ (h.cn c) λx a=>h.cb c x a
def Good.take (h:Good S (pend++[w]) R)(L:∀c z d,R c z d->z∈ks):Good (S.takeIn pend w).1 (S.takeIn pend w).2 R/\mu ⇑ks (S.takeIn pend w).1 (S.takeIn pend w).2<mu ⇑ks S (pend++[w])/\(S.takeIn pend w).1.q=S.q/\(S.takeIn pend w).1.L=S.L/\
 ((S.takeIn pend w).1.stand=S.stand/\(S.takeIn pend w).1.rows=S.rows/\(S.takeIn pend w).1.bz=S.bz\/(S.takeIn pend w).1.stand+ 1=S.stand/\∃c z x y,S.by c z=some x/\Im S R c z y/\y<S.q/\S.ax y=y/\x≠y/\(S.takeIn pend w).1.rows=S.rows++[fS c z (min x y) (max x y)]/\(S.takeIn pend w).1.bz=S.bz++[max x y]/\∀a,(S.takeIn pend w).1.ax a=if S.ax a=max x y then min x y else S.ax a):=by
 let hw:=h.pl w (ajI _ ajU);let k:=h.sp w (ajI _ ajU);let hc:=h.lt hw.1;let hd:=h.lt hw.2;let l:=(h.el _ hw.1).2;let ed:=(h.el _ hw.2).2;let F:∀x∈pend,x∈pend++[w]:=λx i=>aj4 _ i
 let last:∀x∈pend++[w],x∉pend->x=w:=λx i nx=>by cbv
 let met:∀{c x y:Nat}{z:Int},S.by c z=some x->y<S.q->S.ax y=y->x≠y->Im S R c z y->((S.ax w.1=c/\w.2.1=z/\S.ax w.2.2=y)\/(S.ax w.1=y/\w.2.1= -z/\S.ax w.2.2=c))->
  Good (S.meet c z x y pend).1 (S.meet c z x y pend).2 R/\mu ⇑ks (S.meet c z x y pend).1 (S.meet c z x y pend).2<mu ⇑ks S (pend++[w])/\(S.meet c z x y pend).1.q=S.q/\(S.meet c z x y pend).1.L=S.L/\(S.meet c z x y pend).1.stand+ 1=S.stand/\(S.meet c z x y pend).1.rows=S.rows++[fS c z (min x y) (max x y)]/\(S.meet c z x y pend).1.bz=S.bz++[max x y]/\∀a,(S.meet c z x y pend).1.ax a=if S.ax a=max x y then min x y else S.ax a:=by
  intro c x y z i O D s P B;let⟨g,G,M⟩:=h.meet i O D s P F (λx i nx=>[last x i nx]▸B);let⟨hc,U,l,ex⟩:=h.st _ _ _ i;let rest:=(g6 (max x y) (S.joined c z (min x y) (max x y)) pend ((S.joined c z (min x y) (max x y)).way (max x y))).2
  let J:(S.meet c z x y pend).1.q=S.q:=by show (dm (max x y) (S.joined c z (min x y) (max x y)) pend ((S.joined c z (min x y) (max x y)).way (max x y))).1.q=_;rw[rest];rfl
  let N:(S.meet c z x y pend).1.L=S.L:=by show (dm (max x y) (S.joined c z (min x y) (max x y)) pend ((S.joined c z (min x y) (max x y)).way (max x y))).1.L=_;rw[rest];rfl
  let Q:(S.meet c z x y pend).1.rows=S.rows++[fS c z (min x y) (max x y)]:=by show (dm (max x y) (S.joined c z (min x y) (max x y)) pend ((S.joined c z (min x y) (max x y)).way (max x y))).1.rows=_;rw[rest];rfl
  let T:(S.meet c z x y pend).1.bz=S.bz++[max x y]:=by show (dm (max x y) (S.joined c z (min x y) (max x y)) pend ((S.joined c z (min x y) (max x y)).way (max x y))).1.bz=_;rw[rest];rfl
  let E:S.ax (max x y)=max x y:=by rcases alY x y with q|q;rw[amt ∅];rwa[D];rw[amL ∅];rwa[ex]
  let I:(S.meet c z x y pend).1.stand+ 1=S.stand:=by
   unfold RS.stand;rw[J]
   have:=mz (p:=λc=>decide (S.ax c=c)) (p':=λa=>decide ((S.meet c z x y pend).1.ax a=a)) (v:=max x y) (λa=>by
    rw[G,akQ,als,akq,akq,akq];cases q:S.ax a=max x y
    ·rw[aj3 q];constructor
     ·intro e;let j:S.ax (min x y)=min x y:=by rcases alY x y with q|q;rw[alD ∅];rwa[ex];rw[ams ∅];rwa[D]
      rw[e]at j;ext
     ·rintro ⟨V,j⟩;rwa[absurd (V.symm.trans q) j]
    ·rw[ajY q];rwa[λe=>⟨e,λj=>q ([j]▸E)⟩,λe=>e.1]) (ajZ E) S.q
   rw[aj3 ∅]at this;rwa[this]
  let W:=h.Jg L (max x y);rwa[⟨g,5,J,N,I,Q,T,G⟩];unfold mu;rw[M,<-I,ajC,ajC,ajD,amY,Nat.one_mul];ext
 unfold RS.takeIn;cases f:(S.by (S.ax w.1) w.2.1).getD (S.ax w.2.2)≠S.ax w.2.2
 ·rw[aj3 f]
  cases e:S.by (S.ax w.1) w.2.1 with
  |none=>rw[e]at f;rwa[absurd rfl f]
  |some x=>rw[e]at f;let⟨A,C,o,t,r,u,n,m⟩:=met e hd ed f k (.inl ⟨222⟩);rwa[A,C,o,t,.inr ⟨r,11,x,_,e,k,hd,ed,f,u,n,m⟩]
 ·rw[ajY f];cases b:(S.by (S.ax w.2.2) (-w.2.1)).getD (S.ax w.1)≠S.ax w.1
  ·rw[aj3 b]
   cases e:S.by (S.ax w.2.2) (-w.2.1) with
   |none=>rw[e]at b;rwa[absurd rfl b]
   |some x=>rw[e]at b;let H:=Im.back h k;let⟨A,C,o,t,r,u,n,m⟩:=met e hc l b H (.inr ⟨2,(alg _).symm,2⟩);rwa[A,C,o,t,.inr ⟨r,11,x,_,e,H,hc,l,b,u,n,m⟩]
  ·rw[ajY b]
   let k1:S.by (S.ax w.1) w.2.1=none\/S.by (S.ax w.1) w.2.1=some (S.ax w.2.2):=by
    cases e:S.by (S.ax w.1) w.2.1 with
    |none=>exact .inl rfl
    |some x=>rw[e]at f;rwa[.inr (akK some (amk.mp f))]
   let k2:S.by (S.ax w.2.2) (-w.2.1)=none\/S.by (S.ax w.2.2) (-w.2.1)=some (S.ax w.1):=by
    cases e:S.by (S.ax w.2.2) (-w.2.1) with
    |none=>exact .inl rfl
    |some x=>rw[e]at b;rwa[.inr (akK some (amk.mp b))]
   rwa[⟨h.keep hc hd l ed k k1 k2 F (λx i nx=>[last x i nx]▸⟨222⟩),522,.inl ⟨222⟩⟩];show S.stand* _+ ⇑pend<S.stand* _+ ⇑(pend++[w]);rw[ajC];have:⇑([w]:Ze)=1:=rfl;ext
def Good.fin (h:Good S [] R){a b:Nat}(i:a<S.q)(k:b<S.q):S.ax a=S.ax b↔Cg R a b:=by
 let det:∀{a f b g:Nat}{z:Int},R a z b->R f z g->S.ax a=S.ax f->S.ax b=S.ax g:=λ{a f b g z} r1 r2 e=>by
  rcases h.cv _ _ _ r1 with p|⟨w,m,_⟩
  ·rcases h.cv _ _ _ r2 with q|⟨w,m,_⟩
   ·cbv
   cbv
  cbv
 constructor
 ·intro e;let j:=h.cg a i;let n:=h.cg b k;rw[e]at j;rwa[j.trans n.symm]
 ·intro c;clear i k
  induction c with
  |refl=>rfl
  |symm _ d=>exact d.symm
  |trans _ _ l o=>exact l.trans o
  |step r1 r2 _ d=>exact det r1 r2 d
def Good.mW (h:Good S [] R){c d:Nat}{z:Int}:S.by c z=some d↔Im S R c z d:=by
 constructor
 ·rwa[h.so c z d]
 ·rintro ⟨e,b,r,rfl,rfl⟩;rcases h.cv _ _ _ r with q|⟨w,a,_⟩
  ·rwa[q]
  cbv
end
def fb (R:Za2)(c:Nat)(z:Int)(d:Nat):Za2:=λa s b=>R a s b\/(a=c/\s=z/\b=d)\/(a=d/\s= -z/\b=c)
def jH:∀a s b,R a s b->fb R n z m a s b:=λ_ _ _ r=>.inl r
def qg:fb R n z m n z m:=.inr (.inl ⟨222⟩)
def BF (L:Nat)(g:Zg):Good (RS.new L g) [] (λ_ _ _=>False) where
 wf:=⟨2222⟩
 el:=λc a=>by
  have:c=0:=by have:c<1:=a;ext
  subst this;rwa[ajE _,2]
 ca:=λe f _ c=>by
  have:e=0:=by have:e<1:=f;ext
  subst this;show c∈[0]↔c<1/\(RS.new L g).ax c=0
  cbv
 cb:=λe c a=>by
  have:(RS.new L g).cI e=[0]\/(RS.new L g).cI e=[]:=by
   rcases e with _|e
   ·rwa[.inl rfl]
   ·rwa[.inr rfl]
  show c<1
  cbv
 cn:=λe=>by
  rcases e with _|e
  ·show [0].Nodup;simp
  ·rwa[akW]
 kn:=λc=>by rcases c with _|c <;> rwa[akW]
 st:=λc z d h=>by
  have:(RS.new L g).by c z=none:=by rcases c with _|c <;> rfl
  cbv
 sy:=λc z d h=>by
  have:(RS.new L g).by c z=none:=by rcases c with _|c <;> rfl
  cbv
 pl:=λw b=>by ext b
 rl:=λ_ _ _ h=>h.elim
 cv:=λ_ _ _ h=>h.elim
 so:=λc z d h=>by
  have:(RS.new L g).by c z=none:=by rcases c with _|c <;> rfl
  cbv
 sp:=λw b=>by ext b
 cg:=λc a=>by
  have:c=0:=by have:c<1:=a;ext
  subst this;rwa[.refl _]
variable {S:RS}{R:Za2}
def Good.lay (h:Good S [] R){c d:Nat}(z:Int)(hc:c<S.q)(hd:d<S.q)(rows:List Dt):Good { S with rows:=rows } [(c,z,d)] (fb R c z d) where
 wf:=⟨h.wf.w,h.wf.g,h.wf.e,h.wf.c⟩
 el:=h.el
 ca:=h.ca
 cb:=h.cb
 cn:=h.cn
 kn:=h.kn
 st:=h.st
 sy:=h.sy
 pl:=λw f=>by rw[ajF.mp f];rwa[hc,hd]
 rl:=by
  rintro a s b (r|⟨rfl,rfl,rfl⟩|⟨rfl,rfl,rfl⟩)
  ·let⟨i,o,j⟩:=h.rl _ _ _ r;rwa[i,o,.inl j]
  ·rwa[hc,hd,.inr (.inr ⟨222⟩)]
  ·rwa[hd,hc,.inr (.inl ⟨2,alg _,2⟩)]
 cv:=by
  rintro a s b (r|⟨rfl,rfl,rfl⟩|⟨rfl,rfl,rfl⟩)
  ·rcases h.cv _ _ _ r with q|⟨w,f,_⟩
   ·rwa[.inl q]
   ·ext f
  ·rwa[.inr ⟨_,ajU,.inl ⟨rfl,rfl,rfl⟩⟩]
  ·rwa[.inr ⟨_,ajU,.inr ⟨rfl,(alg _).symm,rfl⟩⟩]
 so:=λa s b e=>by let⟨g,l,r,m,k⟩:=h.so a s b e;rwa[g,l,.inl r,m,k]
 sp:=λw f=>by rw[ajF.mp f];rwa[c,d,qg,22]
 cg:=λa n=>(h.cg a n).mono jH
def fZ (hw:S.Wf)(c:Nat)(z:Int)(g:Zg)(a:Nat):(S.grown c z g).ax a=if a=S.q then S.q else S.ax a:=by
 unfold RS.ax;show (S.aV++[S.q]).getD a 0=_;rw[ajH];cases e:a=S.q
 ·rw[aj3 e,e,ajN ([hw.e]▸ajE _),hw.e,alq];rfl
 ·rw[ajY e,ajH];cases q:a<S.q
  ·rw[ajM ([hw.e]▸q)]
  ·rw[akg (by rw[ajC,hw.e];show S.q+ 1<=a;omega),akg (by rw[hw.e];omega)]
def r9 (hw:S.Wf)(c:Nat)(z:Int)(g:Zg)(a:Nat):(S.grown c z g).cI a=if a=S.q then [S.q] else S.cI a:=by
 unfold RS.cI;show (S.called++[[S.q]]).getD a []=_;rw[ajH];cases e:a=S.q
 ·rw[aj3 e,e,ajN ([hw.c]▸ajE _),hw.c,alq];rfl
 ·rw[ajY e,ajH];cases q:a<S.q
  ·rw[ajM ([hw.c]▸q)]
  ·rw[akg (by rw[ajC,hw.c];show S.q+ 1<=a;omega),akg (by rw[hw.c];omega)]
def oi (d:S.Wf)(c:Nat)(z:Int)(g:Zg)(a:Nat):(S.grown c z g).way a=S.way a:=by
 unfold RS.way;show (S.ways++[[]]).getD a []=_;rw[ajH,ajH];cases q:a<⇑S.ways
 ·rw[ajM q]
 ·rw[ajN ∅,akg (l:=S.ways) ∅];cases b:a - ⇑S.ways=0
  ·rw[b];rfl
  ·cbv
def Good.make (h:Good S [] R){c:Nat}{z:Int}(hc:c<S.q)(x:S.ax c=c)(C:S.by c z=none)(g:Zg):Good (S.make c z g) [] (fb R c z S.q):=by
 let hw:=h.wf;let d:∀a,a<S.q->(S.grown c z g).ax a=S.ax a:=λa m=>by rw[fZ hw,ajY ∅]
 let f:(S.grown c z g).ax S.q=S.q:=by rw[fZ hw,aj3 rfl]
 let j:∀a s,(S.grown c z g).by a s=S.by a s:=λa s=>by unfold RS.by;rw[oi hw]
 let G:Good (S.grown c z g) [(c,z,S.q)] (fb R c z S.q):=by
  rwa[⟨⟨5555⟩,λa m=>?_,λe D ee a=>?_,λe a m=>?_,λe=>?_,λa=>?_,λa s b e=>?_,λa s b e=>?_,λw hw=>?_,55,λa s b e=>?_,λw hw=>?_,λa m=>?_⟩]
  ·show ⇑(S.ways++[[]])=S.q+ 1;rw[ajC,hw.w];rfl
  ·show ⇑(S.gaps++[_])=S.q+ 1;rw[ajC,hw.g];rfl
  ·show ⇑(S.aV++[_])=S.q+ 1;rw[ajC,hw.e];rfl
  ·show ⇑(S.called++[_])=S.q+ 1;rw[ajC,hw.c];rfl
  ·let t:a<S.q+ 1:=m;cases e:a=S.q
   ·rw[e,f];rwa[ajE _,f]
   ·let o:a<S.q:=∅
    rw[d a o];let⟨l,k⟩:=h.el a o;rwa[l,[d _ ∅]▸k]
  ·let A:e<S.q+ 1:=D;show _↔a<S.q+ 1/\_;rw[r9 hw,fZ hw];cases q:e=S.q
   ·subst q;rw[aj3 rfl,ajF];constructor
    ·rintro rfl;rwa[3,by cbv]
    ·rintro ⟨l,k⟩;cases n:a=S.q
     ·rwa[n]
     ·rw[ajY n]at k;have:=(h.el a ∅).1;ext
   ·let o:e<S.q:=∅
    rw[d e o]at ee;rw[ajY q,h.ca e o ee a]
    cbv
  ·show a<S.q+ 1;rw[r9 hw]at m;split at m
   ·rw[ajF.mp m];ext
   ·rwa[ak5 (h.cb e a m)]
  ·rw[r9 hw];split
   ·simp
   ·rwa[h.cn e]
  ·rw[oi hw];rwa[h.kn a]
  ·rw[j]at e;let⟨l,k,n,B⟩:=h.st a s b e;rwa[ak5 l,ak5 k,[d a l]▸n,[d b k]▸B]
  ·rw[j]at e ⊢;rwa[h.sy a s b e]
  ·rw[ajF.mp hw];rwa[ak5 hc,akZ _]
  ·rintro a s b (r|⟨rfl,rfl,rfl⟩|⟨rfl,rfl,rfl⟩)
   ·let⟨l,k,n⟩:=h.rl _ _ _ r;rwa[ak5 l,ak5 k,.inl n]
   ·rwa[ak5 hc,akZ _,.inr (.inr ⟨222⟩)]
   ·rwa[akZ _,ak5 hc,.inr (.inl ⟨2,alg _,2⟩)]
  ·rintro a s b (r|⟨rfl,rfl,rfl⟩|⟨rfl,rfl,rfl⟩)
   ·let⟨l,k,_⟩:=h.rl _ _ _ r;rcases h.cv _ _ _ r with q|⟨w,hw,_⟩
    ·rwa[.inl (by rw[d a l,d b k,j];rwa[q])]
    ·ext hw
   ·rwa[.inr ⟨_,ajU,.inl ⟨rfl,rfl,rfl⟩⟩]
   ·rwa[.inr ⟨_,ajU,.inr ⟨rfl,(alg _).symm,rfl⟩⟩]
  ·rw[j]at e;let⟨u,v,r,p,y⟩:=h.so a s b e;let⟨l,k,_⟩:=h.rl _ _ _ r;rwa[u,v,.inl r,[d u l]▸p,[d v k]▸y]
  ·rw[ajF.mp hw];rwa[c,S.q,qg,22]
  ·let t:a<S.q+ 1:=m;cases e:a=S.q
   ·rw[e,f];rwa[.refl _]
   ·rw[d a ∅];rwa[(h.cg a ∅).mono jH]
 let p:(S.grown c z g).ax c=c:=by rw[d c hc];rwa[x]
 let i:=G.sp _ ajU;rw[show (c,z,S.q).1=c from rfl,show (c,z,S.q).2.2=S.q from rfl,p,f]at i;rwa[G.keep (ak5 hc) (akZ _) p f i (.inl ([j]▸C)) (.inl ?_) (λw hw=>by ext hw) (λw hw _=>[ajF.mp hw]▸⟨p,2,f⟩)];rw[j]
 cases e:S.by S.q (-z) with
 |none=>rfl
 |some b=>have:=(h.st _ _ _ e).1;ext
def ab4 (n:Nat)(s:Int):Za2:=λa z b=>(z=s/\b=a+ 1/\b<n)\/(z= -s/\a=b+ 1/\a<n)
inductive XU (x y:V)(H:Hp)(Q:VK):Prop
 |mk (a b:Zs)(xs:Zb)(t:Str):x=↑a->y=↑b->H a\.tup xs->H b\.tup [.str t]->(xs=[]\/(∃n,xs=[.int n])\/∃t',xs=[.str t'])->Q (.bl (decide (xs=[V.str t]))) H->XU x y H Q
end L2
namespace L2
def aZ {p:Prop}(h:let q:Prop:=p;q):p:=h
def iP {a z:TS}(h:let b:TS:=z;aT a b G D H):(aT a z) G D H:=h
def vj {a z:TS}(h:let b:Ends:=G;let c:TS:=z;aT a c b D H):(aT a z) G D H:=h
def dE {a b z:TS}(h:let c:TS:=z;let d:TS:=aT b c;aT a d G D H):(aT a (aT b z)) G D H:=h
def qh {a b z:TS}(h:let c:Ends:=G;let d:TS:=z;let e:TS:=aT b d;aT a e c D H):(aT a (aT b z)) G D H:=h
def iQ {a b c z:TS}(h:let f:TS:=z;let e:TS:=aT c f;let d:TS:=aT b e;aT a d G D H):(aT a (aT b (aT c z))) G D H:=h
def vk {b c d a z:TS}(h:let g:TS:=z;let i:TS:=aT a g;let f:TS:=aT d i;let e:TS:=aT c f;aT b e G D H):(aT b (aT c (aT d (aT a z)))) G D H:=h
def Ma {b c d a z:TS}(h:let f:Ends:=G;let i:TS:=z;let j:TS:=aT a i;let g:TS:=aT d j;let e:TS:=aT c g;aT b e f D H):(aT b (aT c (aT d (aT a z)))) G D H:=h
def mX {b c d a e z:TS}(h:let g:TS:=z;let j:TS:=aT e g;let k:TS:=aT a j;let i:TS:=aT d k;let f:TS:=aT c i;aT b f G D H):(aT b (aT c (aT d (aT a (aT e z))))) G D H:=h
def qi {b c d a e f z:TS}(h:let m:TS:=z;let i:TS:=aT f m;let l:TS:=aT e i;let j:TS:=aT a l;let k:TS:=aT d j;let g:TS:=aT c k;aT b g G D H):(aT b (aT c (aT d (aT a (aT e (aT f z)))))) G D H:=h
def qj {b c e a f g d z:TS}(h:let j:TS:=z;let o:TS:=aT d j;let k:TS:=aT g o;let n:TS:=aT f k;let l:TS:=aT a n;let m:TS:=aT e l;let i:TS:=aT c m;aT b i G D H):(aT b (aT c (aT e (aT a (aT f (aT g (aT d z))))))) G D H:=h
def BG {g i c e d f b a z:TS}(h:let q:TS:=z;let j:TS:=aT a q;let p:TS:=aT b j;let m:TS:=aT f p;let l:TS:=aT d m;let n:TS:=aT e l;let k:TS:=aT c n;let o:TS:=aT i k;aT g o G D H):(aT g (aT i (aT c (aT e (aT d (aT f (aT b (aT a z)))))))) G D H:=h
def Mb {i j c e d g b a f z:TS}(h:let q:TS:=z;let s:TS:=aT f q;let k:TS:=aT a s;let r:TS:=aT b k;let n:TS:=aT g r;let m:TS:=aT d n;let o:TS:=aT e m;let l:TS:=aT c o;let p:TS:=aT j l;aT i p G D H):(aT i (aT j (aT c (aT e (aT d (aT g (aT b (aT a (aT f z))))))))) G D H:=h
def Jh {q r l n m p k j o a b c d z:TS}(h:let g:TS:=z;let i:TS:=aT d g;let e:TS:=aT c i;let f:TS:=aT b e;let y:TS:=aT a f;let B:TS:=aT o y;let s:TS:=aT j B;let A:TS:=aT k s;let v:TS:=aT p A;let u:TS:=aT m v;let w:TS:=aT n u;let t:TS:=aT l w;let x:TS:=aT r t;aT q x G D H):(aT q (aT r (aT l (aT n (aT m (aT p (aT k (aT j (aT o (aT a (aT b (aT c (aT d z))))))))))))) G D H:=h
def bB {z:TS}(h:let a:Ends:=G;z a D H):z G D H:=h
theorem args_is1 {b:Type}:∀{us:List b},⇑us=1->∃a,us=[a]
 |[a],_=>⟨a,2⟩
theorem args_is2 {c:Type}:∀{us:List c},⇑us=2->∃a b,us=[a,b]
 |[a,b],_=>⟨a,b,2⟩
theorem args_is3 {d:Type}:∀{us:List d},⇑us=3->∃a c b,us=[a,c,b]
 |[a,c,b],_=>⟨a,c,b,2⟩
theorem args_is4 {e:Type}:∀{us:List e},⇑us=4->∃a b d c,us=[a,b,d,c]
 |[a,b,d,c],_=>⟨a,b,d,c,2⟩
theorem args_is5 {f:Type}:∀{us:List f},⇑us=5->∃a c e d b,us=[a,c,e,d,b]
 |[a,c,e,d,b],_=>⟨a,c,e,d,b,2⟩
theorem args_is6 {g:Type}:∀{us:List g},⇑us=6->∃a c e d b f,us=[a,c,e,d,b,f]
 |[a,c,e,d,b,f],_=>⟨a,c,e,d,b,f,2⟩
structure fu (S:RS)(R:Za2)(ks:Zg):Prop where
 sub:∀c,c<S.q->(S.gap c).Sublist ks
 im:∀c,c<S.q->S.ax c=c->∀z∈ks,z∉S.gap c->∃d,Im S R c z d
 by_:∀c z d,S.by c z=some d->z∉S.gap c
section
variable {S:RS}{pend:Ze}{R:Za2}{ks:Zg}
def jV {x:Nat}(a:n<⇑S.gaps):(S.mx n z).gap x=if x=n then (S.gap n).filter (λy=>decide (y≠z)) else S.gap x:=by
 unfold RS.mx RS.setG RS.gap;show (S.gaps.set n _).getD x []=_;rw[ajH];cases h:x=n
 ·subst h;rw[aj3 rfl,akh a];rfl
 ·rw[ajY h,aky (λe=>h e.symm),ajH]
def zy:(S.mx n z).gaps.length=⇑S.gaps:=by rwa[aj5 ..]
def qk {x:Nat}(b:n<⇑S.gaps)(c:m<⇑S.gaps):y∈(S.keep n z m).gap x↔y∈S.gap x/\¬(x=n/\y=z)/\¬(x=m/\y= -z):=by
 unfold RS.keep;let a:∀x,((S.cH n z m).cH m (-z) n).gap x=S.gap x:=λx=>rfl
 rw[jV ([zy]▸c),jV (by rwa[b]),jV (by rwa[b]),a,a,a]
 cbv
def sg {x:Nat}(d:n<⇑S.gaps)(e:m<⇑S.gaps):((S.keep n z m).gap x).Sublist (S.gap x):=by
 unfold RS.keep;let b:∀x,((S.cH n z m).cH m (-z) n).gap x=S.gap x:=λx=>rfl
 rw[jV ([zy]▸e),jV (by rwa[d]),jV (by rwa[d]),b,b,b];cases c:x=m
 ·subst c;rw[aj3 rfl];cases a:x=n
  ·subst a;rw[aj3 rfl];rwa[List.Sublist.trans alC alC]
  ·rw[ajY a];rwa[alC]
 ·rw[ajY c];cases a:x=n
  ·subst a;rw[aj3 rfl];rwa[alC]
  ·rw[ajY a];rwa[List.Sublist.refl _]
def Fw {x:Nat}(b:n<⇑S.ways)(a:m<⇑S.ways):(S.keep n z m).by x y=if x=m/\y= -z then some n else if x=n/\y=z then some m else S.by x y:=by show (((S.cH n z m).cH m (-z) n)).by x y=_;rw[jT (by unfold RS.cH RS.kP;rw[aj5];rwa[a]),jT b]
def fu.keep (h:fu S R ks)(g:Good S pend R){c d:Nat}{z:Int}(hc:c<S.q)(hd:d<S.q)(i:Im S R c z d):fu (S.keep c z d) R ks:=by
 let j:c<⇑S.gaps:=by rw[g.wf.g];rwa[hc]
 let b:d<⇑S.gaps:=by rw[g.wf.g];rwa[hd]
 rwa[⟨λx k=>(sg j b).trans (h.sub x k),λx k ex y o m=>?_,λx y e l=>?_⟩]
 ·rw[qk j b]at m;cases f:x=c/\y=z
  ·rw[f.1,f.2];rwa[d,i]
  ·cases a:x=d/\y= -z
   ·rw[a.1,a.2];rwa[c,i.back g]
   ·rwa[h.im x k ex y o λq=>m ⟨q,f,a⟩]
 ·rw[Fw ([g.wf.w]▸hc) ([g.wf.w]▸hd)]at l;rw[qk j b];rintro ⟨q,n,p⟩;rw[ajY p,ajY n]at l;rwa[h.by_ x y e l q]
def Md {x:Nat}:(S.meet n z x m pend).1.gaps=S.gaps:=by have:=(g6 (max x m) (S.joined n z (min x m) (max x m)) pend ((S.joined n z (min x m) (max x m)).way (max x m))).2;have:=akK RS.gaps this;rwa[this]
def fu.meet (h:fu S R ks)(g:Good S pend R){c x y:Nat}{z:Int}(C:S.by c z=some x)(H:y<S.q)(I:S.ax y=y)(m:x≠y){d:Ze}(made:(S.meet c z x y d).1.q=S.q)(ax:∀a,(S.meet c z x y d).1.ax a=if S.ax a=max x y then min x y else S.ax a):fu (S.meet c z x y d).1 R ks:=by
 let k:∀a,(S.meet c z x y d).1.gap a=S.gap a:=λa=>by unfold RS.gap;rw[Md]
 let⟨_,D,_,ex⟩:=g.st _ _ _ C;let l:max x y<S.q:=by rcases am1 x y with q|q <;> ext
 let t:min x y<max x y:=by rcases Nat.lt_or_gt_of_ne m with q|q <;> ext
 let fO:∀a,a<S.q->(S.meet c z x y d).1.ax a=a->S.ax a=a/\a≠max x y:=λa i e=>by
  rw[ax]at e;let F:=(g.el a i).1;cases q:S.ax a=max x y
  ·rw[aj3 q]at e;ext
  ·rw[ajY q]at e;rwa[e,λz=>q (by rw[e,z])]
 rwa[⟨λa i=>[k]▸h.sub a (by rw[<-made];rwa[i]),λa i G s B o=>?_,λa s b u=>?_⟩]
 ·rw[k]at o;let⟨E,w⟩:=fO a (by rw[<-made];rwa[i]) G;let⟨b,p,A,r,n,J⟩:=h.im a (by rw[<-made];rwa[i]) E s B o;rwa[_,p,A,r,[ax,ajY ([n]▸w)]▸n,2]
 ·rw[k]
  let j:∀q∈(S.joined c z (min x y) (max x y)).way (max x y),q.2<(S.joined c z (min x y) (max x y)).ways.length:=λq v=>by show q.2<⇑S.ways;rw[g.wf.w];rwa[(g.st _ _ _ (jU (g.kn (max x y)) v)).2.1]
  let f:(dm (max x y) (S.joined c z (min x y) (max x y)) d ((S.joined c z (min x y) (max x y)).way (max x y))).1.by a s=some b:=u;rw[yp (by show max x y<⇑S.ways;rw[g.wf.w];rwa[l]) _ j]at f;split at f
  ·ext f
  ·rwa[h.by_ a s b f]
def zz {x:Nat}:(S.meet n z x m pend).1.q=S.q:=by have:=(g6 (max x m) (S.joined n z (min x m) (max x m)) pend ((S.joined n z (min x m) (max x m)).way (max x m))).2;have:=akK RS.q this;rwa[this]
def fu.take {w:Way}(hG:fu S R ks)(h:Good S (pend++[w]) R):fu (S.takeIn pend w).1 R ks:=by
 let hw:=h.pl w (ajI _ ajU);let d:=h.sp w (ajI _ ajU);let hc:=h.lt hw.1;let hd:=h.lt hw.2;let i:=(h.el _ hw.1).2;let ed:=(h.el _ hw.2).2;let g:∀x∈pend,x∈pend++[w]:=λx b=>aj4 _ b
 let last:∀x∈pend++[w],x∉pend->x=w:=λx b nx=>by cbv
 unfold RS.takeIn;cases c:(S.by (S.ax w.1) w.2.1).getD (S.ax w.2.2)≠S.ax w.2.2
 ·rw[aj3 c]
  cases e:S.by (S.ax w.1) w.2.1 with
  |none=>cbv
  |some x=>rw[e]at c;let⟨_,f,_⟩:=h.meet e hd ed c d g (λx b nx=>[last x b nx]▸.inl ⟨222⟩);rwa[hG.meet h e hd ed c zz f]
 ·rw[ajY c];cases a:(S.by (S.ax w.2.2) (-w.2.1)).getD (S.ax w.1)≠S.ax w.1
  ·rw[aj3 a]
   cases e:S.by (S.ax w.2.2) (-w.2.1) with
   |none=>rw[e]at a;rwa[absurd rfl a]
   |some x=>rw[e]at a;let⟨_,f,_⟩:=h.meet e hc i a (d.back h) g (λx b nx=>[last x b nx]▸.inr ⟨2,(alg _).symm,2⟩);rwa[hG.meet h e hc i a zz f]
  ·rw[ajY a];rwa[hG.keep h hc hd d]
def fu.more {e:Za2}(h:fu S R ks)(g:∀a z b,R a z b->e a z b):fu S e ks:=⟨h.sub,λc hc i z hz m=>by let⟨d,j,k,r,f,l⟩:=h.im c hc i z hz m;rwa[d,j,k,g _ _ _ r,f,l],h.by_⟩
def fu.rows (h:fu S R ks)(rows:List Dt):fu { S with rows:=rows } R ks:=⟨h.sub,h.im,h.by_⟩
def QP (L:Nat)(g:Zg):fu (RS.new L g) (λ_ _ _=>False) g:=by
 rwa[⟨λc a=>?_,λc a _ z f b=>?_,λc z d e=>?_⟩]
 ·let a:c<1:=a;rw[show c=0 by ext];rwa[List.Sublist.refl _]
 ·let a:c<1:=a;rw[show c=0 by ext]at b;rwa[absurd f b]
 ·have:(RS.new L g).by c z=none:=by rcases c with _|c <;> rfl
  cbv
def fu.make (h:fu S R ks)(g:Good S [] R){c:Nat}{z:Int}(hc:c<S.q)(B:S.ax c=c)(L:S.by c z=none):fu (S.make c z ks) (fb R c z S.q) ks:=by
 let u:∀x,(S.grown c z ks).gap x=if x=S.q then ks else S.gap x:=λx=>by
  unfold RS.gap;show (S.gaps++[ks]).getD x []=_;rw[ajH,ajH];cases i:x=S.q
  ·subst i;rw[aj3 rfl,ajN ([g.wf.g]▸ajE _),g.wf.g,alq];rfl
  ·rw[ajY i];cases F:x<⇑S.gaps
   ·rw[ajM F]
   ·have:=g.wf.g;rw[ajN ∅,akg (by rw[akJ];omega),akg ∅]
 let E:∀x y,(S.grown c z ks).by x y=S.by x y:=λx y=>by unfold RS.by;rw[oi g.wf]
 let j:c<(S.grown c z ks).gaps.length:=by show c<⇑(S.gaps++[ks]);rw[ajC,g.wf.g];ext
 let l:S.q<(S.grown c z ks).gaps.length:=by show S.q<⇑(S.gaps++[ks]);rw[ajC,g.wf.g,akJ];ext
 let p:c<(S.grown c z ks).ways.length:=by show c<⇑(S.ways++[[]]);rw[ajC,g.wf.w];ext
 let v:S.q<(S.grown c z ks).ways.length:=by show S.q<⇑(S.ways++[[]]);rw[ajC,g.wf.w,akJ];ext
 let ee:∀x,(S.make c z ks).ax x=if x=S.q then S.q else S.ax x:=λx=>fZ g.wf c z ks x
 let m:∀a s b,S.by a s=some b->a≠S.q:=λa s b e q=>by have:=(g.st _ _ _ e).1;ext
 rwa[⟨λx i=>?_,λx i ex y w f=>?_,λx y e n=>?_⟩]
 ·rwa[(sg j l).trans ?_];rw[u];cases q:x=S.q
  ·cbv
  ·rw[ajY q];let i:x<S.q+ 1:=i;rwa[h.sub x ∅]
 ·let f:y∉((S.grown c z ks).keep c z S.q).gap x:=f;rw[qk j l,u]at f;cases t:x=c/\y=z
  ·erw[S.q,c,S.q,[t.2]▸qg,5]
   ·cbv
   cbv
  ·cases o:x=S.q/\y= -z
   ·erw[c,S.q,c,[o.2]▸.inr (.inr ⟨222⟩),5]
    ·rw[ee,aj3 rfl,o.1]
    ·rw[ee,ajY ∅];rwa[B]
   ·cases q:x=S.q
    ·rw[aj3 q]at f;rwa[absurd ⟨w,t,o⟩ f]
    ·rw[ajY q]at f;let i:x<S.q+ 1:=i;rw[ee,ajY q]at ex;let⟨d,A,G,r,H,D⟩:=h.im x ∅ ex y w λk=>f ⟨k,t,o⟩
     let J:=g.rl _ _ _ r;rwa[d,A,G,.inl r,[ee,ajY ∅]▸H,[ee,ajY ∅]▸D]
 ·let n:((S.grown c z ks).keep c z S.q).by x y=some e:=n;rw[Fw p v,E]at n;show y∉((S.grown c z ks).keep c z S.q).gap x;rw[qk j l,u];rintro ⟨q,C,I⟩;rw[ajY I,ajY C]at n;rw[ajY (m _ _ _ n)]at q;rwa[h.by_ x y e n q]
def fu.fin (h:fu S R ks)(g:Good S [] R)(nd:ks.Nodup){c:Nat}(hc:c<S.q)(f:S.ax c=c):S.gap c=ks.filter λz=>(S.by c z).isNone:=by
 let sl:∀{l k:Zg},l.Sublist k->k.Nodup->l=k.filter λz=>decide (z∈l):=λ{l k} s=>by
  induction s with
  |slnil=>intro _;rfl
  |cons a s b=>cbv
  |cons_cons a s b=>
   intro m;let j:=akf.mp m;rw[amM (by simp)]
   congr 1
   conv=>lhs;rw[b j.2]
   rwa[amW λz hz=>?_]
   cbv
 rw[sl (h.sub c hc) nd];rwa[amW λz hz=>?_]
 cases e:S.by c z with
 |some d=>have:=h.by_ c z d e;simp[this]
 |none=>
  cases q:z∈S.gap c
  ·simp[q]
  ·let⟨d,i⟩:=h.im c hc f z hz q;have:=g.mW.mpr i
   cbv
end
structure Fly (B:Heap)(l:Zq)(x:Zs)(cls a0:Zt)(h:Heap):Prop where
 stays:B.StaysIn h
 new:B.get? x=none
 aie:h.FunFrames B l
 tr:∃fl,h.TracedAtW B x cls a0 fl
section
variable {X:Cx}{tg:Expr}
def iDK (tl:TE):TI:=λ c H R=>tl c H λx b=>∃d a,x=↑d/\b d\.dK a/\∀o,R (TQ d o a) (upd b d (.cL o (.dK a)))
def XW {tl:TE}(B:PE X e tl):PI X tg e (iDK tl):=by
 intro f s F H R I h;rwa[bq (B f s F H _ I h) λu Q ζ=>?_];let⟨x,P,w,E,d,b,ex,v,q⟩:=ζ
 subst ex;ext E;obtain⟨-,g,y,rel,o,D,T,c,m,t,z,p,J⟩:=w.aU d _ v;rwa[Dk.iter g ⟨o,c,m,t⟩ (vX (w.freeze v True.intro c) (I8 λX H h I a=>?_) ⟨_,ajP _ rfl,22⟩ (q o))];obtain⟨j,-,g,y,rel,O,M,C,c,m,k,z,p,J⟩:=I d _ a;rw[j]at c;obtain rfl:=Za0 c;rw[t]at k;injection k with L A
 subst L A;let n:⇑b=⇑y:=KV.length rel;let r:D.size=⇑b:=by rw[<-alz,pairs_len p,n]
 rwa[⟨⟨_,j,m,t⟩,r,λi S a=>?_⟩];let G:i<⇑b:=by cbv
 let⟨N,l,rk⟩:=(rZ p rel).get (i:=i) (x:=kV b[i].1) (by cbv);rw[aj0,ak4,a]at l;obtain rfl:=Za0 l;rwa[_,rk,21,ajz G,2]
end
def T6 {g:TG}{e:TS}{o:Obj}{kvs:List (Key×V)}(a:Nat->St->Hp->Prop)(h:a 0 D H)(k:∀i D H,i<=⇑kvs->a i D H->H d\.cL o (.dK kvs))(l:∀i b D H,kvs[i]?\b->a i D H->g (kV b.1) D H λ c m=>e { G with nx:=a (i+ 1),ct:=a (i+ 1),bk:=G.nx } c m)(f:∀ D H,a ⇑kvs D H->G.nx D H):qc (TQ d o kvs) g e G D H:=GY h k (λi D H x n p y=>by let⟨rfl,b,j,rfl⟩:=y;rwa[l i b D _ j p]) f
inductive YD (a:Zs)(y z:V)(H:Hp)(Q:VK):Prop
 |mk (kvs:List (Key×V))(k:Key):H a\.dK kvs->y=kV k->⇑kvs<sizeLine->(∀v,bC kvs k\v->Q v H)->(bC kvs k=none->Q z (upd H a (.dK (putK kvs k z))))->YD a y z H Q
def XX (td e tx:TE):TE:=λ b H Q=>td b H λx c=>Fm x c λa=>e b c λy d=>tx b d λz f=>YD a y z f Q
section
variable {X:Cx}{o e f:Expr}{apos cW:Pos}{td ty tx:TE}
def oj (T:PE X o td)(t:PE X e ty)(S:PE X f tx)(m:M2 X o "setdefault" apos e f cW):PE X (.Call (.Attribute o "setdefault" apos) [e,f] [] cW) (XX td ty tx):=by
 intro c s p H Q I h;rwa[alR m.base m.few m.line akT alw PySem.F.type_dict_setdefault (bq (T c s p H _ I h) λu Z ζ=>?_)];let⟨x,V,A,rx,a,ex,d,N⟩:=ζ;subst ex;obtain rfl:u=Value.ref a:=rx;let⟨U,F,_⟩:=mQ A d;erw[U,F];rw[m.trees]
 rwa[akD rfl (ak9 (akw (bq (t c Z p V _ A N) λiv M ζ=>?_)))];let⟨y,H2,P,ry,q2⟩:=ζ;rwa[ akw (bq (S c M p H2 _ P q2) λfv s3 ζ=>?_)];let⟨z,J,n,C,g,k,E,ey,G,O,W⟩:=ζ;rwa[ak2 ?_]
 subst ey;let⟨R,w,B,rel,D⟩:=tQ n.aU E;let b:=rel.val k;let j:⇑B<=sizeLine:=by rw[<-⇑rel];rwa[R]
 rwa[alX alw D.typeIs PySem.F.entry_dict_setdefault (PySem.F.args_dict_setdefault_3^_) (kt_meets_setdefault (bZ X.prog X.w) a (jw ry) w fv) ⟨B,D,j,λv hv=>?_,λhn g1 i sb=>?_⟩]
 ·rw[hv]at b
  cases l:bC g k with
  |none=>rw[l]at b;rwa[b.elim]
  |some r=>rw[l]at b;rwa[r,J,n.tok _,b,O r l]
 ·rw[hn]at b
  cases l:bC g k with
  |some r=>rw[l]at b;rwa[b.elim]
  |none=>
   let Y:⇑(putK g k z)<=sizeLine:=by have:=dR g k z;ext
   let t:∃q,g1.get? a\q:=let ⟨q,_,_,L,_⟩:=i;⟨q,L⟩
   rwa[z,_,kO n ([E]▸True.intro) sb t (rX Y w (rel.put k C) i),C,W l]
end
namespace Di
variable {prog:Program}{w:World}{A:Around}{E:Zt->Zu->Prop}{s:Zu}{d:Zs}{es:Array DictEntry}{ep:Nat}
def meets (d:Zs)(a:(d==sysModules)=false):MeetsIn prog w (Builtin.«dict.items» ⟨[↑d],[]⟩) (λ_ R s=>(∃es ep,e9 s.heap d es ep)/\R (.ok (.ret ↑↥s)) { s with heap:=s.heap.push ("dict_items">>>.fields #[↑d]) }):=
 .of_wp λA R s ζ=>by
  let⟨⟨es,ep,b⟩,h⟩:=ζ
  rwa[ajx ?_];rwa[ajx (amf (Dk.typ b) ?_)];rwa[ajG ?_];unfold Builtin.Dict.showsAll;rw[ajY (by rw[a];decide)];rwa[ajx (ajG (ajx (aku (ajG ⟨12,h⟩))))]
theorem iter (c:s.heap.IsItemsView a d)(h:e9 s.heap d es ep)(j:Q ↑↥s { s with heap:=s.heap.push ("dict_itemiterator">>>.fields #[.none,.bool false,↑d,.int 0 0,.int es.size 0,.int ep 0,.none,.none]) }):(prog<|>w) A (pyIter ↑a) Q E s:=by
 let⟨k,f,i,e⟩:=id c;let⟨o,g,l,b⟩:=id h;rwa[wpAny_pyIter_slot c.typeIs F.slot_dict_items_iter (akY F.slot_dict_items_iter c.typeIs F.entry_dict_items_iter ?_ (F.args_dict_items_iter_1 _))];rwa[ajx (ajG (ajx ?_))];rwa[ajx (akA f e (x:=↑d) rfl (ajG (ajx ?_)))];rwa[ajx (ami g b (ajx (wpAny_dictEpoch g b ?_)))];let own:Builtin.Dict_items.ownsTuple "dict_itemiterator"=true:=⋯
 simp only[own,am5];rwa[aku (ajG ⟨12,"dict_itemiterator",_,⟨_,ajP _ rfl,2⟩,al3.lookup,5⟩) (by simp only[sizeOk,Builtin.Dict_items.ownedTupleFields,ajT,ajC,aj1,akL,sizeLine_eq];omega)];simpa [rawInt,Builtin.Dict_items.ownedTupleFields] using j
theorem next {it:Zs}{ok:Zt}{Q:Zl->Zu->Prop}(L:A.handled=none)(hit:IsItemIter s.heap it d i es.size ep ok v)(M:e9 s.heap d es ep)(I:∀en g,es[i]?\en->IsItemIterOut g it d (i+ 1) es.size ep en.key en.val ↥s->g.get? ↥s\("tuple">>>.seq #[en.key,en.val])->
  (∀b o,b≠it->s•b\o->g.get? b\o)->Q (some ↑↥s) (s<*g))(S:∀g,es[i]?=none->Heap.ExtBut it s.heap g->Q none (s<*g)):(prog<|>w) A (pyNext ↑it) Q E s:=by
 let⟨h,t,r,q,os⟩:=s;let⟨W,p,P,j⟩:=id M;let f:Shared.TypeIs ⟨h,t,r,q,os⟩ ↑it "dict_itemiterator":=⟨_,hit,2⟩;rwa[ajx (wpAny_attempt (akS (name:=Str.ofString "__next__") f al3 (akY al3 f F.entry_dict_itemiterator_next ?_ (F.args_dict_itemiterator_next_1 _))))];rwa[ajx (ajG (ajx (ajx ?_)))]
 first|(rwa[ajx (wpAny_typeNameOfWhole_itemiter f (ajG ?_))];skip)|(rwa[ajx (wpAny_typeNameOf_itemiter f (ajG ?_))];skip)
 rwa[ajx (wpAny_fieldsOf hit rfl ?_)];let own:Builtin.Dict_items.ownsTuple "dict_itemiterator"=true:=⋯
 show wpAny _ _ (if (Value.ref d==Value.none)=true then _ else _) _ _ _;rw[ajY (show ¬((Value.ref d==Value.none)=true) by cbv)];rwa[ajx (ajG (ajx (ami p j ?_)))];rw[ajY (by simp)];rwa[ajx (ajG (ajx (wpAny_dictEpoch p j ?_)))];rw[ajY (by simp)];rwa[ajG ?_];rcases u:es[i]? with _|en <;> simp only[show ¬((i:Int)<0) by ext,amZ,aka,u]
 all_goals
  rwa[ajx ?_]
  first|(rwa[ajx (wpAny_typeNameOfWhole_itemiter f (ajG ?_))];skip)|(rwa[ajx (wpAny_typeNameOf_itemiter f (ajG ?_))];skip)
 ·show wpAny _ _ (setField ↑it 2 .none >>=_) _ _ _;rwa[ajx (alK hit rfl (by simp) ?_)];rwa[ajx ?_];rwa[ajx (m:=firstArgMember _ _) (wpAny_of_eq (a:=Value.none) (by first|rfl|(simp only[firstArgMember];rfl)) ?_)];rwa[aku ?_ (by size_fits)];rwa[ajx (wpAny_handled ?_)];rw[show A.in1.handled=none from L];rwa[ajx (ajG (wpAny_throw ?_))];rwa[ajx (wpAny_isInstance (T:="StopIteration") (b:=true) ⟨_,ajP _ rfl,2⟩ isSubtype_stop ?_)];rwa[ajG (S _ u (((ak1 ..).extBut.push _).push _))]
 ·rwa[ajx (wpAny_isOneOf_itemiter f ?_)];show wpAny _ _ (setField ↑it 3 (rawInt ((i:Int)+ 1)) >>=_) _ _ ⟨h,t,r,q,os⟩
  rwa[ajx (akO hit (by simp) λg1 B s1=>?_)];let k:Shared.TypeIs ⟨g1,t,r,q,os⟩ ↑it "dict_itemiterator":=⟨_,B,2⟩;rwa[ajx (akz (ajx (wpAny_isOneOf_itemiter k (ajx (wpAny_isOneOf_itemiter k ?_)))))];rwa[ajx (wpAny_newTuple ?_)];let l:IsItemIter (g1.push ("tuple">>>.seq #[en.key,en.val])) it d (i+ 1) es.size ep ok v:=ajB _ B;generalize n:g1.push ("tuple">>>.seq #[en.key,en.val])=g2 at l;let z1:g1.objs.size=h.objs.size:=s1.1;let C:it<h.objs.size:=ajR hit;let D:g2.get? h.objs.size\("tuple">>>.seq #[en.key,en.val]):=by rw[<-n,<-z1];rwa[ajP _ rfl]
  let N:∀b o,b≠it->h.get? b\o->g2.get? b\o:=λb o c e=>by rw[<-n];rwa[ajB _ (s1.extBut b o c e)]
  show wpAny _ _ (Builtin.Dict_items.ownedTupleIsFree ↑it >>=_) _ _ ⟨g2,t,r,q,os⟩;rw[z1];rwa[ajx ?_];rwa[ajx (akA l rfl (x:=.none) rfl (ajG ?_))];rwa[ajx (akA l rfl (x:=ok) rfl (ajx (akA l rfl (x:=v) rfl ?_)))];rwa[ajx (akO l (by simp) λX O s3=>?_)];rwa[ajx (akO O (by simp) λU R s4=>?_)];rwa[ajx (akO R (by simp) λV G s5=>?_)];rwa[ajx (akO G (by simp) λy J H=>?_)];let z:∀b o,b≠it->g2.get? b\o->y.get? b\o:=λb o c e=>H.extBut b o c (s5.extBut b o c (s4.extBut b o c (s3.extBut b o c e)))
  rwa[ajx (amV (ajG (ajG ⟨12,ajG (I en y u J (z _ _ (akP C) D) λb o c e=>z b o c (N b o c e))⟩)))]
end Di
abbrev Mf (d:Zs) (o:Obj) (kvs:List (Zd×V)):It:=I7 d o (.dT kvs) ⇑kvs λi H x H'=>∃p kp kv,kvs[i]?\kv/\H p=none/\H kp\.tup (kv.1.map kV)/\x=↑p/\H'=upd H p (.tup [↑kp,kv.2])
def QQ {elts:Zr}{x1:Nat}{tp:Pos}(d it:Zs)(o:Obj)(R:Array DictEntry)(T:Nat)(t:List (Zd×V))(O:o.data=.dict R T):
 Turn P w K (.Tuple elts x1 tp) (Mf d o t) [it] it (λi h=>∃ok j,IsItemIter h it d i R.size T ok j) where
 mem:=by simp
 obj:=λi h st b f=>by cbv
 keep:=λi h h' ζ k=>by let⟨ok,j,e⟩:=ζ;rwa[⟨ok,j,k it (by simp) _ e⟩]
 item:=by
  intro X J F hK L i l s σ H E I m st u;subst J F;let⟨ok,j,hit⟩:=st;let⟨hi,n⟩:=u;let⟨r,z,y⟩:=Br I.aU n O;let M:it<↥s:=ajR hit;refine Di.next (I.ok.hd L) hit r (λen g C G N x=>⟨12,wpAny_letOwnedTupleGo_items G λZ D U=>?_⟩) λg e=>by cbv
  let⟨S,p,v,a,b,c,d,rv⟩:=y i _ C;rw[b,d]at N;rwa[⟨↑↥s,_,I.Bm (fp:=[it]) (a:=↥s) (o:=.tup [↑p,S.2]) (h':=Z) (t':=s.toks) (λb B f q=>?_) m (ajE _) ⟨Za4 2,[↑p,v],.cons rfl (.cons rv .nil),_,(U.2 _ (akP M)).trans N,212⟩,2,⟨_,p,S,a,I.aU.fresh (ajE _),c,22⟩,⟨11,D⟩,λb f=>?_⟩]
  ·simp at f;rwa[(U.2 b f).trans (x b B f q)]
  ·rw[ajF.mp f,ao (aj9 M)];rwa[(m it (by simp)).1]
 done:=by intro X J F hK L i l s σ H E I m st u;subst J F;let⟨ok,j,hit⟩:=st;let⟨hi,n⟩:=u;let⟨r,z,y⟩:=Br I.aU n O;rwa[Di.next (I.ok.hd L) hit r (λen g e=>by cbv) λg _ eb=>⟨2,I.mG (fp:=[it]) (t':=s.toks) (λb B f q=>eb b B (λz=>f (by simp[z])) q) m⟩]
 self:=λA i s Q E ζ h=>by let⟨ok,j,hit⟩:=ζ;rwa[PySem.W.kcp_self hit h]
section
variable {X:Cx}
def iDI (tl:TE):TI:=λ c H R=>tl c H λx b=>∃d a,x=↑d/\b d\.dT a/\∀o,R (Mf d o a) (upd b d (.cL o (.dT a)))
def XY {tl:TE}{elts:Zr}{apos c:Pos}(N:PE X e tl)(f:attributeBase e "items" X.env (eval e X.env)=eval e X.env)(hline:(apos.endLine==c.line)=true):
 PI X (.Tuple elts n p) (.Call (.Attribute e "items" apos) [] [] c) (iDI tl):=by
 intro r s Q H R I h;rwa[wpAny_Call_method0_late f hline (bq (N r s Q H _ I h) λu s1 ζ=>?_)];let⟨x,M,k,O,d,j,ex,v,q⟩:=ζ;subst ex;ext O;obtain⟨-,C,ys,V,o,m,t,A,E,D,Y,Z⟩:=k.aU d _ v;let l:e9 s1.heap d m t:=⟨o,A,E,D⟩;let B:Fj M d:=.inr ⟨j,.inl v⟩;let⟨F,G,_⟩:=mQ k B;rwa[⟨"dict","dict.items",akT,PySem.F.slot_dict_items,PySem.F.type_dict_items,F,G,akD rfl (PySem.evalArgs_none ?_)⟩];rwa[alX PySem.F.slot_dict_items F PySem.F.entry_dict_items (PySem.F.args_dict_items_1 _) (Di.meets d C) ⟨⟨m,t,l⟩,5⟩];let S:(s1.heap.push ("dict_items">>>.fields #[↑d])).IsItemsView ↥s1 d:=⟨_,ajP _ rfl,22⟩;let g:e9 (s1.heap.push ("dict_items">>>.fields #[↑d])) d m t:=⟨o,ajB _ A,E,D⟩;rwa[Di.iter (s:={ s1 with heap:=s1.heap.push ("dict_items">>>.fields #[↑d]) }) S g ?_];let L:=(k.freeze v True.intro A).kept (h':=(s1.heap.push ("dict_items">>>.fields #[↑d])).push ("dict_itemiterator">>>.fields #[.none,.bool false,↑d,.int 0 0,.int m.size 0,.int t 0,.none,.none])) (t':=s1.toks) λb o a=>ajB _ (ajB _ a)
 let i:↥s1<=(s1.heap.push ("dict_items">>>.fields #[↑d])).objs.size:=by rw[ali];ext
 let T:=QQ (P:=X.prog) (w:=X.w) (K:=X.K) (elts:=elts) (x1:=n) (tp:=p) d (s1.heap.push ("dict_items">>>.fields #[↑d])).objs.size o m t j D;rwa[⟨111112,L,T,⟨11,ajP _ rfl⟩,λb J=>?_,q o⟩];rw[ajF.mp J];let y:=k.aU.fresh i;rwa[k.Gu i ([ao (λz=>by cbv)]▸y)]
end
def T7 {g:TG}{e:TS}{o:Obj}{kvs:List (Zd×V)}(a:Nat->St->Hp->Prop)(k:a 0 D H)(m:∀i D H,i<=⇑kvs->a i D H->H d\.cL o (.dT kvs))(q:∀i b D H p kp,kvs[i]?\b->H p=none->H kp\.tup (b.1.map kV)->a i D H->g ↑p D (upd H p (.tup [↑kp,b.2])) λ c r=>e { G with nx:=a (i+ 1),ct:=a (i+ 1),bk:=G.nx } c r)(f:∀ D H,a ⇑kvs D H->G.nx D H):qc (Mf d o kvs) g e G D H:=GY k m (λi D H x s p y=>by let⟨j,kp,b,l,h,n,rfl,rfl⟩:=y;rwa[q i b D _ j kp l h n p]) f
theorem vl:∀(n:Nat)(l:Zg)(lo:Int),l.Nodup->(∀x∈l,lo<=x/\x<lo+ n)->⇑l<=n
 |0,[],_,_,_=>ajE _
 |0,x::l,lo,_,h=>by have:=h x (ajU ..);ext
 |n+ 1,l,lo,b,h=>by
  cases c:lo+ n∈l
  ·let d:=vl n (l.erase (lo+ n)) lo (b.erase _) λx a=>by let e:=(b.mem_erase_iff.mp a);let f:=h x e.2;ext
   rw[alT c]at d;ext
  ·let d:=vl n l lo b λx a=>by
    let f:=h x a;let g:x≠lo+ n:=λz=>c (by rw[<-z];rwa[a])
    ext
   ext
section
variable {κ:Type} [DecidableEq κ]
def Ji (b:List (κ×V))(k j:κ):bC (fJ b k) j=if j=k then none else bC b j:=by
 unfold fJ
 induction b with
 |nil=>split <;> rfl
 |cons p r e=>
  cases c:p.1=k
  ·rw[List.filter_cons_of_neg (by simp[c]),e];cases a:j=k
   ·cbv
   ·rw[ajY a,ajY a,dc (λz=>a (z.symm.trans c))]
  ·rw[amM (by simp[c])];cases a:p.1=j
   ·rw[dk a,ajY (λz=>c (a.trans z)),dk a]
   ·rw[dc a,e];cases d:j=k
    ·cbv
    ·rw[ajY d,ajY d,dc a]
def qm (a:List (κ×V))(k:κ)(v:V):(putK a k v).map (·.1)=if k∈a.map (·.1) then a.map (·.1) else a.map (·.1)++[k]:=by
 unfold putK;cases h:(a.any λb=>decide (b.1=k))=true
 ·let c:k∈a.map (·.1):=by let⟨b,e,d⟩:=List.any_eq_true.mp h;rwa[akp.mpr ⟨b,e,ajQ d⟩]
  rw[aj3 h,aj3 c,aki];rwa[akB λb _=>?_]
  cbv
 cbv
def T8 {a:List (κ×V)}(k:κ)(v:V)(h:(a.map (·.1)).Nodup):((putK a k v).map (·.1)).Nodup:=by
 rw[qm];split
 ·rwa[h]
 ·rename_i b;rwa[akv.mpr ⟨h,by simp,λx d y c z=>?_⟩];rw[ajF.mp c]at z;rwa[b (by rw[<-z];rwa[d])]
def QR {a:List (κ×V)}(k:κ)(h:(a.map (·.1)).Nodup):((fJ a k).map (·.1)).Nodup:=by rwa[List.Nodup.sublist ((alC).map _) h]
def BH {a:List (κ×V)}(h:(a.map (·.1)).Nodup){b:κ×V}(hm:b∈a):bC a b.1\b.2:=by
 induction a with
 |nil=>ext hm
 |cons p r c=>
  rw[akN,akf]at h;rcases ajS.mp hm with e|hm
  ·rw[e];rwa[dk rfl]
  ·rw[dc (λz=>h.1 ([z]▸alB hm))];rwa[c h.2 hm]
def Mg {a:List (κ×V)}{k:κ}(h:bC a k\q):(k,q)∈a:=by
 unfold bC at h
 cases e:a.find? λb=>decide (b.1=k) with
 |none=>rw[e]at h;ext h
 |some b=>cbv
end
def DI (H:Hp)(d:Zs)(f:Int->Zc):Prop:=∃a:List (Key×V),H d\.dK a/\(a.map (·.1)).Nodup/\(∀b∈a,∃i:Int,b.1=Sum.inl i)/\∀i:Int,bC a (Sum.inl i)=f i
def DI.at {f:Int->Zc}(h:DI H d f)(k:∀o,H d\o->I d\o):DI I d f:=by let⟨a,c,b⟩:=h;rwa[a,k _ c,b]
def DI.congr {f g:Int->Zc}(h:DI H d f)(e:∀i,f i=g i):DI H d g:=by let⟨a,j,b,k,c⟩:=h;rwa[a,j,b,k,λi=>(c i).trans (e i)]
def BI {a:List (Key×V)}{f:Int->Zc}(k:(a.map (·.1)).Nodup)(h:∀g∈a,∃i:Int,g.1=Sum.inl i)(l:∀i:Int,bC a (Sum.inl i)=f i)(i:Int)(v:V):DI (upd H d (.dK (putK a (Sum.inl i) v))) d (λj=>if j=i then some v else f j):=by
 rwa[⟨_,aj,T8^k,λg b=>?_,λj=>?_⟩]
 ·have:g.1∈(putK a (Sum.inl i) v).map (·.1):=alB b;rw[qm]at this;split at this
  ·let⟨q,c,e⟩:=akp.mp this;rw[<-e];rwa[h q c]
  ·rcases ajK.mp this with z|z
   ·let⟨q,c,e⟩:=akp.mp z;rw[<-e];rwa[h q c]
   ·rwa[i,ajF.mp z]
 ·rw[jF];dsimp only;cases e:j=i
  ·rw[aj3 e,aj3 (by rw[e])]
  ·rw[ajY e,ajY (λz=>e (Sum.inl.inj z)),l]
def QS {a:List (Key×V)}{f:Int->Zc}(e:(a.map (·.1)).Nodup)(g:∀c∈a,∃i:Int,c.1=Sum.inl i)(h:∀i:Int,bC a (Sum.inl i)=f i)(i:Int):DI (upd H d (.dK (fJ a (Sum.inl i)))) d (λj=>if j=i then none else f j):=by
 rwa[⟨_,aj,QR _ e,λc b=>g c ((alk.mp b).1),λj=>?_⟩];rw[Ji]
 cbv
def wB {c:List (Key×V)}{f:Int->Zc}(k:(c.map (·.1)).Nodup)(m:∀d∈c,∃i:Int,d.1=Sum.inl i)(p:∀i:Int,bC c (Sum.inl i)=f i){n:Nat}{lo:Int}(o:∀i v,f i\v->lo<=i/\i<lo+ n):⇑c<=n:=by
 let h:=vl n (c.map λd=>match d.1 with|Sum.inl i=>i|Sum.inr _=>0) lo ?_ λx r=>?_
 ·rw[ajD]at h;rwa[h]
 ·let e:c.map (·.1)=(c.map λd=>match d.1 with|Sum.inl i=>i|Sum.inr _=>(0:Int)).map Sum.inl:=by
   rw[aki];rwa[akB λd g=>?_]
   let⟨i,j⟩:=m d g;show d.1=Sum.inl (match d.1 with|Sum.inl i=>i|Sum.inr _=>(0:Int));rw[j]
  rw[e]at k;rwa[List.Pairwise.imp (λ{a b} q z=>q (akK Sum.inl z)) (alh.mp k)]
 ·let⟨d,g,rfl⟩:=akp.mp r;let⟨i,j⟩:=m d g;let l:=BH k g;rw[j,p]at l;rw[j];rwa[o i _ l]
abbrev bN:=Int->Int->Int->Bool
structure eQ (H:Hp)(k:Zs)(D:Int->Zo)(E:Int->Int->Zo)(S:bN):Prop where
 top:DI H k λc=>(D c).map V.ref
 row:∀c d,D c\d->DI H d λs=>(E c s).map V.ref
 zA:∀c s e,E c s\e->DI H e λo=>if S c s o=true then some (.bl true) else none
 ed:∀c s e,E c s\e->∃d,D c\d
 se:∀c s o,S c s o=true->∃e,E c s\e
 nd:∀c d,D c\d->d≠k
 ne:∀c s e,E c s\e->e≠k
 dd:∀c c' d,D c\d->D c'\d->c=c'
 de:∀c c' s d,D c\d->E c' s\d->False
 ee:∀c s c' s' e,E c s\e->E c' s'\e->c=c'/\s=s'
def vm (k:Zs)(D:Int->Zo)(E:Int->Int->Zo)(b:Zs):Prop:=b=k\/(∃c,D c\b)\/∃c s,E c s\b
section
variable {H H':Hp}{k:Zs}{D:Int->Zo}{E:Int->Int->Zo}{S:bN}
def eQ.keep (h:eQ H k D E S)(f:∀b o,vm k D E b->H b\o->H' b\o):eQ H' k D E S:=⟨h.top.at λo e=>f _ _ (.inl rfl) e,λc d e=>(h.row c d e).at λo q=>f _ _ (.inr (.inl ⟨c,e⟩)) q,λc s e q=>(h.zA c s e q).at λo r=>f _ _ (.inr (.inr ⟨c,s,q⟩)) r,h.ed,h.se,h.nd,h.ne,h.dd,h.de,h.ee⟩
def eQ.same (h:eQ H k D E S)(s:av H H'):eQ H' k D E S:=h.keep λb o _ e=>s b o e
def eQ.there (h:eQ H k D E S){b:Zs}(d:vm k D E b):∃a,H b\(.dK a):=by
 rcases d with rfl|⟨c,e⟩|⟨c,s,e⟩
 ·let⟨a,q,_⟩:=h.top;rwa[a,q]
 ·let⟨a,q,_⟩:=h.row c b e;rwa[a,q]
 ·let⟨a,q,_⟩:=h.zA c s b e;rwa[a,q]
def eQ.congr (h:eQ H k D E S){d:Int->Zo}{b:Int->Int->Zo}{a:bN}(e:∀c,D c=d c)(g:∀c s,E c s=b c s)(f:∀c s o,S c s o=a c s o):eQ H k d b a:=by
 obtain rfl:D=d:=funext e;obtain rfl:E=b:=funext λc=>funext (g c)
 obtain rfl:S=a:=funext λc=>funext λs=>funext (f c s)
 rwa[h]
def eQ.T9 (h:eQ H k D E S):∃a:List (Key×V),H k\.dK a/\(a.map (·.1)).Nodup/\(∀b∈a,∃i:Int,b.1=Sum.inl i)/\∀i:Int,bC a (Sum.inl i)=(D i).map V.ref:=h.top
def eQ.Mh (h:eQ H k D E S){c:Int}{d:Zs}(hd:D c\d):∃a:List (Key×V),H d\.dK a/\(a.map (·.1)).Nodup/\(∀b∈a,∃i:Int,b.1=Sum.inl i)/\∀i:Int,bC a (Sum.inl i)=(E c i).map V.ref:=h.row c d hd
def eQ.Ua (h:eQ H k D E S){c s:Int}{e:Zs}(d:E c s\e):∃a:List (Key×V),H e\.dK a/\(a.map (·.1)).Nodup/\(∀b∈a,∃i:Int,b.1=Sum.inl i)/\∀i:Int,bC a (Sum.inl i)=if S c s i=true then some (.bl true) else none:=h.zA c s e d
def eQ.QT (h:eQ H k D E S){c s:Int}{d e:Zs}(hd:D c\d)(N:E c s=none){j:List (Key×V)}(B:H d\.dK j)(J:H e\.dK [])(nw:¬vm k D E e):
 eQ (upd H d (.dK (putK j (Sum.inl s) ↑e))) k D (λb f=>if b=c/\f=s then some e else E b f) S:=by
 let x:e≠d:=λz=>nw (.inr (.inl ⟨c,[z]▸hd⟩))
 let⟨t,C,L,F,I⟩:=h.row c d hd;rw[B]at C;obtain rfl:j=t:=by cbv
 rwa[⟨h.top.at λo q=>?_,λb u i=>?_,λb f m a=>?_,λb f m a=>?_,λb f o G=>?_,h.nd,λb f m a=>?_,h.dd,λb r f u i a=>?_,λb f r w m p l=>?_⟩]
 ·rw[ao (h.nd c d hd).symm];rwa[q]
 ·cases g:b=c
  ·subst g;have:u=d:=by rw[hd]at i;rwa[(Za0 i).symm]
   subst this;rwa[(BI L F I s ↑e).congr λf=>?_]
   cbv
  ·let y:u≠d:=λz=>g (h.dd _ _ _ i ([z]▸hd))
   rwa[((h.row b u i).at λo q=>[ao y]▸q).congr λf=>?_]
   cbv
 ·cases g:b=c/\f=s
  ·rw[aj3 g]at a;obtain rfl:=Za0 a;let⟨rfl,rfl⟩:=g;rwa[⟨[],[ao x]▸J,by simp,(λM A=>by ext A),λo=>?_⟩]
   cases q:S b f o with
   |true=>let⟨m,z⟩:=h.se _ _ _ q;cbv
   |false=>dsimp only;rw[q];rfl
  ·rw[ajY g]at a;exact(h.zA b f m a).at λo q=>by rw[ao (λz=>h.de c b f d hd (by cbv))];rwa[q]
 ·cases g:b=c/\f=s
  ·cbv
  ·rw[ajY g]at a;rwa[h.ed _ _ _ a]
 ·cases g:b=c/\f=s
  ·rwa[e,aj3 g]
  ·let⟨m,z⟩:=h.se _ _ _ G;cbv
 ·cases g:b=c/\f=s
  ·rw[aj3 g]at a;obtain rfl:=Za0 a;rwa[λz=>nw (.inl z)]
  ·rw[ajY g]at a;rwa[h.ne _ _ _ a]
 ·cases g:r=c/\f=s
  ·rw[aj3 g]at a;obtain rfl:=Za0 a;rwa[nw (.inr (.inl ⟨b,i⟩))]
  ·rw[ajY g]at a;rwa[h.de _ _ _ _ i a]
 ·cases v:b=c/\f=s
  ·rw[aj3 v]at p;obtain rfl:=Za0 p;cases n:r=c/\w=s
   ·rwa[v.1.trans n.1.symm,v.2.trans n.2.symm]
   ·rw[ajY n]at l;rwa[(nw (.inr (.inr ⟨r,w,l⟩))).elim]
  ·rw[ajY v]at p;cases n:r=c/\w=s
   ·rw[aj3 n]at l;obtain rfl:=Za0 l;rwa[(nw (.inr (.inr ⟨b,f,p⟩))).elim]
   ·rw[ajY n]at l;rwa[h.ee _ _ _ _ _ p l]
def eQ.setCell (h:eQ H k D E S){c s:Int}{e:Zs}(i:E c s\e){u:HO}{g:Int->Bool}(n:DI (upd H e u) e λo=>if g o=true then some (.bl true) else none):
 eQ (upd H e u) k D E (λa d o=>if a=c/\d=s then g o else S a d o):=by
 rwa[⟨h.top.at λo q=>?_,λa m j=>(h.row a m j).at λo q=>?_,λa d p b=>?_,h.ed,λa d o l=>?_,h.nd,h.ne,h.dd,h.de,h.ee⟩]
 ·rw[ao (h.ne _ _ _ i).symm];rwa[q]
 ·rw[ao (λz=>h.de _ _ _ _ j ([z]▸i))];rwa[q]
 ·cases f:a=c/\d=s
  ·let⟨rfl,rfl⟩:=f;rw[i]at b;obtain rfl:=Za0 b;rwa[n.congr λo=>?_]
   simp
  ·refine((h.zA a d p b).at λo q=>?_).congr λo=>by rw[ajY f]
   rw[ao (λz=>f (h.ee _ _ _ _ _ b ([z]▸i)))];rwa[q]
 ·cases f:a=c/\d=s
  ·rwa[e,[f.1,f.2]▸i]
  ·rw[ajY f]at l;rwa[h.se _ _ _ l]
def eQ.Ub (h:eQ H k D E S){c s:Int}{e:Zs}(j:E c s\e){a:List (Key×V)}(l:H e\.dK a)(o:Int):
 eQ (upd H e (.dK (putK a (Sum.inl o) (.bl true)))) k D E (λi f b=>S i f b || (decide (i=c) && decide (f=s) && decide (b=o))):=by
 let⟨d,n,q,p,m⟩:=h.zA c s e j;rw[l]at n;obtain rfl:a=d:=by cbv
 rwa[(h.setCell (g:=λb=>S c s b || decide (b=o)) j ((BI q p m o (.bl true)).congr λb=>?_)).congr (λ_=>rfl) (λ_ _=>rfl) λi f b=>?_]
 ·cbv
 cbv
def eQ.QV (h:eQ H k D E S){n:Int}{d:Zs}(hd:D n=none){g:List (Key×V)}(v:H k\.dK g)(A:H d\.dK [])(nw:¬vm k D E d):
 eQ (upd H k (.dK (putK g (Sum.inl n) ↑d))) k (λc=>if c=n then some d else D c) E S:=by
 let⟨m,w,B,x,y⟩:=h.top;rw[v]at w;obtain rfl:g=m:=by cbv
 let t:d≠k:=λz=>nw (.inl z)
 let en:∀s,E n s=none:=λs=>by
  cases q:E n s with
  |none=>rfl
  |some e=>let⟨i,z⟩:=h.ed _ _ _ q;cbv
 rwa[⟨(BI B x y n ↑d).congr λc=>?_,λc i a=>?_,λc s e p=>(h.zA c s e p).at λo q=>?_,λc s e p=>?_,h.se,λc i a=>?_,h.ne,λc r i b f=>?_,λc r s i b f=>?_,h.ee⟩]
 ·cbv
 ·cases e:c=n
  ·rw[aj3 e]at a;obtain rfl:=Za0 a;subst e;rwa[⟨[],[ao t]▸A,by simp,(λC u=>by ext u),λs=>?_⟩];dsimp only;rw[en s];rfl
  ·rw[ajY e]at a;exact(h.row c i a).at λo q=>by rw[ao (h.nd^a)];rwa[q]
 ·rw[ao (h.ne _ _ _ p)];rwa[q]
 ·let⟨i,z⟩:=h.ed _ _ _ p
  cbv
 ·cases e:c=n
  ·cbv
  ·rw[ajY e]at a;rwa[h.nd^a]
 ·cases j:c=n
  ·rw[aj3 j]at b;obtain rfl:=Za0 b;cases l:r=n
   ·rw[j,l]
   ·rw[ajY l]at f;rwa[(nw (.inr (.inl ⟨_,f⟩))).elim]
  ·rw[ajY j]at b;cases l:r=n
   ·rw[aj3 l]at f;obtain rfl:=Za0 f;rwa[(nw (.inr (.inl ⟨_,b⟩))).elim]
   ·rw[ajY l]at f;rwa[h.dd _ _ _ b f]
 ·cases j:c=n
  ·rw[aj3 j]at b;obtain rfl:=Za0 b;rwa[nw (.inr (.inr ⟨11,f⟩))]
  ·rw[ajY j]at b;rwa[h.de _ _ _ _ b f]
end
namespace Et
def meets (l:Zs)(items:Zm)(n:Nat)(dct:Zo)(j:Array Zl):
 Meets (Builtin.«enumerate.__new__» ⟨[.type "enumerate",↑l],[]⟩) (λ_ R s=>s•l\{ cls:=.type "tuple",dict:=dct,data:=.seq items n,slots:=j }/\
  R (.ok (.ret (↑(s.heap.push ("tuple_iterator">>>.fields #[↑l,.int 0 0])).objs.size)))
    { s with heap:=(s.heap.push ("tuple_iterator">>>.fields #[↑l,.int 0 0])).push ("enumerate">>>.fields #[.none,.bool false,↑↥s,rawInt 0,.none,.none]) }):=
 .of_wp λb w A R s h=>by
  let⟨i,g,d,k,os⟩:=s;let⟨a,h⟩:=h;let e:=sub_enumerate;let f:Heap.IsTuple (Shared.heap ⟨i,g,d,k,os⟩) l items:=⟨_,a,2,n,2⟩
  wp_walk using aln a;rwa[wpAny_stack_any λst=>ajG ?_]
  split
  ·rename_i c _ _ _ _ _;cases (c==Value.type "enumerate") <;> (wp_walk using aln a,wpAny_pyIter_tuple f;rwa[12,h])
  ·wp_walk using aln a,wpAny_pyIter_tuple f;rwa[12,h]
theorem call {items:Zm}(k:s.heap.IsTuple a items)(h:∀g,IsEnum g (↥s+ 1) ↥s 0 .none->g.IsTupleIter ↥s a 0->g.objs.size=↥s+ 2->(∀b o,s•b\o->g.get? b\o)->Q ↑(↥s+ 1) (s<*g)):
 (P<|>w) A (call (.type "enumerate") [↑a]) Q E s:=by
 let⟨⟨c,dct,l,j⟩,m,f,n,d⟩:=k;replace f:c=.type "tuple":=f;replace d:l=.seq items n:=d;subst f d;rwa[callType_new F.called_enumerate ⋯ (F.typeCall_enumerate_1 _) (F.newCall_enumerate_1 _) (λobj=>F.args_object_init_2 obj _) F.entry_enumerate_new (meets a items n dct j) ⟨m,5⟩];let e:(s.heap.push ("tuple_iterator">>>.fields #[↑a,.int 0 0])).objs.size=↥s+ 1:=ali ..;show _/\_;rw[e]
 let i:IsEnum ((s.heap.push ("tuple_iterator">>>.fields #[↑a,.int 0 0])).push ("enumerate">>>.fields #[.none,.bool false,↑↥s,rawInt 0,.none,.none])) (↥s+ 1) ↥s 0 .none:=by have:=ajP (s.heap.push ("tuple_iterator">>>.fields #[↑a,.int 0 0])) (o:=("enumerate">>>.fields #[.none,.bool false,↑↥s,rawInt 0,.none,.none])) rfl;rw[e]at this;rwa[this]
 rwa[⟨_,i,2⟩,h _ i ⟨_,ajB _ (ajP _ rfl),22⟩ (by rw[ali,e]) λb o x=>ajB _ (ajB _ x)]
end Et
abbrev ab5 (K:Za1) (a:Zs):It:=Fu (λH=>bu K H a) Nat.cast
section
variable {X:Cx}
def Uc (K:Za1)(e:TA):TI:=λ f H R=>e f H λc b=>∃a,c=[↑a]/\(∃d,bu K b a d)/\R (ab5 K a) b
def Mi [g:eT X K]{a:Expr}{j:TE}{elts:Zr}{A:Nat}{v p c:Pos}(n:Gl X "enumerate")(x:X.mg "enumerate"=none)(y:PE X a j)(k:starEach [a] X.env=[(false,eval a X.env)]):
 PI X (.Tuple elts A v) (.Call (.Name "enumerate" p) [a] [] c) (Uc K (ju j j9)):=by cases g.eq;intro b s w H R I h;rwa[Call_ (gJ I n x boot_enumerate (aks (bq ((ae y ah k) c b s w H _ I h) λJ s1 ζ=>?_) k rfl))];let⟨C,F,i,m,l,e,⟨G,r⟩,q⟩:=ζ;subst e;let⟨u,rfl,z⟩:=vals1 m;ext z;let⟨d,D,pl,E⟩:=i.tuple r;rwa[Et.call (show s1.heap.IsTuple l d.toArray from pl) λB f hit t o=>yn i (EZ l _) (λ_=>rfl) f hit o q]
end
variable {K:Za1}{mg:Str->Zl}{h:Heap}{C f:Zs}{x q:Str}{st:Stmt}{ps:Zp}{oc kV doc pm cy ct:Zt}{od an:Zo}{Bc:Array Zl}
theorem Def.of (X:K.In h)(G:h.Ns mainGlobals mg)(a:PySem.W.nsIn K mainGlobals x\some ↑f)(l:K.lookup f\⟨oc,od,.func (fnOf x x (ej st) (cY st) (az st) .none kV doc pm an cy ct),Bc⟩)(c:codeIn K cy x=true)(k:keepIn K ↑f=true)(b:∀(kV doc pm:Zt) (an:Zo) (cy ct:Zt) (us:Zk),⇑us=⇑ps->bindArgs (fnOf x x (ej st) (cY st) (az st) .none kV doc pm an cy ct) ⟨us,[]⟩=pure (ps.zip us)):Def K mg x st ps f (fnOf x x (ej st) (cY st) (az st) .none kV doc pm an cy ct):=
 let F:=Iy (st:=st) l c k
 ⟨F,mg_of X G a,F.binds (ps:=ps) b⟩
theorem MDef.of (a:findIn K ↑C x\some ↑f)(i:isFn K ↑f=true)(l:K.lookup f\⟨oc,od,.func (fnOf x q (ej st) (cY st) (az st) .none kV doc pm an cy ct),Bc⟩)(c:codeIn K cy q=true)(k:keepIn K ↑f=true)(b:∀(kV doc pm:Zt) (an:Zo) (cy ct:Zt) (us:Zk),⇑us=⇑ps->bindArgs (fnOf x q (ej st) (cY st) (az st) .none kV doc pm an cy ct) ⟨us,[]⟩=pure (ps.zip us)):MDef K C x q st ps f (fnOf x q (ej st) (cY st) (az st) .none kV doc pm an cy ct):=
 let F:=Iy (st:=st) l c k
 ⟨F,⟨a,i,k⟩,F.binds (ps:=ps) b⟩
def Def.fd {fd:FuncData}(D:Def K mg x st ps f fd):∃(kV doc pm:Zt)(an:Zo)(cy ct:Zt),fd=fnOf x x (ej st) (cY st) (az st) .none kV doc pm an cy ct:=by let⟨oc,od,kV,doc,pm,an,cy,ct,Bc,e,_⟩:=D.F.ex;rwa[kV,doc,pm,an,cy,ct,e]
end L2
namespace L2
def wk (b:Nat->Int->Zi):Nat->Zg->Zi
 |c,[]=>some c
 |c,z::w=>match b c z with
  |none=>none
  |some d=>wk b d w
section
variable {b:Nat->Int->Zi}
def jW (h:b n z\m):wk b n (z::l)=wk b m l:=by show (match b n z with|none=>none|some m=>wk b m l)=_;rw[h]
def mY (h:wk b n (z::l)\m):∃d,b n z\d/\wk b d l\m:=by
 cases q:b n z with
 |none=>let a:(match b n z with|none=>none|some d=>wk b d l)\m:=h;rw[q]at a;ext a
 |some d=>rw[jW q]at h;rwa[d,2,h]
theorem sh:∀{u v:Zg}{c d:Nat},wk b c u\d->wk b c (u++v)=wk b d v
 |[],v,c,d,h=>by rw[Za0 h];rfl
 |z::u,v,c,d,h=>by let⟨e,f,a⟩:=mY h;rw[al1,jW f];rwa[sh a]
theorem BJ:∀{u v:Zg}{c e:Nat},wk b c (u++v)\e->∃d,wk b c u\d/\wk b d v\e
 |[],v,c,e,h=>⟨c,2,h⟩
 |z::u,v,c,e,h=>by let⟨d,i,a⟩:=mY h;let⟨f,j,g⟩:=BJ a;rwa[f,[jW i]▸j,g]
def Jj (h:b n z\m):wk b n [z]\m:=by rw[jW h];rfl
def take_snoc (h:l[i]?\z):l.take (i+ 1)=l.take i++[z]:=by rw[aly,h];rfl
def drop_cons (h:l[i]?\z):l.drop i=z::l.drop (i+ 1):=by let a:=(ajy.mp h).1;rw[alj a,(ajy.mp h).2]
end
structure Later (S S':RS):Prop where
 el:∀c,c<S.q->S'.ax (S.ax c)=S'.ax c
 by_:∀c z d,S.by c z=some d->S'.by (S'.ax c) z=some (S'.ax d)
def Later.of {l:Za2}(h:Good S [] R)(g:Good T [] l)(i:∀a z b,R a z b->l a z b)(k:S.q<=T.q):Later S T:=by
 let el:∀c,c<S.q->T.ax (S.ax c)=T.ax c:=λc hc=>(g.fin (aj7 (h.lt hc) k) (aj7 hc k)).mpr ((h.cg c hc).mono i).symm
 rwa[⟨el,λc z d e=>?_⟩];let⟨f,j,r,n,m⟩:=h.so _ _ _ e;let⟨o,l2,_⟩:=h.rl _ _ _ r;rw[<-n,<-m,el f o,el j l2];rwa[g.mW.mpr ⟨f,j,i _ _ _ r,22⟩]
theorem Later.wk (h:Later S T):∀{w:Zg}{c d:Nat},wk S.by c w=some d->wk T.by (T.ax c) w=some (T.ax d)
 |[],c,d,e=>by rw[Za0 e];rfl
 |z::w,c,d,e=>by let⟨f,b,a⟩:=mY e;rw[jW (h.by_ _ _ _ b)];rwa[Later.wk h a]
structure Gg where
 which:Nat
 word:Zg
 start:Nat
 front:Nat
 first:Nat
 bJ:Nat
 last:Nat
abbrev Zf:=List (Option Gg)
def Gg.z1 (g:Gg):Int:=g.word.getD g.first 0
def Gg.z2 (g:Gg):Int:=-(g.word.getD g.last 0)
structure GI (S:RS)(g:Gg):Prop where
 fl:g.first<=g.last
 ll:g.last<⇑g.word
 s:g.start<S.q
 f:g.front<S.q
 r:g.bJ<S.q
 wf:wk S.by (S.ax g.start) (g.word.take g.first)=some (S.ax g.front)
 wr:wk S.by (S.ax g.bJ) (g.word.drop (g.last+ 1))=some (S.ax g.start)
def GI.later {g:Gg}(h:GI S g)(l:Later S T)(a:S.q<=T.q):GI T g:=by let c:=l.wk h.wf;let b:=l.wk h.wr;rw[l.el _ h.s,l.el _ h.f]at c;rw[l.el _ h.r,l.el _ h.s]at b;rwa[h.fl,h.ll,aj7 h.s a,aj7 h.f a,aj7 h.r a,c,b]
def Gg.mn {g:Gg}(h:g.first<⇑g.word):g.word[g.first]?\g.z1:=by unfold Gg.z1;rw[ajH,ajz h];rfl
def Gg.at2 {g:Gg}(h:g.last<⇑g.word):g.word[g.last]?\(-g.z2):=by unfold Gg.z2;rw[ajH,ajz h,alg];rfl
structure YF (S:RS)(g g':Gg):Prop where
 wh:g'.which=g.which
 wo:g'.word=g.word
 st:g'.start=g.start
 gi:GI S g'
 ef:S.ax g'.front=g'.front
 er:S.ax g'.bJ=g'.bJ
 n1:g'.first<g'.last->S.by g'.front g'.z1=none
 n2:g'.first<g'.last->S.by g'.bJ g'.z2=none
 k1:S.ax g.front=g.front->S.by g.front g.z1=none->g'.front=g.front/\g'.first=g.first
 k2:S.ax g.bJ=g.bJ->S.by g.bJ g.z2=none->g'.bJ=g.bJ/\g'.last=g.last
def GI.whole {g:Gg}(h:GI S g)(e:g.first=g.last)(c:S.ax g.start=g.start)(ef:S.ax g.front=g.front)(er:S.ax g.bJ=g.bJ)(d:S.by g.front g.z1=some g.bJ):wk S.by g.start g.word=some g.start:=by
 let b:=h.wf;let a:=h.wr;rw[c,ef]at b;rw[c,er,<-e]at a;let hz:=Gg.mn (g:=g) ([e]▸h.ll);have:g.word=g.word.take g.first++(g.z1::g.word.drop (g.first+ 1)):=by rw[<-drop_cons hz,amh]
 rw[this,sh b,jW d];rwa[a]
def eN (m:Nat)(W:bN)(n:Int):Nat:=(~~~(m* 2001)).countP λc=>W ((c / 2001:Nat):Int) (((c % 2001:Nat):Int) - 1000) n
def wC (m G:Nat)(W:bN):Nat:=((~~~G).map λn:Nat=>eN m W n).sum
def gP (W:bN)(r s:Int):bN:=λb a n=>W b a n && !(decide (b=r) && decide (a=s))
def Ud (a:n<m)(b: -1000<=z/\z<=1000):n* 2001+ (z+ 1000).toNat<m* 2001:=by have:(n+ 1)* 2001<=m* 2001:=alM _ a;ext
def Jk {c r:Nat}(f: -1000<=z/\z<=1000):(((c / 2001:Nat):Int)=(r:Int)/\((c % 2001:Nat):Int) - 1000=z)↔c=r* 2001+ (z+ 1000).toNat:=by
 constructor
 ·rintro ⟨e,d⟩;have:=Nat.div_add_mod c 2001;ext
 ·intro h;subst h
  let a:(r* 2001+ (z+ 1000).toNat) / 2001=r:=by rw[Nat.mul_comm,Nat.mul_add_div ⋯,Nat.div_eq_of_lt ∅];ext
  let b:(r* 2001+ (z+ 1000).toNat) % 2001=(z+ 1000).toNat:=by rw[Nat.mul_comm,Nat.mul_add_mod,Nat.mod_eq_of_lt ∅]
  rw[a,b];ext
def Ue {W:bN}(a:Int)(g:n<m)(d: -1000<=z/\z<=1000):eN m (gP W n z) a+ (if W n z a=true then 1 else 0)=eN m W a:=by
 let f:=Ud g d
 let dec:∀c:Nat,(decide (((c / 2001:Nat):Int)=(n:Int)) && decide (((c % 2001:Nat):Int) - 1000=z))=decide (c=n* 2001+ (z+ 1000).toNat):=λc=>by rw[<-Bool.decide_and,decide_eq_decide];rwa[Jk d]
 let at_:=(Jk (c:=n* 2001+ (z+ 1000).toNat) (r:=n) d).mpr rfl;unfold eN gP;cases b:W n z a=true
 ·rw[aj3 b]
  have:=mz (p:=λc:Nat=>W ((c / 2001:Nat):Int) (((c % 2001:Nat):Int) - 1000) a) (p':=λc:Nat=>W ((c / 2001:Nat):Int) (((c % 2001:Nat):Int) - 1000) a && !(decide (((c / 2001:Nat):Int)=(n:Int)) && decide (((c % 2001:Nat):Int) - 1000=z))) (v:=n* 2001+ (z+ 1000).toNat) (λc=>by rw[dec c,<-decide_not]) ([at_.1,at_.2]▸b) (m* 2001)
  rw[aj3 f]at this;rwa[this]
 ·rw[ajY b,Nat.add_zero];rwa[List.countP_congr λc _=>?_]
  rw[als];rwa[⟨λh=>h.1,λh=>⟨h,5⟩⟩];rw[dec c]
  cases e:decide (c=n* 2001+ (z+ 1000).toNat) with
  |false=>rfl
  |true=>rw[ajQ e,at_.1,at_.2]at h;rwa[absurd h b]
theorem zB:∀(l:Zh)(f g h:Nat->Nat),(∀n∈l,f n+ g n=h n)->(l.map f).sum+ (l.map g).sum=(l.map h).sum
 |[],_,_,_,_=>rfl
 |a::l,f,g,h,e=>by
  let c:=zB l f g h λn b=>e n (akc _ b)
  have:=e a (ajU ..);simp only[akN,List.sum_cons];ext
theorem Fx (p:Nat->Bool):∀l:Zh,(l.map λn=>if p n=true then 1 else 0).sum=l.countP p
 |[]=>rfl
 |a::l=>by rw[akN,List.sum_cons,Fx p l,List.countP_cons];ext
def QW {G:Nat}{W:bN}(b:n<m)(c: -1000<=z/\z<=1000):wC m G (gP W n z)+ (~~~G).countP (λa:Nat=>W n z a)=wC m G W:=by unfold wC;rw[<-Fx (λa:Nat=>W n z a)];rwa[zB _ _ _ _ λa _=>Ue a b c]
theorem QX:∀{l:Zh}{a b:Nat},l.Nodup->(∀x∈l,x=a\/x=b)->⇑l<=2
 |[],_,_,_,_=>⋯
 |[_],_,_,_,_=>amT 1
 |[_,_],_,_,_,_=>ajE 2
 |x::y::z::r,a,b,e,h=>by
  let f:=h x (by simp);let c:=h y (by simp);let d:=h z (by simp)
  cbv
def Ug {W:bN}{p q:Int×Int}(h:∀r s,W r s z=true->(r,s)=p\/(r,s)=q):eN m W z<=2:=by
 unfold eN;rw[List.countP_eq_length_filter];rwa[QX (a:=(p.1* 2001+ (p.2+ 1000)).toNat) (b:=(q.1* 2001+ (q.2+ 1000)).toNat) (am3.filter _) λc d=>?_]
 let f:=Nat.div_add_mod c 2001;rcases h _ _ (alk.mp d).2 with e|e
 ·left;rw[<-e];dsimp only;ext
 ·right;rw[<-e];dsimp only;ext
theorem Jl:∀(l:Zh)(f:Nat->Nat)(k:Nat),(∀n∈l,f n<=k)->(l.map f).sum<=⇑l* k
 |[],_,_,_=>by simp
 |a::l,f,k,h=>by
  let c:=Jl l f k λn b=>h n (akc _ b)
  have:=h a (ajU ..);rw[akN,List.sum_cons,aj1,amY];ext
def QY {W:bN}(h:∀a:Nat,∃p q:Int×Int,∀r s,W r s a=true->(r,s)=p\/(r,s)=q):wC m n W<=2* n:=by
 have:=Jl (~~~n) (λa:Nat=>eN m W a) 2 λa _=>by let⟨p,q,e⟩:=h a;rwa[Ug e]
 rw[akG]at this;unfold wC;ext
structure CI (S:RS)(bs:List (Nat×Zg×Nat))(gs:Zf)(ag:Zh)(W:bN)(Ex:Nat->Int->Prop)(x:Zi):Prop where
 len:⇑gs=⇑bs
 al:∀(n:Nat)(g:Gg),gs[n]?\some g->bs[n]?\(g.which,g.word,g.start)/\GI S g/\(n∈ag\/some n=x\/(g.first<g.last/\W g.front g.z1 n=true/\W g.bJ g.z2 n=true))
 de:∀(n:Nat)(b:Nat×Zg×Nat),gs[n]?\none->some n≠x->bs[n]?\b->S.ax b.2.2≠b.2.2\/wk S.by b.2.2 b.2.1=some b.2.2
 ab:∀n∈ag,n<⇑gs
 en:∀r s n,W r s n=true->∃r' n':Nat,r=r'/\n=n'/\r'<S.q/\n'<⇑gs/\(-1000<=s/\s<=1000)/\(S.ax r'=r'/\S.by r' s=none\/Ex r' s)
 sl:∀n:Nat,∃p q:Int×Int,(∀r s,W r s n=true->(r,s)=p\/(r,s)=q)/\∀g,gs[n]?\some g->p=((g.front:Int),g.z1)/\q=((g.bJ:Int),g.z2)
 bd:∀b∈bs,∀z∈b.2.1,-1000<=z/\z<=1000
def gy:Nat->Int->Prop:=λ_ _=>False
section
variable {S:RS}{bs:List (Nat×Zg×Nat)}{gs:Zf}{ag:Zh}{W:bN}{Ex:Nat->Int->Prop}{x:Zi}{n:Nat}
def CI.pop (h:CI S bs gs (ag++[n]) W Ex none):CI S bs gs ag W Ex (some n):=by
 rwa[⟨h.len,λk g e=>?_,λk b e _=>h.de k b e (λz=>by ext z),λk c=>h.ab k (aj4 _ c),h.en,h.sl,h.bd⟩];let⟨f,d,a⟩:=h.al k g e;erw[f,d];rcases a with a|a|a
 ·rcases ajK.mp a with q|q
  ·rwa[.inl q]
  ·rwa[.inr (.inl (by rw[ajF.mp q]))]
 ·ext a
 ·rwa[.inr (.inr a)]
def CI.done (h:CI S bs gs ag W Ex (some n))(e:gs[n]?\none)(k:∀b,bs[n]?\b->S.ax b.2.2≠b.2.2\/wk S.by b.2.2 b.2.1=some b.2.2):CI S bs gs ag W Ex none:=by
 rwa[⟨h.len,λm g c=>?_,λm b c _ d=>?_,h.ab,h.en,h.sl,h.bd⟩]
 ·let⟨i,f,a⟩:=h.al m g c;erw[i,f];rcases a with a|a|a
  ·rwa[.inl a]
  ·cbv
  ·rwa[.inr (.inr a)]
 ·cases q:m=n
  ·rw[q]at d;rwa[k b d]
  ·rwa[h.de m b c (λz=>q (Za0 z)) d]
def fB {c:Type}{l:List c}{a b:c}(h:(l.set i a)[j]?\b):(j=i/\b=a)\/(j≠i/\l[j]?\b):=by
 cases e:i=j
 ·subst e;let d:=(ajy.mp h).1;rw[aj5]at d;rw[akh d]at h;rwa[.inl ⟨2,(Za0 h).symm⟩]
 ·rw[aky e]at h;rwa[.inr ⟨λz=>e z.symm,h⟩]
def CI.kill (h:CI S bs gs ag W Ex (some n)):CI S bs (gs.set n none) ag W Ex (some n):=by
 rwa[⟨[aj5]▸h.len,λm g e=>?_,λm b e q f=>?_,λk a=>[aj5]▸h.ab k a,λr s k e=>?_,λm=>?_,h.bd⟩]
 ·rcases fB e with ⟨_,z⟩|⟨z,e⟩
  ·ext z
  ·rwa[h.al m g e]
 ·rcases fB e with ⟨z,_⟩|⟨z,e⟩
  ·cbv
  ·rwa[h.de m b e q f]
 ·rw[aj5];rwa[h.en r s k e]
 ·let⟨p,q,d,c⟩:=h.sl m;rwa[⟨p,q,d,λg e=>?_⟩];rcases fB e with ⟨_,z⟩|⟨_,e⟩
  ·ext z
  ·rwa[c g e]
def addW (W:bN)(r s n:Int):bN:=λc a b=>W c a b || (decide (c=r) && decide (a=s) && decide (b=n))
def dX {W:bN}{n c a b:Int}:addW W z y n c a b=true↔W c a b=true\/(c=z/\a=y/\b=n):=by
 unfold addW
 cbv
def dF {W:bN}{b a c:Int}:gP W z y b a c=true↔W b a c=true/\¬(b=z/\a=y):=by
 unfold gP
 cbv
def CI.waits (h:CI S bs gs ag W gy (some n)){g c:Gg}(e:gs[n]?\some g)(a:YF S g c)(d:c.first<c.last):CI S bs (gs.set n (some c)) ag (addW (addW W c.front c.z1 n) c.bJ c.z2 n) gy none:=by
 let⟨A,N,_⟩:=h.al n g e;let E:=(ajy.mp e).1;let gi:=a.gi;let B:∀z∈c.word,-1000<=z/\z<=1000:=λz hz=>h.bd _ (ajA A) z (by rw[<-a.wo];rwa[hz])
 let F:=B _ (ajA (Gg.mn (g:=c) (by have:=gi.ll;omega)));let O:=B _ (ajA (Gg.at2 (g:=c) gi.ll));rwa[⟨[aj5]▸h.len,λm u q=>?_,λm b q _ J=>?_,λk G=>[aj5]▸h.ab k G,λr s k q=>?_,λm=>?_,h.bd⟩]
 ·rcases fB q with ⟨rfl,z⟩|⟨z,q⟩
  ·ext z;rwa[⟨by rw[A,a.wh,a.wo,a.st],gi,.inr (.inr ⟨d,dX.mpr (.inl (dX.mpr (.inr ⟨222⟩))),dX.mpr (.inr ⟨222⟩)⟩)⟩]
  ·let⟨o,l,f⟩:=h.al m u q;erw[o,l];rcases f with f|f|⟨f,H,I⟩
   ·rwa[.inl f]
   ·rwa[absurd (Za0 f) z]
   ·rwa[.inr (.inr ⟨f,dX.mpr (.inl (dX.mpr (.inl H))),dX.mpr (.inl (dX.mpr (.inl I)))⟩)]
 ·rcases fB q with ⟨_,z⟩|⟨z,q⟩
  ·ext z
  ·rwa[h.de m b q (λy=>z (Za0 y)) J]
 ·rw[aj5];rcases dX.mp q with q|⟨rfl,rfl,rfl⟩
  ·rcases dX.mp q with q|⟨rfl,rfl,rfl⟩
   ·rwa[h.en r s k q]
   ·rwa[⟨_,n,rfl,rfl,gi.f,E,F,.inl ⟨a.ef,a.n1 d⟩⟩]
  ·rwa[⟨_,n,rfl,rfl,gi.r,E,by ext,.inl ⟨a.er,a.n2 d⟩⟩]
 ·let⟨p,q,o,l⟩:=h.sl m;cases C:m=n
  ·subst C;let⟨L,eq⟩:=l g e;rwa[⟨((c.front:Int),c.z1),((c.bJ:Int),c.z2),λr s w=>?_,λu j=>?_⟩]
   ·rcases dX.mp w with w|⟨rfl,rfl,_⟩
    ·rcases dX.mp w with w|⟨rfl,rfl,_⟩
     ·let⟨v,M,er,_,_,_,_,t⟩:=h.en r s m w;rcases t with ⟨D,i⟩|t
      ·rcases o r s w with z|z
       ·rw[L]at z;injection z with z1 z2
        have:v=g.front:=∅
        subst this;let⟨k1,k2⟩:=a.k1 D (by rw[<-z2];rwa[i])
        left
        rw[Prod.mk.injEq];erw[[k1]▸er];rw[z2];unfold Gg.z1;rw[a.wo,k2]
       ·rw[eq]at z;injection z with z1 z2
        have:v=g.bJ:=∅
        subst this;let⟨k1,k2⟩:=a.k2 D (by rw[<-z2];rwa[i])
        right
        rw[Prod.mk.injEq];erw[[k1]▸er];rw[z2];unfold Gg.z2;rw[a.wo,k2]
      ·rwa[t.elim]
     ·rwa[.inl rfl]
    ·rwa[.inr rfl]
   ·rcases fB j with ⟨_,z⟩|⟨z,_⟩
    ·ext z;rwa[22]
    ·rwa[absurd rfl z]
  ·rwa[⟨p,q,λr s w=>?_,λu j=>?_⟩]
   ·rcases dX.mp w with w|⟨_,_,z⟩
    ·rcases dX.mp w with w|⟨_,_,z⟩
     ·rwa[o r s w]
     ·ext
    ·ext
   ·rcases fB j with ⟨z,_⟩|⟨_,j⟩
    ·rwa[absurd z C]
    ·rwa[l u j]
def CI.wake (h:CI S bs gs ag W Ex x){r s:Int}{ns:Zh}(f:∀k:Nat,k∈ns↔W r s k=true):CI S bs gs (ag++ns) (gP W r s) Ex x:=by
 rwa[⟨h.len,λm g e=>?_,h.de,λk u=>?_,λt o k q=>h.en _ _ _ (dF.mp q).1,λm=>?_,h.bd⟩]
 ·let⟨c,b,a⟩:=h.al m g e;erw[c,b];rcases a with a|a|⟨a,j,l⟩
  ·rwa[.inl (aj4 _ a)]
  ·rwa[.inr (.inl a)]
  ·cases i:(g.front:Int)=r/\g.z1=s
   ·rwa[.inl (ajI _ ((f m).mpr (by rw[<-i.1,<-i.2];rwa[j])))]
   ·cases d:(g.bJ:Int)=r/\g.z2=s
    ·rwa[.inl (ajI _ ((f m).mpr (by rw[<-d.1,<-d.2];rwa[l])))]
    ·rwa[.inr (.inr ⟨a,dF.mpr ⟨j,i⟩,dF.mpr ⟨l,d⟩⟩)]
 ·rcases ajK.mp u with q|q
  ·rwa[h.ab k q]
  ·let⟨_,v,_,en,_,y,_⟩:=h.en _ _ _ ((f k).mp q);ext
 ·let⟨p,q,c,b⟩:=h.sl m;rwa[p,q,λt o w=>c^(dF.mp w).1,b]
def CI.ex {e:Nat->Int->Prop}(h:CI S bs gs ag W Ex x)(k:∀(r:Nat) s n,W r s n=true->r<S.q->Ex r s->(S.ax r=r/\S.by r s=none)\/e r s):CI S bs gs ag W e x:=by rwa[⟨h.len,h.al,h.de,h.ab,λr s n q=>?_,h.sl,h.bd⟩];let⟨g,f,rfl,rfl,a,b,c,d⟩:=h.en r s n q;rwa[g,f,22,a,b,c,d.elim .inl (k g s f q a)]
end
structure iG (S:RS):Prop where
 a:∀c,c<S.q->S.ax c≠c->c∈S.bz
 b:∀c∈S.bz,S.ax c≠c
 c:∀c∈S.bz,c<S.q
section
variable {S S':RS}{pend:Ze}{w:Way}{R:Za2}{ks:Zg}
def Jm {x:Nat}:(S.meet n z x m pend).1.bz=S.bz++[max x m]:=by have:=(g6 (max x m) (S.joined n z (min x m) (max x m)) pend ((S.joined n z (min x m) (max x m)).way (max x m))).2;have:=akK RS.bz this;rwa[this]
def uH (h:(S.takeIn pend w).1.bz=S.bz):(S.takeIn pend w).1.aV=S.aV:=by
 let no:∀{c x y:Nat}{z:Int},(S.meet c z x y pend).1.bz=S.bz->False:=λ{c x y z} e=>by rw[Jm]at e;have:=akK List.length e;rw[ajC]at this;simp at this
 unfold RS.takeIn at h ⊢;split
 ·rename_i q;rw[aj3 q]at h;rwa[(no h).elim]
 ·rename_i q;rw[ajY q]at h;split
  ·rename_i a;rw[aj3 a]at h;rwa[(no h).elim]
  ·rfl
def iG.take (f:iG S)(h:Good S (pend++[w]) R)(j:∀c z d,R c z d->z∈ks):iG (S.takeIn pend w).1/\∃l,(S.takeIn pend w).1.bz=S.bz++l:=by
 let⟨_,_,g,_,q⟩:=h.take j;rcases q with ⟨_,_,e⟩|⟨_,c,z,x,y,n,_,p,r,m,_,e,el⟩
 ·let ee:=uH e;let el:∀a,(S.takeIn pend w).1.ax a=S.ax a:=λa=>by unfold RS.ax;rw[ee]
  rwa[⟨⟨λc hc=>?_,λc hc=>?_,λc hc=>by rw[g];rw[e]at hc;rwa[f.c c hc]⟩,[],by rw[e,akb]⟩]
  ·rw[g]at hc;rw[el,e];rwa[f.a c hc]
  ·rw[e]at hc;rw[el];rwa[f.b c hc]
 ·let⟨_,o,_,ex⟩:=h.st _ _ _ n;rwa[⟨⟨λa b=>?_,λa b=>?_,λa b=>?_⟩,[max x y],e⟩]
  ·rw[g]at b;rw[el,e];intro i;cases q:S.ax a=a
   ·cbv
   ·rwa[aj4 _ (f.a a b q)]
  ·rw[el];rw[e]at b;rcases ajK.mp b with q|q
   ·let i:=f.b a q
    cbv
   cbv
  ·rw[g];rw[e]at b;rcases ajK.mp b with q|q
   ·rwa[f.c a q]
   ·rw[ajF.mp q];rcases am1 x y with k|k <;> ext
inductive kQ:RS->Ze->RS->Prop where
 |nil (S:RS):kQ S [] S
 |take {S S':RS} {pend:Ze} {w:Way}:kQ (S.takeIn pend w).1 (S.takeIn pend w).2 S'->kQ S (pend++[w]) S'
def kQ.all (l:kQ S pend S'):Good S pend R->(∀c z d,R c z d->z∈ks)->iG S->Good S' [] R/\iG S'/\S'.q=S.q/\S'.L=S.L/\∃l,S'.bz=S.bz++l:=by
 induction l with
 |nil S=>exact λg _ w=>⟨g,w,22,[],(akb _).symm⟩
 |take _ i=>intro g e w;let⟨h,_,m,k,_⟩:=g.take e;let⟨f,l2,n⟩:=w.take g e;let⟨a,b,c,d,o,j⟩:=i h e f;rwa[a,b,c.trans m,d.trans k,l2++o,by rw[j,n,akl]]
end
section
variable {S S':RS}{R:Za2}{bs:List (Nat×Zg×Nat)}{gs:Zf}{ag:Zh}{W:bN}{n c d:Nat}{z:Int}
def CI.lay (h:CI S bs gs ag W gy (some n))(e:gs[n]?\none)(g:Good S [] R)(w:Good S' [] (fb R c z d))(hm:S'.q=S.q)(L:iG S)(C:iG S'){l:Zh}(U:S'.bz=S.bz++l)(hc:c<S.q)(P:S.ax c=c)(hd:d<S.q)(ed:S.ax d=d)(k:∀b,bs[n]?\b->S'.ax b.2.2≠b.2.2\/wk S'.by b.2.2 b.2.1=some b.2.2):CI S' bs gs ag W (λr s=>(r=c/\s=z)\/(r=d/\s= -z)\/∃m∈l,r=m\/r=S'.ax m) none:=by
 let lt:=Later.of g w jH (amy hm.symm)
 let i:∀e,e<S.q->S.ax e=e->S'.ax e≠e->e∈l:=λe p j D=>by
  have:=C.a e ([hm]▸p) D;rw[U]at this;rcases ajK.mp this with q|q
  ·rwa[absurd j (L.b e q)]
  ·rwa[q]
 let h0:CI S' bs gs ag W (λr s=>(r=c/\s=z)\/(r=d/\s= -z)\/∃m∈l,r=m\/r=S'.ax m) (some n):=by
  rwa[⟨h.len,λm u q=>?_,λm b A F Q=>?_,h.ab,λr s m q=>?_,h.sl,h.bd⟩]
  ·let⟨p,j,D⟩:=h.al m u q;rwa[p,j.later lt (amy hm.symm),D]
  ·cases t:S'.ax b.2.2=b.2.2
   ·right
    rcases h.de m b A F Q with q|q
    ·cases y:b.2.2<S.q
     ·let p:=(g.el _ y).1;let j:=(w.el _ ([hm]▸g.lt y)).1;rw[lt.el _ y,t]at j;rwa[absurd (Nat.le_antisymm p j) q]
     ·exfalso
      let J:⇑S.aV=S.q:=g.wf.e;let O:⇑S'.aV=S'.q:=w.wf.e;let M:S.ax b.2.2=0:=by unfold RS.ax;rw[ajH,akg ∅];rfl
      let B:S'.ax b.2.2=0:=by unfold RS.ax;rw[ajH,akg ∅];rfl
      rwa[q (by rw[M,<-B,t])]
    ·have:=lt.wk q;rw[t]at this;rwa[this]
   ·rwa[.inl t]
  ·let⟨f,N,t,T,I,X,J,q⟩:=h.en r s m q;erw[f,N,t,T,[hm]▸I,X,J];rcases q with ⟨A,F⟩|q
   ·cases p:S'.ax f=f
    ·cases j:S'.by f s with
     |none=>exact .inl ⟨p,2⟩
     |some o=>
      right
      let⟨v,V,x,f1,f2⟩:=w.so _ _ _ j
      let stand:∀e,e<S.q->S.ax e=e->S'.ax e=f->e=f\/∃m∈l,f=m\/f=S'.ax m:=λe Y Z G=>by
       cases H:e=f
       ·rwa[.inl H]
       ·rwa[.inr ⟨e,i e Y Z (by rw[G];rwa[λz=>H z.symm]),.inr G.symm⟩]
      rcases x with x|⟨rfl,rfl,rfl⟩|⟨rfl,rfl,rfl⟩
      ·let⟨E,l2,_⟩:=g.rl _ _ _ x;rcases stand (S.ax v) (g.lt E) (g.el _ E).2 ([lt.el _ E]▸f1) with a|a
       ·exfalso
        have:=g.mW.mpr ⟨v,V,x,a,rfl⟩;rw[F]at this;ext this
       ·rwa[.inr (.inr a)]
      ·rcases stand v hc P f1 with a|a
       ·rwa[.inl ⟨a.symm,rfl⟩]
       ·rwa[.inr (.inr a)]
      ·rcases stand v hd ed f1 with a|a
       ·rwa[.inr (.inl ⟨a.symm,rfl⟩)]
       ·rwa[.inr (.inr a)]
    ·rwa[.inr (.inr (.inr ⟨f,i f I A p,.inl rfl⟩))]
   ·rwa[q.elim]
 rwa[h0.done e k]
end
def cG (a:Nat->Int->Zi):Nat->Zg->Zh
 |_,[]=>[]
 |r,z::c=>match a r z with
  |none=>[]
  |some b=>b::cG a b c
def zC {a:Nat->Int->Zi}(h:a n z=none):cG a n (z::l)=[]:=by show (match a n z with|none=>[]|some b=>b::cG a b l)=[];rw[h]
def om {a:Nat->Int->Zi}(h:a n z\m):cG a n (z::l)=m::cG a m l:=by show (match a n z with|none=>[]|some m=>m::cG a m l)=_;rw[h]
def jX (w:Nat)(p:Zh)(k:Nat):Dt:=.t [.s [114,117,108,101],.i w,.t (p.map λc:Nat=>Dt.i (c:Int)),.i k]
structure BK (ws:Za3)(nr:Nat)(S:RS)(which:Nat)(word:Zg)(start m c d:Nat)(z:Int):Prop where
 w:ws[which]?\word
 n:which<nr\/start=0
 s:start<S.q/\S.ax start=start
 hz:word[m]?\z
 f:wk S.by start (word.take m)=some c
 r:wk S.by d (word.drop (m+ 1))=some start
 hc:c<S.q/\S.ax c=c
 hd:d<S.q/\S.ax d=d
 o:S.by c z≠some d
def qo (S:RS)(a:Nat)(word:Zg)(start m d:Nat):RS:={ S with rows:=S.rows++[jX a ((start::cG S.by start (word.take m))++(d::cG S.by d (word.drop (m+ 1)))) m] }
inductive Tr (ws:Za3)(nr:Nat):RS->RS->Prop where
 |refl (S:RS):Tr ws nr S S
 |step {S S1 S2:RS} {which:Nat} {word:Zg} {start m c d:Nat} {z:Int}:Tr ws nr S S1->BK ws nr S1 which word start m c d z->kQ (qo S1 which word start m d) [(c,z,d)] S2->Tr ws nr S S2
def Fy (S:RS)(c:Nat)(word:Zg):Prop:=wk S.by c word=some c\/∃(i j f r:Nat)(y z:Int),i<j/\word[i]?\y/\word[j]?\z/\wk S.by c (word.take i)=some f/\S.by f y=none/\wk S.by r (word.drop (j+ 1))=some c/\S.by r (-z)=none
structure vn (rs ps:Za3)(S:RS):Prop where
 r:∀w∈rs,∀c,c<S.q->S.ax c=c->Fy S c w
 p:∀w∈ps,Fy S 0 w
def UW (U:Za2):Nat->Zg->Nat->Prop
 |p,[],q=>p=q
 |p,z::w,q=>∃r,U p z r/\UW U r w q
structure Mdl (ws:Za3)(nr M:Nat)(φ:Nat->Nat)(U:Za2):Prop where
 sy:∀p z q,U p z q->U q (-z) p
 fn:∀p z q q',U p z q->U p z q'->q=q'
 cl:∀(which:Nat)(word:Zg)(start m c d:Nat)(z:Int),ws[which]?\word->which<nr\/start=0->start<M->word[m]?\z->UW U (φ start) (word.take m) (φ c)->UW U (φ d) (word.drop (m+ 1)) (φ start)->U (φ c) z (φ d)
section
variable {X:Cx}
def QZ (K:Za1)(h:TA)(f:TE):TI:=λ c H R=>h c H λd e=>f c e λz b=>∃a n,d=[↑a]/\z=.int n/\0<=n/\n<1000/\(∃g,aF K b a g)/\R (Oi K a n) b
def Uh (Q:V->Hp->Prop):Zb->Hp->Prop
 |[z],H=>Q z H
 |_,_=>False
theorem Q0 {Q:V->Hp->Prop}:∀{a:Zb}{H:Hp},Uh Q a H->∃z,a=[z]/\Q z H
 |[z],_,h=>⟨z,2,h⟩
 |[],_,h=>h.elim
 |_::_::_,_,h=>h.elim
def Jn [j:eT X K]{a b:Expr}{v t:TE}{elts:Zr}{Y:Nat}{O p c kp:Pos}(C:Gl X "enumerate")(T:X.mg "enumerate"=none)(U:PE X a v)(B:PE X b t)(x:starEach [a] X.env=(false,eval a X.env)::starEach [] X.env)(e:((backTo c (starEach [a] X.env)).any (·.1) || (backToKw c (keywordEach [⟨some "start",b,kp⟩] X.env)).any (·.1.isNone))=false):
 PI X (.Tuple elts Y O) (.Call (.Name "enumerate" p) [a] [⟨some "start",b,kp⟩] c) (QZ K (ju v j9) t):=by
 cases j.eq;intro d s y H R I h;rwa[akH (gJ I C T boot_enumerate ?_)];rwa[PySem.W.callWith_of (P:=λ_=>True) e (λ_ _=>⟨.machine,.inr (.inl rfl),λ_ _ _ _ _ q=>ajG q⟩) (evalArgs_kw2 rfl (bq ((ae U ah x) c d s y H _ I h) λus Q ζ=>?_) x)];let⟨F,N,D,r,q⟩:=ζ;rwa[bq ((E8 B Il:PK X [⟨some "start",b,kp⟩] _) c d Q y N (Uh λz m=>∃a n,F=[↑a]/\z=.int n/\0<=n/\n<1000/\(∃w,aF X.K m a w)/\R (Oi X.K a n) m) D q) λws G ζ=>?_];let⟨Z,m,o,S,V⟩:=ζ;rwa[⟨True.intro,5⟩]
 let⟨z,rfl,l,n,L,rfl,f,k,g,M⟩:=Q0 V;subst L;let⟨w,g⟩:=g;let⟨u,rfl,W⟩:=vals1 r;ext W;let⟨u2,rfl,A,rfl⟩:=vals1 S;let⟨J,rv,pl,hz⟩:=o.list g;show wpAny _ _ (call (.type "enumerate") [↑l] [("start",.int n A)]) _ _ G;rwa[En.Ef pl.isList f k λh' i hit E=>yn o (u9 l _) (λ_=>∅) ([show n+ ((0:Nat):Int)=n by ext]▸i) hit E M]
end
section
variable {prog:Program} {w:World} {K:Type} [DecidableEq K] {knd:HeapKind prog w K} {A:Around} {E:Zt->Zu->Prop} {s:Zu} {d a:Zs} {k:K} {xs:List (K×Zs×Zt)}
def Eg {dflt:Zt}(m:knd.room A)(b:knd.is s.heap k a)(C:s.heap.DictOfH knd d xs)(u:∀v,(atKey xs k).map (·.2)\v->Q v { s with toks:=s.toks+ knd.draws k })(r:atKey xs k=none->∀i,i.DictOfH knd d (storedH xs k a dflt)->Heap.SameBut d s.heap i->Q dflt { s with heap:=i,toks:=s.toks+ knd.draws k })(x:⇑xs<=sizeLine):(prog<|>w) A (dictSetDefault d ↑a dflt) Q E s:=by
 let⟨G,B,t,f,g2,c,h,n,l⟩:=C;unfold dictSetDefault
 first|(with_reducible rwa[akz ?_])|skip
 rwa[ajx (knd.pyHash m b (ajx (wpAny_dictFind_heap (s:={ s with toks:=s.toks+ knd.draws k }) m b f c h n l (λno=>?_) (λj p o=>?_))))]
 ·let I:k∉xs.map (·.1):=not_mem_keys_of_get no;let g:=atKey_none_of_get no;rwa[ajx (amS (ajx (wpAny_updateDictKeys (hz:=by let e:=size_of_entries h;omega) (s:={ s with toks:=s.toks+ knd.draws k }) f c (ajG (r g _ ?_ (ak1 ..))))))];erw[11,t+ 1,akm _ f (Obj.isFreed_of_dict (Obj.data_mapDictKeys c _)),g2.mapDictKeys _,Obj.data_mapDictKeys c _,55]
  ·rw[storedH_new g];simp[h,entryOfKey]
  ·rw[storedH_new g];intro y z;rcases ajK.mp z with q|q
   ·rwa[knd.keeps (n y q) f c (ak1 ..)]
   ·rw[ajF.mp q];rwa[knd.keeps b f c (ak1 ..)]
  ·rw[storedH_new g,akd,akv]
   cbv
 ·let D:=atKey_of_get l o;rwa[ajx (ami (s:={ s with toks:=s.toks+ knd.draws k }) f c ?_)]
  let F:B[j]?\(entryOfKey knd (k,p)):=by rw[entry_at h j,o];rfl
  rw[F];rwa[ajx (amS (ajG (u _ (by rw[D];rfl))))]
def Ae (knd:HeapKind prog w K)(d a:Zs)(e:(d==sysModules)=false)(dflt:Zt):MeetsIn prog w (Builtin.«dict.setdefault» ⟨[↑d,↑a,dflt],[]⟩) (λA R s=>knd.room A.in1/\∃k xs,knd.is s.heap k a/\s.heap.DictOfH knd d xs/\⇑xs<=sizeLine/\
 (∀v,(atKey xs k).map (·.2)\v->R (.ok (.ret v)) { s with toks:=s.toks+ knd.draws k })/\(atKey xs k=none->∀b,b.DictOfH knd d (storedH xs k a dflt)->Heap.SameBut d s.heap b->R (.ok (.ret dflt)) { s with heap:=b,toks:=s.toks+ knd.draws k })):=
 .of_wp λA R s ζ=>by
  let⟨j,k,xs,c,hm,n,i,h⟩:=ζ
  unfold Builtin.«dict.setdefault» Builtin.Dict.keyAndDefault;rwa[ajx (ajx (amf hm.typeIs ?_))];show wpAny _ _ (pure (d,Value.ref a,some dflt)) _ _ s;rwa[ajG ?_];show wpAny _ _ (if (d==sysModules)=true then _ else (dictSetDefault d ↑a dflt >>=_)) _ _ s;rw[e];rwa[ajx (Eg j c hm (λv g=>ajG ⟨v,2,i v g⟩) (λm b l f=>ajG ⟨dflt,2,h m b l f⟩) n)]
end
inductive Ui (a:Zs)(y z:V)(H:Hp)(Q:VK):Prop
 |mk (kvs:List (Zd×V))(k:Zd)(b:Zs):H a\.dT kvs->y=↑b->H b\.tup (k.map kV)->⇑kvs<sizeLine->(∀v,bC kvs k\v->Q v H)->(bC kvs k=none->Q z (upd H a (.dT (putK kvs k z))))->Ui a y z H Q
def Uj (td e tx:TE):TE:=λ b H Q=>td b H λx c=>Fm x c λa=>e b c λy d=>tx b d λz f=>Ui a y z f Q
section
variable {X:Cx}{o e f:Expr}{apos cW:Pos}{td ty tx:TE}
def Mj (hu:X.A.units+ 1<cLine)(Z:PE X o td)(he:PE X e ty)(Y:PE X f tx)(m:M2 X o "setdefault" apos e f cW):PE X (.Call (.Attribute o "setdefault" apos) [e,f] [] cW) (Uj td ty tx):=by
 intro j s r H Q I h;rwa[alR m.base m.few m.line akT alw PySem.F.type_dict_setdefault (bq (Z j s r H _ I h) λu s1 ζ=>?_)];let⟨x,H1,D,rx,a,ex,d,S⟩:=ζ;subst ex;obtain rfl:u=Value.ref a:=rx;let⟨t1,M,_⟩:=mQ D d;erw[t1,M];rw[m.trees]
 rwa[akD rfl (ak9 (akw (bq (he j s1 r H1 _ D S) λiv P ζ=>?_)))];let⟨y,H2,V,ry,q2⟩:=ζ;rwa[ akw (bq (Y j P r H2 _ V q2) λfv s3 ζ=>?_)];let⟨z,E,n,J,i,k,b,A,ey,G,N,U,q4⟩:=ζ;rwa[ak2 ?_]
 subst ey;cases (show iv=Value.ref b from ry);let⟨W,B,xs,rel,L⟩:=N8 n.aU A;let g:=rel.val k;let p:⇑xs<=sizeLine:=by rw[<-Paired.length rel];rwa[W]
 rwa[alX alw L.typeIs PySem.F.entry_dict_setdefault (PySem.F.args_dict_setdefault_3^_) (Ae _ a b B fv) ⟨alr hu,k,xs,lJ n.aU G,L,p,λv hv=>?_,λhn g1 w sb=>?_⟩]
 ·rw[hv]at g
  cases l:bC i k with
  |none=>rw[l]at g;rwa[g.elim]
  |some t=>rw[l]at g;rwa[t,E,n.tok _,g,U t l]
 ·rw[hn]at g
  cases l:bC i k with
  |some t=>rw[l]at g;rwa[g.elim]
  |none=>
   let hl:⇑(putK i k z)<=sizeLine:=by have:=dR i k z;ext
   let⟨q,es,ep,F,O,h3,R,_,T⟩:=w;rwa[⟨z,upd E a (.dT (putK i k z)),kO n ([A]▸True.intro) sb ⟨q,F⟩ ⟨hl,B,_,(rel.put k G J).keeps λc ys C=>?_,q,es,ep,F,O,h3,R,T⟩,J,q4 l⟩];rw[ao (cz C A (λz=>nomatch z))];rwa[C]
end
section
variable {H:Hp}{k:Zs}{D:Int->Zo}{E:Int->Int->Zo}{S:bN}
def eQ.Ml (h:eQ H k D E S){c s:Int}{d:Zs}(hd:D c\d){l:List (Key×V)}(x:H d\.dK l):
 eQ (upd H d (.dK (fJ l (Sum.inl s)))) k D (λg f=>if g=c/\f=s then none else E g f) (gP S c s):=by
 let⟨m,n,G,A,F⟩:=h.row c d hd;rw[x]at n;obtain rfl:l=m:=by injection n with n;injection n
 let un:∀{g f:Int}{z:Zs},(if g=c/\f=s then none else E g f)\z->¬(g=c/\f=s)/\E g f\z:=λ{g f z} q=>by
  cases e:g=c/\f=s
  ·rw[aj3 e]at q;ext q
  ·rw[ajY e]at q;rwa[e,q]
 rwa[⟨h.top.at λo q=>?_,λg v j=>?_,λg f p i=>?_,λg f p i=>h.ed _ _ _ (un i).2,λg f o C=>?_,h.nd,λg f p i=>h.ne _ _ _ (un i).2,h.dd,λg B f v j i=>h.de _ _ _ _ j (un i).2,λg f B I p y w=>h.ee _ _ _ _ _ (un y).2 (un w).2⟩]
 ·rw[ao (h.nd c d hd).symm];rwa[q]
 ·cases u:g=c
  ·subst u;obtain rfl:v=d:=by rw[hd]at j;rwa[(Za0 j).symm]
   rwa[(QS G A F s).congr λf=>?_]
   cases r:f=s
   ·rw[aj3 r,aj3 ⟨2,r⟩];rfl
   ·rw[ajY r,ajY (λz=>r z.2)]
  ·rwa[((h.row g v j).at λo q=>by rw[ao λz=>u (h.dd _ _ _ j ([z]▸hd))];rwa[q]).congr λf=>?_]
   rw[ajY (λz=>u z.1)]
 ·let⟨ne,t⟩:=un i;rwa[((h.zA g f p t).at λo q=>[ao (λz=>h.de c g f d hd (by rw[<-z];rwa[t]))]▸q).congr λo=>?_]
  have:gP S c s g f o=S g f o:=by rw[akQ,dF];rwa[λz=>z.1,λz=>⟨z,ne⟩]
  rw[this]
 ·let⟨a,b⟩:=dF.mp C;let⟨e,t⟩:=h.se _ _ _ a;rwa[e,[ajY b]▸t]
end
structure Uk (k:Zs)(D:Int->Zo)(E:Int->Int->Zo)(W:bN)(O:Zs->Prop):Prop where
 o:∀b,vm k D E b->O b
 d:∀c x,D c\x->0<=c/\c<100000
 e:∀c s x,E c s\x-> -1000<=s/\s<=1000
 w:∀c s n,W c s n=true->0<=n/\n<100000
def pz (H:Hp)(k:Zs)(W:bN)(O:Zs->Prop):Prop:=∃D E,eQ H k D E W/\Uk k D E W O
def gb (H:Hp)(k:Zs)(W:bN)(O:Zs->Prop)(c:Int)(d:Zs):Prop:=∃D E,eQ H k D E W/\Uk k D E W O/\D c\d
def qp (H:Hp)(k:Zs)(W:bN)(O:Zs->Prop)(c s:Int)(e:Zs):Prop:=∃D E,eQ H k D E W/\Uk k D E W O/\E c s\e
def Jo (O:Zs->Prop)(p:Zs):Zs->Prop:=λb=>O b\/b=p
variable {H H':Hp}{k:Zs}{W:bN}{O:Zs->Prop}{c s:Int}{d e p:Zs}
def pz.keep (h:pz H k W O)(f:∀b o,O b->H b\o->H' b\o):pz H' k W O:=by let⟨D,E,g,a⟩:=h;rwa[D,E,g.keep λb o i q=>f b o (a.o b i) q,a]
def pz.qU (h:pz H k W O):Fj H k:=by let⟨D,E,a,_⟩:=h;let⟨b,q,_⟩:=a.top;rwa[.inl ⟨b,.inl q⟩]
def pz.room (h:pz H k W O)(t:H p=none)(hc:0<=c/\c<100000):∃a,upd H p (.dK []) k\.dK a/\⇑a<sizeLine/\(∀v,bC a (Sum.inl c)\v->∃d,v=↑d/\gb (upd H p (.dK [])) k W O c d)/\
 (bC a (Sum.inl c)=none->gb (upd (upd H p (.dK [])) k (.dK (putK a (Sum.inl c) ↑p))) k W (Jo O p) c p):=by
 let⟨D,E,r,f⟩:=h;let y:=av.upd (o:=.dK []) t;let k1:=r.same y;let⟨a,m,A,w,l⟩:=k1.T9;let nw:¬vm k D E p:=λz=>by let⟨B,q⟩:=r.there z;cbv
 rwa[⟨a,m,5,λv g=>?_,λg=>?_⟩]
 ·rwa[ajJ (wB (n:=100000) (lo:=0) A w l λi v g=>?_) ⋯]
  cases e:D i with
  |none=>rw[e]at g;ext g
  |some x=>have:=f.d i x e;ext
 ·rw[l]at g;let⟨d,hd,rfl⟩:=akE.mp g;rwa[d,2,D,E,k1,f,hd]
 ·rw[l]at g;let hd:D c=none:=amQ.mp g;rwa[⟨_,E,k1.QV hd m aj nw,⟨λb u=>?_,λj x q=>?_,f.e,f.w⟩,aj3 rfl⟩]
  ·rcases u with z|⟨j,z⟩|z
   ·rwa[.inl (f.o b (.inl z))]
   ·dsimp only at z;cases e:j=c
    ·rw[aj3 e]at z;rwa[.inr (Za0 z).symm]
    ·rw[ajY e]at z;rwa[.inl (f.o b (.inr (.inl ⟨j,z⟩)))]
   ·rwa[.inl (f.o b (.inr (.inr z)))]
  ·cases e:j=c
   ·rw[e];rwa[hc]
   ·rw[ajY e]at q;rwa[f.d j x q]
def gb.qU (h:gb H k W O c d):Fj H d:=by let⟨D,E,a,g,b⟩:=h;let⟨f,q,_⟩:=a.row c d b;rwa[.inl ⟨f,.inl q⟩]
def gb.own (h:gb H k W O c d):O d:=by let⟨D,E,f,a,b⟩:=h;rwa[a.o d (.inr (.inl ⟨c,b⟩))]
def gb.same (h:gb H k W O c d)(s:av H H'):gb H' k W O c d:=by let⟨D,E,b,a,f⟩:=h;rwa[D,E,b.same s,a,f]
def gb.cell (h:gb H k W O c d)(w:H p=none)(C: -1000<=s/\s<=1000):∃a,upd H p (.dK []) d\.dK a/\⇑a<sizeLine/\(∀v,bC a (Sum.inl s)\v->∃e,v=↑e/\qp (upd H p (.dK [])) k W O c s e)/\
 (bC a (Sum.inl s)=none->qp (upd (upd H p (.dK [])) d (.dK (putK a (Sum.inl s) ↑p))) k W (Jo O p) c s p):=by
 let⟨D,E,u,f,hd⟩:=h;let B:=av.upd (o:=.dK []) w;let k1:=u.same B;let⟨a,t,F,A,m⟩:=k1.Mh hd;let nw:¬vm k D E p:=λz=>by let⟨G,q⟩:=u.there z;cbv
 rwa[⟨a,t,5,λv g=>?_,λg=>?_⟩]
 ·rwa[ajJ (wB (n:=2001) (lo:=-1000) F A m λi v g=>?_) ⋯]
  cases e:E c i with
  |none=>rw[e]at g;ext g
  |some x=>have:=f.e c i x e;ext
 ·rw[m]at g;let⟨e,r,rfl⟩:=akE.mp g;rwa[e,2,D,E,k1,f,r]
 ·rw[m]at g;let r:E c s=none:=amQ.mp g;rwa[⟨D,_,k1.QT hd r t aj nw,⟨λb y=>?_,f.d,λl j x q=>?_,f.w⟩,aj3 ⟨22⟩⟩]
  ·rcases y with z|z|⟨l,j,z⟩
   ·rwa[.inl (f.o b (.inl z))]
   ·rwa[.inl (f.o b (.inr (.inl z)))]
   ·dsimp only at z;cases e:l=c/\j=s
    ·rw[aj3 e]at z;rwa[.inr (Za0 z).symm]
    ·rw[ajY e]at z;rwa[.inl (f.o b (.inr (.inr ⟨l,j,z⟩)))]
  ·cases e:l=c/\j=s
   ·rw[e.2];rwa[C]
   ·rw[ajY e]at q;rwa[f.e l j x q]
def qp.own (h:qp H k W O c s e):O e:=by let⟨D,E,f,a,b⟩:=h;rwa[a.o e (.inr (.inr ⟨c,s,b⟩))]
def qp.put (h:qp H k W O c s e){n:Int}(o:0<=n/\n<100000):∃a,H e\.dK a/\⇑a<sizeLine/\pz (upd H e (.dK (putK a (Sum.inl n) (.bl true)))) k (addW W c s n) O:=by
 let⟨D,E,g,b,j⟩:=h;let⟨a,f,r,l,m⟩:=g.Ua j;rwa[⟨a,f,5,D,E,g.Ub j f n,b.o,b.d,b.e,λx t u q=>?_⟩]
 ·rwa[ajJ (wB (n:=100000) (lo:=0) r l m λi v y=>?_) ⋯];cases w:W c s i=true
  ·have:=b.w _ _ _ w;ext
  cbv
 ·rcases dX.mp q with q|⟨_,_,q⟩
  ·rwa[b.w _ _ _ q]
  ·rw[q];rwa[o]
def pz.get (h:pz H k W O):∃o,dv H k (.int c) o/\((o=none/\∀s n,W c s n=false)\/∃d,o\↑d/\gb H k W O c d):=by
 let⟨D,E,a,i⟩:=h;let⟨b,j,r,q,f⟩:=a.T9;let g:=dv.k (k:=Sum.inl c) j;rw[f]at g;erw[_,g]
 cases e:D c with
 |none=>
  rwa[.inl ⟨2,λs n=>?_⟩]
  cases w:W c s n with
  |false=>rfl
  |true=>
   let⟨x,l⟩:=a.se _ _ _ w;let⟨y,m⟩:=a.ed _ _ _ l
   cbv
 |some d=>exact .inr ⟨d,2,D,E,a,i,e⟩
theorem BL:∀{a:List (Key×V)},(a.map (·.1)).Nodup->(∀b∈a,∃n:Nat,b.1=Sum.inl (n:Int))->∃ns:Zh,a.map (λb=>kV b.1)=au (nI ns)/\ns.Nodup/\∀n:Nat,n∈ns↔Sum.inl (n:Int)∈a.map (·.1)
 |[],_,_=>⟨[],2,akW,λn=>⟨(λz=>by ext z),(λz=>by ext z)⟩⟩
 |b::r,f,h=>by
  rw[akN,akf]at f;let⟨ns,i,l,j⟩:=BL f.2 λx o=>h x (akc _ o)
  let⟨m,g⟩:=h b (ajU ..);rwa[⟨m::ns,5,akf.mpr ⟨λz=>f.1 ([g]▸(j m).mp z),l⟩,λn=>?_⟩]
  ·rw[akN,i,g];rfl
  cbv
def Fz {a:List (Key×V)}{v:V}(h:bC a (Sum.inl z)\v):Sum.inl z∈a.map (·.1):=akp.mpr ⟨_,Mg h,2⟩
def gb.pop (h:gb H k W O c d)(s:Int):∃a,H d\.dK a/\(bC a (Sum.inl s)=none->∀n,W c s n=false)/\
 ∀v,bC a (Sum.inl s)\v->∃(e:Zs)(f:List (Key×V))(ns:Zh),v=↑e/\e≠d/\H e\.dK f/\f.map (λt=>kV t.1)=au (nI ns)/\ns.Nodup/\(∀n:Nat,n∈ns↔W c s n=true)/\pz (upd H d (.dK (fJ a (Sum.inl s)))) k (gP W c s) O:=by
 let⟨D,E,o,l,hd⟩:=h;let⟨a,A,S,Q,B⟩:=o.Mh hd;rwa[⟨a,A,λu n=>?_,λv u=>?_⟩]
 ·rw[B]at u
  cases w:W c s n with
  |false=>rfl
  |true=>
   let⟨x,R⟩:=o.se _ _ _ w
   cbv
 ·rw[B]at u;let⟨e,F,rfl⟩:=akE.mp u;let⟨f,M,y,G,I⟩:=o.Ua F
  let r:∀i:Int,Sum.inl i∈f.map (·.1)↔W c s i=true:=λi=>by
   constructor
   ·intro z;let⟨t,g,e⟩:=akp.mp z;have:=BH y g
    cbv
   ·intro w;rwa[Fz (v:=.bl true) (by rw[I,aj3 w])]
  let⟨ns,N,L,P⟩:=BL y λt g=>by let⟨i,C⟩:=G t g;have:=l.w _ _ _ ((r i).mp (by rw[<-C];rwa[alB g]));rwa[i.toNat,by rw[C];congr 1;ext]
  rwa[⟨e,f,ns,2,λz=>o.de _ _ _ _ hd (by rw[<-z];rwa[F]),M,N,L,λn=>(P n).trans (r n),11,o.Ml hd A,⟨λb J=>l.o b ?_,l.d,λm j x q=>?_,λm j n q=>l.w _ _ _ (dF.mp q).1⟩⟩]
  ·rcases J with z|z|⟨m,j,z⟩
   ·rwa[.inl z]
   ·rwa[.inr (.inl z)]
   ·dsimp only at z;cases e:m=c/\j=s
    ·cbv
    ·rw[ajY e]at z;rwa[.inr (.inr ⟨m,j,z⟩)]
  ·cases e:m=c/\j=s
   ·rw[aj3 e]at q;ext q
   ·rw[ajY e]at q;rwa[l.e _ _ _ q]
def Jp {P:Nat->Bool}{G:Nat}:∀{ns:Zh},ns.Nodup->(∀n∈ns,n<G/\P n=true)->⇑ns<=(~~~G).countP P:=by
 intro ns
 induction ns generalizing P with
 |nil=>exact λ_ _=>aj8 _
 |cons m r j=>
  intro f h;rw[akf]at f;let⟨i,g⟩:=h m (ajU ..);have:=mz (p:=P) (p':=λa=>P a && decide (a≠m)) (v:=m) (λa=>rfl) g G;rw[aj3 i]at this
  have:=j (P:=λa=>P a && decide (a≠m)) f.2 λn b=>⟨(h n (akc _ b)).1,by rw[(h n (akc _ b)).2,ajZ (show n≠m from λz=>f.1 (by rw[<-z];rwa[b]))];rfl⟩
  rw[aj1];ext
def yq {W:bN}{c s:Int}(h:∀n,W c s n=false):gP W c s=W:=by
 funext b a n
 rw[akQ,dF];rwa[⟨λz=>z.1,λz=>⟨z,λq=>?_⟩⟩];rw[q.1,q.2,h]at z;ext z
end L2
namespace L2
section
variable {S:RS}{R:Za2}
theorem Jq (g:Good S [] R):∀{w:Zg}{c d e:Nat},wk S.by c w=some e->wk S.by d w=some e->c=d
 |[],c,d,e,b,a=>by rw[Za0 b,Za0 a]
 |z::w,c,d,e,b,a=>by
  let⟨n,h,f⟩:=mY b;let⟨l,i,j⟩:=mY a;have:=Jq g f j;subst this;let k:=g.sy _ _ _ h;let m:=g.sy _ _ _ i
  cbv
end
def Q5 {CX:lH}{base:Heap}{k:Nat}{name qual:Str}{params:Arguments}{body:Expr}{scope:Scope}{pm:Zt}{i:Zp}{A:Around}{f:Zq}{s:Zu}{H:Hp}{g:Args}{us:Zk}{vs:Zb}{Q:VK}{E:XK}{t:TE}(S:aP Z i scope)(L:⇑vs=⇑i)(m:cR (k+ 1) A)(j:mK P w K M base A f s H)(G:s•a\kla_obj name qual params body scope [] pm c v)(l:s.heap.CodeRec ↑c qual)(B:bindArgs (kla_fn name qual params body scope [] pm ↑c v) g=pure (i.zip us))(r:Vals vs us)(F:PE (cK CX P w K M base Z qual scope a ↑c A f s H E) body t)(C:t (start Z vs) H Q):codeAny (model P w) A (.call ↑a g) (CR CX f P w H s Q E) s:=by
 let lim:s.heap.NoLimit:=j.mod.nolimit.keeps λb o e=>(j.bs b o e).1
 let h:∀y∈i.zip us,scope.names.lookup y.1=some .local\/(scope.names.lookup y.1=some .cell/\((cellsFrom (↥s+ 1) scope.names []).lookup y.1).isSome=true):=λζ N=>by
  let⟨n,d⟩:=ζ
  rcases S.par n (List.of_mem_zip N).1 with q|q
  ·rwa[.inl q]
  ·rwa[.inr ⟨q,amN _ _ _ (.inl q)⟩]
 rwa[PySem.W.kla_callFunE m.depth G rfl S.co S.gen rfl l ?_];rw[B];rwa[ajG (wpAny_newFunctionEnv_cells S.kind h λenv R p x=>?_)];subst R;rwa[⟨lim.keeps x.toInCall.keep,PySem.W.kla_codeExpr ?_⟩];let I:Inv (cK CX P w K M base Z qual scope a ↑c A f s H E) [] (start Z vs) H p:=zg S m.hd j L r x;rwa[akM (F [] p (start Z vs) H Q I C) (λu z ζ=>?_) λe z O=>O];let⟨d,T,J,D,q⟩:=ζ
 rwa[d,T,J.os,J.bare,J.base,J.aU,D,q]
def dG (d:Zs)(pos:Pos)(qual:Str)(H:Hp):Prop:=H d=some (.fU #[])\/∃(c:Zs)(b:Obj)(a:Zm)(t:Tok),H d\(.fU #[rawInt pos.line,rawInt pos.col,↑c])/\H c\.cL b (.own c)/\b.data=.fields a/\a[1]?\(.str qual t)
def dG.keep {pos:Pos}{qual:Str}(h:dG a pos qual H)(k:∀b u,H b\u->(∃d,u=.fU d)\/(∃o v,u=.cL o v)->I b\u):dG a pos qual I:=by
 rcases h with h|⟨c,j,e,t,i,f,l,g⟩
 ·rwa[.inl (k _ _ h (.inl ⟨_,rfl⟩))]
 ·rwa[.inr ⟨c,j,e,t,k _ _ i (.inl ⟨_,rfl⟩),k _ _ f (.inr ⟨_,_,rfl⟩),l,g⟩]
def kS (c:Str->Zl)(base:Heap):Prop:=∃(b:Zs)(a:Obj),c "__builtins__"=some ↑b/\base.get? b\a/\(a.cls=.type "module"/\a.dict\builtinsNs/\a.data=.plain)/\b≠builtinsNs
section
variable {X:Cx}{pins:List (Zs×Obj)}{σ:St}{H:Hp}{s:Zu}
def Ul {params:Arguments}{body:Expr}{scope:Scope}{pos:Pos}(I:Inv X pins σ H s)(A:X.env.code=↑c)(hC:codeHdIn X.K c a=true)(pA:closureFor scope X.env=pure [])(W:defaultsOf params X.env=([],[]))(hT:dG a pos (X.env.qual++"<lambda>") H)(hB:kS X.mg X.base)(h:∀(f g:Zs) (m:Obj) (D:Zm) (t:Tok) (pm j:Zt) (B:Hp) (s2:Zu),Inv X (pins++[(f,kla_obj "<lambda>" (X.env.qual++"<lambda>") params body scope [] pm g j)]) σ B s2->B g\.cL m (.own g)->m.data=.fields D->D[1]?\.str (X.env.qual++"<lambda>") t->dG a pos (X.env.qual++"<lambda>") B->(∀b u,b≠a->H b\u->B b\u)->Q ↑f s2):
 X⁻¹ X.A (eval (.Lambda params body scope pos) X.env) Q E s:=by
 let⟨bm,ob,b1,b2,b3,b4⟩:=hB;rwa[PySem.W.kla_eval W ?_]
 let C:s.heap.Ns mainGlobals X.mg:=by let⟨o,es,ep,e,r⟩:=I.ok.mod.glob;rwa[o,es,ep,I.bk^e,r]
 let YG:=PySem.W.codeHd_of_K I.dQ hC;let R:s•bm\ob:=I.bk^b2
 let hPH:∃ps,H a\(.fU ps):=by
  rcases hT with z|⟨L,_,_,_,z,_⟩
  ·rwa[⟨_,z⟩]
  ·rwa[⟨_,z⟩]
 let⟨V,S⟩:=hPH
 let neP:∀{b:Zs}{o:Obj},s•b\o->o.cls≠.none->b≠a:=λ{b o} e hc z=>by
  have:=I.aU^S;rw[z,show s•a=some { cls:=.none,data:=.fields V } from this]at e
  cbv
 let hbP:bm≠a:=neP R (by cbv)
 let hgP:mainGlobals≠a:=λz=>by
  let⟨o,es,ep,e,hd,_⟩:=C;have:=I.aU^S;rw[z,show s•a=some { cls:=.none,data:=.fields V } from this]at e
  cbv
 let hbG:bm≠mainGlobals:=λz=>by
  let⟨o,es,ep,e,hd,_⟩:=C
  cbv
 let hB:s.heap.BuiltinsAt X.mg a:=⟨bm,ob,b1,b4,hbG,hbP,R,b3.1,b3.2.1,b3.2.2⟩
 let fin:∀{f:Zs}{B:Hp}{s2:Zu}{o:Obj},Inv X pins σ B s2->↥s<=f->s2•f\o->B f=none->(∀v,o.data≠.cell v)->Inv X (pins++[(f,o)]) σ B s2:=λ{f B s2 o} J hf e n hd=>J.jL λp Z=>by
  rcases ajK.mp Z with Z|Z
  ·rwa[J.pin p (ajI _ Z)]
  ·rw[ajF.mp Z];rwa[e,n,akP (aj7 I.lt hf),I.Gr hf,hd]
 rcases hT with M|⟨L,m,D,t,M,BM,x,y⟩
 ·let F:s•a\(tabObj #[]):=I.aU^M;rwa[PySem.W.kla_makeFunction (mg:=X.mg) pA I.ok.glob C A YG F trivial rfl hgP hB λg j U tk hx G P N O=>?_]
  let⟨c2,m,D,t,e2,Y,x,y⟩:=N;ext e2;let ml:∀b u,H b\u->b≠g:=λb u e z=>absurd (I.aU b u e).lt ([z]▸Nat.not_lt.mpr G)
  let hcP:g≠a:=(ml a _ M).symm;let k1:∀b o,b≠a->s•b\o->(U.push (kla_obj "<lambda>" (X.env.qual++"<lambda>") params body scope [] ((X.mg "__name__").getD .none) g j)).get? b\o:=λb o w e=>ajB _ (hx b o w e)
  let eP2:(upd (upd H a (.fU #[rawInt pos.line,rawInt pos.col,↑g])) g (.cL m (.own g))) a\(.fU #[rawInt pos.line,rawInt pos.col,↑g]):=by rw[ao hcP.symm,aj]
  let i:∀b u,b≠a->H b\u->(upd (upd H a (.fU #[rawInt pos.line,rawInt pos.col,↑g])) g (.cL m (.own g))) b\u:=λb u w e=>by rw[ao (ml b u e),ao w];rwa[e]
  let J:Inv X pins σ (upd (upd H a (.fU #[rawInt pos.line,rawInt pos.col,↑g])) g (.cL m (.own g))) { s with heap:=U.push (kla_obj "<lambda>" (X.env.qual++"<lambda>") params body scope [] ((X.mg "__name__").getD .none) g j),toks:=tk }:=by
   rwa[I.un ⟨λb o e n _ _=>k1 b o (λz=>by cbv) e,λb o e n _ _=>⟨o.slots,k1 b o (λz=>by cbv) e⟩,λb o e n _=>?_,λb o e _=>?_,λb xs e=>i b _ (λz=>by cbv) e,λb o u e=>i b _ (λz=>by cbv) e,λb qs e=>?_⟩ λb u e=>?_]
   ·rw[ao (aj9 (aj7 (ajR e) G)),ao (λz=>by cbv)];rwa[n]
   ·cases w:b=a
    ·subst w;rwa[_,ajB _ O]
    ·rwa[o,k1 b o w e]
   ·cases w:b=a
    ·cbv
    ·rwa[#[],by rw[i b _ w e];simp]
   ·cases w:b=g
    ·subst w;rw[aj]at e;ext e;rwa[ajB _ Y,m,ajB _ Y]
    ·rw[ao w]at e;cases T:b=a
     ·subst T;rw[aj]at e;ext e;rwa[ajB _ O]
     ·rw[ao T]at e;rwa[(I.aU b u e).fO (λd v hd q=>k1 d v ?_ q) (λd q=>?_) λd xs q=>?_]
      ·cbv
      ·rwa[i d _ (λz=>by cbv) q]
      ·rwa[i d _ (λz=>by cbv) q]
  let l:↥s<=U.objs.size:=ajO G (alm P);rwa[h _ g m D t _ j _ _ (fin J l (ajP _ rfl) ?_ λv z=>nomatch z) aj x y (.inr ⟨g,m,D,t,eP2,aj,x,y⟩) i];rw[ao (akP P),ao (λz=>absurd (I.aU^M).lt (by rw[<-z];rwa[Nat.not_lt.mpr l]))];rwa[I.aU.fresh l]
 ·let F:s•a\(tabObj #[rawInt pos.line,rawInt pos.col,↑L]):=I.aU^M;rwa[PySem.W.kla_makeFunctionHit (mg:=X.mg) (cv:=↑L) pA I.ok.glob C A YG F (by simp[TriplesOk,rawInt]) (by simp[codeAmong,rawInt]) hB λj U tk k l=>?_]
  let J:Inv X pins σ H { s with heap:=U.push ("function">>>.func (kla_fn "<lambda>" (X.env.qual++"<lambda>") params body scope [] ((X.mg "__name__").getD .none) ↑L j)),toks:=tk }:=I.kept λb u e=>ajB _ (k b u e)
  rwa[h _ L m D t _ j H _ (fin J l (ajP _ rfl) (I.aU.fresh l) λv z=>nomatch z) BM x y (.inr ⟨L,m,D,t,M,BM,x,y⟩) λb u _ e=>e]
structure Fp (X:Cx)(pq:List (Zs×Obj))(H:Hp)(b:Zs):Prop where
 none:H b=none
 loc:b≠X.env.locals
 fs:b∉X.fs
 new:X.e8.heap.objs.size<=b
 cell:∀x c,X.env.cells.lookup x\c->c≠b
 pin:∀p∈X.pn++pq,p.1≠b
def wD (I:Inv X o σ H s)(h:↥s<=b):Fp X o H b:=⟨I.aU.fresh h,akP (aj7 I.lt h),I.Gr h,ajO I.sz h,λx c e z=>by let⟨v,d⟩:=I.cell x c e;rwa[absurd d.lt ([z]▸Nat.not_lt.mpr h)],λp a z=>absurd (ajR (I.pin p a).1) ([z]▸Nat.not_lt.mpr h)⟩
def Inv.G3 {b:List (Zs×Obj)}(I:Inv X (o++b) σ H s):Inv X o σ H s:=I.jL λp a=>I.pin p (ajI _ (aj4 _ a))
abbrev Um (a:Zm) (c:Nat):Obj:={ cls:=.type "list",dict:=none,data:=.seq a c,slots:=#[] }
theorem Jr {it l:Zs}{ys:Zb}{kf:Nat->Int}{R:Result->Zu->Prop}(hh:X.A.in1.handled=none)(hq:aF X.K H l ys)(Z:l≠it)(n1:a≠it)(C:Fp X o H it)(D:Fp X o H a)(turn:∀(i:Nat) (y:V) (n:Zt) (pr:List (Zs×Obj)) (s':Zu),ys[i]?\y->RelV y n->Inv X (o++pr) σ H s'->X⁻¹ X.A.in1 (call ↑b [n]) (λu s2=>∃t,u=.int (kf i) t/\Inv X (o++pr) σ H s2) (λ_ _=>False) s')(hR:∀n s',(ys=[]/\n=v\/∃(j:Nat) (y:V),ys[j]?\y/\RelV y n/\∀q,q<⇑ys->kf j<=kf q/\(q<j->kf j<kf q))->Inv X o σ H s'->R (.ok (.ret n)) s'):
 ∀(k i:Nat)(s:Zu)(r:Zm)(c:Nat),⇑ys - i=k->i<=⇑ys->Inv X o σ H s->s.heap.IsListIter it l i->s•a\Um r c->
 ((i=0/\r=#[])\/∃(j:Nat)(y:V)(vb:Zt)(U:Tok),j<i/\ys[j]?\y/\RelV y vb/\r=#[vb,.int (kf j) U]/\∀q,q<i->kf j<=kf q/\(q<j->kf j<kf q))->
 codeAny (model X.prog X.w) X.A (.builtin "min.loop" ⟨[↑it,↑b,↑a],[("default",v)]⟩) R s:=by
 let nm:(toString "min"++toString ".loop":String)="min.loop":=⋯
 let L:∀m:Zs,m≠it->m∉[it]:=λm B z=>B (ajF.mp z)
 intro k
 induction k with
 |zero=>
  intro i s r c hk hi I hit B hold;let⟨E,hv,pl,hz⟩:=I.list hq;let Uo:=⇑hv;let W:=Walks.list (prog:=X.prog) (w:=X.w) (A:=X.A.in1) hh it l Z E.toArray;let ei:i=⇑E:=∅
  rwa[amI F.entry_min_loop ?_];rw[amm al6 _];show wpAny _ X.A.in1 (seqItems? ↑a >>=_) _ _ s;rwa[ajx (amn B rfl ?_)];show wpAny _ X.A.in1 (tryCatch (pyNext ↑it) _ >>=_) _ _ s;rwa[ajx (am0 (W.done s _ _ ⟨by cbv,pl.isList⟩ λh' M kp=>?_))];let O:=kp a _ (L _ n1) B;let I2:Inv X o σ H { s with heap:=h',toks:=M }:=I.turned (λm f B e=>kp m f (L _ B) e) C.none C.loc (.inr C.new) C.cell C.pin;rcases hold with ⟨e0,rfl⟩|⟨j,y,vb,U,hj,hy,rb,rfl,d⟩
  ·let en:ys=[]:=ak0 (by omega);rwa[ajx (amS ?_)];rwa[ajG (hR v _ (.inl ⟨en,2⟩) I2)]
  ·show wpAny _ X.A.in1 (updateSeq a (λ_=>#[]) >>=_) _ _ _;rwa[ajx (amg O rfl (ajx (amV (ajG ?_))))];rwa[hR _ _ (.inr ⟨j,y,hy,rb,λq S=>d q ∅⟩) (I2.turned (t':=M) (λm f B e=>(ako^akI B).trans e) D.none D.loc (.inr D.new) D.cell D.pin)]
 |succ k ih=>
  intro i s r c hk hi I hit B hold;let⟨E,hv,pl,hz⟩:=I.list hq;let Uo:=⇑hv;let o6:i<⇑E:=∅
  let W:=Walks.list (prog:=X.prog) (w:=X.w) (A:=X.A.in1) hh it l Z E.toArray;rwa[amI F.entry_min_loop ?_];rw[amm al6 _];show wpAny _ X.A.in1 (seqItems? ↑a >>=_) _ _ s;rwa[ajx (amn B rfl ?_)];show wpAny _ X.A.in1 (tryCatch (pyNext ↑it) _ >>=_) _ _ s;rwa[ajx (am0 (W.item i s _ _ ∅ ⟨hit,pl.isList⟩ λn h' M hP BO kp=>?_))];let⟨⟨oI,hoI,Uq,T⟩,BP⟩:=BO;let O:=kp a _ (L _ n1) B;let I2:Inv X o σ H { s with heap:=h',toks:=M }:=I.turned (λm f B e=>kp m f (L _ B) e) C.none C.loc (.inr C.new) C.cell C.pin;let G:ys[i]?\(ys[i]'∅):=ajz ∅
  change ys[i]'∅=y at G;let⟨u,hu,ru⟩:=hv.get (i:=i) (x:=y) G;let FC:E[i]?\n:=by simpa using hP
  rw[hu]at FC;let euv:u=n:=Za0 FC;subst euv;let dI:∀z,oI.data≠.cell z:=λz e=>by rw[T]at e;ext e
  let J2:Inv X (o++[(it,oI),(a,Um r c)]) σ H { s with heap:=h',toks:=M }:=I2.jL λp Q=>by
   rcases ajK.mp Q with Q|Q
   ·rwa[I2.pin p (ajI _ Q)]
   ·rcases ajS.mp Q with rfl|Q
    ·rwa[⟨hoI,C.none,C.loc,C.fs,dI⟩]
    ·rw[ajF.mp Q];rwa[O,D.none,D.loc,D.fs,λz e=>nomatch e]
  show wpAny _ X.A.in1 (tryCatch (holding [u] (call ↑b [u])) _ >>=_) _ _ _;rwa[ajx (am0 (akz (akM (turn i y u _ _ G ru J2) (λx J he=>?_) λ_ _ hF=>hF.elim)))];let⟨Y,rfl,J3⟩:=he;let pI:=(J3.pin (it,oI) (ajI _ (ajI _ (.head _)))).1;let pB:=(J3.pin (a,Um r c) (ajI _ (ajI _ (.tail _ (.head _))))).1;let I3:=J3.G3;let ab6:J.heap.IsListIter it l (i+ 1):=⟨oI,pI,Uq,T⟩;let YH:∀(g:Zm->Zm),(J.heap.update a (Obj.mapSeq g)).IsListIter it l (i+ 1):=λg=>⟨oI,(ako^n1).trans pI,Uq,T⟩
  let YJ:∀(g:Zm->Zm)(M:Nat),Inv X o σ H { J with heap:=J.heap.update a (Obj.mapSeq g),toks:=M }:=λg M=>I3.turned (λm f B e=>(ako^akI B).trans e) D.none D.loc (.inr D.new) D.cell D.pin
  rcases hold with ⟨e0,rfl⟩|⟨j,y0,vb,U,hj,hy,rb,rfl,d⟩
  ·subst e0;show wpAny _ X.A.in1 (updateSeq a (λ_=>#[u,.int (kf 0) Y]) >>=_) _ _ _;rwa[ajx (amg pB rfl ?_)];rw[nm]
   exact ajG ⟨al0 al6 _,ih 1 _ _ _ ∅ ∅ (YJ _ _) (YH _) (akm _ pB rfl) (.inr ⟨(0),y,u,Y,3,G,ru,2,λq S=>by
    let e:q=0:=∅
    subst e;rwa[Int.le_refl _,λz=>absurd z (akX _)]⟩)⟩
  ·show wpAny _ X.A.in1 (tryCatch (holding [u,.int (kf i) Y] (richCompare .Lt (.int (kf i) Y) (.int (kf j) U) >>=_)) _ >>=_) _ _ _;rwa[ajx (am0 (akz (ajx (CmpOf.ints_lt (prog:=X.prog) (w:=X.w) (A:=X.A.in1) (P:=λi n=>∃t,n=.int (kf i) t) kf (λi n h=>h) i j _ _ _ _ _ ⟨Y,2⟩ ⟨U,2⟩ ?_))))];rwa[ajx (akz (ale ?_))];rwa[ajx (amV (ajG ?_))];cases BQ:kf i<kf j
   ·simp only[BQ,decide_true,am5];rwa[ajx (amg pB rfl (ajx (amV ?_)))];rw[nm];rwa[ajG ⟨al0 al6 _,ih (i+ 1) _ _ _ ∅ ∅ (YJ _ _) (YH _) (akm _ pB rfl) (.inr ⟨i,y,u,Y,3,G,ru,2,λq S=>?_⟩)⟩];cases e:q=i
    ·subst e;rwa[Int.le_refl _,λz=>absurd z (akX _)]
    ·let h1:=(d q ∅).1;rwa[3,λ_=>∅]
   ·simp only[BQ,decide_false,amJ,amZ];rwa[ajx (amV ?_)];rw[nm];rwa[ajG ⟨al0 al6 _,ih (i+ 1) _ _ _ ∅ ∅ I3 ab6 pB (.inr ⟨j,y0,vb,U,3,hy,rb,2,λq S=>?_⟩)⟩];cases e:q=i
    ·subst e;rwa[3,λ_=>∅]
    ·rwa[d q ∅]
def aF.gF {H:Hp}{ys:Zb}{d:Zm}(h:aF K H a ys)(f:H b\.fU d)(k:∀c u,c≠b->H c\u->I c\u):aF K I a ys:=by
 rcases h with h|h
 ·rcases h with e|⟨o,e⟩
  ·rwa[.inl (.inl (k _ _ (λz=>by cbv) e))]
  ·rwa[.inl (.inr ⟨o,k _ _ (λz=>by cbv) e⟩)]
 ·rwa[.inr h]
def Mm (a f d:Zt):checkBuiltinCall "min" ⟨[a],[("key",f),("default",d)]⟩=pure ():=by kernel_rfl
def XZ (K:Za1)(e:Zs)(f:Pos)(qual:Str)(g:TE)(k:TA):TE:=λ σ H Q=>k σ H λh d=>∃(l:Zs)(ys:Zb)(c:Nat->Int),h=[↑l]/\aF K d l ys/\dG e f qual d/\
 ∀a,dG e f qual a->(∀b u,b≠e->d b\u->a b\u)->(∀(i:Nat)(y:V),ys[i]?\y->g [some y] a λv m=>v=.int (c i)/\m=a)/\(ys=[]->Q .non a)/\∀(i:Nat)(y:V),ys[i]?\y->(∀j,j<⇑ys->c i<=c j/\(j<i->c i<c j))->Q y a
theorem Q6 [Y:eT X K]{x:Str}{a body:Expr}{te tb:TE}{p m M C kq lp:Pos}{j k:Nat}{params:Arguments}{scope:Scope}{c Pt:Zs}(hc:X.calm=true)(hg:Gl X "min")(hm:X.mg "min"=none)(he:PE X a te)(D:X.env.code=↑c)(hC:codeHdIn X.K c Pt=true)(pA:closureFor scope X.env=pure [])(T:defaultsOf params X.env=([],[]))(hB:kS X.mg X.base)(hr:cR (k+ 2) X.A)(S:aP [x] [x] scope)(U:∀(pm w:Zt) (n:Zs) (u:Zt),bindArgs (kla_fn "<lambda>" (X.env.qual++"<lambda>") params body scope [] pm ↑n w) ⟨[u],[]⟩=pure [(x,u)])(B:∀(A:Around) (L:Zq) (s:Zu) (H:Hp) (f n:Zs),cR k (A.deeper (envOfC (X.env.qual++"<lambda>") scope ↥s f ↑n))->PE (cK YB X.prog X.w X.K X.mg X.base [x] (X.env.qual++"<lambda>") scope f ↑n A L s H E0) body tb)(hs:starEach [a] X.env=(false,eval a X.env)::starEach [] X.env)(lL:((backTo m (starEach [a] X.env)).any (·.1) || (backToKw m (keywordEach [⟨some "key",.Lambda params body scope lp,M⟩,⟨some "default",.Constant .none j kq,C⟩] X.env)).any (·.1.isNone))=false):
 PE X (.Call (.Name "min" p) [a] [⟨some "key",.Lambda params body scope lp,M⟩,⟨some "default",.Constant .none j kq,C⟩] m) (XZ K Pt lp (X.env.qual++"<lambda>") tb (ju te j9)):=by
 cases Y.eq;intro pins s σ H Q I h;rwa[akH (gJ I hg hm PyProof.Rows.boot_min ?_)];rwa[PySem.W.callWith_of (P:=λ_=>True) lL (λ_ _=>⟨.machine,.inr (.inl rfl),λ_ _ _ _ _ q=>ajG q⟩) (evalArgs_kw2 rfl (bq ((ae he ah hs) m pins s σ H _ I h) λus s1 ζ=>?_) hs)];let⟨vs,H1,I1,r,q⟩:=ζ;let⟨l,ys,kf,rfl,hq,hT,q⟩:=q;let⟨u,rfl,ru⟩:=vals1 r;ext ru;rwa[kwAll_cons (Ul I1 D hC pA T hT hB λf n oc Z ct pm w H2 s2 I2 Om Js hv1 W g=>?_)];rwa[bq ((E8 b9 Il:PK X [⟨some "default",.Constant .none j kq,C⟩] _) m _ s2 σ H2 (λzs G=>zs=[.non]/\G=H2) I2 ⟨22⟩) λws s3 ζ=>?_];let⟨zs,G,R,rz,N,e2⟩:=ζ;rwa[⟨True.intro,5⟩]
 subst N e2;let⟨u2,rfl,ru2⟩:=vals1 rz;ext ru2;let⟨q1,q2,q3⟩:=q G W g
 let O:aF X.K G l ys:=by
  rcases hT with z|⟨_,_,_,_,z,_⟩
  ·rwa[hq.gF z g]
  ·rwa[hq.gF z g]
 show wpAny _ _ (call (.builtin "min") [↑l] [("key",↑f),("default",.none)]) _ _ s3;let nm:(toString "min"++toString ".loop":String)="min.loop":=⋯
 rwa[al7 (ala F.plain_min F.entry_min (wpAny_of_eq (Mm^_) ?_))];show wpAny _ X.A.in1 (Builtin.Builtins.bindParams "min" ["key","default"] 0 ⟨[],[("key",↑f),("default",.none)]⟩ >>=_) _ _ s3;rwa[ajx (wpAny_of_eq (show Builtin.Builtins.bindParams "min" ["key","default"] 0 ⟨[],[("key",↑f),("default",.none)]⟩=pure #v[↑f,some .none] from rfl) ?_)];let⟨its,rv,pl,hz⟩:=R.list O;rwa[ajx (ajG (ajx (alP pl.isList ?_)))];let⟨ol,Ur,Uq,Us⟩:=id pl.isList;rwa[ajx (aku ?_)];let o6:=ajR Ur;let hsz:(s3.heap.push ("list_iterator">>>.fields #[↑l,.int 0 0])).objs.size=↥s3+ 1:=ali ..;let kp4:∀(b:Zs)(o:Obj),s3•b\o->((s3.heap.push ("list_iterator">>>.fields #[↑l,.int 0 0])).push ("list">>>.seq ([]:Zk).toArray)).get? b\o:=λb o e=>ajB _ (ajB _ e)
 let I4:=R.kept (t':=s3.toks) kp4;rw[nm];rwa[ajG ⟨al0 al6 _,Jr (X:=X) (σ:=σ) (H:=G) (ys:=ys) (kf:=kf) (it:=↥s3) (l:=l) (R.ok.hd hc) O (aj9 o6) (by cbv) (wD R (ajE _)) (wD R (by cbv)) (λi y v pr s' hy rv' J=>?_) (λv s' hw J=>?_) _ 0 _ #[] 0 rfl (aj8 _) I4 ⟨_,ajB _ (ajP _ rfl),22⟩ (ajP _ rfl) (.inl ⟨22⟩)⟩]
 ·let hf:=(J.pin (f,_) (ajI _ (aj4 _ (ajI _ (.head _))))).1;let hcr:s'.heap.CodeRec ↑n (X.env.qual++"<lambda>"):=⟨n,oc,Z,ct,2,(J.aU^Om).1,Js,hv1⟩;rwa[al7 (alV (Q5 (CX:=YB) (E:=E0) (k:=k) (vs:=[y]) (us:=[v]) S rfl hr.in1 J.A6.in1 hf hcr (U pm w n v) (.cons rv' .nil) (B _ _ _ _ f n (hr.in1.deeper _)) (q1 i y hy)) λr s2 d=>?_)]
  cases r with
  |error e=>exact d.elim
  |ok fl=>
   cases fl with
   |next=>exact False.elim d
   |brk=>exact False.elim d
   |cont=>exact False.elim d
   |ret u=>let⟨v2,H4,J4,V,N,e2⟩:=J.after d;subst N e2;let⟨t,rfl⟩:=V;rwa[t,2,J4]
 ·rcases hw with ⟨N,rfl⟩|⟨i,y,hy,ry,hb⟩
  ·rwa[⟨.non,G,J.G3,rfl,q2 N⟩]
  ·rwa[⟨y,G,J.G3,ry,q3 i y hy hb⟩]
end
def Jt {D:Str->Zl}{CX:lH}{k:Nat}{fd:FuncData}{O:Sp}{ns:Zg}(R:K.In s.heap)(n:s.heap.Ns mainGlobals M)(g:s.heap.Ns builtinsNs D)(G:∀x:Str,x≠"__name__"->D x=bootBuiltins x)(p:s.heap.NoLimit)(hg:s.gens=#[])(J:s•b\("list">>>.seq N.toArray))(Y:IntsAre N ns)(W:⇑ns<=sizeLine)(hr:cR k callerA)(Fn:∀base:Heap,K.In base->base.Ns mainGlobals M->kS M base->dP P w K M base CX k a fd [x] O)(hB:kS M s.heap)(l:∀(s:Zu) (u:Zt),BindsTo s fd ⟨[u],[]⟩ [(x,u)])(L:s•c\(tabObj #[]))(hKP:K.lookup c=none)(E:isCodeTable s.heap c)(I:∀H:Hp,H c\(.fU #[])->aF K H b (ns.map V.int)->O [↑b] H (λv _=>v=.bl true) λ_ _ _=>False)(F:∀H e i,CX [] H s (λ_ _ _=>False) e i->False):
 codeAny (model P w) callerA (.call ↑a ⟨[↑b],[]⟩) (λr i=>r=.ok (.ret (.bool true))/\OldK s.heap i.heap/\i.os=s.os/\AllBare i.gens) s:=by
 let rv:=zj Y;let C:b≠c:=λz=>by cbv
 let main:∀H:Hp,H c\(.fU #[])->(∀f u,H f\u->K.lookup f=none/\(f=c\/f=b/\∃X,u=.cL ("list">>>.seq N.toArray) (.lst X)))->aF K H b (ns.map V.int)->dS P w H s.heap->
  codeAny (model P w) callerA (.call ↑a ⟨[↑b],[]⟩) (λr i=>r=.ok (.ret (.bool true))/\OldK s.heap i.heap/\i.os=s.os/\AllBare i.gens) s:=by
  intro H T Q h3 S
  let nodict:∀{f:Zs}{o:Obj}{t:Array DictEntry}{A:Nat},s•f\o->o.data=.dict t A->H f=none:=λ{f o t A} e d=>by
   cases q:H f with
   |none=>rfl
   |some u=>cbv
  let y:∀{f:Zs}{m:Str->Zl},s.heap.Ns f m->(p7 s.heap H).Ns f m:=λ{f m} ζ=>by let⟨o,t,A,e,d,r⟩:=ζ;rwa[⟨o,t,A,uX e (nodict e d),d,r⟩]
  let Z:K.In (p7 s.heap H):=λf o e=>uX (R f o e) (by
   cases q:H f with
   |none=>rfl
   |some u=>rw[(Q f u q).1]at e;ext e)
  let md:Mod K M (p7 s.heap H):=⟨Z,y n,⟨D,y g,G⟩,let ⟨mc,z1,z2⟩:=p;⟨mc,y z1,z2⟩⟩;let e0:mK P w K M (p7 s.heap H) callerA [] s H:=⟨2,md,λf o e=>Ql e,amy (HS _ _),trivial,λf z=>absurd (show f∈([]:Zn) from z) (by simp),S,.of_eq hg⟩
  let bb:kS M (p7 s.heap H):=by
   let⟨U,ob,b1,b2,b3,b4⟩:=hB;rwa[⟨U,ob,b1,uX b2 ?_,b3,b4⟩]
   cases q:H U with
   |none=>rfl
   |some u=>cbv
  rwa[alV ((Fn _ Z (y n) bb).run callerA [] s H ⟨[↑b],[]⟩ [↑b] [↑b] _ _ hr e0 (l s ↑b) (.cons rfl .nil) (I H T h3)) λr i h=>?_]
  cases r with
  |error e=>exact(F H e i h).elim
  |ok fl=>
   cases fl with
   |next=>exact False.elim h
   |brk=>exact False.elim h
   |cont=>exact False.elim h
   |ret u=>
    let⟨v,H',os,bare,un,j,r',q⟩:=h;let q':v=.bl true:=q;subst q';obtain rfl:u=Value.bool true:=r'
    let each:∀f o,s•f\o->asItWas s.heap i.heap f o/\∃o',i•f\o':=λf o e=>by
     cases q:H f with
     |none=>let z:=un.keep f o e q (by intro z;rwa[absurd (show f∈([]:Zn) from z) (by simp)]) (by simp);rwa[.inl z,o,z]
     |some u=>
      rcases (Q f u q).2 with rfl|⟨rfl,X,rfl⟩
      ·rw[L]at e;ext e;let⟨more,z⟩:=un.iK^T;let z2:i•f\{ cls:=.none,data:=.fields (#[]++more) }:=j^z;rwa[.inr (.inl ⟨E,2,#[],more,2,z2⟩),_,z2]
      ·let⟨z1,_⟩:=S^q;let⟨z2,_⟩:=j^un.hJ _ _ _ q;rw[e]at z1;ext z1;rwa[.inl z2,_,z2]
    rwa[2,⟨λf o e=>(each f o e).1,λf o e=>(each f o e).2⟩,os,bare]
 cases B:K.lookup b with
 |some o=>
  let e:=R b o B;rw[J]at e;ext e;rwa[main (upd (λ_=>none) c (.fU #[])) aj (λf u z=>?_) (.inr ⟨_,N.toArray,_,B,222,[ajT,⇑Y]▸W,3⟩) λf u z=>?_]
  ·cases g:f=c
   ·cbv
   ·rw[ao g]at z;ext z
  ·cases g:f=c
   ·subst g;rw[aj]at z;ext z;rwa[L]
   ·rw[ao g]at z;ext z
 |none=>
  rwa[main (upd (upd (λ_=>none) c (.fU #[])) b (.cL ("list">>>.seq N.toArray) (.lst (ns.map V.int)))) (by rw[ao C.symm,aj]) (λf u z=>?_) (.inl (.inr ⟨_,aj⟩)) λf u z=>?_]
  ·cases g:f=b
   ·subst g;rw[aj]at z;ext z;rwa[B,.inr ⟨212⟩]
   ·rw[ao g]at z;cases g:f=c
    ·cbv
    ·rw[ao g]at z;ext z
  ·cases g:f=b
   ·subst g;rw[aj]at z;ext z;rwa[J,[ajD]▸W,N,_,rv,J]
   ·rw[ao g]at z;cases g:f=c
    ·subst g;rw[aj]at z;ext z;rwa[L]
    ·rw[ao g]at z;ext z
theorem rT.okT {mg:Str->Zl}{base:Heap}{j:lH}{qual:Str}{st:Stmt}{fd:FuncData}{f:Zp}{k:Nat}{sp:Sp}(F:rT K x qual st a fd)(hc:fd.code=↑c)(S:aP Z f (az st))(len:∀b H Q E,sp b H Q E->⇑b=⇑f)(d:∀(A:Around) (outer:Zq) (s:Zu) (H:Hp) (b:Zb) (Q:VK) (E:XK),cR k (A.deeper (envOfC qual (az st) ↥s a ↑c))->sp b H Q E->
  ∃t,jM (cK j P w K mg base Z qual (az st) a ↑c A outer s H E).uA (cY st) t/\t { nx:=λ_ p=>Q .non p,rt:=Q } (start Z b) H):dP P w K mg base j (k+ 1) a fd f sp:=by
 let⟨q,u,kV,doc,pm,r,g,ct,m,rfl,lk,i⟩:=F.ex;let e:g=↑c:=hc;subst e;rwa[AO lk i S len λA outer s H b Q E o h=>?_]
 let⟨t,n,l⟩:=d A outer s H b Q E o h;rwa[t,n.uA,l]
structure LamAt (K:Za1)(fd:FuncData)(c Pt:Zs):Prop where
 code:fd.code=↑c
 hd:codeHdIn K c Pt=true
 no:K.lookup Pt=none
def Mp {l:PySem.W.OpenLaw}{k:Nat}{loose:Zp}{XP:(Str->Zl)->Heap->Prop}{C:World->Heap->Prop}{d:DefRec}{K:Params->Za1}{CX:World->lH}{sp:World->Sp}(hn:l.most\n)(y:n<=sizeLine)(q:d.params.defaults=[])(hr:cR k callerA)(T:∀(w:World) (h:Heap),C w h->(K w.params).In h/\h.get? a\(tabObj #[]))(F:∀(w:World) (g:Str->Zl) (j:Zs) (h:Heap),(K w.params).In h->h.Ns mainGlobals g->g d.name\↑j->∃fd:FuncData,(∃fd2 c,LamAt (K w.params) fd2 c a)/\(∀(s:Zu) (u:Zt),BindsTo s fd ⟨[u],[]⟩ [(x,u)])/\∀base:Heap,(K w.params).In base->base.Ns mainGlobals g->kS g base->dP l.prog w (K w.params) g base (CX w) k j fd [x] (sp w))(A:∀(w:World) (H:Hp) (b:Zs) (ns:Zg),⇑ns<=n->H a\(.fU #[])->aF (K w.params) H b (ns.map V.int)->sp w [↑b] H (λv _=>v=.bl true) λ_ _ _=>False)(t:∀(w:World) (H:Hp) (s:Zu) (e:Zt) (m:Zu),CX w [] H s (λ_ _ _=>False) e m->False):
 PySem.W.WalkO P loose XP C l.row.toRowW d [] (λf D=>PySem.call f D):=by
 rwa[Att.Ed hn q λw B s g mb j o pm cd doc b D ns G Y ho hd hcd z i hints hlen L=>?_]
 let⟨p,hP⟩:=T w _ Y;let⟨fd,⟨fd2,c,E⟩,J,S⟩:=F w g j _ p G.T.g z;let⟨I,r,_,_,_,_,_,_,_,Z,M,g3,W,_⟩:=PySem.W.codeHd_of_K p E.hd;let hB:kS g s.heap:=let ⟨X,N,a1,a2,O,U,R,a6⟩:=G.T.bmain;⟨X,N,a1,O,⟨U,R,a6⟩,a2⟩
 rwa[Jt p G.T.g G.T.b G.T.builtins G.T.nolimit L i hints (ajO hlen y) hr S hB J hP E.no ⟨c,I,r,Z,M,g3,W⟩ (λH Q hS=>A w H b ns hlen Q hS) λH e m=>t w H s e m]
namespace Lr
def Ut:typeLookup (.type "list_reverseiterator") "__len__"=pure none:=by kernel_rfl
def Q7:typeLookup (.type "list_reverseiterator") "__length_hint__"=pure (some (.builtin "list_reverseiterator.__length_hint__")):=by kernel_rfl
variable {prog:Program}{w:World}{A:Around}{E:Zt->Zu->Prop}{s:Zu}{it l:Zs}{items:Zm}
def hint {Q:Bool->Zu->Prop}(hm:s.heap.IsRevIter it l z)(h:Q false s):(prog<|>w) A (Builtin.List.listLengthHint ↑it) Q E s:=by
 rwa[ajx (wpAny_specialOf hm.typeIs Ut ?_)];rwa[ajx (wpAny_specialOf hm.typeIs Q7 ?_)];generalize c:("list_reverseiterator.__length_hint__":String)=d
 wp_delta
 subst c;rwa[ajx (wpAny_isInstance (T:="list_reverseiterator") (b:=true) hm.typeIs (by kernel_rfl) ?_)];rwa[amK (λa=>absurd a ⋯) (λ_=>?_)];rwa[amK (λ_=>?_) (λa=>absurd ⋯ a)];rwa[ajG h]
theorem extend {R:Result->Zu->Prop}(z:A.handled=none)(hit:s.heap.IsRevIter it l ((items.size:Int) - 1))(y:s.heap.IsList l items)(k:l≠it)(hlen:items.size<=sizeLine)(S:Zs)(n:S≠it)(x:S≠l)(res:Zt)(g:Nat)(D:s•S\("list">>>.seq #[] g))(G:∀g1 t a d,(∀b o,b≠S->b≠it->s•b\o->g1.get? b\o)->g1.get? S\{ cls:=.type "list",dict:=none,data:=.seq a d,slots:=#[] }->ItemsOf (λi v=>items[items.size - 1 - i]?\v) a items.size->R (.ok (.ret res)) { s with heap:=g1,toks:=t }):
 (prog<|>w) A.in1 (Builtin.List.listExtendWith ↑S ↑it res)
  (λfin c=>match fin with|.done f=>R (.ok f) c|.again d=>d.quiet=true/\codeAny (model prog w) A d R c) (λe c=>R (.error e) c) s:=by
 rwa[ajx (alW (T:="list_reverseiterator") hit.typeIs ?_)];let u:Builtin.List.listSameRef ↑S ↑it=false:=by simp[Builtin.List.listSameRef,n]
 let r:(Value.type "list_reverseiterator"==Value.type "list")=false:=⋯
 let B:(Value.type "list_reverseiterator"==Value.type "tuple")=false:=⋯
 simp only[u,r,B,Bool.or_false,amJ,amZ];rwa[ajx (wpAny_pyIter_revIter hit ?_)];rwa[ajx (akz (hint hit ?_))];let W:=(Walks.listRev (prog:=prog) (w:=w) (A:=A.in1) z it l k items).toS
 let m:S∉[it,l]:=λI=>by cbv
 rwa[ajG ⟨al0 F.plain_extend_loop _,5⟩];rwa[codeAny_extend_loopS W hlen S m res items.size 0 _ #[] _ rfl (aj8 _) ⟨aj8 _,by simpa using hit,y⟩ D (ItemsOf.nil _) λc a d h p j=>?_]
 rw[Moved.eq_with h];rwa[G c.heap c.toks a d (λb o H C e=>h.heap b o (λq=>?_) e) p j]
 cbv
def init {R:Result->Zu->Prop}(B:A.handled=none)(hit:s.heap.IsRevIter it l ((items.size:Int) - 1))(z:s.heap.IsList l items)(n:l≠it)(hlen:items.size<=sizeLine)(S:Zs)(h:S≠it)(j:S≠l)(C:s•S\("list">>>.seq #[]))(D:∀g1 p a g,(∀b o,b≠S->b≠it->s•b\o->g1.get? b\o)->g1.get? S\{ cls:=.type "list",dict:=none,data:=.seq a g,slots:=#[] }->ItemsOf (λi v=>items[items.size - 1 - i]?\v) a items.size->R (.ok (.ret .none)) { s with heap:=g1,toks:=p }):
 (prog<|>w) A.in1 (Builtin.«list.__init__» ⟨[↑S,↑it],[]⟩)
  (λfin m=>match fin with|.done f=>R (.ok f) m|.again g=>g.quiet=true/\codeAny (model prog w) A g R m) (λe m=>R (.error e) m) s:=Dk.zp C λx c u d=>extend (s:=(s<*x)) B (hit.at λo e=>d _ o h.symm e) (z.at λo e=>d _ o j.symm e) n hlen S h j .none _ u λg1 p a g y q k=>D g1 p a g (λb o t r e=>y b o t r (d b o t e)) q k
theorem call (z:A.handled=none)(hit:s.heap.IsRevIter it l ((items.size:Int) - 1))(q:s.heap.IsList l items)(g:l≠it)(hlen:items.size<=sizeLine)(x:∀g1 j a h,(∀b o,b≠it->s•b\o->g1.get? b\o)->g1.get? ↥s\{ cls:=.type "list",dict:=none,data:=.seq a h,slots:=#[] }->ItemsOf (λi v=>items[items.size - 1 - i]?\v) a items.size->Q ↑↥s { s with heap:=g1,toks:=j }):
 (prog<|>w) A (PySem.call (.type "list") [↑it]) Q E s:=by
 rwa[callType_codes (Q₁:=λobj c=>obj=↑↥s/\c={ s with heap:=s.heap.push ("list">>>.seq #[]) }) F.called_list (F.typeCall_list_1 _) F.entry_list_init (code_list_new _ ⟨22⟩) λobj c d=>?_]
 let⟨rfl,rfl⟩:=d;let t:(s.heap.push ("list">>>.seq #[])).get? ↥s\("list">>>.seq #[]):=ajP _ rfl;let p:it<↥s:=let ⟨o,m,_⟩:=hit;ajR m
 let k:l<↥s:=let ⟨o,m,_⟩:=q;ajR m
 rwa[⟨⟨_,t,2⟩,F.args_list_init_2 _ _,init (A:=A.in1) (s:={ s with heap:=s.heap.push ("list">>>.seq #[]) }) z (hit.at λo e=>ajB _ e) (q.at λo e=>ajB _ e) g hlen _ (akP p) (akP k) t λg1 j a h y n f=>?_⟩];rwa[2,x g1 j a h (λb o u e=>y b o (aj9 (ajR e)) u (ajB _ e)) n f]
end Lr
variable {X:Cx}{a e:Expr}{ta:TA}{p p2 pos ym:Pos}
def Mq (K:Za1)(ta:TA):TE:=λ d H Q=>ta d H λc b=>∃(l:Zs)(ys:Zb),c=[↑l]/\aF K b l ys/\∀D,b D=none->Q ↑D (upd b D (.lst ys.reverse))
def Mr {ys:Zb}{acc:Zm}(d:Vals ys N)(h:ItemsOf (λi v=>N.toArray[N.toArray.size - 1 - i]?\v) acc N.toArray.size):acc.toList=N.reverse:=by
 let f:acc.size=⇑N:=by simpa using h.1
 rwa[alf λi=>?_]
 cases c:i<⇑N
 ·let e:acc[i]?\(acc[i]'∅):=Array.getElem?_eq_getElem ∅
  let b:=h.2 i _ e;rw[ak4,e,List.getElem?_reverse c];simpa using b.symm
 ·rw[ak4,Array.getElem?_eq_none ∅,akg (by rw[List.length_reverse];omega)]
theorem si:∀{ys:Zb}{b:Zk},Vals ys b->Vals ys.reverse b.reverse
 |_,_,.nil=>.nil
 |_,_,.cons r t=>[List.reverse_cons,List.reverse_cons]▸(si t).append (.cons r .nil)
theorem G4 [L:eT X K](S:X.calm=true)(R:Gl X "list")(N:X.mg "list"=none)(W:Gl X "reversed")(P:X.mg "reversed"=none)(ha:PA X [a] ta)(hs:starEach [a] X.env=[(false,eval a X.env)])(y:starEach [.Call (.Name "reversed" p) [a] [] pos] X.env=[(false,eval (.Call (.Name "reversed" p) [a] [] pos) X.env)]):PE X (.Call (.Name "list" p2) [.Call (.Name "reversed" p) [a] [] pos] [] ym) (Mq K ta):=by
 cases L.eq;intro i s O H Q I h;rwa[akH (gJ I R N boot_list ?_)];rwa[aks ?_ y rfl];rw[y];show wpAny _ _ (spliced ((false,eval (.Call (.Name "reversed" p) [a] [] pos) X.env)::backTo ym [])) _ _ s;rwa[akw ?_];rwa[Call_ (gJ I W P boot_reversed (aks (bq (ha pos i s O H _ I h) λus s1 ζ=>?_) hs rfl))];let⟨vs,C,k,V,q1⟩:=ζ;let⟨l,ys,e,Z,q⟩:=q1;subst e;let⟨u,rfl,ru⟩:=vals1 V;ext ru;let⟨g,G,pl,hz⟩:=k.list Z;let hl:=⇑G;let t:∀b o,s1•b\o->(s1.heap.push (revObj l ((g.toArray.size:Int) - 1))).get? b\o:=λb o e=>ajB _ e
 let E:l<↥s1:=let ⟨o,ho,_⟩:=pl.isList;ajR ho
 let w:=wD k (ajE ↥s1);rwa[call_reversed_list pl.isList (ak2 ?_)];let I2:Inv X i O C { s1 with heap:=s1.heap.push (revObj l ((g.toArray.size:Int) - 1)) }:=k.kept (t':=s1.toks) t;rwa[Lr.call (s:={ s1 with heap:=s1.heap.push (revObj l ((g.toArray.size:Int) - 1)) }) (I.ok.hd S) ⟨_,ajP _ rfl,22⟩ (pl.isList.at λo e=>t^e) (aj9 E) (by rw[ajT];omega) λM B acc c Y U x=>?_]
 let r:=Mr G x;let F:Inv X i O C { s1 with heap:=M,toks:=B }:=I2.turned (t':=B) (λb o j e=>Y b o j e) w.none w.loc (.inr w.new) w.cell w.pin;let J:(s1.heap.push (revObj l ((g.toArray.size:Int) - 1))).objs.size=↥s1+ 1:=ali ..;generalize hD:(s1.heap.push (revObj l ((g.toArray.size:Int) - 1))).objs.size=D at U J ⊢;let f:C D=none:=k.aU.fresh ∅;let A:=wD k (b:=D) ∅;let nD:∀{b:Zs},b∉[D]->b≠D:=λj z=>j (by simp[z])
 refine⟨↑D,upd C D (.lst ys.reverse),Inv.step (s:={ s1 with heap:=M,toks:=B }) F (h':=M) (t':=B) (g':=s1.gens) (d':=s1.drawn) (ch:=[D]) (λb j=>[ajF.mp j]▸⟨.inr A.new,A.loc,A.cell,A.pin⟩) (λb o _ _ _ e _=>e) (λb o _ _ _ e _=>⟨o.slots,e⟩) (λb o S _ n=>[ao (nD S)]▸n) (λb o _ e=>⟨o,e⟩)
  (λb xs e=>[ao (aw e f)]▸e) (λb o u e=>[ao (aw e f)]▸e) (λb ps e=>⟨#[],by rw[ao (aw e f),e];simp⟩) (λm P=>P) (λb u e=>?_) F.bare,2,q D f⟩
 ·cases j:b=D
  ·subst j;rw[aj]at e;ext e;erw[[List.length_reverse]▸hz,g.reverse,c,si G];rw[<-r,Array.toArray_toList];rwa[U]
  ·rw[ao j]at e;rwa[(F.aU b u e).fO (λd v _ q=>q) (λd q=>[ao (aw q f)]▸q) λd xs q=>[ao (aw q f)]▸q]
def BR (d c:TE):TE:=λ b H Q=>d b H Q\/c b H Q
def wF {c:TE}(g:PE X e r)(f:PE X e c):PE X e (BR r c):=λb s d H Q I h=>h.elim (g b s d H Q I) (f b s d H Q I)
def Uu (C:Zs):TE:=λ_ H Q=>∀x d,H x=none->H d=none->d≠x->Q ↑x (upd (upd H d (.own x)) x (.ins C d []))
def vo (d:makesIn X.K b=true)(n:findIn X.K ↑b "__init__"=some (some (.builtin "object.__init__")))(kp:keepIn X.K ↑b=true)(j:Gl X x)(q:X.mg x\↑b)(f:(x==("__debug__":Str))=false:=by decide):PE X (.Call (.Name x p) [] [] pos) (Uu b):=by
 intro g s r H Q I h;rwa[akH (kI I j q ?_ f)];rwa[PySem.W.callWith_K0 I.dQ kp (al7 ?_)];let l:=Inv.made (C:=b) I;let k:=h (↥s+ 1) ↥s (I.aU.fresh (amT _)) (I.aU.fresh (ajE _)) (aj9 (akZ _));let Y:=makes_of (M:=model X.prog X.w) I.dQ d;rwa[Ij I.dQ d n (λself=>PySem.W.Looks.of_pure (PySem.W.oi_bind self)) ?_]
 let m:((s.heap.push emptyDict).push (instObj b ↥s)).get? (↥s+ 1)\(instObj b ↥s):=by
  have:=ajP (s.heap.push emptyDict) (o:=instObj b ↥s) rfl
  rwa [ali]at this
 let t1:PySem.W.Looks (model X.prog X.w) ((s.heap.push emptyDict).push (instObj b ↥s)) (typeOf ↑(↥s+ 1)) ↑b:=(PySem.W.Looks.ld m).andThen .now;let i:PySem.W.Looks (model X.prog X.w) ((s.heap.push emptyDict).push (instObj b ↥s)) (isInstance ↑(↥s+ 1) (.type "object")) true:=t1.andThen (Y.top.keeps λc o e=>ajB _ (ajB _ e));rwa[ala PySem.W.oi_plain PySem.W.entry_oi (@PySem.W.check_slot (model X.prog X.w) _ _ _ "object.__init__" "object" "__init__" ↑(↥s+ 1) [] [] _ PySem.W.oi_kind PySem.W.oi_split i (PySem.W.oi_args ↑(↥s+ 1)) ?_)];rwa[ajG (And.intro rfl ⟨↑(↥s+ 1),_,l,rfl,k⟩)]
inductive X1 (K:Za1)(xs:Zb)(H:Hp)(Q:VK):Prop
 |mk (x:V)(D:Zs)(t:Zt)(b:Bool):xs=[x,↑D]->j8 K H x t->kitOne K t ↑D\b->Q (.bl b) H->X1 K xs H Q
end L2
namespace L2
def nm (E:Zh)(c:Nat):Nat:=E.getD c 0
def qV (R:Za2)(E:Zh)(a:Nat)(z:Int)(b:Nat):Prop:=∃c d,R c z d/\nm E c=a/\nm E d=b
def gE (x y a:Nat):Nat:=if a=y then x else a
def wG (h:n<m)(E:Zh)(c:Nat):nm (E.map (gE n m)) c=gE n m (nm E c):=by
 unfold nm;rw[ajH,ajH,aj0]
 cases E[c]? with
 |some x=>rfl
 |none=>show 0=gE n m 0;unfold gE;rw[ajY ∅]
def Ms (u v:Nat)(W:Za2)(a:Nat)(z:Int)(b:Nat):Prop:=∃c d,W c z d/\gE u v c=a/\gE u v d=b
inductive One (ws:Za3)(nr:Nat):Zh->(Za2)->Dt->Zh->(Za2)->Prop
 |meet {E:Zh} {W:Za2} {c u v:Nat} {z:Int}:u<v->E[u]?\u->E[v]?\v->W c z u->W c z v->One ws nr E W (fS c z u v) (E.map (gE u v)) (Ms u v W)
 |rule {E:Zh} {W:Za2} {which k c d:Nat} {word:Zg} {p:Zh} {z:Int}:ws[which]?\word->⇑p=⇑word+ 1->p[0]?=p[⇑word]?->(which<nr\/p[0]?\0)->(∀x∈p,E[x]?\x)->word[k]?\z->p[k]?\c->p[k+ 1]?\d->(∀(i a b:Nat)(y:Int),i≠k->word[i]?\y->p[i]?\a->p[i+ 1]?\b->W a y b)->One ws nr E W (jX which p k) E (fb W c z d)
inductive Go (ws:Za3)(nr:Nat):Zh->(Za2)->List Dt->Zh->(Za2)->Prop
 |nil {E:Zh} {W W':Za2}:(∀a z b,W a z b↔W' a z b)->Go ws nr E W [] E W'
 |cons {E E1 E2:Zh} {W W1 W2:Za2} {row:Dt} {ms:List Dt}:One ws nr E W row E1 W1->Go ws nr E1 W1 ms E2 W2->Go ws nr E W (row::ms) E2 W2
section
variable {ws:Za3}{nr:Nat}{E E1 E2:Zh}{W W' W1 W2:Za2}{ms ns:List Dt}
def Go.congr (h:Go ws nr E W ms E1 W1):∀{W':Za2},(∀a z b,W' a z b↔W a z b)->Go ws nr E W' ms E1 W1:=by
 induction h with
 |nil e=>exact λh=>.nil λa z b=>(h a z b).trans (e a z b)
 |cons o _ m=>
  intro W' h
  cases o with
  |meet j c l f k=>exact .cons (.meet j c l ((h^_).mpr f) ((h^_).mpr k)) (m λa z b=>by
   constructor
   ·rintro ⟨g,d,q,r⟩;rwa[g,d,(h^_).mp q,r]
   ·rintro ⟨g,d,q,r⟩;rwa[g,d,(h^_).mpr q,r])
  |rule j c l f k v p u w=>exact .cons (.rule j c l f k v p u λi a b y n x s t=>(h^_).mpr (w i a b y n x s t)) (m λa z b=>by unfold fb;rw[h])
def Go.app (h:Go ws nr E W ms E1 W1):∀{E2:Zh}{W2:Za2}{ns:List Dt},Go ws nr E1 W1 ns E2 W2->Go ws nr E W (ms++ns) E2 W2:=by
 induction h with
 |nil e=>exact λg=>g.congr e
 |cons o _ a=>exact λg=>.cons o (a g)
end
def Q8 (h:n<m)(a:Nat)(z:Int)(b:Nat):Ms n m (qV R B) a z b↔qV R (B.map (gE n m)) a z b:=by
 constructor
 ·rintro ⟨g,i,⟨e,c,r,rfl,rfl⟩,d,f⟩;rwa[e,c,r,by rw[wG h,d],by rw[wG h,f]]
 ·rintro ⟨e,c,r,d,f⟩;rwa[11,⟨e,c,r,22⟩,by rw[<-wG h,d],by rw[<-wG h,f]]
section
variable {ws:Za3}{nr:Nat}{S S':RS}{pend:Ze}{R:Za2}{ks:Zg}
def qq {S:RS}(wf:S.Wf){c:Nat}(a:c<S.q):S.aV[c]?\(S.ax c):=by unfold RS.ax;rw[ajH,ajz ([wf.e]▸a)];rfl
def Uv (l:kQ S pend S'):Good S pend R->(∀c z d,R c z d->z∈ks)->∃e,S'.rows=S.rows++e/\Go ws nr S.aV (qV R S.aV) e S'.aV (qV R S'.aV):=by
 induction l with
 |nil S=>exact λ_ _=>⟨[],(akb _).symm,.nil λ_ _ _=>Iff.rfl⟩
 | @take S S' pend w _ F=>
   intro g r;let⟨g1,_,t,_,q⟩:=g.take r;let⟨e,A,p⟩:=F g1 r;rcases q with ⟨_,j,C⟩|⟨_,c,z,x,y,v,h,E,G,m,j,_,B⟩
   ·rw[uH C]at p;rwa[e,by rw[A,j],p]
   ·let⟨_,o,_,ex⟩:=g.st _ _ _ v;let f:min x y<max x y:=by rcases Nat.lt_or_gt_of_ne m with q|q <;> ext
    let D:(S.takeIn pend w).1.aV=S.aV.map (gE (min x y) (max x y)):=by
     rwa[alf λi=>?_]
     rw[aj0];cases u:i<S.q
     ·rw[qq g1.wf ([t]▸u),qq g.wf u,B];rfl
     ·rw[akg (by rw[g1.wf.e,t];omega),akg (by rw[g.wf.e];omega)];rfl
    let ix:qV R S.aV c z x:=g.so _ _ _ v;let h:qV R S.aV c z y:=h;let n:=qq g.wf o;let k:=qq g.wf E;rw[ex]at n;rw[G]at k;rwa[⟨fS c z (min x y) (max x y)::e,by rw[A,j,akl];rfl,.cons (.meet f ?_ ?_ ?_ ?_) ((D ▸ p).congr λa s b=>Q8 f a s b)⟩]
    ·rcases am1 x y with q|q
     ·rw[alD q];rwa[n]
     ·rw[ams q];rwa[k]
    ·rcases am1 x y with q|q
     ·rw[amt q];rwa[k]
     ·rw[amL q];rwa[n]
    ·rcases am1 x y with q|q
     ·rw[alD q];rwa[ix]
     ·rw[ams q];rwa[h]
    ·rcases am1 x y with q|q
     ·rw[amt q];rwa[h]
     ·rw[amL q];rwa[ix]
theorem sj {c:Nat->Int->Zi}:∀{w:Zg}{r e:Nat},wk c r w\e->⇑(r::cG c r w)=⇑w+ 1/\(r::cG c r w)[⇑w]?\e/\∀(i:Nat)(y:Int),w[i]?\y->∃a b,(r::cG c r w)[i]?\a/\(r::cG c r w)[i+ 1]?\b/\c a y\b
 |[],r,e,h=>by rwa[⟨2,by rw[<-Za0 h];rfl,λi y q=>by simp at q⟩]
 |z::w,r,e,h=>by
  let⟨d,f,j⟩:=mY h;let⟨g,k,l⟩:=sj j;rw[om f];rwa[⟨by rw[aj1,g];rfl,k,λi y q=>?_⟩]
  cases i with
  |zero=>rwa[r,d,22,by rw[<-Za0 q];rwa[f]]
  |succ i=>exact l i y q
theorem vp (g:Good S [] R):∀{w:Zg}{r e:Nat},wk S.by r w=some e->S.aV[r]?\r->∀x∈r::cG S.by r w,S.aV[x]?\x
 |[],r,e,h,b,x,a=>by rw[ajF.mp a];rwa[b]
 |z::w,r,e,h,b,x,a=>by
  let⟨d,c,i⟩:=mY h;rcases ajS.mp a with rfl|a
  ·rwa[b]
  ·rw[om c]at a;let⟨_,f,_,j⟩:=g.st _ _ _ c;have:=qq g.wf f;rw[j]at this;rwa[vp g i this x a]
def Mt (f:nm B n=n)(e:nm B m=m)(a:Nat)(y:Int)(b:Nat):fb (qV R B) n z m a y b↔qV (fb R n z m) B a y b:=by
 constructor
 ·rintro (⟨g,h,r,c,d⟩|⟨rfl,rfl,rfl⟩|⟨rfl,rfl,rfl⟩)
  ·rwa[g,h,.inl r,c,d]
  ·rwa[11,.inr (.inl ⟨222⟩),f,e]
  ·rwa[11,.inr (.inr ⟨222⟩),e,f]
 ·rintro ⟨g,h,r|⟨rfl,rfl,rfl⟩|⟨rfl,rfl,rfl⟩,c,d⟩
  ·rwa[.inl ⟨g,h,r,c,d⟩]
  ·rwa[.inr (.inl ⟨c.symm.trans f,2,d.symm.trans e⟩)]
  ·rwa[.inr (.inr ⟨c.symm.trans e,2,d.symm.trans f⟩)]
def Mu {start:Nat}{word:Zg}(g:Good S [] R)(c:BK ws nr S n word start m i j z):One ws nr S.aV (qV R S.aV) (jX n ((start::cG S.by start (word.take m))++(j::cG S.by j (word.drop (m+ 1)))) m) S.aV (fb (qV R S.aV) i z j):=by
 let H:m<⇑word:=(ajy.mp c.hz).1;let⟨d,B,G⟩:=sj c.f;let⟨v,C,D⟩:=sj c.r;let lt:⇑(word.take m)=m:=by rw[ake];ext
 let ld:⇑(word.drop (m+ 1))=⇑word - (m+ 1):=akx ..;rw[lt]at d B;rw[ld]at v C;let u:=qq g.wf c.s.1;rw[c.s.2]at u;let t:=qq g.wf c.hd.1;rw[c.hd.2]at t;let left:∀h,h<=m->((start::cG S.by start (word.take m))++(j::cG S.by j (word.drop (m+ 1))))[h]?=(start::cG S.by start (word.take m))[h]?:=λh A=>ajM (by rw[d];omega)
 let right:∀h,((start::cG S.by start (word.take m))++(j::cG S.by j (word.drop (m+ 1))))[m+ 1+ h]?=(j::cG S.by j (word.drop (m+ 1)))[h]?:=λh=>by
  rw[ajN (by rw[d];omega),d]
  congr 1
  ext
 rwa[.rule c.w (by rw[ajC,d,v];omega) ?_ ?_ (λx k=>?_) c.hz ?_ ?_ λh a b y A w o l=>?_]
 ·rw[left 0 ∅,show ⇑word=m+ 1+ (⇑word - (m+ 1)) by ext,right];rw[C];rfl
 ·rw[left 0 ∅];exact c.n.imp id λe=>by rw[e];rfl
 ·rcases ajK.mp k with k|k
  ·rwa[vp g c.f u x k]
  ·rwa[vp g c.r t x k]
 ·rw[left m (ajE _)];rwa[B]
 ·rw[right 0];rfl
 ·rcases Nat.lt_or_gt_of_ne A with q|q
  ·let⟨F,E,p,s,r⟩:=G h y (by rw[alQ q];rwa[w]);rw[left h ∅,p]at o;rw[left (h+ 1) ∅,s]at l;obtain rfl:=Za0 o;obtain rfl:=Za0 l;rwa[g.so _ _ _ r]
  ·obtain⟨f,rfl⟩:∃f,h=m+ 1+ f:=⟨h - (m+ 1),3⟩;let⟨F,E,p,s,r⟩:=D f y ([List.getElem?_drop]▸w);rw[right,p]at o;rw[show m+ 1+ f+ 1=m+ 1+ (f+ 1) by ext,right,s]at l;obtain rfl:=Za0 o;obtain rfl:=Za0 l;rwa[g.so _ _ _ r]
def AU (t:Tr ws nr S S')(C:∀w∈ws,∀z∈w,z∈ks/\-z∈ks):Good S [] R->iG S->(∀a z b,R a z b->z∈ks)->∃p,Good S' [] p/\iG S'/\(∀a z b,p a z b->z∈ks)/\∃j,S'.rows=S.rows++j/\Go ws nr S.aV (qV R S.aV) j S'.aV (qV p S'.aV):=by
 induction t with
 |refl=>exact λg w k=>⟨R,g,w,k,[],(akb _).symm,.nil λ_ _ _=>Iff.rfl⟩
 |step _ f u F=>
  rename_i l H h word start m c d z _;intro g x k;let⟨D,g1,n,v,j,E,o⟩:=F g x k;let s:=C word (ajA f.w) z (ajA f.hz)
  let i:∀a y b,fb D c z d a y b->y∈ks:=by
   rintro a y b (r|⟨_,e,_⟩|⟨_,e,_⟩)
   ·rwa[v _ _ _ r]
   ·rw[e];rwa[s.1]
   ·rw[e];rwa[s.2]
  let gl:=g1.lay z f.hc.1 f.hd.1 (l.rows++[jX h ((start::cG l.by start (word.take m))++(d::cG l.by d (word.drop (m+ 1)))) m]);let⟨A,G,_⟩:=u.all gl i ⟨n.a,n.b,n.c⟩;let⟨q,B,go2⟩:=Uv (ws:=ws) (nr:=nr) u gl i;rwa[⟨_,A,G,i,j++(_::q),5,o.app (.cons (Mu g1 f) (go2.congr λa y b=>Mt f.hc.2 f.hd.2 a y b))⟩];rw[B];show (l.rows++[_])++q=_;rw[E,akl,akl];rfl
end
def YK (a:Program)(w:World)(A:Around)(env:Env):Zr->(Bool->Zu->Prop)->Zu->Prop
 |[],K,s=>K true s
 |c::_,K,s=>(a<|>w) A (isTrue c env (eval c env)) K (λ_ _=>False) s
def BU {R:Result->Zu->Prop}{elt target iter:Expr}{cs:Zr}{scope:Scope}{it acc:Zt}{env:Env}(y:⇑cs<=1)(I:Nat->Zu->Prop)(turn:∀n s,I n s->(P<|>w) A (pyNext it) (λr f=>match r with
  |none=>R (.ok .next) f
  |some v=>(P<|>w) A (letOwnedTupleGo target it v) (λ_ j=>(P<|>w) A (assign target env v) (λ_ l=>YK P w A env cs (λb k=>
   match b with
   |true=>(P<|>w) A (eval elt env) (λx d=>(P<|>w) A (call (.builtin "list.append") [acc,x]) (λ_ i=>∃m,m<n/\I m i) (λ_ _=>False) d) (λ_ _=>False) k
   |false=>∃m,m<n/\I m k) l) (λ_ _=>False) j) (λ_ _=>False) f) (λ_ _=>False) s)(n:Nat)(h:I n s):codeAny (model P w) A (.compLoop (.ListComp elt [⟨target,iter,cs,(0)⟩] scope p) 0 it acc env) R s:=by
 rwa[codeAny_loop rfl I (λn s u=>wpAny_noted ?_) n h];rcases cs with _|⟨c,_|_⟩;rw[compTurn_list1]
 rotate_left 2
 cbv
 all_goals
  rwa[ajx (amE (ajx (akM (turn n s u) (λr f g=>?_) λ_ _ e=>e.elim)))]
  cases r with
  |none=>exact ajG g
  |some v=>
   rwa[ajx (akM g (λ_ j t=>ajx (akM t (λ_ l a=>?_) λ_ _ e=>e.elim)) λ_ _ e=>e.elim)]
   try rwa[ajx (wpAny_tests_one (akM a (λok d a=>?_) λ_ _ e=>e.elim))];ext ok;rwa[ajG ⟨2,a⟩]
   rwa[ajx (ajx (akM a (λx d q=>ajx (akM q (λ_ i o=>ajG (ajG ⟨2,o⟩)) λ_ _ e=>e.elim)) λ_ _ e=>e.elim))]
def Oo (X:Cx):Zr->TT->Prop
 |[],a=>a=λ_ H Q=>Q true H
 |c::_,a=>PT X c a
def Q9 {e:TT}{Q:Bool->Hp->Prop}{K:Bool->Zu->Prop}(h:Oo X C e)(i:X.xe=λ_ _=>False)(I:Inv X o D H s)(q:e D H Q)(k:∀b a d,Inv X o D d a->Q b d->K b a):YK X.prog X.w X.A X.env C K s:=
 match C,h with
 |[],h=>by rw[h]at q;rwa[k true s H I q]
 |c::_,h=>by have:=h o s D H Q I q;rw[i]at this;rwa[bq this λb a ζ=>?_];let⟨d,f,g⟩:=ζ;rwa[k b a d f g]
section
variable {X:Cx}{elt iter wx:Expr}{x:Str}{px pos:Pos}{scope:Scope}{cl:List (Str×Zs)}{fns:Zp}{ixs:Zh}{wi:TI}{tt:TT}{te:TE}
theorem zD {cs:Zr}{use:Option (Zt->Sem Unit)}{RQ:Zt->Zu->Prop}{Q:VK}(hl:⇑cs<=1)(hc:X.calm=true)(hi:PI X (.Name x px) iter wi)(S:gZ X x fns ixs scope cl)(ht:∀(C:Zs) (s:Zu) (H:Hp) (ex:Zn),Oo (dU X (x::fns) scope cl C s H ex) cs tt)(he:∀(C:Zs) (s:Zu) (H:Hp) (ex:Zn),PE (dU X (x::fns) scope cl C s H ex) elt te)(hs:∀x,foldedSetIterable iter X.env x=pure x)(I:Inv X o D H s)(h:o9 wi (jm ixs) tt te D H Q)(fin:∀(C k:Zs) (H3:Hp) (ys:Zb) (s4:Zu) (m:Str->Zl),s4.heap.Ns C m->(∀G,Heap.SameBut C s4.heap G->Inv X o D (upd H3 k (.lst ys)) (s4<*G))->upd H3 k (.lst ys) C=none->X.env.locals≠C->(∀z c,X.env.cells.lookup z\c->c≠C)->X.e8.heap.objs.size<=C->(∀g∈X.pn++o,g.1≠C)->Q ↑k (upd H3 k (.lst ys))->compPost (model X.prog X.w) X.A X.xe use RQ ↑k C (.ok .next) s4):
 X⁻¹ X.A (comprehension (.ListComp elt [⟨.Name x px,iter,cs,(0)⟩] scope pos) scope X.env p (newList []) false (eval iter X.env) use) RQ X.xe s:=by
 rwa[wpAny_comprehension_free rfl hs S.abY S.kind S.names (bq (hi o s D H _ I h) λv s1 h1=>bq h1 λitv s2 h2=>?_)];let⟨it,Y,tn,J,H2,e,A,T,BO,f2,W,⟨m0,w0⟩,turn⟩:=h2;subst e
 let E:∀b∈Y,b<↥s2:=λb t=>by let⟨f,ho,_⟩:=T.obj _ _ BO b t;rwa[ajR ho]
 rwa[aku (wpAny_newFunctionEnv S.cell (by intro y hy;simp at hy) (λMv O N=>?_) S.kind)];generalize BV:s2.heap.push { cls:=.type "list",dict:=none,data:=.seq ([]:Zk).toArray }=F at O N ⊢;generalize hD:↥s2=k at E ⊢;let hC:F.objs.size=k+ 1:=by rw[<-BV,ali,hD]
 generalize hCe:F.objs.size=C at hC O N ⊢;let w:k<C:=∅
 let Ju:k≠C:=aj9 w;let L:∀b u,s2•b\u->F.get? b\u:=λb u q=>by rw[<-BV];rwa[ajB _ q]
 let Oq:∀{b u},s2•b\u->b<k:=λq=>by rw[<-hD];rwa[ajR q]
 let U:∀b u,F.get? b\u->Mv.get? b\u:=λb u q=>N.extBut b u (aj9 (aj7 (ajR q) (amy hCe))) (ajB _ q)
 let hDo:F.get? k\{ cls:=.type "list",dict:=none,data:=.seq ([]:Zk).toArray }:=by rw[<-BV,<-hD];rwa[ajP _ rfl]
 let I3:Inv X o D H2 (s2<*F):=A.kept (t':=s2.toks) L;let Ot:H2 k=none:=A.aU.fresh ∅;let hnC:H2 C=none:=A.aU.fresh ∅
 let Mw:∀b∈k::Y,b∉c9 X.stack:=λb t z=>by
  rcases ajS.mp (A.A1 b z) with e|z
  ·rcases ajS.mp t with Z|t
   ·rwa[absurd A.lt (by rw[<-e,Z,<-hD];rwa[akX _])]
   ·rwa[(f2 b t).2.1 e]
  ·rcases ajS.mp t with Z|t
   ·rwa[A.Gr (by rw[Z,<-hD];rwa[ajE _]) z]
   ·rwa[(f2 b t).2.2.1 z]
 let ml:∀y c,cl.lookup y\c->∀b∈k::Y,c≠b:=λy c q b t z=>by
  let⟨v,hv⟩:=A.cell y c (S.sub y c q);rcases ajS.mp t with Z|t
  ·rwa[absurd hv.lt (by rw[z,Z,<-hD];rwa[akX _])]
  ·rwa[(f2 b t).2.2.2.2.1 y c (S.sub y c q) z]
 let' R:Cx:=dU X (x::fns) scope cl C (s2<*F) H2 (k::Y)
 let ok:R.Ok:={
  mod:=A.ok.mod
  kind:=S.kind
  glob:=A.ok.glob
  blt:=A.ok.blt
  above:=by show F.objs.size<=C;ext
  inj:=λy z c q1 q2=>A.ok.inj y z c (S.sub^q1) (S.sub^q2)
  has:=S.has
  A0:=λy c q=>nomatch q
  hd:=A.ok.hd
  frames:=A.ok.frames
  EV:=.inl rfl
  ND:=λb t=>⟨by
   rcases ajS.mp t with Z|t
   ·rw[Z];rwa[Ju]
   ·rwa[aj9 (amC (E b t) w)],λy c q=>ml y c q b t⟩
  bs:=I3.bs
  rP:=ajO I3.ok.rP I3.sz
  uZ:=λb f q t=>by
   rcases ajS.mp t with Z|t
   ·rwa[absurd (Oq (A.bs b f q).1) (by rw[Z];rwa[akX _])]
   ·rcases (f2 b t).2.2.2.1 with z|z
    ·rwa[A.ok.uZ b f q z]
    ·rwa[absurd (ajR (A.ok.bs b f q).1) (Nat.not_lt.mpr z)]
  x3:=Mw
  jC:=I3.stack
  uz:=I3.oW }
 let start:∀(v0:Zc),v0=none->Inv R [(k,{ cls:=.type "list",dict:=none,data:=.seq ([]:Zk).toArray })] (v0::jm ixs D) H2 { s2 with heap:=Mv,toks:=s2.toks+ ⇑([]:List (Str×Zt)) }:=λv0 hv0=>{
  ok:=ok
  os:=rfl
  bare:=A.bare
  base:=Un.kept U
  loc:=⟨_,O,λi y v e1 Z e3=>by
   cases i with
   |zero=>rw[hv0]at Z;ext Z
   |succ j=>
    let e1':fns[j]?\y:=e1
    let Uw:(jm ixs D)[j]?\(some v):=Z
    let⟨i,hi1,hi2,hk,c,BM,Om⟩:=S.at_ j y e1';unfold jm at Uw;rw[aj0,hi1]at Uw
    let e3':D[i]?\(some v):=by
     let z:(D[i]?).join\v:=Za0 Uw
     cases q:D[i]? with
     |none=>rw[q]at z;ext z
     |some f=>rw[q]at z;rw[show f=some v from z]
    let⟨m,_,hl⟩:=A.loc;let⟨u,r,l⟩:=hl i y v hi2 e3' (hk.elim (λz=>.inr (.inl z)) λz=>.inr (.inr z));rwa[⟨u,r,.inr ⟨Om,c,BM,5⟩⟩];rcases l with ⟨z,_⟩|⟨_,c',Ou,X2⟩
    ·rcases hk with hk|hk <;> cbv
    ·have:c'=c:=Za0 (Ou.symm.trans (S.sub^BM));subst this;let⟨f,ho,hd⟩:=X2;rwa[f,U^L^ho,hd]⟩
  cell:=λy c q=>by let⟨v,f,ho,hd⟩:=A.cell y c (S.sub y c q);rwa[v,f,U^L^ho,hd]
  free:=hnC
  hM:=λy c q=>A.hM y c (S.sub y c q)
  pin:=λg hp=>by
   let Jv:g=(k,{ cls:=.type "list",dict:=none,data:=.seq ([]:Zk).toArray }):=by simpa [R,dU] using hp
   subst Jv;rwa[U^hDo,Ot,Ju,Mw k (ajU ..),λv z=>nomatch z]
  aU:=(A.aU.kept L).kept U
  len:=by show ⇑(v0::jm ixs D)=⇑(x::fns);simp[jm,S.len] }
 let Ux:∀{H':Hp}{P:List (Zs×Obj)},(∀b∈Y,H' b=none)->(∀g∈P,g.1=k)->∀b∈Y,p9 R P H' b:=λ{H' P} hn hp b t=>
  ⟨hn b t,aj9 (amC (E b t) w),Mw b (akc _ t),.inl (akc _ t),λy c q=>ml y c q b (akc _ t),λg q=>by
   let q':g∈P:=by simpa [R,dU] using q
   rw[hp g q'];rwa[akP (E b t)]⟩
 let loop:codeAny (model X.prog X.w) X.A (.compLoop (.ListComp elt [⟨.Name x px,iter,cs,(0)⟩] scope pos) 0 ↑it ↑k (compEnvC scope cl C X.env))
  (compPost (model X.prog X.w) X.A X.xe use RQ ↑k C) { s2 with heap:=Mv,toks:=s2.toks+ ⇑([]:List (Str×Zt)) }:=by
  refine BU hl (λn s'=>∃(i:Nat)(ys:Zb)(M:Zk)(nn:Nat)(v0:Zc)(H':Hp),Inv R [(k,{ cls:=.type "list",dict:=none,data:=.seq M.toArray nn })] (v0::jm ixs D) H' s'/\tn i s'.heap/\(∀b∈Y,H' b=none)/\Vals ys M/\W i n ys H') ?_ m0
   ⟨(0),[],[],(0),none,H2,start none rfl,T.keep _ _ _ BO λb _ f q=>U^L^q,λb t=>(f2 b t).1,.nil,w0⟩
  rintro n s3 ⟨i,ys,M,nn,v0,H3,J3,YL,YM,vv,w3⟩
  let Mx:∀g∈([(k,({ cls:=.type "list",dict:=none,data:=.seq M.toArray nn }:Obj))]:List (Zs×Obj)),g.1=k:=λg hp=>by cbv
  rcases turn i n ys H3 w3 with ⟨stop,hlen,q⟩|⟨go,hlen,step⟩
  ·-- the end
   rwa[bq (T.done R rfl rfl rfl hc i _ s3 _ H3 _ J3 (Ux YM Mx) YL stop) λr s4 ζ=>?_];let⟨hr,J4⟩:=ζ
   subst hr;let⟨m,hn,_⟩:=J4.loc;let⟨gD,nD,_,_,_⟩:=J4.pin (k,{ cls:=.type "list",dict:=none,data:=.seq M.toArray nn }) (by simp[R,dU]);let B:=J4.base
   let inv:∀G,Heap.SameBut C s4.heap G->Inv X o D (upd H3 k (.lst ys)) (s4<*G):=λG hsb=>by
    let kC:∀b u,b≠C->s4•b\u->G.get? b\u:=λb u t q=>(hsb.2 b t).trans q
    let ne:∀{b f},s2•b\f->b≠C/\b≠k:=λq=>⟨aj9 (amC (Oq q) w),aj9 (Oq q)⟩
    let wH:∀{b f},s2•b\f->b∉Y->b∉k::Y:=λq hx z=>(ajS.mp z).elim (ne q).2 hx
    let uu:Un (c9 X.stack) Y H2 (upd H3 k (.lst ys)) s2.heap G:={
     keep:=λb f q n t hx=>kC b f (ne q).1 (B.keep b f (L b f q) n t (wH q hx))
     slot:=λb f q n t hx=>by let⟨sl,e⟩:=B.slot b f (L b f q) n t (wH q hx);rwa[sl,kC b _ (ne q).1 e]
     free:=λb f q n hx=>by rw[ao (ne q).2];rwa[B.free b f (L b f q) n (wH q hx)]
     there:=λb f q hx=>by let⟨o',e⟩:=B.there b f (L b f q) (wH q hx);rwa[o',kC b _ (ne q).1 e]
     iJ:=λb xs q=>by rw[ao (aw q Ot)];rwa[B.iJ b xs q]
     hJ:=λb f xs q=>by rw[ao (aw q Ot)];rwa[B.hJ b f xs q]
     iK:=λb ps q=>by let⟨more,e⟩:=B.iK b ps q;rwa[⟨more,[ao (aw q Ot)]▸e⟩ ]}
    let aU:dS X.prog X.w (upd H3 k (.lst ys)) G:=λb u e=>by
     cases t:b=k
     ·subst t;rw[aj]at e;ext e;rwa[hlen,M,nn,vv,kC _ _ Ju gD]
     ·rw[ao t]at e;refine(J4.aU b u e).fO (λc v hc q=>kC c v ?_ q) (λc q=>[ao (aw q nD)]▸q) λc xs q=>by rw[ao (aw q nD)];rwa[q]
      let fC:H3 C=none:=J4.free
      cbv
    rwa[A.Gs (s':=(s4<*G)) J4.os uu aU J4.bare (λb t=>⟨(f2 b t).2.2.2.1,(f2 b t).2.1,(f2 b t).2.2.2.2.1,(f2 b t).2.2.2.2.2⟩)]
   let ab:∀{b f},s2•b\f->b≠C:=λq z=>absurd (Oq q) ([z]▸Nat.not_lt.mpr (alm w))
   rwa[fin C k H3 ys s4 m hn inv ([ao (akI Ju)]▸J4.free) (λz=>?_) (λz c hz=>?_) (ajO (by have:=A.sz;rw[hD]at this;rwa[this]) (alm w)) (λg hp=>ab (A.pin g hp).1) (q k nD)]
   ·let h1:=A.lt
    cbv
   ·let⟨v,f,ho,_⟩:=A.cell z c hz;rwa[ab ho]
  ·-- a turn
   rwa[bq (T.item R rfl rfl rfl hc i _ s3 _ H3 _ J3 (Ux YM Mx) YL go) λr s4 ζ=>?_];let⟨u,hr,h4⟩:=ζ
   subst hr;rwa[bq h4 λ_ s5 ζ=>?_];let⟨xv,H5,J5,r5,y5,Jw,Jx⟩:=ζ
   let J5':=J5.pinned (Ux Jx Mx) (T.obj^Jw);let hg:PG R (.Name x px) (cZ 0):=EX (X:=R) (i:=0) S.nd rfl (.inl (uF S.own)) (.inr (uF S.own));rwa[bq (hg _ s5 _ H5 xv u (λ fV H'=>fV=some xv::jm ixs D/\H'=H5) J5' r5 ⟨22⟩) λ_ s6 ζ=>?_];let⟨σ6,H6,J6,e6,e6'⟩:=ζ
   subst e6 e6';rwa[Q9 (ht C (s2<*F) H2 (k::Y)) rfl J6 (step xv H6 y5) λbt YN Uy Jy q6=>?_]
   cases bt with
   |true=>
    rwa[bq (he C (s2<*F) H2 (k::Y) _ YN _ Uy _ Jy q6) λyv s7 ζ=>?_];let⟨y,H7,J7,r7,m',Uz,w7⟩:=ζ
    let⟨gD,nD,_,_,_⟩:=J7.pin (k,{ cls:=.type "list",dict:=none,data:=.seq M.toArray nn }) (by simp[R,dU]);let UA:tn (i+ 1) s7.heap:=T.keep _ _ _ Jw λb t f e=>(J7.pin (b,f) (ajI _ (ajI _ (iZ t e)))).1
    let UB:∀b∈Y,H7 b=none:=λb t=>by let⟨f,e,d⟩:=T.obj _ _ Jw b t;rwa[(J7.pin (b,f) (ajI _ (ajI _ (iZ t e)))).2.1]
    let J7':Inv R [] (some xv::jm ixs D) H7 s7:=J7.jL λg hp=>nomatch hp
    rwa[wpAny_list_append_plain (hsz:=by rw[ajT,<-⇑vv];omega) ⟨nn,gD⟩ λh8 pl8 YP=>?_]
    let⟨n8,g8⟩:=pl8
    let J8:Inv R [] (some xv::jm ixs D) H7 (s7<*h8):=J7'.turned (t':=s7.toks) (it:=k) (λb f t e=>(YP.2 b t).trans e) nD (Ju) (.inl (ajU ..))
     (λy c q=>ml y c q k (ajU ..)) (λg hp=>by simp[R,dU]at hp)
    rwa[⟨m',Uz,i+ 1,ys++[y],M++[yv],n8,some xv,H7,J8.jL λg hp=>?_,5,UB,vv.append (.cons r7 .nil),w7⟩]
    ·cbv
    ·rwa[T.keep _ _ _ UA λb t f e=>(YP.2 b (aj9 (E b t))).trans e]
   |false=>
    let⟨m',Uz,w7⟩:=q6;let⟨gD,nD,_,_,_⟩:=Jy.pin (k,{ cls:=.type "list",dict:=none,data:=.seq M.toArray nn }) (by simp[R,dU]);let UA:tn (i+ 1) YN.heap:=T.keep _ _ _ Jw λb t f e=>(Jy.pin (b,f) (ajI _ (ajI _ (iZ t e)))).1
    let UB:∀b∈Y,Uy b=none:=λb t=>by let⟨f,e,d⟩:=T.obj _ _ Jw b t;rwa[(Jy.pin (b,f) (ajI _ (ajI _ (iZ t e)))).2.1]
    rwa[⟨m',Uz,i+ 1,ys,M,nn,some xv,Uy,Jy.jL λg hp=>?_,UA,UB,vv,w7⟩]
    cbv
 rwa[codeAny_compStart_list loop (T.self _ 0 _ _ _ (T.keep _ _ _ BO λb _ f q=>U^L^q) loop)]
def BW {cs:Zr}(e:⇑cs<=1)(k:X.calm=true)(g:PI X (.Name x px) iter wi)(S:gZ X x fns ixs scope cl)(d:∀(C:Zs) (s:Zu) (H:Hp) (ex:Zn),Oo (dU X (x::fns) scope cl C s H ex) cs tt)(j:∀(C:Zs) (s:Zu) (H:Hp) (ex:Zn),PE (dU X (x::fns) scope cl C s H ex) elt te)(f:∀x,foldedSetIterable iter X.env x=pure x):PE X (.ListComp elt [⟨.Name x px,iter,cs,(0)⟩] scope pos) (o9 wi (jm ixs) tt te):=by intro c s o H Q I h;rwa[zD e k g S d j f I h λC D n ys l m i inv _ _ _ _ _ q=>⟨m,i,λa b=>⟨↑D,_,inv a b,2,q⟩⟩]
def uI {cs:Zr}{a:Pos}(L:⇑cs<=1)(P:X.N.Nodup)(i:X.N[n]?\f)(M:Loc X.env.scope f)(T:X.calm=true)(O:PI X (.Name x px) iter wi)(S:gZ X x fns ixs scope cl)(B:∀(C:Zs) (s:Zu) (H:Hp) (ex:Zn),Oo (dU X (x::fns) scope cl C s H ex) cs tt)(R:∀(C:Zs) (s:Zu) (H:Hp) (ex:Zn),PE (dU X (x::fns) scope cl C s H ex) elt te)(N:∀x,foldedSetIterable iter X.env x=pure x)(r:swapsWith (.ListComp elt [⟨.Name x px,iter,cs,(0)⟩] scope pos) (some (.Name f p)) a.line X.env=pure true)(l:X.fn f=true\/X.env.scope.names.lookup f=some .local):PS X (.Assign [.Name f p] (.ListComp elt [⟨.Name x px,iter,cs,(0)⟩] scope pos) a) (x6 (o9 wi (jm ixs) tt te) (cZ n)):=by
 intro d s σ H U I h;rw[exec_Assign_Name_used _ _ _ _ r];rwa[ajx (amE (ajx ?_))];rwa[ajx (akM (zD (RQ:=λ_ w=>SP X d U .next w) L T O S B R N I h λC D Z ys V m Q inv t A z sz J q=>?_) (λ_ w F=>ajG (ajG F)) λ_ _ e=>e)];rwa[wpAny_assign_Name (y4 (inv _ ⟨2,λ_ _=>rfl⟩) P i M (v:=↑D) rfl (λs5 G c=>?_) l)];let⟨y,j,k⟩:=c
 let g:C≠y:=by
  rcases k with e|e
  ·cbv
  ·rwa[akI (z f y e)]
 rwa[⟨m,Q.sameBut j g,λh6 u=>?_⟩];rwa[11,G.turned (t':=s5.toks) (it:=C) (λb o E e=>(u.2 b E).trans e) t (akI A) (.inr sz) z J,q]
def iR (c:X.calm=true)(d:PI X (.Name x px) iter wi)(S:gZ X x fns ixs scope cl)(a:∀(C:Zs) (s:Zu) (H:Hp) (ex:Zn),PE (dU X (x::fns) scope cl C s H ex) elt te)(b:∀x,foldedSetIterable iter X.env x=pure x:=by intro _;rfl):
 PE X (.ListComp elt [⟨.Name x px,iter,[],(0)⟩] scope pos) (N3 wi (jm ixs) te):=BW (cs:=[]) ⋯ c d S (λ_ _ _ _=>rfl) a b
def wI (e:X.calm=true)(b:PI X (.Name x px) iter wi)(S:gZ X x fns ixs scope cl)(c:∀(C:Zs) (s:Zu) (H:Hp) (ex:Zn),PT (dU X (x::fns) scope cl C s H ex) wx tt)(a:∀(C:Zs) (s:Zu) (H:Hp) (ex:Zn),PE (dU X (x::fns) scope cl C s H ex) elt te)(d:∀x,foldedSetIterable iter X.env x=pure x:=by intro _;rfl):
 PE X (.ListComp elt [⟨.Name x px,iter,[wx],(0)⟩] scope pos) (o9 wi (jm ixs) tt te):=BW (cs:=[wx]) (ajE _) e b S c a d
def lu {iy:Nat}{a:Pos}(i:X.N.Nodup)(c:X.N[iy]?\f)(g:Loc X.env.scope f)(j:X.calm=true)(k:PI X (.Name x px) iter wi)(S:gZ X x fns ixs scope cl)(e:∀(C:Zs) (s:Zu) (H:Hp) (ex:Zn),PE (dU X (x::fns) scope cl C s H ex) elt te)(h:∀x,foldedSetIterable iter X.env x=pure x:=by intro _;rfl)(d:swapsWith (.ListComp elt [⟨.Name x px,iter,[],(0)⟩] scope pos) (some (.Name f p)) a.line X.env=pure true:=by rfl)(b:X.fn f=true\/X.env.scope.names.lookup f=some .local:=by trivial):
 PS X (.Assign [.Name f p] (.ListComp elt [⟨.Name x px,iter,[],(0)⟩] scope pos) a) (x6 (N3 wi (jm ixs) te) (cZ iy)):=uI (cs:=[]) ⋯ i c g j k S (λ_ _ _ _=>rfl) e h d b
def qW {iy:Nat}{a:Pos}(j:X.N.Nodup)(c:X.N[iy]?\f)(g:Loc X.env.scope f)(k:X.calm=true)(l:PI X (.Name x px) iter wi)(S:gZ X x fns ixs scope cl)(h:∀(C:Zs) (s:Zu) (H:Hp) (ex:Zn),PT (dU X (x::fns) scope cl C s H ex) wx tt)(e:∀(C:Zs) (s:Zu) (H:Hp) (ex:Zn),PE (dU X (x::fns) scope cl C s H ex) elt te)(i:∀x,foldedSetIterable iter X.env x=pure x:=by intro _;rfl)(d:swapsWith (.ListComp elt [⟨.Name x px,iter,[wx],(0)⟩] scope pos) (some (.Name f p)) a.line X.env=pure true:=by rfl)(b:X.fn f=true\/X.env.scope.names.lookup f=some .local:=by trivial):
 PS X (.Assign [.Name f p] (.ListComp elt [⟨.Name x px,iter,[wx],(0)⟩] scope pos) a) (x6 (o9 wi (jm ixs) tt te) (cZ iy)):=uI (cs:=[wx]) (ajE _) j c g k l S h e i d b
end
def TrD (h base:Heap)(e:Zs)(cls:Zt)(g:Zo)(f:Zt):Prop:=∃a b T d c,h.get? e\a/\(a.cls=cls/\a.dict=g)/\a.data=.fields b/\b[1]?\↑T/\base.get? T=none/\T≠e/\h.get? T\d/\d.data=.fields c/\c[3]?\f
def lY (base:Heap)(l:Zq)(e:Zs)(cls:Zt)(b:Zo)(a:Zt)(h:Heap):Prop:=base.StaysIn h/\base.get? e=none/\h.FunFrames base l/\TrD h base e cls b a
def zE (f:Zm->Zm)(o:Obj):(Obj.mapFields f o).dict=o.dict:=by let⟨a,b,d,e⟩:=o;cases d <;> rfl
variable {M:Model}{A:Around}{E:Zt->Zu->Prop}{s:Zu}{base:Heap}{env:Env}{outer:Zq}{L e:Zs}{cls:Zt}{dx:Zo}
theorem Jz {x:Obj}{u:Zm}{head:Zt}{p:Bool}(G:A.frames\(env::outer))(F:s.heap.FunFrames base (env::outer))(R:env.frame\L)(O:s•e\x)(I:base.StaysIn s.heap)(y:base.get? e=none)(C:x.data=.fields u)(z:1<u.size)(h:∀H,lY base (env::outer) e x.cls x.dict (rawInt L) H->s.heap.UpToSlots H->U () (s<*H)):
 wpAny M A (do let a <-frameOf env;let pl <-entryPlaceOf L p;let b <-EntryCells.newEntry head a .none (rawInt L) .none pl;setField ↑e 1 b) U E s:=by
 let w:e∉(env::outer).filterMap (·.frame):=λN=>by let⟨_,o,D,i⟩:=F.mem N;rw[O]at D;injection D with D;subst D;rwa[i u C]
 rwa[ajx (wpAny_frameOf_fun G F R λc f=>?_)];rwa[ajx (wpAny_entryPlaceOf λpl v=>?_)];unfold EntryCells.newEntry newFields;rwa[ajx (aku ?_ (v.sizeOk5 _ _ _ _ _))];let l:c.get? e\x:=(f.2.1 e w).trans O;let k:base.StaysIn c:=λb o g=>(f.2.1 b λN=>by rw[(F.mem N).1]at g;ext g).trans (I b o g)
 let m:=ajB (h:=c) { cls:=.type "traceback",dict:=none,data:=.fields ([head,↑L,.none,rawInt L,.none]++(if pl.isEmpty then List.replicate 6 Value.none else pl)).toArray } l;rwa[alK m C z ?_];let B:c.objs.size≠e:=akP (ajR l);let n:=ak6 C (·.setIfInBounds 1 (Value.ref c.objs.size));let t:=akm (Obj.mapFields (·.setIfInBounds 1 (Value.ref c.objs.size))) m (alH n)
 let r:=(ako (c.push { cls:=.type "traceback",dict:=none,data:=.fields ([head,↑L,.none,rawInt L,.none]++(if pl.isEmpty then List.replicate 6 Value.none else pl)).toArray })
  (Obj.mapFields (·.setIfInBounds 1 (Value.ref c.objs.size))) (akI B)).trans (ajP c rfl)
 let keep:∀b o,b≠e->c.get? b\o->_\o:=λb o P j=>(ako (c.push { cls:=.type "traceback",dict:=none,data:=.fields ([head,↑L,.none,rawInt L,.none]++(if pl.isEmpty then List.replicate 6 Value.none else pl)).toArray }) (Obj.mapFields (·.setIfInBounds 1 (Value.ref c.objs.size))) (akI P)).trans (ajB _ j)
 let d:∀b o,s•b\o->(∀u,o.data≠.fields u)->b≠e:=λb o j i q=>by rw[q,O]at j;injection j with j;subst j;rwa[i u C]
 rwa[h _ ⟨λb o g=>keep b o (λq=>by rw[q,y]at g;ext g) (k b o g),y,F.of_keeps λb o j i=>?_,5⟩ λb o j i=>?_]
 ·let⟨Q,J⟩:=f.2.2 b o j;rwa[_,keep b _ (d b o j i) J,2]
 ·rwa[11,c.objs.size,11,t,⟨Obj.cls_mapFields _ _,zE _ _⟩,n,by simp[z],k.fresh,B,r,2,by first|(simp;done)|(rcases v with rfl|⟨_,_,_,_,_,_,_,rfl⟩ <;> simp)]
 ·let⟨Q,J⟩:=f.2.2 b o j;rwa[Q,keep b _ (d b o j i) J]
def UC {z:Obj}{r:Zm}{n:Obj}{k:Zm}{l:Zq}(y:base.StaysIn s.heap)(x:base.get? e=none)(D:s.heap.FunFrames base l)(G:s•e\n)(H:n.cls=cls/\n.dict=dx)(B:n.data=.fields k)(C:k[1]?\↑a)(m:base.get? a=none)(p:a≠e)(w:s•a\z)(g:z.data=.fields r)(F:r[3]?\v)(h:∀t,lY base l e cls dx u t->s.heap.UpToSlots t->U () (s<*t)):wpAny M A (setField ↑a 3 u) U E s:=by
 let i:3<r.size:=(alc.mp F).1;let other:∀b,b≠a->(s.heap.update a (Obj.mapFields (·.setIfInBounds 3 u))).get? b=s•b:=λb d=>ako^akI d
 let c:∀b o,s•b\o->(∀k,o.data≠.fields k)->b≠a:=λb o d f q=>by rw[q,w]at d;injection d with d;subst d;rwa[f r g]
 rwa[alK w g i (h _ ⟨λb o j=>(other b λq=>by rw[q,m]at j;ext j).trans (y b o j),x,D.of_keeps λb o d f=>⟨o,(other b (c b o d f)).trans d,2⟩,5⟩ λb o d f=>⟨o.slots,(other b (c b o d f)).trans d⟩)]
 rwa[n,k,a,11,(other e (akI p)).trans G,H,B,C,m,p,akm _ w (alH (ak6 g _)),ak6 g _,by simp[i]]
def wJ {l:Zq}(p:lY base l e cls dx v s.heap)(m:∀c,lY base l e cls dx .none c->s.heap.UpToSlots c->U () (s<*c)):wpAny M A (setFlight ↑e none) U E s:=by let⟨h,f,o,u,t,T,r,w,k,a,i,j,d,g,n,b,q⟩:=p;unfold setFlight;rwa[ajx (akA k i j ?_)];rw[aj3 (show (Value.ref T !=Value.none)=true from by simp)];rwa[UC h f o k a i j d g n b q m]
def Ov (g:A.frames\(env::outer))(q:env.frame\L)(l:lY base (env::outer) e cls dx .none s.heap)(x:∀d,lY base (env::outer) e cls dx (rawInt L) d->s.heap.UpToSlots d->U () (s<*d)):wpAny M A (noteFrame ↑e env) U E s:=by
 let⟨b,a,k,N,J,T,I,O,u,⟨rfl,rfl⟩,n,p,h,j,o,c,t⟩:=l;unfold noteFrame;simp only[q];rwa[ajx (akA u n p ?_)];rw[aj3 (show (Value.ref T !=Value.none)=true from by simp)];rwa[ajx (akA o c t ?_)];rw[ajY (show ¬((Value.none==rawInt L)=true) from by simp[rawInt])];rwa[ajx (UC b a k u ⟨22⟩ n p h j o c t λw H z=>?_)];let⟨b,a,k,B,y,P,G,F,m,⟨D,v⟩,f,i,_⟩:=H;rwa[Jz (s:=(s<*w)) g k q m b a f (alc.mp i).1 λd r C=>?_]
 rw[D,v]at r;rwa[x d r (z.trans C)]
def Rb (b:A.frames\(env::outer))(f:env.frame\L)(c:lY base (env::outer) e cls dx .none s.heap)(m:∀a,lY base outer e cls dx .none a->s.heap.UpToSlots a->U () (s<*a)):wpAny M A (leaving env ↑e) U E s:=by unfold leaving;rwa[ajx (Ov b f c λk h n=>wJ (s:=(s<*k)) h λi ζ j=>?_)];let⟨d,g,⟨11,k3⟩,l⟩:=ζ;rwa[m i ⟨d,g,k3,l⟩ (n.trans j)]
def My {b:Obj}{i:Zm}(c:A.frames\(env::outer))(r:s.heap.FunFrames base (env::outer))(j:env.frame\L)(k:s•e\b)(g:base.StaysIn s.heap)(f:base.get? e=none)(h:b.data=.fields i)(a:i[1]?=some .none)(n:∀d,lY base outer e b.cls b.dict .none d->s.heap.UpToSlots d->U () (s<*d)):wpAny M A (leaving env ↑e) U E s:=by unfold leaving noteFrame;simp only[j];rwa[ajx (ajx (akA k h a ?_))];rw[ajY ⋯];rwa[Jz c r j k g f h (alc.mp a).1 λa o q=>wJ (s:=(s<*a)) o λm ζ p=>?_];let⟨l,t,⟨11,k3⟩,u⟩:=ζ;rwa[n m ⟨l,t,k3,u⟩ (q.trans p)]
end L2
namespace L2
open PySem.Calls PySem.W Builtin Builtin.ObjectAttr
def zF (x C:Zs)(e:Zo)(d:Bool)(h:Heap):Prop:=∃b c,h.get? x\b/\b.cls=↑C/\b.dict=e/\b.data=.fields c/\(d=true->c[1]?=some .none/\∃a,c[0]?\↑a)
def XO (x C:Zs)(b:Zo)(a:Bool):HO:=.ext (zF x C b a)
def zF.fO {x:Zs}{dx:Zo}{nw:Bool}(p:zF x a dx nw h)(k:∀o,h.get? x\o->g.get? x\o):zF x a dx nw g:=by let⟨ob,b,e,r⟩:=p;rwa[ob,b,k _ e,r]
def zF.ex {x:Zs}{dx:Zo}{nw:Bool}(p:zF x a dx nw h):GQ x a h:=let ⟨ob,b,e,c,_,d,_⟩:=p;⟨ob,b,e,c,d⟩
def BX (d:Zs)(fs:List (Str×V))(h:Heap):Prop:=∃a,h.Ns1 d a/\(∀f,fq (fs.lookup f) (a f))/\Within a (fs.map (·.1))
def XD (d:Zs)(fs:List (Str×V)):HO:=.ext (BX d fs)
def BX.fO {fs:List (Str×V)}(p:BX d fs h)(k:∀o,h.get? d\o->g.get? d\o):BX d fs g:=by let⟨a,n,r⟩:=p;rwa[a,n.at k,r]
def AV {x:Zs}{c:Zo}{b:Bool}(p:zF x a c b h):cu P w H h x (XO x a c b):=⟨p,let ⟨d,_,e,_⟩:=p;⟨d,e⟩,λ_ _ q k=>q.fO k⟩
def Ow {fs:List (Str×V)}(p:BX d fs h):cu P w H h d (XD d fs):=⟨p,let ⟨_,⟨o,_,_,e,_⟩,_⟩:=p;⟨o,e⟩,λ_ _ q k=>q.fO k⟩
def mZ:Zk->Bool
 |.ref _::r=>mZ r
 |l=>l==Bn
def G5 (e:mZ N=true):(∃c r,N=↑c::r/\mZ r=true)\/N=Bn:=by
 cases N with
 |nil=>exact .inr (amx.mp e)
 |cons c r=>cases c <;> first|rwa[.inl ⟨_,_,rfl,e⟩]|rwa[.inr (amx.mp e)]
theorem qX (self:Zt):∀(l:Zk),mZ l=true->refuseLoop self "__setattr__" l=pure ()/\l.contains (.type "object")=true/\l.isEmpty=false
 |[],e=>by ext e
 |v::l,e=>by
  rcases G5 e with ⟨c,r,q,e⟩|q
  ·injection q with b d
   subst b d;let a:=qX self l e;rwa[[refuseLoop_ref]▸a.1,by cbv,2]
  ·rw[q];rwa[PySem.F.store_ValueError.passes self,42]
structure yr (K:Za1)(C:Zs):Prop where
 mr:(clsIn K C).any (λcd=>mZ cd.mro)=true
 hd:hasDictIn K C=true
 sa:findIn K ↑C "__setattr__"=some (some (.builtin "object.__setattr__"))
 ga:findIn K ↑C "__getattribute__"=some (some (.builtin "BaseException.__getattribute__"))
 gt:findIn K ↑C "__getattr__"=some none
 be:subIn K ↑C (.type "BaseException")\true
section
variable {prog:Program}{w:World}{A:Around}{R:Result->Zu->Prop}{s:Zu}{K:Za1}{x C:Zs}{name:Str}{v:Zt}
def FD {p:Obj}{t:Option Obj}{g:Tok}(X:K.In s.heap)(I:PySem.W.InstAt s.heap x p C t)(m:(clsIn K C).any (λcd=>mZ cd.mro)=true)(j:takerIn K C name\none)(h:∀b,(prog<|>w) A.in1 (storeInOwnDict ↑x ↑C (.str name g) name v b)
  (λfin d=>match fin with|.done f=>R (.ok f) d|.again i=>i.quiet=true/\codeAny (model prog w) A i R d) (λe d=>R (.error e) d) s):
 codeAny (model prog w) A (.call (.builtin "object.__setattr__") ⟨[↑x,.str name g,v],[]⟩) R s:=by
 let c:=PySem.F.store_object;let⟨cd,y,o⟩:=any_some m;let⟨n,B,z⟩:=qX ↑x _ o;let sub:Looks (model prog w) s.heap (isInstance ↑x (.type "object")) true:=I.type.andThen (looks_mroIn X (by unfold mroIn;cbv));rwa[ala c.slot.plain c.entry (@check_slot (model prog w) _ _ s "object.__setattr__" "object" "__setattr__" ↑x [.str name g,v] [] _ c.kind c.split sub (c.args ↑x (.str name g) v) ?_)];let⟨attr,u,r⟩:=Option.bind_eq_some_iff.mp j;let hm:Looks (model prog w) s.heap (mroOf ↑C) cd.mro:=(looks_clsIn X y).andThen .now
 let l:Looks (model prog w) s.heap (storeTaker? attr) none:=by
  cases attr with
  |none=>exact .now
  |some a=>
   let⟨b,k,q⟩:=akE.mp r;rwa[(looks_takesIn X k).andThen ?_]
   cases b with
   |true=>ext q
   |false=>exact .now
 rw[osa_eq,refuse_eq];rwa[ajx (ajx (I.type.here (ajx (hm.here ?_))))];rw[n];rwa[ajG (ajx (I.type.here (ajx ((looks_findIn X u).here (ajx (l.here ?_))))))];rwa[h _]
def ab7 {ns:Zp}{f:Obj}{t:Zm}(X:K.In s.heap)(c:yr K C)(z:s•x\f)(j:f.cls=↑C)(q:f.data=.fields t)(D:takerIn K C name\none)(e:f.dict\d)(B:s.heap.Ns1 d M)(I:PySem.Within M ns)(H:⇑ns<=sizeLine)(h:∀i,i.Ns1 d (λy=>if y=name then some v else M y)->Heap.SameBut d s.heap i->U () { s with heap:=i,toks:=s.toks+ 2 }):
 (prog<|>w) A (setAttr ↑x name v) U E s:=by
 let⟨P,L,O,p⟩:=f;dsimp only at j q e;subst j q e;let⟨u,S,T,F,r⟩:=id B;let J:PySem.W.InstAt s.heap x ⟨↑C,some d,.fields t,p⟩ C (some u):=⟨z,22,F⟩;rwa[set_plain X J c.sa (FD (s:={ s with toks:=s.toks+ 1 }) X J c.mr D λb=>?_)];let⟨Q,j,o⟩:=any_some c.hd;rwa[ajx (ajG (ajx (ajx (wpAny_loadPart z (ajx (Looks.here (s:={ s with toks:=s.toks+ 1 }) (looks_clsIn X j) ?_))))))];rw[o];rwa[ajG (a:=some d) (ajx (ajG (ajx ?_)))];rwa[wpAny_nsSet1 (s:={ s with toks:=s.toks+ 1 }) B λi g l=>?_]
 let⟨u,N,G,n,k,m⟩:=g.count (PySem.Within.cons name v I);rwa[ajx (wpAny_lookBehind n ([k]▸pastItsLine_dict (ajO m (by rw[aj1];omega))) ?_)];rwa[ajG (h _ g l)]
def X3 {f:Obj}{r:Zm}(X:K.In s.heap)(c:yr K C)(n:s•x\f)(p:f.cls=↑C)(F:f.data=.fields r)(G:takerIn K C name\none)(g:f.dict=none)(h:∀j,j.Ns1 ↥s (λy=>if y=name then some v else none)->j.get? x\{ f with dict:=some ↥s }->(∀b o,b≠x->s•b\o->j.get? b\o)->U () { s with heap:=j,toks:=s.toks+ 2 }):
 (prog<|>w) A (setAttr ↑x name v) U E s:=by
 let⟨P,L,O,m⟩:=f;dsimp only at p F g;subst p F g;let J:PySem.W.InstAt s.heap x ⟨↑C,none,.fields r,m⟩ C none:=⟨n,22,True.intro⟩;rwa[set_plain X J c.sa (FD (s:={ s with toks:=s.toks+ 1 }) X J c.mr G λb=>?_)];let⟨S,p,D⟩:=any_some c.hd;rwa[ajx (ajG (ajx (ajx (wpAny_loadPart n (ajx (Looks.here (s:={ s with toks:=s.toks+ 1 }) (looks_clsIn X p) ?_))))))];rw[D];let d:(s.heap.push ("dict">>>.dict #[])).get? x\⟨↑C,none,.fields r,m⟩:=ajB _ n;let i:x≠↥s:=aj9 (ajR n);rwa[ajx (wpAny_alloc' ?_)];rwa[ajx (wpAny_update' d ?_)];rwa[ajG (a:=some ↥s) (ajx (ajG (ajx ?_)))]
 let q:((s.heap.push ("dict">>>.dict #[])).update x λo=>{ cls:=o.cls,dict:=some ↥s,data:=o.data,slots:=o.slots }).get? ↥s
  =some ("dict">>>.dict #[]):=(Heap.get?_update_ne _ _ _ _ i.symm).trans (Heap.get?_push_at rfl rfl)
 let u:((s.heap.push ("dict">>>.dict #[])).update x λo=>{ cls:=o.cls,dict:=some ↥s,data:=o.data,slots:=o.slots }).Ns ↥s (λ_=>none):=⟨_,#[],_,q,2,λe M=>absurd M (by simp),λ_=>rfl⟩
 rwa[wpAny_nsSet1 (s:={ s with heap:=(s.heap.push ("dict">>>.dict #[])).update x λo=>{ cls:=o.cls,dict:=some ↥s,data:=o.data,slots:=o.slots },toks:=s.toks+ 1 }) (Heap.Ns1.of_empty u) λj l k=>?_]
 let⟨Q,N,I,B,t,z⟩:=l.count (Within.cons name v Within.nil);rwa[ajx (wpAny_lookBehind B ([t]▸pastItsLine_dict (ajO z (by rw[aj1,akL,sizeLine_eq];omega))) ?_)];rwa[ajG (h _ l ?_ λb o H e=>?_)]
 ·rwa[(k.2 x i).trans (akm _ d rfl)]
 ·rwa[(k.2 b (aj9 (ajR e))).trans ((Heap.get?_update_ne _ _ _ _ H).trans (ajB _ e))]
end
variable {prog:Program}{w:World}{A:Around}{E:Zt->Zu->Prop}{s:Zu}{K:Za1}{x C:Zs}{name:Str}
def ab8 {b:Bool}{m i:Obj}(X:K.In s.heap)(c:yr K C)(I:PySem.W.InstAt s.heap x m C (some i))(l:findObj K C (some i) name\.value v)(o:handedIn v=true)(h:Q v { s with toks:=s.toks+ 1 }):
 (prog<|>w) A (getAttr ↑x name b) Q E s:=by
 let⟨n,g,d,t,os⟩:=s;let j:=I.type (M:=model prog w);let q:=looks_findIn (M:=model prog w) X c.ga;let L2:=looks_findIn (M:=model prog w) X c.gt;let k:Looks (model prog w) n (isSubtype ↑C (.type "BaseException")) true:=looks_subIn X c.be;let r:=looks_find (M:=model prog w) X I l;let a:(Value.builtin "BaseException.__getattribute__"==Value.builtin "object.__getattribute__")=false:=⋯
 let e:(onTheHeap (Value.ref C) && Value.builtin "BaseException.__getattribute__"==Value.builtin "object.__getattribute__")=false:=by rw[a];rfl
 let f:(b && onTheHeap (Value.builtin "BaseException.__getattribute__"))=false:=by cases b <;> rfl
 let p:=PySem.F.excAttr_ValueError.ga.bind ↑x;unfold getAttr getAttrBy;rwa[ajx (wpAny_mkText (akz (ajx (j.at (ajx (q.at ?_))))))];dsimp only;rw[ajY (by rw[e];decide)];unfold getAttrByItsOwn hookBefore;rw[aj3 (show onTheHeap (Value.ref C)=true from rfl)];rwa[ajx (L2.at (ajx (wpAny_attempt (akz ?_))))];unfold callGetattribute boundAndCalled;rw[ajY (by rw[f];decide),p];rwa[ajx (ajG ?_)];show wpAny _ _ (call (.builtin "BaseException.__getattribute__") [↑x,.str name t]) _ _ _;rwa[al7 (ala PySem.F.excAttr_ValueError.ga.plain PySem.F.entry_bexc_ga (IQ j k ?_))];unfold Builtin.«object.__getattribute__»
 repeat lk
 show wpAny _ _ (handedOut v) _ _ _;rw[handedOut_of o];rwa[ajG h]
end L2
namespace L2
open PySem.Calls PySem.W
def yt (K:Frag)(C f:Zs):Bool:=match K.lookup C with
 |some ⟨.type "type",_,.cls cd,c⟩=>(match cd.mro,c.toList with
  |.ref b::a,#v[_,_,_,_,.builtin n,_]=>b==C && n=="ValueError.__new__" && !cd.hasDel && tailIn K Bn a && nsOkIn K cd.ns && nsIn K cd.ns "__init__"==some (some ↑f)
  |_,_=>false)
 |_=>false
def Rc {K:Frag}(X:K.In h)(G:h.Ns a M)(e:nsIn K a x\some v):M x\v:=by
 let⟨o,m,p,i,b,_,g⟩:=G;unfold nsIn at e;split at e
 ·rename_i c d f k l q;have:=X^q;rw[i]at this;ext this;ext b;split at e
  ·rename_i n j;ext e;rw[<-g];unfold nsFind findBy;rw[<-Array.find?_toList,j];rfl
  ·split at e <;> ext e
 ·ext e
def BZ (XK:K.In h)(q:yt K a b=true):∃n N nm o bs k s sub r col t D A F k3 E w,
 h.get? a=some (excClassObj nm o a N bs n k s sub r col t D A F k3 E "ValueError.__new__")/\h.Ns N w/\w "__init__"=some ↑b/\OwnTail h Bn n:=by
 unfold yt at q;split at q
 ·rename_i t cls m j;split at q
  ·rename_i G n x y z u nid v f c;simp only[als,amx,Bool.not_eq_true']at q;let⟨⟨⟨⟨⟨rfl,rfl⟩,e⟩,g⟩,i⟩,d⟩:=q;let⟨nm,bs,mro,C,o,B,s,sub,r,col,del⟩:=cls;dsimp only at f e i d;subst f e
   let p:m=#[x,y,z,u,some (.builtin "ValueError.__new__"),v]:=by let⟨l⟩:=m;simp only at c;rw[c]
   subst p;rwa[n,C,nm,o,bs,B,s,sub,r,col,t,x,y,z,u,v,_,XK^j,.of_isNs (PySem.W.isNs_of_in XK i),Rc XK (.of_isNs (PySem.W.isNs_of_in XK i)) d,PySem.W.tail_of_in XK g]
  ·ext q
 ·ext q
variable {prog:Program}{w:World}{A:Around}{E:Zt->Zu->Prop}{h:Heap}{g:Array GenState}{d:Drawn}{t:Nat}{os:OsState}
variable {nm q:Str}{C N:Zs}{bs bm Ox:Zk}{hdct:Bool}{sn:Zp}{sub:Zk}{ab:Bool}{col:Option Bool}{dd:Zo}{k0 k1 k2 k3 k5:Zl}{B newId JA:String}
theorem wL (F:ExcBaseFacts B newId JA Ox)(T:OwnTail h Ox bm){n:Str->Zl}{rest:Zk}{s:Zs}{y:Obj}{Q:Fin->Zu->Prop}(j:h.get? C\excClassObj nm q C N bs bm hdct sn sub ab col dd k0 k1 k2 k3 k5 newId)(L:h.Ns N n)(J:n "__init__"=some ↑s)(u:h.get? s\y)(p:y.cls=.type "function")(G:∀l e,Heap.MadeExcOf h l e ↑C rest->(prog<|>w) A (call ↑s (↑e::rest)) (λr v=>r=.none/\Q (.done (.ret ↑e)) v) E ⟨l,g,d,t,os⟩)(X4:⇑rest<=sizeLine):
 (prog<|>w) A (Builtin.«type.__call__» ⟨↑C::rest,[]⟩) Q E ⟨h,g,d,t,os⟩:=by
 repeat (first|with_reducible rwa[aml j ?_]|with_reducible rwa[wpAny_madeBy_exc j ?_]|wp_step)
 rwa[codeAny_call_builtin_code (Code.quiet_builtin _ F.quiet) (wpAny_check_new_subT F T j ?_)];rwa[codeAny_exc_new_subT F T j ?_ X4];show wpAny _ _ _ _ _ _
 let a:=ajB { cls:=↑C,data:=.fields #[↑h.objs.size,.none,.none,.none,.bool false,.none] }
  (ajB ("tuple">>>.seq rest.toArray) j)
 let c:=ajB { cls:=↑C,data:=.fields #[↑h.objs.size,.none,.none,.none,.bool false,.none] }
  (ajB ("tuple">>>.seq rest.toArray) u)
 let i:((h.push ("tuple">>>.seq rest.toArray)).push { cls:=↑C,data:=.fields #[↑h.objs.size,.none,.none,.none,.bool false,.none] }).Ns N n:=let ⟨o,I,M,e,r⟩:=L;⟨o,I,M,ajB _ (ajB _ e),r⟩
 let f:((h.push ("tuple">>>.seq rest.toArray)).push
  { cls:=↑C,data:=.fields #[↑h.objs.size,.none,.none,.none,.bool false,.none] }).get? (h.objs.size+ 1)=some
  { cls:=↑C,data:=.fields #[↑h.objs.size,.none,.none,.none,.bool false,.none] }:=by heap_get
 let m:(Value.ref C::bm).contains ↑C=true:=by simp
 let k:=T.keeps (h':=(h.push ("tuple">>>.seq rest.toArray)).push { cls:=↑C,data:=.fields #[↑h.objs.size,.none,.none,.none,.bool false,.none] })
  λb o e=>ajB _ (ajB _ e)
 unfold isInstance
 repeat (first|with_reducible rwa[aml f ?_]|(with_reducible rwa[wpAny_isSubtype_exc a ?_];rw[m])|wp_step)
 show wpAny _ _ (typeLookup ↑C _) _ _ _;rwa[wpAny_typeLookup_tail a i k F.mroIs F.init.lookup ?_];rw[J];rwa[akz (ajx ?_)];unfold bindSpecial;rwa[ajx (alW (T:="function") ⟨_,c,p⟩ ?_)];rw[aj3 ⋯];rwa[ajG (ajx (akM (G _ (h.objs.size+ 1) ⟨λb o z=>ajB _ (ajB _ z),Heap.get?_none_of_le (amT _),h.objs.size,f,Heap.get?_none_of_le (ajE _),5⟩) (λr v H=>?_) λ_ _ x=>x))]
 ·rwa[ajB _ (Heap.get?_push_at rfl rfl)]
 ·let⟨rfl,D⟩:=H
  wp_walk
  rwa[D]
def G6 (F:ExcBaseFacts B newId JA Ox)(T:OwnTail h Ox bm){k:Str->Zl}{rest:Zk}{i:Zs}{l:Obj}{Q:Zt->Zu->Prop}(b:h.get? C\excClassObj nm q C N bs bm hdct sn sub ab col dd k0 k1 k2 k3 k5 newId)(p:h.Ns N k)(o:k "__init__"=some ↑i)(j:h.get? i\l)(f:l.cls=.type "function")(n:∀c e,Heap.MadeExcOf h c e ↑C rest->(prog<|>w) (A.under (.builtin "type.__call__" ⟨↑C::rest,[]⟩)) (call ↑i (↑e::rest)) (λr m=>r=.none/\Q ↑e m) E ⟨c,g,d,t,os⟩)(a:⇑rest<=sizeLine):
 (prog<|>w) A (call ↑C rest) Q E ⟨h,g,d,t,os⟩:=by
 let u:=tc_lookup;let x:=tc_bind ↑C;let v:(⟨h,g,d,t,os⟩:Zu).TypeIs ↑C "type":=⟨_,b,2⟩;rwa[al7 (codeAny_of_tree ?_)];show wpAny _ _ (callAny ↑C _) _ _ _
 repeat (any_goals (first|assumption|with_reducible rwa[aml b ?_]|wp_step))
 erw[2];rwa[codeAny_call_builtin_at (Code.quiet_builtin _ ⋯) entry_typeCall (wpAny_check_type_call_sub b (wL (X4:=a) F T b p o j f λc e s=>?_))];rwa[n c e s]
def Mz {M:Model}{env:Env}{x:Sem Zt}{Q:Flow->Zu->Prop}(b:bm.contains (.type "BaseException")=true)(r:A.handled=none)(h:wpAny M A x (λv a=>∃e f i,v=↑e/\a•C\excClassObj nm q C N bs bm hdct sn sub ab col dd k0 k1 k2 k3 k5 newId/\a•e=some f/\f.cls=↑C/\f.data=.fields i/\i[1]?=some .none/\E ↑e a) E s):
 wpAny M A (raiseStmt env (some x) none) Q E s:=by
 let j:(Value.ref C::bm).contains (.type "BaseException")=true:=by rw[List.contains_cons,b,Bool.or_true]
 unfold raiseStmt;rwa[ajx (akM h (λv a c=>?_) λ_ _ x=>x)];let⟨e,f,i,rfl,l,m,n,k,o,p⟩:=c;let⟨F,g,d,D,os⟩:=a;let⟨z,G,y,u⟩:=f;dsimp only at n k;subst n k
 repeat (first|with_reducible rwa[aml m ?_]|with_reducible rwa[aml l ?_]|(with_reducible rwa[wpAny_isSubtype_exc l ?_];rw[j])|with_reducible rwa[ajx (akA m rfl o ?_)]|wp_step)
 all_goals rwa[wpAny_raiseNew_none r p]
end L2
namespace L2
inductive dz (P:Program)(w:World)(outer:Zq)(H:Hp)(s:Zu)(E:XK)(e:Zt)(s':Zu):Prop
 |mk (x C:Zs)(dx:Zo)(B:Heap)(H':Hp):e=↑x->s'.os=s.os->AllBare s'.gens->lY B outer x ↑C dx .none s'.heap->Un (c9 outer) [] H H' s.heap s'.heap->dS P w H' B->(∀b o,s•b\o->H b=none->b∉c9 outer->B.get? b\o)->(∀b o,s•b\o->b∉c9 outer->∃o',B.get? b\o')->E ↑C dx H'->dz P w outer H s E e s'
def del (H:Hp)(x:Zs):Hp:=λb=>if b=x then none else H b
def sk {x:Zs}(h:b≠x):del H x b=H b:=by unfold del;rw[ajY h]
def MA {x:Zs}{u:HO}(h:del H x b\u):b≠x/\H b\u:=by
 unfold del at h
 cbv
def gQ:Passes (dz P w) X (λ_ _ _=>False):=λ_ _ _ _ _ _ _ ζ=>by let⟨_,_,_,_,_,_,_,_,_,_,_,_,_,q⟩:=ζ;rwa[q.elim]
def Oy {a:Zq}{b:Zu}(h:dz P w a H s (λ_ _ _=>False) v b):False:=let ⟨_,_,_,_,_,_,_,_,_,_,_,_,_,q⟩:=h;q
section
variable {P:Program}{w:World}{K:Za1}{mg:Str->Zl}{base:Heap}{N:Zp}{qual:Str}{scope:Scope}{f:Zs}{cd:Zt}{A:Around}{outer:Zq}{s:Zu}{H:Hp}{E:XK}{pins:List (Zs×Obj)}{σ:St}{H1:Hp}{s1:Zu}
def qu {o:Obj}(I:Inv (cK (dz P w) P w K mg base N qual scope f cd A outer s H E) pins σ H1 s1)(e:s•b\o)(a:b∉c9 outer):b∉c9 (cK (dz P w) P w K mg base N qual scope f cd A outer s H E).stack:=λz=>by
 rcases ajS.mp (show b∈↥s::c9 outer from z) with z|z
 ·rwa[absurd (ajR e) (by rw[z];rwa[akX _])]
 ·rwa[a z]
def UD {x:Zs}{R:Zo}(I:Inv (cK (dz P w) P w K mg base N qual scope f cd A outer s H E) pins σ H1 s1)(F:H1 x\XO x a R true)(Z:s•x=none)(q:E ↑a R (del H1 x)):
 (cK (dz P w) P w K mg base N qual scope f cd A outer s H E).xe ↑x s1:=by
 let t:=I.ok.frames;let C:∀env∈(cK (dz P w) P w K mg base N qual scope f cd A outer s H E).stack,∀b,env.frame\b->b∈x::c9 (cK (dz P w) P w K mg base N qual scope f cd A outer s H E).stack:=λenv X b k=>akc _ (amF.mpr ⟨env,X,k⟩)
 let G:=PySem.W.funFrames_hide I.stack C;let⟨⟨ob,vs,d,rfl',rfl,i,l⟩,_,_⟩:=I.aU x _ F;let nx:∀b o,s•b\o->b≠x:=λb o e z=>by cbv
 let out:∀b o,s•b\o->b∉c9 outer->b∉x::c9 (cK (dz P w) P w K mg base N qual scope f cd A outer s H E).stack:=λb o e k z=>(ajS.mp z).elim (nx b o e) (qu I e k)
 rwa[My (s:=s1) (base:=hideAll s1.heap (x::c9 (cK (dz P w) P w K mg base N qual scope f cd A outer s H E).stack)) (L:=↥s) t G rfl d (λb o z=>PySem.W.of_hideAll _ z) (PySem.W.hideAll_none _ (.head _)) i (l rfl).1 λy r ups=>?_]
 let S:∀b o,s•b\o->H b=none->b∉c9 outer->(hideAll s1.heap (x::c9 (cK (dz P w) P w K mg base N qual scope f cd A outer s H E).stack)).get? b\o:=λb o d g h=>amu _ (I.base.keep b o d g h (by simp[cK])) (out b o d h)
 let O:∀b o,s•b\o->b∉c9 outer->∃j,(hideAll s1.heap (x::c9 (cK (dz P w) P w K mg base N qual scope f cd A outer s H E).stack)).get? b\j:=λb o d h=>by let⟨j,i⟩:=I.base.there b o d (by simp[cK]);rwa[j,amu _ i (out b o d h)]
 let M:∀b o,s1•b\o->b∈c9 outer->∃B,y.get? b\{ o with slots:=B }:=λb o d g=>by let⟨_,o2,h,Y⟩:=I.stack.mem (show b∈c9 (cK (dz P w) P w K mg base N qual scope f cd A outer s H E).stack from akc _ g);rw[d]at h;ext h;rwa[ups b o d Y]
 let dl:∀{b:Zs}{u:HO},H1 b\u->(∀ T,u≠.ext T)->del H1 x b\u:=λ{b u} e n=>by
  rw[sk]
  ·rwa[e]
  ·intro z;rw[z,F]at e;rwa[n _ (Za0 e).symm]
 rw[rfl']at r;rwa[⟨x,a,11,del H1 x,2,I.os,I.bare,r,⟨λb o d g h _=>r.1 b o (S b o d g h),λb o d g h _=>?_,λb o d g _=>?_,λb o d _=>?_,λb Q e=>dl (I.base.iJ b Q e) (by cbv),λb o u e=>dl (I.base.hJ b o u e) (by cbv),λb V e=>?_⟩,5,S,O,q⟩]
 ·let⟨B,i⟩:=I.base.slot b o d g h (by simp[cK]);let⟨D,l⟩:=M b _ i h;rwa[D,l]
 ·rw[sk (nx b o d)];rwa[I.base.free b o d g (by simp[cK])]
 ·cases k:b∈c9 outer
  ·let⟨j,i⟩:=I.base.there b o d (by simp[cK]);let⟨B,l⟩:=M b j i k;rwa[_,l]
  ·let⟨j,i⟩:=O b o d k;rwa[j,r.1 b j i]
 ·let⟨m,g⟩:=I.base.iK b V e;rwa[m,dl g (by cbv)]
 ·intro b u d;let⟨U,d⟩:=MA d
  let p:∀c v,c≠x->H1 c\v->c∉x::c9 (cK (dz P w) P w K mg base N qual scope f cd A outer s H E).stack:=λc v J g z=>by
   rcases ajS.mp z with z|z
   ·rwa[J z]
   ·rw[I.oW c z]at g;ext g
  rwa[(I.aU b u d).fO (λc v J z=>amu _ z ?_) (λc z=>dl z (by cbv)) λc Q z=>dl z (by cbv)]
  rcases J with z2|z2
  ·rw[z2];rwa[p b u U d]
  ·rwa[p c _ (λz=>by rw[z,F]at z2;ext z2) z2]
def X5:Passes (dz P w) (cK (dz P w) P w K mg base N qual scope f cd A outer s H E) E:=by
 intro pins σ H1 s1 e S I cx;let⟨x,C,O,B,M,rfl,os,bare,G,un,m,Q,F,q⟩:=cx;rwa[Rb (L:=↥s) I.ok.frames rfl G λu k ups=>?_]
 let r:∀b o,s•b\o->H b=none->b∉c9 outer->B.get? b\o:=λb o a d c=>Q b o (I.base.keep b o a d c (by simp[cK])) (I.base.free b o a d (by simp[cK])) (qu I a c)
 let n:∀b o,s•b\o->b∉c9 outer->∃h,B.get? b\h:=λb o a c=>by let⟨h,g⟩:=I.base.there b o a (by simp[cK]);rwa[F b h g (qu I a c)]
 let y:∀b o,s1•b\o->b∈c9 outer->∃t,u.get? b\{ o with slots:=t }:=λb o a d=>by let i:b∈c9 (cK (dz P w) P w K mg base N qual scope f cd A outer s H E).stack:=akc _ d;let⟨_,T,c,R⟩:=I.stack.mem i;rw[a]at c;ext c;let⟨t,g⟩:=un.slot b o a (I.oW b i) i (by simp);let⟨j,l⟩:=ups b _ g R;rwa[j,l]
 rwa[⟨x,C,O,B,M,2,os.trans I.os,bare,k,⟨λb o a d c _=>k.1 b o (r b o a d c),λb o a d c _=>?_,λb o a d _=>?_,λb o a _=>?_,λb p a=>un.iJ b p (I.base.iJ b p a),λb o p a=>un.hJ b o p (I.base.hJ b o p a),λb D a=>?_⟩,m,r,n,q⟩]
 ·let⟨t,g⟩:=I.base.slot b o a d c (by simp[cK]);let⟨j,l⟩:=y b _ g c;rwa[j,l]
 ·let⟨h,g⟩:=I.base.there b o a (by simp[cK]);rwa[un.free b h g (I.base.free b o a d (by simp[cK])) (by simp)]
 ·cases v:b∈c9 outer
  ·let⟨h,g⟩:=I.base.there b o a (by simp[cK]);let⟨t,l⟩:=y b h g v;rwa[_,l]
  ·let⟨h,g⟩:=n b o a v;rwa[h,k.1 b h g]
 ·let⟨J,d⟩:=I.base.iK b D a;let⟨z,c⟩:=un.iK b _ d;rwa[J++z,by rw[c,Array.append_assoc]]
end
section
variable {P:Program}{w:World}{K:Za1}{mg:Str->Zl}{base:Heap}
theorem rT.UE {qual:Str}{st:Stmt}{fd:FuncData}{e:Zp}{k:Nat}{sp:Sp}(F:rT K x qual st a fd)(S:aP Z e (az st))(len:∀c H Q E,sp c H Q E->⇑c=⇑e)(d:∀(b:Zt) (A:Around) (outer:Zq) (s:Zu) (H:Hp) (c:Zb) (Q:VK) (E:XK),cR k (A.deeper (envOfC qual (az st) ↥s a b))->sp c H Q E->∃t,jM (cK (dz P w) P w K mg base Z qual (az st) a b A outer s H E) (cY st) t/\t { nx:=λ_ i=>Q .non i,rt:=Q } (start Z c) H):dP P w K mg base (dz P w) (k+ 1) a fd e sp:=by let⟨l,n,kV,doc,pm,m,b,ct,j,rfl,lk,g⟩:=F.ex;rwa[AO lk g S len λA outer s H c Q E h f=>d b A outer s H c Q E h f]
end
section
variable {X:Cx}{pins:List (Zs×Obj)}{σ:St}{H:Hp}{s:Zu}{h':Heap}{e C:Zs}{vs:Zk}
def Inv.X6 (I:Inv X pins σ H s)(hm:Heap.MadeExcOf s.heap h' e ↑C vs)(hex:X.ex=[]):H e=none/\X.e8.heap.get? e=none/\Inv X pins σ (upd H e (XO e C none true)) (s<*h'):=by
 let a:H e=none:=by
  cases q:H e with
  |none=>rfl
  |some u=>let⟨o,d⟩:=(I.aU e u q).get;rw[hm.new]at d;ext d
 let ne:∀b o,s•b\o->b≠e:=λb o q z=>by rw[z,hm.new]at q;ext q
 let h:X.e8.heap.get? e=none:=by
  cases q:X.e8.heap.get? e with
  |none=>rfl
  |some o=>let⟨l,d⟩:=I.base.there e o q (by rw[hex];simp);rw[hm.new]at d;ext d
 rwa[⟨a,h,I.un (t':=s.toks) ⟨λb u q _ _ _=>hm.keeps b u q,λb u q _ _ _=>⟨u.slots,hm.keeps b u q⟩,λb u q n _=>[ao (ne b u q)]▸n,λb u q _=>⟨u,hm.keeps b u q⟩,λb f q=>[ao (aw q a)]▸q,λb u f q=>[ao (aw q a)]▸q,λb j q=>⟨#[],by rw[ao (aw q a),q];simp⟩⟩ λb u q=>?_⟩];cases g:b=e
 ·subst g;rw[aj]at q;ext q;let⟨t,i,_,_⟩:=hm.there;rwa[AV ⟨11,i,222,λ_=>⟨212⟩⟩]
 ·rw[ao g]at q;rwa[(I.aU b u q).fO (λc v _ q=>hm.keeps c v q) (λc q=>[ao (aw q a)]▸q) λc f q=>[ao (aw q a)]▸q]
end
variable {X:Cx}{k:Nat}{f C:Zs}{fd:FuncData}{ps:Zp}{sp:Sp}{x:Str}{p pos cW:Pos}{e:Expr}{es:Zr}{t:TA}{E:XK}
def YQ (X:Cx)(C:Zs)(E:XK):Prop:=∀(a:List (Zs×Obj))(c:St)(H:Hp)(s:Zu)(x:Zs)(b:Zo),Inv X a c H s->H x\XO x C b true->X.e8.heap.get? x=none->E ↑C b (del H x)->X.xe ↑x s
def lvD {base:Heap}{qual:Str}{scope:Scope}{f C:Zs}{a:Zq}{E:XK}:YQ (cK (dz P w) P w K M base Z qual scope f v A a s H E) C E:=λ_ _ _ _ _ _ I c b q=>UD I c b q
def Rf (C:Zs)(sp:Sp)(E:XK)(t:TA):TS:=λ_ g H=>t g H λd b=>∀x,b x=none->sp (↑x::d) (upd b x (XO x C none true)) (λv a=>v=.non/\∃c,a x\XO x C c true/\E ↑C c (del a x)) (λ_ _ _=>False)
theorem JB (F:dP X.prog X.w X.K X.mg X.base (dz X.prog X.w) k f fd ps sp)(hr:cR (k+ 1) X.A)(hb:Binds X.K fd ps [])(hc:X.calm=true)(hg:Gl X x)(hm:X.mg x\↑C)(hC:yt X.K C f=true)(hf:isFn X.K ↑f=true)(hk:keepIn X.K ↑C=true)(ha:PA X (e::es) t)(lv:YQ X C E)(hex:X.ex=[])(B1:⇑ps<=1000)(w:(x==("__debug__":Str))=false)(he:starEach (e::es) X.env=(false,eval e X.env)::starEach es X.env)(G:(backTo cW (starEach es X.env)).any (·.1)=false):
 PS X (.Raise (some (.Call (.Name x p) (e::es) [] cW)) none pos) (Rf C sp E t):=by
 intro c s σ H D I h;let⟨R,N,nm,qn,bs,i,sn,sub,Q,col,dd,k0,k1,T,k3,Z,mN,W,o2,o3,o4⟩:=BZ I.ok.mod.vU hC;let kp:∀{P O n},Inv X c P O n->∀b o,X.base.get? b\o->n•b\o:=λJ b o q=>(J.bs b o q).1
 rw[arm_exec_Raise];rwa[ajx (amE (Mz (C:=C) (nm:=nm) (q:=qn) (N:=N) (bs:=bs) (bm:=R) (hdct:=i) (sn:=sn) (sub:=sub) (ab:=Q) (col:=col) (dd:=dd) (k0:=k0) (k1:=k1) (k2:=T) (k3:=k3) (k5:=Z) (newId:="ValueError.__new__") (o4.hasType ⋯) (I.ok.hd hc) (ajx (akM (E:=X.xe) ?_ (λv Y m=>ajx (amE (ajG m))) λ_ _ x=>x))))];rwa[akH (kI I hg hm ?_ w)];rwa[ama (h₀:=X.base) I.ok.mod.vU hk (bq (ha cW c s σ H _ I h) λus s1 ζ=>?_) he G];let⟨vs,H1,j,r,q⟩:=ζ;rwa[⟨j.dQ,5⟩];let⟨oI,M,B⟩:=akE.mp (amx.mp hf)
 let len:⇑us<=1000:=by let h1:=F.len _ _ _ _ (q (↥s1) (j.aU.fresh (ajE _)));rw[aj1]at h1;rw[<-⇑r];ext
 let⟨hh,g,d,tk,os⟩:=s1;rwa[G6 (A:=X.A) alG (o4.keeps (kp j)) (kp j _ _ W) (o2.keeps (kp j)) o3 (j.dQ^M) B (λh' y z=>?_) (ajO len ⋯)];let⟨hn,h0,J⟩:=j.X6 z hex;let hq:=q y hn;let r2:Vals (V.ref y::vs) (Value.ref y::us):=.cons rfl r
 let hl:⇑(Value.ref y::us++[])=⇑ps:=by rw[akb,<-⇑r2];rwa[F.len _ _ _ _ hq]
 let l:=hb _ (Value.ref y::us) J.dQ hl;rw[akb]at l;rwa[al7 (alV (F.run _ X.stack _ _ ⟨Value.ref y::us,[]⟩ (Value.ref y::us) _ _ _ (hr.make C us []) (J.A6.make C us []) l r2 hq) λr n a=>?_)]
 cases r with
 |error e=>exact(Oy a).elim
 |ok fl=>
  cases fl with
  |ret u=>let⟨v,O,L,rv,ev,dx,S,q3⟩:=J.after a;subst ev;let⟨⟨ob,ws,a1,a2,a3,a4,a5⟩,_,_⟩:=L.aU y _ S;rwa[rv,y,ob,ws,2,kp L _ _ W,a1,a2,a4,(a5 rfl).1,lv c σ O n y dx L S h0 q3]
  |next=>exact False.elim a
  |brk=>exact False.elim a
  |cont=>exact False.elim a
end L2
namespace L2
open PySem.W
section
variable {M:Model}{A:Around}{E:Zt->Zu->Prop}{s:Zu}{x a:Zs}{ob:Obj}{vs:Zm}{tv:Zt}
def MB {Q:Fin->Zu->Prop}(e:s•x\ob)(c:ob.data=.fields vs)(d:vs[0]?\↑a)(h:Q (.done (.ret .none)) { s with heap:=(s.heap.push ("tuple">>>.seq #[tv])).update x (Obj.mapFields (·.setIfInBounds 0 ↑↥s)) }):wpAny M A (Builtin.«BaseException.__init__» ⟨[↑x,tv],[]⟩) Q E s:=by
 let b:=ajB ("tuple">>>.seq #[tv]) e;unfold Builtin.«BaseException.__init__»;rwa[ajx (wpAny_newTuple ?_)];unfold Builtin.BaseException.bexcPut;rwa[ajx (ajx (akA b c d (ajx (alK b c (alc.mp d).1 ?_))))]
 wp_walk
 rwa[h]
end
variable {X:Cx}{Y:Zs}{y f:Str}{np apos pos pos':Pos}{e:Expr}{es:Zr}{t:TA}
structure MC (K:Za1)(Y:Zs):Prop where
 sp:specialIn K ↑Y "__getattribute__"=some (some (.builtin "type.__getattribute__"))
 rd:readsIn K Y (.type "type")=true
 fc:(match findCls K ↑Y (.type "type") "__init__" with|some (.val (.builtin i))=>i=="ValueError.__init__" | _=>false)=true
def MC.find {Y:Zs}(b:MC K Y):findCls K ↑Y (.type "type") "__init__"=some (.val (.builtin "ValueError.__init__")):=by
 have:=b.fc
 cbv
def ab9 (C:Zs)(t:TA):TE:=λ d H Q=>t d H λb a=>∃(x:Zs)(c:Zo)(l:Zh),b=[↑x,.str (tx l)]/\a x\XO x C c true/\Q .non a
def MD {pl:Sem Bool}(R:yt X.K a b=true)(A:MC X.K Y)(Z:Gl X y)(hm:X.mg y\↑Y)(ha:PA X (e::es) t)(D:(y==("__debug__":Str))=false)(v:starEach (e::es) X.env=(false,eval e X.env)::starEach es X.env)(n:(backTo pos (starEach es X.env)).any (·.1)=false)(U:eval (.Call (.Attribute (.Name y np) "__init__" apos) (e::es) [] pos) X.env=(do
  let M <-eval (.Name y np) X.env
  standAt apos.atName
  let (f,first) <-holding [M] (getMethod M "__init__" pl)
  callWith pos f first (backTo pos (starEach (e::es) X.env)) (backToKw pos (keywordEach [] X.env)))):
 PE X (.Call (.Attribute (.Name y np) "__init__" apos) (e::es) [] pos) (ab9 a t):=by
 intro k s σ H Q I h;rwa[methodCall_KW (pl:=pl) (kI I Z hm ?_ D) U];rwa[method_cls I.dQ A.sp (cls_value I.dQ A.rd A.find rfl ?_)];rwa[PyProof.Rows.callWith_builtin1 (bq (ha pos k _ σ H _ (I.tok _) h) λus s1 ζ=>?_) v n];let⟨vs,B,p,r,x,P,l,ev,C,q⟩:=ζ;subst ev;let⟨u,E,rfl,rx,ry⟩:=vals2 r;ext rx;let⟨bm,N,nm,qn,bs,F,sn,sub,ab,col,dd,k0,k1,k2,k3,k5,mN,o1,o2,o3,o4⟩:=BZ I.ok.mod.vU R;let kp:∀d o,X.base.get? d\o->s1•d\o:=λd o q=>(p.bs d o q).1
 let⟨⟨ob,ws,m,O,a3,L,a5⟩,_,_⟩:=p.aU x _ C;let⟨S,c,G⟩:=a5 rfl;let⟨g,gg,dr,tk,os⟩:=s1;rwa[al7 (ala alG.init.plain alG.initEntry (wpAny_check_init_subT alG (o4.keeps kp) (kp^o1) m O ?_))];rwa[MB m L G ?_];let T:x≠g.objs.size:=aj9 (ajR m);let w:=ajB ("tuple">>>.seq #[E]) m;let j:=ak6 L (·.setIfInBounds 0 (Value.ref g.objs.size));let i:=akm (Obj.mapFields (·.setIfInBounds 0 (Value.ref g.objs.size))) w (alH j)
 let J:=p.write (h':=(g.push ("tuple">>>.seq #[E])).update x (Obj.mapFields (·.setIfInBounds 0 ↑g.objs.size))) (t':=tk) (o:=XO x a P true) (x:=x) (e:=x) ([C]▸True.intro) (.inl rfl) (λd u V z=>(ako^akI V).trans (ajB _ z)) ⟨_,i⟩
  (AV ⟨11,i,(Obj.cls_mapFields _ _).trans O,(zE _ _).trans a3,j,λ_=>⟨[Array.getElem?_setIfInBounds_ne ⋯]▸S,g.objs.size,by simp[(alc.mp G).1]⟩⟩)
 let W:upd B x (XO x a P true)=B:=by
  funext d
  cases z:d=x
  ·rw[z,aj,C]
  ·rw[ao z]
 rw[W]at J;rwa[.non,B,J,2,q]
def X7 (K:Za1)(k i:TE)(f:Str):TS:=λD c H=>i c H λy j=>k c j λx b=>∃(a C:Zs)(h:Zo)(g:Bool),x=↑a/\b a\XO a C h g/\yr K C/\lG K C f/\
 match h with
 |none=>∀d,b d=none->D.nx c (upd (upd b d (XD d [(f,y)])) a (XO a C (some d) g))
 |some d=>∃fs,d≠a/\b d\XD d fs/\⇑fs<1000/\D.nx c (upd b d (XD d (bT f y fs)))
def JC {fs:List (Str×V)}{mA:Str->Zl}{y:V}(r:∀f,fq (fs.lookup f) (mA f))(a:PySem.Within mA (fs.map (·.1)))(c:RelV y u):(∀g,fq ((bT f y fs).lookup g) (if g=f then some u else mA g))/\PySem.Within (λg=>if g=f then some u else mA g) ((bT f y fs).map (·.1)):=by
 rwa[⟨λg=>?_,λg b=>?_⟩]
 ·rw[oN];cases q:g=f
  ·rw[aj3 q,aj3 q];rwa[c]
  cbv
 ·cases q:g=f
  ·rw[q];rwa[(lF f y fs).1]
  ·rwa[(lF f y fs).2 g (a g λz=>b ?_)]
   cbv
def FE [M:eT X K]{o value:Expr}{R Q:TE}(ha:PE X o R)(hv:PE X value Q)(hs:swapsWith value (some (.Attribute o f pos')) pos.line X.env=pure false):PS X (.Assign [.Attribute o f pos'] value pos) (X7 K R Q f):=by
 cases M.eq;intro j s w H D I h;rwa[plainObj_wpAny_Assign_Attribute (bq (hv j s w H _ I h) λu s1 ζ=>?_) hs];let⟨y,H1,I1,T,q⟩:=ζ;rwa[bq (ha j s1 w H1 _ I1 q) λov s2 ζ=>?_];let⟨x,H2,k,rx,a,C,dx,nw,ex,V,c,n,A⟩:=ζ;subst ex;obtain rfl:ov=Value.ref a:=rx;let⟨⟨ob,vs,N,O,S,G,a5⟩,_,_⟩:=k.aU a _ V
 cases dx with
 |some d=>
  let⟨fs,nd,U,hl,A⟩:=A;let⟨⟨mA,hn,r,P⟩,_,_⟩:=k.aU d _ U;rwa[ab7 k.dQ c N O G n.GA S hn P (by rw[ajD,sizeLine_eq];omega) λm i sb=>?_]
  let⟨L,E⟩:=JC (f:=f) r P T;let⟨v,_,_,p,_⟩:=id i;rwa[w,_,k.write (x:=d) (e:=d) ([U]▸True.intro) (.inl rfl) (λb u F z=>(sb.2 b F).trans z) ⟨v,p⟩ (Ow ⟨_,i,L,E⟩),A]
 |none=>
  rwa[X3 k.dQ c N O G n.GA S λm i l kp=>?_]
  let W:H2 ↥s2=none:=k.aU.fresh (ajE _);let B:↥s2≠a:=akP (ajR N);let⟨v,es,ep,p,Z⟩:=id i;let⟨L,E⟩:=JC (fs:=[]) (mA:=λ_=>none) (f:=f) (λ_=>True.intro) (λg hg=>absurd rfl hg) T;let J:=k.laid (a:=↥s2) (o:=XD ↥s2 [(f,y)]) (h':=s2.heap.push v) (t':=s2.toks) (λb u z=>ajB _ z) (ajE _) (Ow ⟨_,⟨v,es,ep,Heap.get?_push_at rfl (Heap.get?_some_iff.mp p).2,Z⟩,L,E⟩);rwa[⟨w,_,J.write (h':=m) (x:=a) (e:=a) (o:=XO a C (some ↥s2) nw) ([ao B.symm,V]▸True.intro) (.inl rfl) (λb u F z=>?_) ⟨_,l⟩ (AV ⟨11,l,O,2,G,a5⟩),A _ W⟩];rcases Heap.get?_push_cases z with ⟨rfl,rfl⟩|z
  ·rwa[p]
  ·rwa[kp b u F z]
inductive UG (K:Za1)(f:Str)(x:V)(H:Hp)(Q:VK):Prop
 |mk (a C d:Zs)(nw:Bool)(fs:List (Str×V))(v:V):x=↑a->H a\XO a C (some d) nw->H d\XD d fs->yr K C->lG K C f->fs.lookup f\v->Q v H->UG K f x H Q
def X8 (K:Za1)(b:TE)(f:Str):TE:=λ c H Q=>b c H λx a=>UG K f x a Q
def FG [i:eT X K]{e:Expr}{k:TE}(T:PE X e k)(A:attributeBase e f X.env (eval e X.env)=eval e X.env):PE X (.Attribute e f pos) (X8 K k f):=by cases i.eq;intro b s O H Q I h;rwa[E6 A (bq (T b s O H _ I h) λu s1 ζ=>?_)];let⟨x,G,g,N,a,C,d,nw,fs,v,ex,V,P,c,n,l,q⟩:=ζ;subst ex;obtain rfl:u=Value.ref a:=N;let⟨⟨F,D,U,w,m,p,a5⟩,_,_⟩:=g.aU a _ V;let⟨⟨S,R,r,Z⟩,_,_⟩:=g.aU d _ P;let⟨u,M,z⟩:=fq.some_of (v:=v) (o:=S f) (by rw[<-l];rwa[r f]);let⟨E,B,L⟩:=y8 R;let⟨oc,od,W,j⟩:=F;dsimp only at w m p;subst w m p;let J:PySem.W.InstAt s1.heap a ⟨↑C,some d,.fields D,j⟩ C (some E):=⟨U,22,B⟩;rwa[ab8 g.dQ c J (findObj_own c.hd n rfl (by rw[L,M])) (y9 z) ⟨v,G,g.tok _,z,q⟩]
end L2
namespace L2
def fD (X:Cx)(a:List (Zs×Obj))(g:St)(d:Hp)(x C:Zs)(f:Zo)(s:Zu):Prop:=
 ∃(B:Heap)(c:Hp)(s1:Zu),Inv X a g c s1/\s.os=s1.os/\AllBare s.gens/\lY B X.stack x ↑C f .none s.heap/\Un (c9 X.stack) [] c d s1.heap s.heap/\dS X.prog X.w d B/\(∀b o,s1•b\o->c b=none->b∉c9 X.stack->B.get? b\o)/\(∀b o,s1•b\o->b∉c9 X.stack->∃e,B.get? b\e)
section
variable {X:Cx}{pins:List (Zs×Obj)}{σ:St}{H':Hp}{x C:Zs}{dx:Zo}{s:Zu}
def fD.of {E:XK}{b:Zu}(I:Inv X pins σ H b)(cx:dz X.prog X.w X.stack H b E v s):∃x C dx H',v=↑x/\fD X pins σ H' x C dx s/\E ↑C dx H':=by let⟨x,C,dx,B,H',rfl,os,bare,fl,un,a,d,c,q⟩:=cx;rwa[x,C,dx,H',2,⟨B,H,b,I,os,bare,fl,un,a,d,c⟩,q]
def fD.step {fl:Zt}{s1:Zu}(I:Inv X pins σ H s1)(os:s.os=s1.os)(bare:AllBare s.gens)(un:Un (c9 X.stack) [] H H' s1.heap s.heap)(aU:dS X.prog X.w H' g)(q:∀b o,s1•b\o->H b=none->b∉c9 X.stack->g.get? b\o)(p:∀b o,s1•b\o->b∉c9 X.stack->∃i,g.get? b\i)(a:lY g X.stack x ↑C dx .none h)(u:s.heap.UpToSlots h):fD X pins σ H' x C dx (s<*h):=by
 let n:∀b o,s1•b\o->b∈c9 X.stack->∃sl,h.get? b\{ o with slots:=sl }:=λb o e c=>by let⟨t,f,r⟩:=I.Oc c;rw[e]at f;ext f;let⟨sl,m⟩:=un.slot b o e (I.oW b c) c (by simp);let⟨k,j⟩:=u b _ m r;rwa[k,j]
 rwa[⟨g,H,s1,I,os,bare,a,⟨λb o d f l _=>a.1 b o (q b o d f l),λb o d _ l _=>n b o d l,un.free,λb o d _=>?_,un.iJ,un.hJ,un.iK⟩,aU,q,p⟩];cases c:b∈c9 X.stack
 ·let⟨sl,j⟩:=n b o d c;rwa[_,j]
 ·let⟨i,m⟩:=p b o d c;rwa[i,a.1 b i m]
def fD.look (t:fD X pins σ H' x C dx s)(a:X.stack=X.env::X.outer)(k:X.env.frame\X.env.locals)(hA:A.frames\X.stack)(h:∀d,fD X pins σ H' x C dx (s<*d)->U () (s<*d)):
 X⁻¹ A (noteFrame ↑x X.env) (λ_ f=>X⁻¹ A (setFlight ↑x none) U E f) E s:=by
 let⟨B,o,p,I,os,bare,fl,un,aU,n,j⟩:=t;let b:=fl;rw[a]at b;rwa[Ov (base:=B) (hA.trans (by rw[a])) k b λe l i=>?_]
 rwa[wJ (s:=(s<*e)) l λm c g=>h m (fD.step (fl:=.none) I os bare un aU n j ([a]▸c) (i.trans g))]
def fD.again (t:fD X pins σ H' x C dx s)(h:∀b,fD X pins σ H' x C dx (s<*b)->U () (s<*b)):
 X⁻¹ A (setFlight ↑x none) U E s:=by let⟨B,f,g,I,os,bare,fl,un,aU,d,c⟩:=t;rwa[wJ fl λe a u=>h e (fD.step (fl:=.none) I os bare un aU d c a u)]
def fD.inv (t:fD X pins σ H' x C dx s):Inv X pins σ H' s:=by let⟨B,c,d,I,os,bare,fl,un,aU,e,a⟩:=t;rwa[I.Gs (ch:=[]) os un (aU.kept fl.1) bare (λb z=>absurd z (by simp))]
def fD.none (t:fD X pins σ H' x C dx s):H' x=none:=by
 let⟨B,c,d,I,os,bare,fl,un,aU,f,b⟩:=t
 cases e:H' x with
 |none=>rfl
 |some u=>let⟨o,a⟩:=(aU x u e).get;rw[fl.2.1]at a;ext a
def fD.at (t:fD X pins σ H' x C dx s):zF x C dx false s.heap:=by let⟨B,e,f,I,os,bare,fl,un,aU,g,d⟩:=t;let⟨_,_,_,c,a,_,_,_,b,hc,hd,_⟩:=fl;rwa[c,a,b,hc.1,hc.2,hd,λz=>by ext z]
def fD.aca (t:fD X pins σ H' x C dx s):Inv X pins σ (upd H' x (XO x C dx false)) s:=by
 let F:=t.none;let h:=t.at;let⟨B,D,E,I,os,bare,fl,un,aU,l,y⟩:=t;let⟨r,p,G,_,_,hd,_⟩:=id h;let ne:∀b u,H' b\u->b≠x:=λb u e z=>by cbv
 rwa[I.Gs (ch:=[]) os ⟨un.keep,un.slot,λb o d f k=>?_,un.there,λb g e=>?_,λb o u e=>?_,λb j e=>?_⟩ (λb u e=>?_) bare (λb z=>absurd z (by simp))]
 ·rwa[(ao ?_).trans (un.free b o d f k)];rintro rfl;cases a:b∈c9 X.stack
  ·let⟨w,i,A⟩:=I.Oc a;rw[d]at i;ext i;let⟨sl,n⟩:=un.slot b o d f a (by simp)
   cbv
  ·have:=l b o d f a;rw[fl.2.1]at this
   cbv
 ·have:=un.iJ b g e;rw[ao (ne^this)];ext
 ·have:=un.hJ b o u e;rw[ao (ne^this)];ext
 ·let⟨m,this⟩:=un.iK b j e;rwa[m,by rw[ao (ne^this)];ext]
 ·cases a:b=x
  ·subst a;rw[aj]at e;ext e;rwa[AV h]
  ·rw[ao a]at e;rwa[(aU b u e).fO (λc v _ q=>fl.1 c v q) (λc q=>[ao (ne^q)]▸q) λc g q=>[ao (ne^q)]▸q]
end
abbrev JD:=Zs->Zo->St->Hp->Prop
abbrev Oz:=St->Hp->VK->JD->Prop
abbrev zG:=Ends->JD->St->Hp->Prop
def UH (X:Cx)(a:List (Zs×Obj))(R:JD)(e:Zt)(s:Zu):Prop:=∃x C b c H,e=↑x/\fD X a c H x C b s/\R C b c H
def YR (X:Cx)(e:Expr)(t:Oz):Prop:=∀(a:List (Zs×Obj))(s:Zu)(b:St)(H:Hp)(Q:VK)(R:JD),Inv X a b H s->t b H Q R->X⁻¹ X.A (eval e X.env) (EP X a b Q) (UH X a R) s
def FH (X:Cx)(st:Stmt)(t:zG):Prop:=∀(a:List (Zs×Obj))(s:Zu)(b:St)(H:Hp)(D:Ends)(R:JD),Inv X a b H s->t D R b H->X⁻¹ X.A (exec st X.env) (SP X a D) (UH X a R) s
section
variable {X:Cx}{k:Nat}{f:Zs}{fd:FuncData}{ps:Zp}{sp:Sp}{x:Str}{p pos:Pos}{e:Expr}{es:Zr}{t:TA}{ds:Zk}{dvs:Zb}
def UI (sp:Sp)(dvs:Zb)(t:TA):Oz:=λ a H Q R=>t a H λd g=>sp (d++dvs) g Q λc h b=>∃C,c=↑C/\R C h a b
theorem B6 (F:dP X.prog X.w X.K X.mg X.base (dz X.prog X.w) k f fd ps sp)(N:cR k X.A)(E:Gl X x)(P:X.mg x\↑f)(G:keepIn X.K ↑f=true)(D:Binds X.K fd ps ds)(A:Vals dvs ds)(W:PA X.uA (e::es) t)(m:(x==("__debug__":Str))=false:=by decide)(U:starEach (e::es) X.env=(false,eval e X.env)::starEach es X.env:=by rfl)(g:(backTo pos (starEach es X.env)).any (·.1)=false:=by rfl):
 YR X (.Call (.Name x p) (e::es) [] pos) (UI sp dvs t):=by
 intro b s j H Q R I h;rwa[akH (kI I E P ?_ m)];rwa[ama (h₀:=X.base) I.ok.mod.vU G (akM (W pos b s j H _ (I.wish _) h) (λd i ζ=>?_) λ_ _ z=>False.elim z) U g];let⟨o,v,n,r,q⟩:=ζ;rwa[⟨n.dQ,5⟩];let J:=n.iM;let w:Vals (o++dvs) (d++ds):=r.append A;let M:⇑(d++ds)=⇑ps:=by rw[<-⇑w];rwa[F.len _ _ _ _ q]
 rwa[al7 (alV (F.run X.A X.stack i v ⟨d,[]⟩ (d++ds) (o++dvs) Q _ N J.A6 (D i d J.dQ M) w q) λr B a=>?_)]
 cases r with
 |error e=>let a:dz X.prog X.w X.stack v i (λc l S=>∃C,c=Value.ref C/\R C l j S) e B:=a;let⟨x,C,l,Y,rfl,L,Z,T,z⟩:=fD.of J a;ext T;rwa[x,C,l,j,Y,2,L,z]
 |ok O=>
  cases O with
  |ret u=>exact J.after a
  |next=>exact False.elim a
  |brk=>exact False.elim a
  |cont=>exact False.elim a
def X9 (i:Nat)(b:Oz):zG:=λD R a H=>b a H (λv c=>D.nx (a.set i (some v)) c) R
def FJ {x:Str}{b:Oz}{pos':Pos}(w:X.N.Nodup)(o:X.N[i]?\x)(r:Loc X.env.scope x)(u:YR X e b)(n:swapsWith e (some (.Name x pos')) pos.line X.env=pure false:=by rfl)(l:X.fn x=true\/X.env.scope.names.lookup x=some .local:=by trivial):
 FH X (.Assign [.Name x pos'] e pos) (X9 i b):=by intro a s q H D R I h;rwa[wpAny_Assign_Name (bq (u a s q H _ R I h) λv A ζ=>?_) n];let⟨y,m,d,c,g⟩:=ζ;rwa[p8 d w o r c (λz j=>⟨_,m,j,g⟩) l]
def acb (c:TT)(t u:zG):zG:=λD R a H=>c a H λb d=>if b=true then t D R a d else u D R a d
def UJ {c:Expr}{a b:Stmt}{o:TT}{u w:zG}(E:PT X.uA c o)(C:FH X a u)(y:FH X b w):FH X (.If c [a] [b] pos) (acb o u w):=by
 intro g s l H D R I h
 let one:∀{st:Stmt}{m:zG}{j:Zu}{i:Hp},FH X st m->Inv X g l i j->m D R l i->X⁻¹ X.A (execs [st] X.env) (SP X g D) (UH X g R) j:=λ{st m j i} A J q=>
  wpAny_execs_cons (bq (A g j l i D R J q) λB F z=>by
   cases B with
   |next=>exact alN z
   |ret v=>exact z
   |brk=>exact z
   |cont=>exact z)
 rwa[wpAny_If (akM (E g s l H _ (I.wish _) h) (λd j ζ=>?_) λ_ _ z=>False.elim z)];let⟨i,n,r⟩:=ζ
 cases d with
 |true=>exact one C n.iM r
 |false=>exact one y n.iM r
end
abbrev zH:=Ends->Zs->Zo->St->Hp->Prop
def OB (X:Cx)(d:List ExceptHandler)(t:zH):Prop:=∀(a:List (Zs×Obj))(s:Zu)(c:St)(H:Hp)(x C:Zs)(b:Zo)(D:Ends),fD X a c H x C b s->t D C b c H->X⁻¹ X.A (handleBy ↑x X.env d) (SP X a D) X.xe s
section
variable {X:Cx}{y n:Str}{Y:Zs}{np pos:Pos}{GR:Stmt}{suite:List Stmt}{rest:List ExceptHandler}{tb:TS}{tr:zH}{i:Nat}
def Ya (K:Za1)(Y:Zs)(i:Nat)(tb:TS)(tr:zH):zH:=λD C d e H=>∃b,exmOne K ↑C ↑Y\b/\if b=true then ∀x,H x=none->tb { nx:=λ a c=>D.nx (a.set i none) c,rt:=D.rt,bk:=λ a c=>D.bk (a.set i none) c,ct:=λ a c=>D.ct (a.set i none) c } (e.set i (some ↑x)) (upd H x (XO x C d false)) else tr D C d e H
def UK [p:eT X K](l:X.N.Nodup)(k:X.N[i]?\n)(g:X.env.scope.names.lookup n=some .local)(E:Gl X y)(O:X.mg y\↑Y)(B:∀x,jM (X.zo x) (GR :: suite) tb)(L:OB X rest tr)(A:(y==("__debug__":Str))=false):
 OB X (.ExceptHandler (some (.Name y np)) (some n) (GR :: suite) pos::rest) (Ya K Y i tb tr):=by
 cases p.eq;intro a s N H x C P D j h;let⟨b,t,h⟩:=h;let I:=j.inv;rwa[wpAny_handleBy_cons (codeAny_handlers_test ?_) f!""];rwa[kI (X:=X.zo x) (I.zo x) E O ?_ A];rwa[PySem.W.exm_one I.dQ j.at.ex.XG t _ _ _ _ (λ_ _ e=>e) ?_]
 cases b with
 |false=>exact L a s N H x C P D j h
 |true=>
  let h:=h x j.none;rwa[codeAny_handlers_suite_as (j.again λQ o=>?_)];let J:=o.aca;rwa[p8 (X:=X.zo x) (J.zo x) l k (.inl g) (v:=↑x) rfl (λF G=>?_) (.inr g)];rwa[akM (B x a F _ _ _ G h) (λM R q=>?_) λ_ _ z=>False.elim z]
  cases M with
  |next=>let⟨f,w,d,q⟩:=q;rwa[tS (d.AQ I.ok) l k g λm c=>⟨11,c,q⟩]
  |brk=>let⟨f,w,d,q⟩:=q;rwa[tS (d.AQ I.ok) l k g λm c=>⟨11,c,q⟩]
  |cont=>let⟨f,w,d,q⟩:=q;rwa[tS (d.AQ I.ok) l k g λm c=>⟨11,c,q⟩]
  |ret u=>let⟨v,f,w,d,r,q⟩:=q;rwa[tS (d.AQ I.ok) l k g λm c=>⟨v,11,c,r,q⟩]
def Yb:zH:=λ_ _ _ _ _=>False
def UL:OB X rest Yb:=λ_ _ _ _ _ _ _ _ _ h=>h.elim
def Yc (t:zG)(c:zH):TS:=λD e H=>t D (λC d a b=>c D C d a b) e H
def Rg {st:Stmt}{t:zG}{b:ExceptHandler}{j:List ExceptHandler}{c:zH}(d:X.stack=X.env::X.outer)(l:X.env.frame\X.env.locals)(k:FH X st t)(o:OB X (b :: j) c):
 PS X (.Try [st] (b :: j) [] [] pos) (Yc t c):=by
 intro a s u H D I h;rwa[wpAny_Try_except (wpAny_execs_cons (akM (k a s u H D _ I h) (λp r q=>?_) λe r q=>?_))]
 ·cases p with
  |next=>exact alN (alN q)
  |ret v=>exact q
  |brk=>exact q
  |cont=>exact q
 ·let⟨x,C,w,g,m,rfl,c,q⟩:=q;rwa[c.look d l I.ok.frames λz f=>o a _ g m x C w D f q]
end
def G7 (K:Za1)(C:Zs):Bool:=match findIn K ↑C "__init__" with
 |some (some ↑f)=>yt K C f
 |_=>false
def FK (h:G7 K a=true)(e:findIn K ↑a "__init__"=some (some ↑b)):yt K a b=true:=by unfold G7 at h;rw[e]at h;rwa[h]
structure acd (K:Za1)(x qual:Str)(st:Stmt)(f:Zs)(fd:FuncData)(dV:Zt):Prop where
 ex:∃(oc:Zt)(od:Zo)(kV doc pm:Zt)(an:Zo)(cy ct:Zt)(Bc:Array Zl),fd=fnOf x qual (ej st) (cY st) (az st) dV kV doc pm an cy ct/\K.lookup f\⟨oc,od,.func fd,Bc⟩/\codeIn K cy qual=true
 kp:keepIn K ↑f=true
structure DDef (K:Za1)(mg:Str->Zl)(x:Str)(st:Stmt)(ps:Zp)(f:Zs)(fd:FuncData)(d:Str):Prop where
 F:∃dV,acd K x x st f fd dV
 kp:keepIn K ↑f=true
 m:mg x\↑f
 b:Binds K fd ps []
 bd:∃t,Binds K fd ps [.str d t]
variable {P:Program}{w:World}{K:Za1}{mg:Str->Zl}{base:Heap}
theorem DDef.UE {st:Stmt}{fd:FuncData}{e:Zp}{k:Nat}{sp:Sp}(D:DDef K mg x st e a fd f)(S:aP Z e (az st))(len:∀c H Q E,sp c H Q E->⇑c=⇑e)(d:∀(b:Zt) (A:Around) (outer:Zq) (s:Zu) (H:Hp) (c:Zb) (Q:VK) (E:XK),cR k (A.deeper (envOfC x (az st) ↥s a b))->sp c H Q E->∃t,jM (cK (dz P w) P w K mg base Z x (az st) a b A outer s H E) (cY st) t/\t { nx:=λ_ j=>Q .non j,rt:=Q } (start Z c) H):dP P w K mg base (dz P w) (k+ 1) a fd e sp:=by let⟨dV,F⟩:=D.F;let⟨m,o,kV,doc,pm,n,b,ct,l,rfl,lk,h⟩:=F.ex;rwa[AO lk h S len λA outer s H c Q E i g=>d b A outer s H c Q E i g]
def DDef.of {st:Stmt}{y d:Zo}{j r:Array Zl}{kV doc pm ct A:Zt}{dd:Zo}{t:Tok}(X:K.In h)(G:h.Ns mainGlobals mg)(e:PySem.W.nsIn K mainGlobals x\some ↑a)(l:K.lookup a\⟨v,y,.func (fnOf x x (ej st) (cY st) (az st) ↑b kV doc pm d u ct),j⟩)(c:codeIn K u x=true)(k:keepIn K ↑a=true)(lt:K.lookup b\⟨A,dd,.seq #[.str f t] n,r⟩)(g:∀(kV doc pm:Zt) (d:Zo) (u ct:Zt) (us:Zk),⇑us=⇑Z->∃i:Option Zm->Sem (List (Str×Zt)),bindArgs (fnOf x x (ej st) (cY st) (az st) ↑b kV doc pm d u ct) ⟨us,[]⟩=seqItems? ↑b >>=i/\i (some #[.str f t])=pure (Z.zip us))(z:∀(kV doc pm:Zt) (d:Zo) (u ct:Zt) (us:Zk),⇑us+ 1=⇑Z->∃i:Option Zm->Sem (List (Str×Zt)),bindArgs (fnOf x x (ej st) (cY st) (az st) ↑b kV doc pm d u ct) ⟨us,[]⟩=seqItems? ↑b >>=i/\i (some #[.str f t])=pure (Z.zip (us++[.str f t]))):
 DDef K mg x st Z a (fnOf x x (ej st) (cY st) (az st) ↑b kV doc pm d u ct) f:=by
 rwa[⟨⟨_,⟨v,y,kV,doc,pm,d,u,ct,j,2,l,c⟩,k⟩,k,mg_of X G e,λs us p m=>?_,t,λs us p m=>?_⟩]
 ·rw[akb]at m ⊢;let⟨i,q,o⟩:=g kV doc pm d u ct us m;rwa[BindsTo.of_defaults (T:=b) rfl (p^lt) rfl q o]
 ·let⟨i,q,o⟩:=z kV doc pm d u ct us (by simpa using m);rwa[BindsTo.of_defaults (T:=b) rfl (p^lt) rfl q o]
end L2
namespace L2
def G8 {c:Nat}{g:Zg}(b:S.Wf):(S.make c z g).stand=S.stand+ 1:=by
 unfold RS.stand;show (~~~(S.q+ 1)).countP _=_;rw[ak8,List.countP_append,List.countP_singleton]
 let d:(S.make c z g).ax S.q=S.q:=by show (S.grown c z g).ax S.q=S.q;rw[fZ b,aj3 rfl]
 rw[show decide ((S.make c z g).ax S.q=S.q)=true from ajZ d,aj3 rfl]
 congr 1
 rwa[List.countP_congr λa e=>?_]
 have:(S.make c z g).ax a=S.ax a:=by show (S.grown c z g).ax a=S.ax a;rw[fZ b,ajY (by have:=akt.mp e;omega)]
 rw[this]
def B7 (hw:S.Wf)(d:n<S.q):(S.make n z l).by m y=if m=S.q/\y= -z then some n else if m=n/\y=z then some S.q else S.by m y:=by
 unfold RS.make RS.keep;let b:(S.grown n z l).ways.length=S.q+ 1:=by show ⇑(S.ways++[[]])=_;rw[ajC,hw.w];rfl
 let c:∀a s,(S.grown n z l).by a s=S.by a s:=λa s=>by unfold RS.by;rw[oi hw]
 show (((S.grown n z l).cH n z S.q).cH S.q (-z) n).by m y=_;rw[jT (by show ⇑((S.grown n z l).ways.set n _) > _;rw[aj5,b];omega),jT (by rw[b];omega),c]
def zI (h:iG S)(g:S.Wf)(c:Nat)(z:Int)(f:Zg):iG (S.make c z f):=by
 let e:∀b,(S.make c z f).ax b=if b=S.q then S.q else S.ax b:=λb=>fZ g c z f b
 rwa[⟨λb d a=>?_,λb d=>?_,λb d=>?_⟩]
 ·let d:b<S.q+ 1:=d;rw[e]at a;cases q:b=S.q
  ·rw[aj3 q,q]at a;rwa[absurd rfl a]
  ·rw[ajY q]at a;rwa[h.a b ∅ a]
 ·let d:b∈S.bz:=d;have:=h.c b d;rw[e,ajY ∅];rwa[h.b b d]
 ·let d:b∈S.bz:=d;have:=h.c b d;show b<S.q+ 1;ext
def FL (d:Dt):Prop:=(∃n,d=.i n)\/∃l,d=.s l
def FL.low {k:Nat}{d:Dt}(h:FL d)(a:bW H k q d):bW H n q d:=by
 rcases h with ⟨b,rfl⟩|⟨l,rfl⟩
 ·ext a;rwa[.i]
 ·ext a;rwa[.s]
def Rh {k:Nat}{b:List Dt}(h:∀x∈b,FL x)(a:bW H (k+ 1) q (.t b)):bW H (n+ 1) q (.t b):=by
 cases a with
 |t g f i=>exact .t g f λj q d e c=>(h d (ajA c)).low (i j q d e c)
def Dp (d:Dt):Prop:=∃a,d=.t a/\∀x∈a,FL x\/∃as,x=.t as/\∀y∈as,FL y
def Dp.low {d:Dt}(h:Dp d)(b:bW H 4 q d):bW H 2 q d:=by
 let⟨k,rfl,h⟩:=h
 cases b with
 |t g f i=>
  rwa[.t g f λj q d e c=>?_]
  let b:=i j q d e c;rcases h d (ajA c) with a|⟨as,rfl,a⟩
  ·rwa[a.low b]
  ·rwa[Rh a b]
def FN {a:List Dt}(h:∀x∈a,FL x):Dp (.t a):=⟨a,rfl,λx b=>.inl (h x b)⟩
def UM (c:Nat)(z:Int)(n:Nat):Dp (il c z n):=FN λx a=>by
 simp only[ajS,akn,alJ]at a;rcases a with rfl|rfl|rfl|rfl
 ·rwa[.inr ⟨_,rfl⟩]
 all_goals rwa[.inl ⟨_,rfl⟩]
def UN {e:Za3}{b:Zh}{W:Za2}{row:Dt}(h:One e n B W row b R):Dp row:=by
 cases h with
 |meet=>
  rwa[FN λx a=>?_]
  simp only[ajS,akn,alJ]at a;rcases a with rfl|rfl|rfl|rfl|rfl
  ·rwa[.inr ⟨_,rfl⟩]
  all_goals rwa[.inl ⟨_,rfl⟩]
 |rule=>
  rwa[⟨12,λx a=>?_⟩];simp only[ajS,akn,alJ]at a;rcases a with rfl|rfl|rfl|rfl
  ·rwa[.inl (.inr ⟨_,rfl⟩)]
  ·rwa[.inl (.inl ⟨_,rfl⟩)]
  ·rwa[.inr ⟨_,rfl,λy d=>?_⟩];let⟨c,_,rfl⟩:=akp.mp d;rwa[.inl ⟨12⟩]
  ·rwa[.inl (.inl ⟨12⟩)]
def Yd {e:Za3}{c:Zh}{W:Za2}{b:List Dt}(h:Go e n B W b c R):∀x∈b,Dp x:=by
 induction h with
 |nil=>cbv
 |cons o _ d=>
  intro x a;rcases ajS.mp a with rfl|a
  ·rwa[UN o]
  ·rwa[d x a]
section
variable {S S':RS}{R:Za2}{ks:Zg}{pend:Ze}
def kQ.gap (l:kQ S pend S'):Good S pend R->(∀c z d,R c z d->z∈ks)->fu S R ks->fu S' R ks:=by
 induction l with
 |nil S=>exact λ_ _ h=>h
 |take _ b=>intro g a h;rwa[b (g.take a).1 a (h.take g)]
def kQ.wr (l:kQ S pend S'):Good S pend R->(∀c z d,R c z d->z∈ks)->⇑S.bz<=⇑S.rows->⇑S'.bz<=⇑S'.rows:=by
 induction l with
 |nil S=>exact λ_ _ h=>h
 |take _ i=>
  intro g e h;let⟨f,_,_,_,q⟩:=g.take e;rwa[i f e ?_];rcases q with ⟨_,a,b⟩|⟨_,_,_,_,_,_,_,_,_,_,a,b,_⟩
  ·rw[a,b];rwa[h]
  ·rw[a,b,ajC,ajC,akJ,akJ];ext
structure YS (S:RS)(L:Nat)(ks:Zg)(R:Za2):Prop where
 g:Good S [] R
 w:iG S
 k:∀a z b,R a z b->z∈ks
 gi:fu S R ks
 l:S.L=L
 m:0<S.q
 d:∀x∈S.rows,Dp x
 wr:⇑S.bz<=⇑S.rows
def YS.new {L:Nat}{ks:Zg}:YS (RS.new L ks) L ks (λ_ _ _=>False):=by
 rwa[⟨BF L _,⟨λc hc e=>?_,(λc hc=>by ext hc),(λc hc=>by ext hc)⟩,(λ_ _ _ z=>z.elim),QP L _,2,Nat.one_pos,(λx a=>by ext a),ajE _⟩];have:c=0:=by have:c<1:=hc;ext
 subst this;rwa[absurd rfl e]
def YS.make (h:YS S n ks R)(hc:m<S.q)(f:S.ax m=m)(g:S.by m z=none)(hz:z∈ks)(c: -z∈ks):YS (S.make m z ks) n ks (fb R m z S.q):=by
 erw[h.g.make hc f g _,zI h.w h.g.wf _ _ _,λa y b r=>?_,h.gi.make h.g hc f g,h.l,Nat.succ_pos _,λx d=>?_]
 ·rcases r with r|⟨_,e,_⟩|⟨_,e,_⟩
  ·rwa[h.k _ _ _ r]
  ·rw[e];rwa[hz]
  ·rw[e];rwa[c]
 ·let d:x∈S.rows++[il m z S.q]:=d;rcases ajK.mp d with p|p
  ·rwa[h.d x p]
  ·rw[ajF.mp p];rwa[UM^_]
 ·show ⇑S.bz<=⇑(S.rows++[_]);rw[ajC];have:=h.wr;ext
def YS.tr {ws:Za3}(t:Tr ws m S S')(o:∀w∈ws,∀z∈w,z∈ks/\-z∈ks)(h:YS S n ks R):∃u,YS S' n ks u/\S'.q=S.q/\(∀a z b,R a z b->u a z b)/\∃v,S'.rows=S.rows++v/\∃E W B F,Go ws m E W v B F:=by
 induction t with
 |refl=>rwa[R,h,2,λ_ _ _ r=>r,[],(akb _).symm,1111,.nil (E:=S.aV) (W:=λ_ _ _=>False) λ_ _ _=>Iff.rfl]
 |step L ra j P=>
  rename_i k Z which word start f c d z;let⟨C,g,M,N,O,e1,E,W,B,F,g1⟩:=P;let hz:=o word (ajA ra.w) z (ajA ra.hz)
  let i:∀a y b,fb C c z d a y b->y∈ks:=by
   rintro a y b (r|⟨_,e,_⟩|⟨_,e,_⟩)
   ·rwa[g.k _ _ _ r]
   ·rw[e];rwa[hz.1]
   ·rw[e];rwa[hz.2]
  let gl:=g.g.lay z ra.hc.1 ra.hd.1 (qo k which word start f d).rows;let⟨I,Q,A,l2,_⟩:=j.all gl i ⟨g.w.a,g.w.b,g.w.c⟩;let gp:=j.gap gl i ((g.gi.more λa y b r=>.inl r).rows _);let⟨u,X,T,Y,H,J,p⟩:=AU (Tr.step (Tr.refl k) ra j) (R:=C) o g.g g.w g.k;let⟨R0,U,w0,V,l,G,s⟩:=AU (Tr.step L ra j) (R:=R) o h.g h.w h.k;rwa[⟨_,⟨I,Q,i,gp,l2.trans g.l,[A]▸g.m,λx D=>?_,j.wr gl i (by show ⇑k.bz<=⇑(k.rows++[_]);rw[ajC];have:=g.wr;omega)⟩,A.trans M,λa y b r=>.inl (N _ _ _ r),l,G,1111,s⟩];rw[J]at D;rcases ajK.mp D with q|q
  ·rwa[g.d x q]
  ·rwa[Yd p x q]
end
def CI.make {bs:List (Nat×Zg×Nat)}{gs:Zf}{W:bN}(h:CI S bs gs [] W gy none)(d:Good S [] R)(hc:n<S.q)(x:S.ax n=n)(A:S.by n z=none)(f:∀b∈bs,b.2.2<S.q)(g:Zg):CI (S.make n z g) bs gs [] W (λr s=>r=n/\s=z) none:=by
 let i:=d.make hc x A g;let k:S.q<=(S.make n z g).q:=amT _;let lt:=Later.of d i jH k;let el:∀b,b<S.q->(S.make n z g).ax b=S.ax b:=λb c=>(fZ d.wf n z g b).trans (ajY ∅)
 rwa[⟨h.len,λa u q=>?_,λa b B I m=>?_,(λa j=>by ext j),λr s a q=>?_,h.sl,h.bd⟩]
 ·let⟨C,v,E⟩:=h.al a u q;rwa[C,v.later lt k,E]
 ·let c:=f b (ajA m);rw[el _ c];rcases h.de a b B I m with w|w
  ·rwa[.inl w]
  ·cases e:S.ax b.2.2=b.2.2
   ·right
    have:=lt.wk w;rw[el _ c,e]at this;rwa[this]
   ·rwa[.inl e]
 ·let⟨l,p,G,D,o,j,F,w⟩:=h.en r s a q;erw[l,p,G,D,aj7 o k,j,F];rcases w with ⟨t,H⟩|w
  ·cases e:l=n/\s=z
   ·rwa[.inr e]
   ·left
    rw[el _ o,B7 d.wf hc,ajY (λy=>by omega),ajY e];rwa[t,H]
  ·rwa[w.elim]
def pw (s:Int)(n:Nat):Zg:=List.replicate n s
def G9 (h:(pw z n)[m]?\y):m<n/\y=z:=by
 unfold pw at h;rw[List.getElem?_replicate]at h;split at h
 ·rwa[3,(Za0 h).symm]
 ·ext h
structure Pth (S:RS)(P:Nat->Int)(lo:Int):Prop where
 el:∀c,c<S.q->S.ax c=c
 rg:∀c,c<S.q->lo<=P c/\P c<lo+ S.q
 on:∀t:Int,lo<=t->t<lo+ S.q->∃c,c<S.q/\P c=t
 inj:∀a b,a<S.q->b<S.q->P a=P b->a=b
 by_:∀a z b,S.by a z=some b->(z=1\/z= -1)/\P b=P a+ z
 ch:∀a b,a<S.q->b<S.q->P b=P a+ 1->S.by a 1=some b
section
variable {S:RS}
structure Rng (S:RS)(G:Int->Nat)(M:Nat):Prop where
 st:∀t,S.by (G t) 1=some (G (t+ 1))
 pm:∀t,G (t+ M)=G t
end
def Per (G:Int->Nat)(k:Int):Prop:=∀t,G (t+ k)=G t
inductive UO (K:Za1)(xs:Zb)(H:Hp)(Q:VK):Prop
 |mk (l:Zs)(ns:Zg):xs=[↑l]->aF K H l (au ns)->⇑ns<64->(∀D ms,H D=none->ms.Perm ns->ms.Pairwise (·<= ·)->Q ↑D (upd H D (.lst (au ms))))->UO K xs H Q
inductive Ri (x:V)(vs:Zb)(H:Hp)(Q:VK):Prop
 |mk (a:Zs)(ns:Zg)(k:Int):x=↑a->vs=[.int k]->H a\.lst (au ns)->Q (.int (ns.count k:Nat)) H->Ri x vs H Q
abbrev Def.Ok {K:Za1} {mg:Str->Zl} {x:Str} {st:Stmt} {ps:Zp} {f:Zs} {fd:FuncData} (_:Def K mg x st ps f fd) (P:Program) (w:World) (base:Heap) (k:Nat) (sp:Sp):Prop:=dP P w K mg base (dz P w) k f fd ps sp
abbrev MDef.Ok {K:Za1} {C:Zs} {x q:Str} {st:Stmt} {ps:Zp} {f:Zs} {fd:FuncData} (_:MDef K C x q st ps f fd) (mg:Str->Zl) (P:Program) (w:World) (base:Heap) (k:Nat) (sp:Sp):Prop:=dP P w K mg base (dz P w) k f fd ps sp
section
variable {P:Program}{w:World}{K:Za1}{mg:Str->Zl}{base:Heap}{x q:Str}{st:Stmt}{ps N:Zp}{f C:Zs}{fd:FuncData}{k:Nat}{sp:Sp}
def Def.on (D:Def K mg x st ps f fd)(S:aP N ps (az st))(a:∀(b:Zt) (A:Around) (outer:Zq) (s:Zu) (H:Hp) (c:Zb) (Q:VK) (E:XK),cR k (A.deeper (envOfC x (az st) ↥s f b))->sp c H Q E->∃t,jM (cK (dz P w) P w K mg base N x (az st) f b A outer s H E).uA (cY st) t/\t { nx:=λ_ d=>Q .non d,rt:=Q } (start N c) H)(len:∀c H Q E,sp c H Q E->⇑c=⇑ps:=by intro _ _ _ _ h;rcases h with ⟨⟩;subst_vars;rfl):D.Ok P w base (k+ 1) sp:=D.F.okN S len a
def MDef.on (D:MDef K C x q st ps f fd)(S:aP N ps (az st))(a:∀(b:Zt) (A:Around) (outer:Zq) (s:Zu) (H:Hp) (c:Zb) (Q:VK) (E:XK),cR k (A.deeper (envOfC q (az st) ↥s f b))->sp c H Q E->∃t,jM (cK (dz P w) P w K mg base N q (az st) f b A outer s H E).uA (cY st) t/\t { nx:=λ_ d=>Q .non d,rt:=Q } (start N c) H)(len:∀c H Q E,sp c H Q E->⇑c=⇑ps:=by intro _ _ _ _ h;rcases h with ⟨⟩;subst_vars;rfl):D.Ok mg P w base (k+ 1) sp:=D.F.okN S len a
end
section
variable {X:Cx}{x q m:Str}{st:Stmt}{ps:Zp}{f C:Zs}{fd:FuncData}{k j i:Nat}{sp:Sp}{e o:Expr}{es:Zr}{t:TA}{ta te:TE}{p pos pos' apos:Pos}
def pc (D:Def X.K X.mg x st ps f fd)(F:dP X.prog X.w X.K X.mg X.base (dz X.prog X.w) k f fd ps sp)(g:cR j X.A)(d:PA X (e::es) t)(hj:k<=j:=by decide)(h:Gl X x:=by rfl)(b:(x==("__debug__":Str))=false:=by decide)(c:starEach (e::es) X.env=(false,eval e X.env)::starEach es X.env:=by rfl)(a:(backTo pos (starEach es X.env)).any (·.1)=false:=by rfl):
 PE X (.Call (.Name x p) (e::es) [] pos) (NW sp [] (λ_ _ _=>False) t):=x8 F (g.mono hj) h D.m D.F.kp D.b .nil gQ d b c a
def pm {pl:Sem Bool}(g:PE X o ta)(c:kA X.K C)(D:MDef X.K C m q st ps f fd)(F:dP X.prog X.w X.K X.mg X.base (dz X.prog X.w) k f fd ps sp)(n:cR j X.A)(l:PA X (e::es) t)(h:k<=j:=by decide)(a:starEach (e::es) X.env=(false,eval e X.env)::starEach es X.env:=by rfl)(b:(backTo pos (starEach es X.env)).any (·.1)=false:=by rfl)(r:eval (.Call (.Attribute o m apos) (e::es) [] pos) X.env=(do
  let d <-eval o X.env
  standAt apos.atName
  let (f,first) <-holding [d] (getMethod d m pl)
  callWith pos f first (backTo pos (starEach (e::es) X.env)) (backToKw pos (keywordEach [] X.env))):=by rfl):
 PE X (.Call (.Attribute o m apos) (e::es) [] pos) (lj C m sp [] (λ_ _ _=>False) ta t):=kK g c D.m F (n.mono h) D.b .nil gQ l a b r
def wM {pl:Sem Bool}(b:PE X o ta)(c:kA X.K C)(D:MDef X.K C m q st ps f fd)(F:dP X.prog X.w X.K X.mg X.base (dz X.prog X.w) k f fd ps sp)(g:cR j X.A)(d:k<=j:=by decide)(h:eval (.Call (.Attribute o m apos) [] [] pos) X.env=(do
  let a <-eval o X.env
  standAt apos.atName
  let (f,first) <-holding [a] (getMethod a m pl)
  callWith pos f first (backTo pos (starEach [] X.env)) (backToKw pos (keywordEach [] X.env))):=by rfl):
 PE X (.Call (.Attribute o m apos) [] [] pos) (lj C m sp [] (λ_ _ _=>False) ta j9):=Lq b c D.m F (g.mono d) D.b .nil gQ h
def bF (i:Nat)(d:X.N.Nodup)(b:PE X e te)(g:X.N[i]?\x:=by rfl)(h:Loc X.env.scope x:=by trivial)(c:swapsWith e (some (.Name x pos')) pos.line X.env=pure false:=by rfl)(a:X.fn x=true\/X.env.scope.names.lookup x=some .local:=by trivial):
 PS X (.Assign [.Name x pos'] e pos) (x6 te (cZ i)):=Sj d g h b c a
def cS (i:Nat)(a:X.N.Nodup)(b:X.N[i]?\x:=by rfl)(c:Loc X.env.scope x:=by trivial)(d:X.fn x=true\/X.env.scope.names.lookup x=some .local:=by trivial):PG X (.Name x pos) (cZ i):=EX a b c d
end
inductive Ye (x y:V)(H:Hp)(Q:VK):Prop
 |mk (a b:Zs)(xs:Zb):x=↑a->y=↑b->H a\.lst xs->H b\.lst []->Q (.bl (!decide (⇑xs=0))) H->Ye x y H Q
section
variable {C:Zs}{fd:FuncData}{ps:Zp}{x d:Str}{pos:Pos}
def UQ (K:Za1)(fd:FuncData)(ps:Zp)(d:Str):Prop:=∀(s:Zu)(a:Zk)(v:Zt),K.In s.heap->⇑(a++[v])=⇑ps->BindsTo s fd { pos:=a,kw:=[(d,v)] } (ps.zip (a++[v]))
inductive Yf (K:Za1)(xs:Zb)(H:Hp)(Q:VK):Prop
 |mk (x C:Zs)(dx:Zo)(nw:Bool)(y:V)(c:Zt)(b:Bool):xs=[↑x,y]->H x\XO x C dx nw->ab1 K C->vOf y\c->kitOne K ↑C c\b->Q (.bl b) H->Yf K xs H Q
end
variable {K:Za1}{mg:Str->Zl}
structure ah3 (K:Za1)(mg:Str->Zl)(x:Str)(st:Stmt)(ps:Zp)(f:Zs)(fd:FuncData)(d nm:Str):Prop extends DDef K mg x st ps f fd d where
 bk:UQ K fd ps nm
inductive Yg (x y:V)(H:Hp)(Q:VK):Prop
 |mk (a b p q:Zs)(t:Zh)(ns:Zg):x=↑a->y=↑b->H a\.lst [↑p]->H b\.lst [↑q]->H p\.tup (.str (tx t)::au ns)->H q\.tup (.str (tx t)::au ns)->Q (.bl true) H->Yg x y H Q
end L2
namespace M11
def flip (k:Nat):Nat:=if k % 2=0 then k+ 1 else k - 1
def nx (T:Za3)(k i:Nat):Nat:=((T.getD i []).getD k 0).toNat
structure Tab (L:Nat)(T:Za3):Prop where
 pos:1<=⇑T
 top:⇑T<=300
 let1:1<=L
 aif:L<=40
 row:∀(i:Nat)(r:Zg),T[i]?\r->⇑r=2* L
 val:∀i k,i<⇑T->k<2* L->∃r:Zg,T[i]?\r/\r[k]?\((nx T k i:Nat):Int)
 lt:∀i k,i<⇑T->k<2* L->nx T k i<⇑T
 back:∀i k,i<⇑T->k<2* L->nx T (flip k) (nx T k i)=i
def pl (s:Int):Nat:=if 0<s then 2* s.natAbs - 2 else 2* s.natAbs - 1
def walk (T:Za3)(w:Zg)(i:Nat):Nat:=w.foldl (λi s=>nx T (pl s) i) i
def iH (L:Nat)(w:Zg):Prop:=∀s∈w,s≠0/\s.natAbs<=L
def back (w:Zg):Zg:=w.reverse.map λz=>-z
structure Pm (p:Nat)(r:Zg):Prop where
 len:⇑r=p
 nd:r.Nodup
 rg:∀z∈r,0<=z/\z<(p:Int)
def Pm.at (h:Pm n l){i:Nat}(b:i<n):∃j:Nat,l[i]?\(j:Int)/\j<n:=by
 let a:i<⇑l:=by rw[h.len];rwa[b]
 have:=h.rg l[i] (List.getElem_mem a);rwa[l[i].toNat,by rw[ajz a,show ((l[i].toNat:Nat):Int)=l[i] by ext],3]
def ah4 (L:Nat)(f:Nat->Int->Int)(come:Zg)(x:Int)(r:Zg)(m:Nat):Prop:=⇑r=m/\∀k,k<m->∃j:Nat,r[k]?\(j:Int)/\come[j]?\(f k x)
theorem lM:∀(n:Nat)(l:Zh),l.Nodup->(∀x∈l,x<n)->⇑l<=n
 |0,[],_,_=>ajE _
 |0,a::l,_,h=>absurd (h a (ajU ..)) ∅
 |n+ 1,l,b,h=>by
  cases c:n∈l
  ·have:=lM n (l.erase n) (b.erase n) (λx d=>by cbv)
   rw[alT c]at this;ext
  ·have:=lM n l b (λx d=>by cbv)
   ext
def wN (j:l.Nodup)(h:∀x∈l,0<=x/\x<(n:Int)):⇑l<=n:=by
 let f:(l.map Int.toNat).Nodup:=by rwa[alh.mpr (amD ?_ j)];intro a b d g c z;have:=h a d;have:=h b g;rwa[c ∅]
 have:=lM n (l.map Int.toNat) f (λx i=>by let⟨y,e,rfl⟩:=akp.mp i;have:=h y e;omega)
 rw[ajD]at this;rwa[this]
def Pm.UR (h:Pm n l){x:Nat}(g:x<n):∃i:Nat,l[i]?\(x:Int)/\i<n:=by
 let c:(x:Int)∈l:=by
  rwa[amo λc=>?_]
  have:=wN (n:=n) (l:=(x:Int)::l) (akf.mpr ⟨c,h.nd⟩) (λy d=>by
   rcases ajS.mp d with e|d
   ·rw[e];ext
   ·rwa[h.rg y d])
  rw[aj1,h.len]at this;ext
 let⟨i,f,e⟩:=alu.mp c;rwa[i,by rw[ajz f,e],by rw[<-h.len];rwa[f]]
def ah5 (p:Nat)(r t:Zg):Prop:=⇑t=p/\∀k j:Nat,r[k]?\(j:Int)->t[j]?\(k:Int)
def ah6 (p:Nat)(r t:Zg)(n:Nat):Prop:=⇑t=p/\∀k j:Nat,k<n->r[k]?\(j:Int)->t[j]?\(k:Int)
end M11
namespace M12
open M11
def Fc (W:Nat)(E:Zg)(N:Nat):Prop:=(∀z∈E,0<=z/\z<(N:Int))/\∀j:Nat,0<j->j<N->∃p:Nat,p<j* W/\E[p]?\(j:Int)/\∀(q:Nat)(z:Int),q<p->E[q]?\z->z<(j:Int)
def st (k:Nat):Int:=if k % 2=0 then ((k / 2+ 1:Nat):Int) else -((k / 2+ 1:Nat):Int)
def OD (k:Nat):pl (st k)=k:=by
 unfold pl st;cases h:k % 2=0
 ·rw[aj3 h,aj3 ∅];ext
 ·rw[ajY h,ajY ∅];ext
def Yh {k:Nat}(h:k<2* n):st k≠0/\(st k).natAbs<=n:=by unfold st;split <;> ext
def UT:Zh->Zh->Prop
 |a::u,b::v=>a<b\/(a=b/\UT u v)
 |_,_=>False
def ad6 (u v:Zh):Prop:=⇑u<⇑v\/(⇑u=⇑v/\UT u v)
def Lw (L:Nat)(T:Za3)(ws:List Zh):Prop:=⇑ws=⇑T/\ws[0]?\[]/\∀(j p:Nat),0<j->j<⇑T->T.flatten[p]?\(j:Int)->(∀(q:Nat)(z:Int),q<p->T.flatten[q]?\z->z<(j:Int))->∃u,ws[p / (2* L)]?\u/\ws[j]?\(u++[p % (2* L)])
end M12
namespace M17
def it (f:Nat->Nat):Nat->Nat->Nat
 |0,x=>x
 |n+ 1,x=>f (it f n x)
theorem wO (f:Nat->Nat)(m:Nat):∀(n x:Nat),it f (m+ n) x=it f n (it f m x)
 |0,x=>rfl
 |n+ 1,x=>akK f (wO f m n x)
theorem t9 {f:Nat->Nat}(h:∀x,x<m->f x<m):∀(n x:Nat),x<m->it f n x<m
 |0,x,a=>a
 |n+ 1,x,a=>h _ (t9 h n x a)
theorem JF {f:Nat->Nat}(h:∀x,x<m->f x<m)(b:∀x y,x<m->y<m->f x=f y->x=y):∀(n x y:Nat),x<m->y<m->it f n x=it f n y->x=y
 |0,x,y,_,_,e=>e
 |n+ 1,x,y,c,a,e=>JF h b n x y c a (b _ _ (t9 h n x c) (t9 h n y a) e)
theorem m2 {f:Nat->Nat}{x:Nat}(h:it f n x=x):∀k,it f (n* k) x=x
 |0=>rfl
 |k+ 1=>by rw[Nat.mul_succ,wO,m2 h k,h]
def ring {f:Nat->Nat}{x:Nat}(h:∀x,x<n->f x<n)(r:∀x y,x<n->y<n->f x=f y->x=y)(k:x<n):∃c,1<=c/\c<=n/\it f c x=x:=by
 rwa[amo λs=>?_]
 let ne:∀i j,i<j->j<=n->it f i x≠it f j x:=λi j m t e=>by
  rwa[s ⟨j - i,335⟩];let p:it f j x=it f i (it f (j - i) x):=by rw[<-wO,show j - i+ i=j by ext]
  rw[p]at e;rwa[(JF h r i x _ k (t9 h _ x k) e).symm]
 let o:((~~~(n+ 1)).map λi=>((it f i x:Nat):Int)).Nodup:=by rw[List.nodup_iff_pairwise_ne,alh];rwa[amD (R:=λa b=>a<b) (λu l g e=>?_) amR];have:=akt.mp l;rwa[ne _ _ g ∅ ∅]
 have:=M11.wN (n:=n) o λz q=>by let⟨i,_,rfl⟩:=akp.mp q;have:=t9 h i x k;ext
 cbv
def Yi {f:Nat->Nat}(g:n<=6)(h:∀x,x<n->f x<n)(b:∀x y,x<n->y<n->f x=f y->x=y)(x:Nat)(d:x<n):it f 60 x=x:=by
 let⟨c,j,i,e⟩:=ring h b d;let a:c=1\/c=2\/c=3\/c=4\/c=5\/c=6:=∅
 rcases a with rfl|rfl|rfl|rfl|rfl|rfl
 ·rwa[m2 e 60]
 ·rwa[m2 e 30]
 ·rwa[m2 e 20]
 ·rwa[m2 e 15]
 ·rwa[m2 e 12]
 ·rwa[m2 e 10]
end M17
namespace M24
def add (come:Zh)(y:Nat):Zh:=if y∈come then come else come++[y]
def kT (f:Nat->Nat->Nat)(x:Nat)(come:Zh)(k:Nat):Zh:=(~~~k).foldl (λc i=>add c (f i x)) come
def oq (f:Nat->Nat->Nat)(x:Nat)(come:Zh)(k:Nat):kT f x come (k+ 1)=add (kT f x come k) (f k x):=by unfold kT;rw[ak8,amj];rfl
def cq (f:Nat->Nat->Nat)(k a:Nat):Nat->Zh
 |0=>[a]
 |n+ 1=>match (cq f k a n)[n]? with
  |some x=>kT f x (cq f k a n) k
  |none=>cq f k a n
def B9 (f:Nat->Nat->Nat)(k a:Nat):cq f k a 0=[a]:=rfl
def iS {f:Nat->Nat->Nat}{k x:Nat}(h:(cq f k n m)[m]?\x):cq f k n (m+ 1)=kT f x (cq f k n m) k:=by rw[cq,h]
def qv {f:Nat->Nat->Nat}{k:Nat}(h:(cq f k n m)[m]?=none):cq f k n (m+ 1)=cq f k n m:=by rw[cq,h]
def Rj (come:Zh)(y:Nat):∃t,add come y=come++t:=by
 unfold add;split
 ·rwa[[],(akb _).symm]
 cbv
theorem vq (f:Nat->Nat->Nat)(x:Nat)(come:Zh):∀k,∃t,kT f x come k=come++t
 |0=>⟨[],(akb _).symm⟩
 |k+ 1=>by let⟨t,b⟩:=vq f x come k;let⟨u,a⟩:=Rj (kT f x come k) (f k x);rwa[t++u,by rw[oq,a,b,akl]]
def Ca (f:Nat->Nat->Nat)(k a n:Nat):∃t,cq f k a (n+ 1)=cq f k a n++t:=by
 cases h:(cq f k a n)[n]? with
 |none=>rwa[[],by rw[qv h,akb]]
 |some x=>let⟨t,b⟩:=vq f x (cq f k a n) k;rwa[t,by rw[iS h,b]]
def Rk {come:Zh}:m∈add come n↔m∈come\/m=n:=by
 unfold add
 cbv
def UU {come:Zh}(h:come.Nodup)(y:Nat):(add come y).Nodup:=by
 unfold add
 cbv
theorem ua {f:Nat->Nat->Nat}{x:Nat}{come:Zh}(h:come.Nodup):∀k,(kT f x come k).Nodup
 |0=>h
 |k+ 1=>[oq]▸UU (ua h k) _
theorem pC (f:Nat->Nat->Nat)(k a:Nat):∀n,(cq f k a n).Nodup
 |0=>by rw[B9];simp
 |n+ 1=>by
  cases h:(cq f k a n)[n]? with
  |none=>rw[qv h];rwa[pC f k a n]
  |some x=>rw[iS h];rwa[ua (pC f k a n) k]
theorem kU {f:Nat->Nat->Nat}{x:Nat}{come:Zh}{z:Nat}:∀{k:Nat},z∈kT f x come k↔z∈come\/∃i,i<k/\z=f i x
 |0=>⟨.inl,λq=>q.elim id λζ=>by let⟨i,a,_⟩:=ζ;rwa[absurd a (Nat.not_lt_zero _)]⟩
 |k+ 1=>by
  rw[oq,Rk,kU (k:=k)]
  cbv
theorem ub {f:Nat->Nat->Nat}{k:Nat}{P:Nat->Prop}(b:P m)(c:∀x i,P x->i<k->P (f i x)):∀n,∀z∈cq f k m n,P z
 |0,z,a=>by rw[B9,ajF]at a;rw[a];rwa[b]
 |n+ 1,z,a=>by
  cases h:(cq f k m n)[n]? with
  |none=>rw[qv h]at a;rwa[ub b c n z a]
  |some x=>
   rw[iS h,kU]at a;rcases a with a|⟨i,d,rfl⟩
   ·rwa[ub b c n z a]
   ·rwa[c _ _ (ub b c n x (ajA h)) d]
theorem qw {f:Nat->Nat->Nat}{k:Nat}:∀{n j x i:Nat},j<n->(cq f k m n)[j]?\x->i<k->f i x∈cq f k m n
 |n+ 1,j,x,i,g,b,c=>by
  cases h:(cq f k m n)[n]? with
  |none=>rw[qv h]at b ⊢;let o:=amq.mp h;let l:=(ajy.mp b).1;rwa[qw (show j<n by omega) b c]
  |some y=>
   let⟨t,d⟩:=vq f y (cq f k m n) k;let p:=(ajy.mp h).1
   let a:(cq f k m n)[j]?\x:=by rw[iS h,d,ajM ∅]at b;rwa[b]
   cases e:j=n
   ·rw[e,h]at a;rw[iS h,kU];rwa[.inr ⟨i,c,by cbv⟩]
   ·rw[iS h,kU];rwa[.inl (qw (show j<n by omega) a c)]
def ix (come:Zh)(y:Nat):Nat:=come.findIdx λz=>z==y
theorem Hc:∀{come:Zh}{i y:Nat},come.Nodup->come[i]?\y->ix come y=i
 |[],i,y,_,h=>by simp at h
 |a::l,0,y,_,h=>by
  let e:a=y:=Za0 h;unfold ix
  cbv
 |a::l,i+ 1,y,d,h=>by
  rw[List.getElem?_cons_succ]at h;let f:=ajA h
  let b:(a==y)=false:=by rw[aj2];intro e;rwa[(akf.mp d).1 (by cbv)]
  let c:ix l y=i:=Hc (akf.mp d).2 h;unfold ix at c ⊢;rw[List.findIdx_cons,b];show l.findIdx _+ 1=i+ 1;rw[c]
def JG {come t:Zh}(b:(come++t).Nodup)(h:n∈come):ix (come++t) n=ix come n:=by
 let⟨i,a⟩:=akr h;let c:(come++t)[i]?\n:=by rw[ajM (ajy.mp a).1];rwa[a]
 rw[Hc b c,Hc (akv.mp b).1 a]
def yu (f:Nat->Nat->Nat)(k:Nat)(come:Zh):Za3:=come.map λx=>(~~~k).map λi=>((ix come (f i x):Nat):Int)
def UX {come:Zh}(h:n∉come):ix (come++[n]) n=⇑come:=by
 induction come with
 |nil=>unfold ix;rw[amc,List.findIdx_cons];simp
 |cons a l b=>
  rw[ajS,not_or]at h;let c:(a==n)=false:=by rw[aj2];rwa[λe=>h.1 e.symm]
  have:=b h.2;unfold ix at this ⊢
  cbv
def oO (f:Nat->Nat->Nat)(k a n:Nat):Za3:=((cq f k a n).take n).map λx=>(~~~k).map λi=>((ix (cq f k a n) (f i x):Nat):Int)
def JH {f:Nat->Nat->Nat}{k x:Nat}(h:(cq f k n m)[m]?\x):oO f k n (m+ 1)=oO f k n m++[(~~~k).map λi=>((ix (cq f k n (m+ 1)) (f i x):Nat):Int)]:=by
 let⟨t,e⟩:=Ca f k n m;let b:=pC f k n (m+ 1);let q:=(ajy.mp h).1
 let l:(cq f k n (m+ 1)).take (m+ 1)=(cq f k n m).take m++[x]:=by rw[e,List.take_append_of_le_length ∅,aly,h];rfl
 unfold oO;rw[l,akd]
 congr 1
 rwa[akB λc o=>?_]
 rwa[akB λi p=>?_]
 let⟨j,d⟩:=akr o
 let a:j<m:=by have:=(ajy.mp d).1;rw[ake]at this;ext
 rw[alQ a]at d;let g:=qw a d (akt.mp p);rw[e]at b ⊢;rw[JG b g]
def MF {f:Nat->Nat->Nat}{k:Nat}(h:⇑(cq f k n m)=m):oO f k n m=yu f k (cq f k n m):=by
 unfold oO yu
 cbv
end M24
namespace K35
local macro_rules|`(())=>`(⟨2224244⟩)
open PySem L2
def top (i:Nat):Stmt:=PySem.Challenge.pw_cosetyard_k35_only_where_nothing_follows.main.body.getD i (.Pass ⟨(0),(0),(0),(0)⟩)
abbrev Cb:Stmt:=top 1
abbrev pD:Stmt:=top 2
abbrev wQ:Stmt:=top 10
abbrev wU:Stmt:=top 12
abbrev wV:Stmt:=top 13
abbrev wW:Stmt:=top 18
abbrev wX:Stmt:=top 19
abbrev wY:Stmt:=top 22
abbrev OG:Stmt:=top 23
abbrev JK:Stmt:=top 25
abbrev pE:Stmt:=top 27
abbrev sr:Stmt:=top 28
abbrev uJ:Stmt:=top 29
abbrev pF:Stmt:=top 30
abbrev su:Stmt:=top 31
abbrev qY:Stmt:=top 32
abbrev sv:Stmt:=top 33
abbrev uK:Stmt:=top 34
abbrev qZ:Stmt:=top 35
abbrev m3:Stmt:=top 36
abbrev sx:Stmt:=top 37
abbrev q9:Stmt:=top 38
abbrev sC:Stmt:=top 39
abbrev pG:Stmt:=top 40
abbrev rh:Stmt:=top 41
abbrev wZ:Stmt:=top 42
abbrev uL:Stmt:=top 43
abbrev uM:Stmt:=top 44
abbrev zJ:Stmt:=top 45
abbrev sD:Stmt:=top 46
abbrev sE:Stmt:=top 47
abbrev ri:Stmt:=top 48
abbrev sF:Stmt:=top 49
abbrev rj:Stmt:=top 50
abbrev OI:Stmt:=top 51
abbrev m4:Stmt:=inClass (top 3) 0
abbrev ou:Stmt:=inClass (top 3) 1
abbrev uN:Stmt:=inClass (top 3) 2
abbrev lO:Stmt:=inClass (top 4) 0
abbrev jY:Stmt:=inClass (top 4) 1
abbrev oy:Stmt:=inClass (top 4) 2
abbrev m5:Stmt:=inClass (top 4) 3
abbrev pH:Stmt:=inClass (top 4) 4
abbrev oz:Stmt:=inClass (top 4) 5
abbrev pJ:Stmt:=inClass (top 4) 6
abbrev rn:Stmt:=inClass (top 4) 7
abbrev pK:Stmt:=inClass (top 4) 8
abbrev pL:Stmt:=inClass (top 4) 9
abbrev lP:Stmt:=inClass (top 4) 10
abbrev lQ:Stmt:=inClass (top 8) 0
abbrev uO:Stmt:=inClass (top 15) 0
abbrev kh:Stmt:=inClass (top 16) 0
abbrev sG:Stmt:=inClass (top 17) 0
abbrev m6:Stmt:=inClass (top 21) 0
abbrev sH:Stmt:=inClass (top 21) 1
abbrev uP:Stmt:=inClass (top 21) 2
abbrev w9:Stmt:=inClass (top 21) 3
abbrev ro:Stmt:=inClass (top 21) 4
abbrev m7:Stmt:=inClass (top 21) 5
abbrev rq:Stmt:=inClass (top 21) 6
abbrev mq:Stmt:=inClass (top 21) 7
abbrev sI:Stmt:=inClass (top 21) 8
abbrev oB:Stmt:=inClass (top 21) 9
abbrev ki:Stmt:=inClass (top 21) 10
abbrev oC:Stmt:=inClass (top 21) 11
set_option genInjectivity false in
structure rA where
 MG:Zs
 MH:FuncData
 yw:Zs
 yx:FuncData
 Hd:Zs
 He:FuncData
 Hf:Zs
 Hg:FuncData
 Hh:Zs
 Hi:FuncData
 xa:Zs
 xc:FuncData
 Hj:Zs
 Hk:FuncData
 Hl:Zs
 Hm:FuncData
 uc:Zs
 ud:FuncData
 JL:Zs
 JM:FuncData
 yy:Zs
 yz:FuncData
 Cd:Zs
 Ce:FuncData
 Eh:Zs
 Ei:FuncData
 yA:Zs
 yB:FuncData
 Ci:Zs
 Cj:FuncData
 Af:Zs
 Ag:FuncData
 Ck:Zs
 Cm:FuncData
 Ej:Zs
 Ek:FuncData
 Ah:Zs
 Ai:FuncData
 vt:Zs
 vu:FuncData
 Cp:Zs
 Cq:FuncData
 Aj:Zs
 Ak:FuncData
 Cr:Zs
 Ct:FuncData
 yC:Zs
 yD:FuncData
 Al:Zs
 Am:FuncData
 Hn:Zs
 Ho:FuncData
 El:Zs
 Em:FuncData
 Eo:Zs
 Ep:FuncData
 JN:Zs
 JP:FuncData
 Cu:Zs
 Cv:FuncData
 Cw:Zs
 Cy:FuncData
 An:Zs
 Ao:FuncData
 Cz:Zs
 CB:FuncData
 Ap:Zs
 Aq:FuncData
 Yj:Zs
 Yk:FuncData
 m8:Zs
 vw:FuncData
 xg:Zs
 xh:FuncData
 Er:Zs
 Es:FuncData
 lS:Zs
 sJ:FuncData
 pM:Zs
 pN:FuncData
 xi:Zs
 xj:FuncData
 vx:Zs
 vy:FuncData
 yE:Zs
 yF:FuncData
 xk:Zs
 xl:FuncData
 yG:Zs
 yH:FuncData
 Ar:Zs
 As:FuncData
 yI:Zs
 yJ:FuncData
 yK:Zs
 yL:FuncData
 sL:Zs
 sM:FuncData
 sN:Zs
 sO:FuncData
 Eu:Zs
 Ew:FuncData
 oD:Zs
 kj:FuncData
 CD:Zs
 CF:FuncData
 m9:Zs
 vz:FuncData
 CH:Zs
 CJ:FuncData
 Ey:Zs
 Ez:FuncData
 Hq:Zs
 Hr:FuncData
 Au:Zs
 Av:FuncData
 vA:Zs
 vB:FuncData
 Aw:Zs
 Ax:FuncData
 uj:Zs
 uk:FuncData
 CK:Zs
 CL:FuncData
 xm:Zs
 xn:FuncData
 qx:Zs
 qy:FuncData
 xo:Zs
 xq:FuncData
 lz:Zs
 oE:Zs
 bI:Zs
 di:Zs
 bS:Zs
 cU:Zs
 aB:Zs
 aY:Zs
 aI:Zs
 ace:Zs
 fe:Zs
set_option genInjectivity false in
structure Txt (K:Za1)(mg:Str->Zl)(A:rA):Prop where
 walked:Def K mg "walked" Cb ["rooms","room","word"] A.MG A.MH
 nh:Def K mg "first_places" pD ["rules"] A.yw A.yx
 qz:Def K mg "steps_of" wQ ["letters"] A.Hd A.He
 numbered:Def K mg "numbered" wU ["rooms"] A.Hf A.Hg
 ni:Def K mg "place_of" wV ["step"] A.Hh A.Hi
 qA:Def K mg "order_by" wW ["name"] A.xa A.xc
 mS:Def K mg "first_of" wX ["rooms","some"] A.Hj A.Hk
 qB:Def K mg "all_gaps" wY ["letters"] A.Hl A.Hm
 own:Def K mg "own" OG ["value"] A.uc A.ud
 fill:DDef K mg "fill" JK ["letters","rules","part","limit","order"] A.JL A.JM (tx [114,111,111,109,115])
 bH:Def K mg "_law_cell_at" pE ["_law_script","_law_k"] A.yy A.yz
 fw:Def K mg "_law_whole" sr ["_law_found"] A.Cd A.Ce
 oF:Def K mg "_law_step" uJ ["_law_number","_law_letters"] A.Eh A.Ei
 nj:Def K mg "_law_turning" pF ["_law_number","_law_many","_law_plain"] A.yA A.yB
 mB:Def K mg "_law_moved" su ["_law_turns","_law_point","_law_word"] A.Ci A.Cj
 lA:Def K mg "_law_rounds" qY ["_law_turns","_law_points","_law_word"] A.Af A.Ag
 qC:Def K mg "_law_rules" sv ["_law_turns","_law_letters","_law_mask","_law_room"] A.Ck A.Cm
 sP:Def K mg "_law_part" uK ["_law_script","_law_turns","_law_letters","_law_first_here"] A.Ej A.Ek
 lB:Def K mg "_law_digits" qZ ["_law_cell","_law_letters","_law_most"] A.Ah A.Ai
 kX:Def K mg "_law_any_group" m3 ["_law_script"] A.vt A.vu
 qD:Def K mg "_law_group" sx ["_law_script"] A.Cp A.Cq
 oQ:Def K mg "_law_filled" q9 ["_law_letters","_law_rules_here","_law_part_here","_law_limit_here","_law_order"] A.Aj A.Ak
 qE:Def K mg "_law_limit" sC ["_law_script"] A.Cr A.Ct
 iT:Def K mg "_law_renamed" pG ["_law_room","_law_less","_law_more"] A.yC A.yD
 iz:Def K mg "_law_stands" rh ["_law_elders","_law_room"] A.Al A.Am
 vC:Def K mg "_law_new" wZ ["_law_letters","_law_ways","_law_elders","_law_row"] A.Hn A.Ho
 sQ:Def K mg "_law_rule" uL ["_law_words","_law_many","_law_ways","_law_elders","_law_row"] A.El A.Em
 sR:Def K mg "_law_meet" uM ["_law_ways","_law_elders","_law_row"] A.Eo A.Ep
 yM:Def K mg "_law_on" zJ ["_law_letters","_law_rules_here","_law_part_here","_law_state","_law_row"] A.JN A.JP
 mC:Def K mg "_law_round" sD ["_law_known_here","_law_word","_law_room"] A.Cu A.Cv
 qF:Def K mg "_law_known" sE ["_law_ways"] A.Cw A.Cy
 oR:Def K mg "_law_closed" ri ["_law_known_here","_law_standing","_law_rules_here","_law_part_here"] A.An A.Ao
 qG:Def K mg "_law_first" sF ["_law_known_here","_law_standing","_law_letters","_law_order"] A.Cz A.CB
 lC:Def K mg "_law_before" rj ["_law_state","_law_letters","_law_rules_here","_law_part_here","_law_order"] A.Ap A.Aq
 law:Def K mg "law" OI ["_law_script"] A.Yj A.Yk
 gR:MDef K A.aY "__init__" "Going.__init__" m4 ["self","which","word","start"] A.m8 A.vw
 lZ:MDef K A.aY "advance" "Going.advance" ou ["self","rooms"] A.xg A.xh
 sS:MDef K A.aY "row" "Going.row" uN ["self","rooms"] A.Er A.Es
 fE:MDef K A.aI "__init__" "Closing.__init__" lO ["self","rooms","rules","part"] A.lS A.sJ
 fK:MDef K A.aI "begin_rules" "Closing.begin_rules" jY ["self","room"] A.pM A.pN
 jy:MDef K A.aI "begin" "Closing.begin" oy ["self","which","word","room"] A.xi A.xj
 jc:MDef K A.aI "settle" "Closing.settle" m5 ["self"] A.vx A.vy
 nk:MDef K A.aI "make" "Closing.make" pH ["self","room","step"] A.yE A.yF
 l0:MDef K A.aI "go_on" "Closing.go_on" oz ["self","number"] A.xk A.xl
 kl:MDef K A.aI "wait" "Closing.wait" pJ ["self","number","room","step"] A.yG A.yH
 oS:MDef K A.aI "lay" "Closing.lay" rn ["self","going"] A.Ar A.As
 fF:MDef K A.aI "wake" "Closing.wake" pK ["self","room","step"] A.yI A.yJ
 ny:MDef K A.aI "hear" "Closing.hear" pL ["self"] A.yK A.yL
 jI:MDef K A.aI "wake_all" "Closing.wake_all" lP ["self","room"] A.sL A.sM
 eJ:MDef K A.bI "__init__" "TooMany.__init__" lQ ["self","made","rows"] A.sN A.sO
 jZ:MDef K A.di "gap" "Order.gap" uO ["self","rooms"] A.Eu A.Ew
 ip:MDef K A.bS "gap" "ByLetters.gap" kh ["self","rooms"] A.oD A.kj
 jd:MDef K A.cU "gap" "Newest.gap" sG ["self","rooms"] A.CD A.CF
 gS:MDef K A.aB "__init__" "Rooms.__init__" m6 ["self","letters"] A.m9 A.vz
 qH:MDef K A.aB "make" "Rooms.make" sH ["self","room","step"] A.CH A.CJ
 sT:MDef K A.aB "lay" "Rooms.lay" uP ["self","room","step","other","row"] A.Ey A.Ez
 iU:MDef K A.aB "by" "Rooms.by" w9 ["self","room","step"] A.Hq A.Hr
 iA:MDef K A.aB "elder" "Rooms.elder" ro ["self","room"] A.Au A.Av
 fz:MDef K A.aB "standing" "Rooms.standing" m7 ["self"] A.vA A.vB
 lD:MDef K A.aB "paper" "Rooms.paper" rq ["self"] A.Aw A.Ax
 gf:MDef K A.aB "first_gap" "Rooms.first_gap" mq ["self","room"] A.uj A.uk
 mD:MDef K A.aB "keep" "Rooms.keep" sI ["self","room","step","other"] A.CK A.CL
 mh:MDef K A.aB "take_in" "Rooms.take_in" oB ["self","way","pending"] A.xm A.xn
 gj:MDef K A.aB "put_together" "Rooms.put_together" ki ["self","room","step","one","other","pending"] A.qx A.qy
 mj:MDef K A.aB "put_off" "Rooms.put_off" oC ["self","room","pending"] A.xo A.xq
 oT:mg "enumerate"=none
 OJ:mg "min"=none
 Yl:mg "max"=none
 eA:mg "range"=none
 cC:mg "len"=none
 pO:mg "tuple"=none
 km:mg "list"=none
 fG:mg "isinstance"=none
 UY:mg "bool"=none
 OL:mg "int"=none
 JQ:mg "dict"=none
 Hs:mg "reversed"=none
 Ym:mg "abs"=none
 EA:mg "YardError"=some ↑A.lz
 YT:mg "NoOrder"=some ↑A.oE
 zK:mg "TooMany"=some ↑A.bI
 Rl:mg "Order"=some ↑A.di
 EB:mg "ByLetters"=some ↑A.bS
 MJ:mg "Newest"=some ↑A.cU
 Rm:mg "Rooms"=some ↑A.aB
 Rn:mg "Going"=some ↑A.aY
 JR:mg "Closing"=some ↑A.aI
 MK:plainGet K A.aB Str.empty=true
 ML:hasDictIn K A.aB=true
 MN:plainOver K A.aB=true
 MP:findIn K ↑A.aB "__setattr__"=some (some (.builtin "object.__setattr__"))
 vD:makesIn K A.aB=true
 MQ:keepIn K ↑A.aB=true
 sU:findIn K ↑A.aB "letters"=some none
 pQ:findIn K ↑A.aB "made"=some none
 sV:findIn K ↑A.aB "rows"=some none
 jq:findIn K ↑A.aB "ways"=some none
 sW:findIn K ↑A.aB "gaps"=some none
 jJ:findIn K ↑A.aB "elders"=some none
 nB:findIn K ↑A.aB "called"=some none
 sX:findIn K ↑A.aB "went"=some none
 MR:plainGet K A.aY Str.empty=true
 MS:hasDictIn K A.aY=true
 MT:plainOver K A.aY=true
 MV:findIn K ↑A.aY "__setattr__"=some (some (.builtin "object.__setattr__"))
 vE:makesIn K A.aY=true
 MX:keepIn K ↑A.aY=true
 CM:findIn K ↑A.aY "which"=some none
 j0:findIn K ↑A.aY "word"=some none
 qI:findIn K ↑A.aY "start"=some none
 hX:findIn K ↑A.aY "front"=some none
 fH:findIn K ↑A.aY "first"=some none
 iB:findIn K ↑A.aY "rear"=some none
 je:findIn K ↑A.aY "last"=some none
 Ht:plainGet K A.aI Str.empty=true
 Hu:hasDictIn K A.aI=true
 Hv:plainOver K A.aI=true
 Hw:findIn K ↑A.aI "__setattr__"=some (some (.builtin "object.__setattr__"))
 qJ:makesIn K A.aI=true
 Hx:keepIn K ↑A.aI=true
 fI:findIn K ↑A.aI "rooms"=some none
 CN:findIn K ↑A.aI "rules"=some none
 j1:findIn K ↑A.aI "goings"=some none
 lT:findIn K ↑A.aI "agenda"=some none
 ko:findIn K ↑A.aI "waiting"=some none
 nF:findIn K ↑A.aI "heard"=some none
 MY:plainGet K A.di Str.empty=true
 MZ:hasDictIn K A.di=true
 M0:plainOver K A.di=true
 M3:findIn K ↑A.di "__setattr__"=some (some (.builtin "object.__setattr__"))
 M4:makesIn K A.di=true
 M5:keepIn K ↑A.di=true
 M6:findIn K ↑A.di "__init__"=some (some (.builtin "object.__init__"))
 acf:findIn K ↑A.di "__class__"=some (some (.builtin "object.__class__"))
 acg:mroIn K A.di (.type "object")\true
 CP:plainGet K A.bS Str.empty=true
 CQ:hasDictIn K A.bS=true
 CT:plainOver K A.bS=true
 CV:findIn K ↑A.bS "__setattr__"=some (some (.builtin "object.__setattr__"))
 CW:makesIn K A.bS=true
 CY:keepIn K ↑A.bS=true
 CZ:findIn K ↑A.bS "__init__"=some (some (.builtin "object.__init__"))
 UZ:findIn K ↑A.bS "__class__"=some (some (.builtin "object.__class__"))
 U0:mroIn K A.bS (.type "object")\true
 JS:plainGet K A.cU Str.empty=true
 JT:hasDictIn K A.cU=true
 JV:plainOver K A.cU=true
 JW:findIn K ↑A.cU "__setattr__"=some (some (.builtin "object.__setattr__"))
 JX:makesIn K A.cU=true
 JY:keepIn K ↑A.cU=true
 JZ:findIn K ↑A.cU "__init__"=some (some (.builtin "object.__init__"))
 YV:findIn K ↑A.cU "__class__"=some (some (.builtin "object.__class__"))
 YW:mroIn K A.cU (.type "object")\true
 YX:PySem.W.excIn K A.oE Bn "ValueError.__new__"=true
 xr:L2.G7 K A.bI=true
 Hy:keepIn K ↑A.bI=true
 YY:exmOne K ↑A.bI ↑A.bI\true
 Hz:(PySem.W.clsIn K A.bI).any (λcd=>L2.mZ cd.mro)=true
 HB:hasDictIn K A.bI=true
 HC:findIn K ↑A.bI "__setattr__"=some (some (.builtin "object.__setattr__"))
 HD:findIn K ↑A.bI "__getattribute__"=some (some (.builtin "BaseException.__getattribute__"))
 HF:findIn K ↑A.bI "__getattr__"=some none
 HG:PySem.W.subIn K ↑A.bI (.type "BaseException")\true
 FP:findIn K ↑A.bI "made"=some none
 FQ:findIn K ↑A.bI "rows"=some none
 ach:specialIn K ↑A.lz "__getattribute__"=some (some (.builtin "type.__getattribute__"))
 aci:PySem.W.readsIn K A.lz (.type "type")=true
 acj:(match PySem.W.findCls K ↑A.lz (.type "type") "__init__" with|some (.val (.builtin i))=>i=="ValueError.__init__" | _=>false)=true
 lam:LamAt K A.kj A.ace A.fe
@[inline]def PVN(e:Lean.Term):Lean.MacroM Lean.Term:=if e.raw.isNatLit?.isSome then`(pv $e)else pure e
local macro_rules|`(#[$x,*])=>do
  if x.getElems.size=0 then Lean.Macro.throwUnsupported
  let mut r←`(ah)
  for e in x.getElems.reverse do r←`(ae $(←PVN e) $r)
  return r
local macro_rules(kind:=«term{_}»)|`({$x,*})=>do
  let a:=x.getElems
  let mut r←`(aq $(a.back!))
  for e in a.pop.reverse do r←`(ai $e $r)
  return r
local macro_rules|`($x&&&$y)=>do`(aH aX $(←PVN x) $(←PVN y) λ_ _=>rfl)
local macro_rules|`($x|||$y)=>do`(aH bM $(←PVN x) $(←PVN y) λ_ _=>rfl)
local macro_rules|`($x<<<$y)=>do
  let x←PVN x
  if y.raw.isNatLit?=some 0 then`(bx bh rfl $(Lean.mkIdent `T.cC) aj6 #[$x])else`(aD $x rfl)
def aK {A:rA}(T:Txt K M A):kA K A.aB:=⟨T.MK,T.ML,T.MN,T.MP⟩
def vD {A:rA}(T:Txt K M A):Mk K A.aB A.m9:=⟨T.vD,T.gS.m.at_,T.gS.m.fn,T.MQ⟩
def bf {A:rA}(T:Txt K M A):kA K A.aY:=⟨T.MR,T.MS,T.MT,T.MV⟩
def vE {A:rA}(T:Txt K M A):Mk K A.aY A.m8:=⟨T.vE,T.gR.m.at_,T.gR.m.fn,T.MX⟩
def aS {A:rA}(T:Txt K M A):kA K A.aI:=⟨T.Ht,T.Hu,T.Hv,T.Hw⟩
def qJ {A:rA}(T:Txt K M A):Mk K A.aI A.lS:=⟨T.qJ,T.fE.m.at_,T.fE.m.fn,T.Hx⟩
def C0 {A:rA}(T:Txt K M A):kA K A.di:=⟨T.MY,T.MZ,T.M0,T.M3⟩
def sY {A:rA}(T:Txt K M A):kA K A.bS:=⟨T.CP,T.CQ,T.CT,T.CV⟩
def zL {A:rA}(T:Txt K M A):kA K A.cU:=⟨T.JS,T.JT,T.JV,T.JW⟩
def oH:aP ["rooms","room","word","path","step"] ["rooms","room","word"] (az Cb):=()
def iI:aP ["rules","places","which","rule"] ["rules"] (az pD):=()
def oU:aP ["letters","steps","letter"] ["letters"] (az wQ):=()
def gA:aP ["rooms","steps","found","numbers","rows","others","other"] ["rooms"] (az wU):=()
def EC:aP ["step"] ["step"] (az wV):=()
def ED:aP ["name"] ["name"] (az wW):=()
def oV:aP ["rooms","some","room","step"] ["rooms","some"] (az wX):=()
def EE:aP ["letters"] ["letters"] (az wY):=()
def U1:aP ["value"] ["value"] (az OG):=()
def mI:aP ["letters","rules","part","limit","order","chosen","rooms","closing","gap"] ["letters","rules","part","limit","order"] (az JK):=()
def xt:aP ["_law_script","_law_k"] ["_law_script","_law_k"] (az pE):=()
def Ay:aP ["_law_found"] ["_law_found"] (az sr):=()
def C1:aP ["_law_number","_law_letters"] ["_law_number","_law_letters"] (az uJ):=()
def gk:aP ["_law_number","_law_many","_law_plain","_law_by","_law_some","_law_turned"] ["_law_number","_law_many","_law_plain"] (az pF):=()
def jz:aP ["_law_turns","_law_point","_law_word","_law_step_here"] ["_law_turns","_law_point","_law_word"] (az su):=()
def gT:aP ["_law_turns","_law_points","_law_word","_law_count","_law_spots"] ["_law_turns","_law_points","_law_word"] (az qY):=()
def dq:aP ["_law_turns","_law_letters","_law_mask","_law_room","_law_words","_law_k","_law_j","_law_found","_law_word","_law_often"] ["_law_turns","_law_letters","_law_mask","_law_room"] (az sv):=()
def gU:aP ["_law_script","_law_turns","_law_letters","_law_first_here","_law_way","_law_words","_law_word","_law_cell"] ["_law_script","_law_turns","_law_letters","_law_first_here"] (az uK):=()
def eK:aP ["_law_cell","_law_letters","_law_most","_law_many","_law_word","_law_k"] ["_law_cell","_law_letters","_law_most"] (az qZ):=()
def eB:aP ["_law_script","_law_letters","_law_rules_here","_law_k","_law_part_here"] ["_law_script"] (az m3):=()
def cP:aP ["_law_script","_law_plain","_law_many","_law_letters","_law_turns","_law_k","_law_mask","_law_first_here","_law_rules_here"] ["_law_script"] (az sx):=()
def eM:aP ["_law_letters","_law_rules_here","_law_part_here","_law_limit_here","_law_order","_law_found","_law_refused","e"] ["_law_letters","_law_rules_here","_law_part_here","_law_limit_here","_law_order"] (az q9):=()
def jA:aP ["_law_script","_law_cell","_law_limit_here"] ["_law_script"] (az sC):=()
def xu:aP ["_law_room","_law_less","_law_more"] ["_law_room","_law_less","_law_more"] (az pG):=()
def yN:aP ["_law_elders","_law_room"] ["_law_elders","_law_room"] (az rh):=()
def EF:aP ["_law_letters","_law_ways","_law_elders","_law_row"] ["_law_letters","_law_ways","_law_elders","_law_row"] (az wZ):=()
def gW:aP ["_law_words","_law_many","_law_ways","_law_elders","_law_row","_law_which","_law_path","_law_room","_law_at","_law_step_here"] ["_law_words","_law_many","_law_ways","_law_elders","_law_row"] (az uL):=()
def C2:aP ["_law_ways","_law_elders","_law_row"] ["_law_ways","_law_elders","_law_row"] (az uM):=()
def dY:aP ["_law_letters","_law_rules_here","_law_part_here","_law_state","_law_row","_law_ways","_law_elders","_law_turned","_law_room","_law_step_here","_law_other","_law_way"] ["_law_letters","_law_rules_here","_law_part_here","_law_state","_law_row"] (az zJ):=()
def dC:aP ["_law_known_here","_law_word","_law_room","_law_ahead","_law_there","_law_behind"] ["_law_known_here","_law_word","_law_room"] (az sD):=()
def iq:aP ["_law_ways","_law_known_here","_law_room","_law_step_here","_law_other"] ["_law_ways"] (az sE):=()
def jf:aP ["_law_known_here","_law_standing","_law_rules_here","_law_part_here","_law_room","_law_word"] ["_law_known_here","_law_standing","_law_rules_here","_law_part_here"] (az ri):=()
def dD:aP ["_law_known_here","_law_standing","_law_letters","_law_order","_law_first_here","_law_room","_law_place","_law_step_here","_law_rank"] ["_law_known_here","_law_standing","_law_letters","_law_order"] (az sF):=()
def kY:aP ["_law_state","_law_letters","_law_rules_here","_law_part_here","_law_order","_law_known_here","_law_standing"] ["_law_state","_law_letters","_law_rules_here","_law_part_here","_law_order"] (az rj):=()
def dZ:aP ["_law_script","_law_letters","_law_turns","_law_rules_here","_law_part_here","_law_first_here","_law_limit_here","_law_order","_law_found","_law_refused","_law_rows","_law_state","_law_row","_law_closed_here"] ["_law_script"] (az OI):=()
def um:aP ["self","which","word","start"] ["self","which","word","start"] (az m4):=()
def jK:aP ["self","rooms","room"] ["self","rooms"] (az ou):=()
def nH:aP ["self","rooms","ahead","behind"] ["self","rooms"] (az uN):=()
def fL:aP ["self","rooms","rules","part","room","which","word"] ["self","rooms","rules","part"] (az lO):=()
def gB:aP ["self","room","rule","which"] ["self","room"] (az jY):=()
def vF:aP ["self","which","word","room"] ["self","which","word","room"] (az oy):=()
def uo:aP ["self"] ["self"] (az m5):=()
def xA:aP ["self","room","step"] ["self","room","step"] (az pH):=()
def nJ:aP ["self","number","going"] ["self","number"] (az oz):=()
def kr:aP ["self","number","room","step","steps","numbers"] ["self","number","room","step"] (az pJ):=()
def pR:aP ["self","going","step"] ["self","going"] (az rn):=()
def xB:aP ["self","room","step"] ["self","room","step"] (az pK):=()
def xC:aP ["self"] ["self"] (az pL):=()
def fM:aP ["self","room","step","elder"] ["self","room"] (az lP):=()
def rL:aP ["self","made","rows"] ["self","made","rows"] (az lQ):=()
def C3:aP ["self","rooms"] ["self","rooms"] (az uO):=()
def nK:aP ["self","rooms","gaps"] ["self","rooms"] (az kh):=()
def Az:aP ["self","rooms"] ["self","rooms"] (az sG):=()
def uq:aP ["self","letters"] ["self","letters"] (az m6):=()
def rB:aP ["self","room","step","number"] ["self","room","step"] (az sH):=()
def sZ:aP ["self","room","step","other","row","pending"] ["self","room","step","other","row"] (az uP):=()
def EG:aP ["self","room","step"] ["self","room","step"] (az w9):=()
def yO:aP ["self","room"] ["self","room"] (az ro):=()
def ur:aP ["self"] ["self"] (az m7):=()
def yP:aP ["self"] ["self"] (az rq):=()
def lU:aP ["self","room","step"] ["self","room"] (az mq):=()
def AB:aP ["self","room","step","other"] ["self","room","step","other"] (az sI):=()
def eP:aP ["self","way","pending","room","step","other","led_to","come_from"] ["self","way","pending"] (az oB):=()
def eY:aP ["self","room","step","one","other","pending","less","more","number"] ["self","room","step","one","other","pending"] (az ki):=()
def hY:aP ["self","room","pending","ways","step","other"] ["self","room","pending"] (az oC):=()
section
variable {P:Program}{w:World}{K:Za1}{mg:Str->Zl}{base:Heap}{A:rA}
variable (T:Txt K mg A)
def du {t:Zs}{o:HO}(e:upd H t o=I)(n:H t=none):av H I/\I t\o:=by subst e;rwa[av.upd n,aj]
def iw {c:PySem.Const}{p:PySem.Pos}{a:List PySem.Expr}{env:PySem.Env}:PySem.starEach (.Constant c j p::a) env=(false,PySem.eval (.Constant c j p) env)::PySem.starEach a env:=rfl
def AW (K:Za1)(d:Zs):Sp:=λb H Q _=>∃(a:Zs)(ns:Zg),b=[↑a]/\aF K H a (ns.map V.int)/\⇑ns<=63/\H d\(.fU #[])/\∀c,Q (.bl true) c
def bL (n:Nat):Zg:=(~~~n).map M12.st
def uf (n:Nat):⇑(bL n)=n:=by unfold bL;cbv
def tf (h:i<n):(bL n)[i]?\(M12.st i):=by unfold bL;rw[aj0,amv h];rfl
def Ro (i:Nat):bL (2* i)++[1+ (i:Int)]++[-(1+ (i:Int))]=bL (2* (i+ 1)):=by
 let e:2* (i+ 1)=2* i+ 1+ 1:=∅
 rw[e];unfold bL;rw[ak8,ak8,akd,akd];let a:M12.st (2* i)=1+ (i:Int):=by unfold M12.st;rw[aj3 ∅];ext
 let b:M12.st (2* i+ 1)= -(1+ (i:Int)):=by unfold M12.st;rw[ajY ∅];ext
 show _=(~~~(2* i)).map M12.st++[M12.st (2* i)]++[M12.st (2* i+ 1)];rw[a,b]
def J0 (n:Nat):(bL n).Nodup:=by unfold bL;rwa[alh.mpr (List.Pairwise.imp ?_ am3)];intro a b c z;let d:=M12.OD a;rw[z,M12.OD]at d;rwa[c d.symm]
def eH {rs:Zn}(h:rs[i]?\a):fY (rs.map V.ref) (i:Int)\(V.ref a):=b6 (by rw[aj0,h];rfl)
def M7:Sp:=λb H Q _=>∃L:Nat,b=[.int L]/\1<=L/\L<=200/\∀l a,av H a->a l\.lst (au ((~~~(2* L)).map M12.st))->Q ↑l a
def U2:Sp:=λb H Q _=>∃L:Nat,b=[.int L]/\1<=L/\L<=200/\∀d a,av H a->H d=none->a d\.dK (gK (bL (2* L)))->Q ↑d a
inductive OO (C:Zs)(vs:Zb)(H:Hp)(Q:VK)(E_:XK):Prop
 |mk (x dx:Zs)(L:Nat):vs=[↑x,.int L]->H x\.ins C dx []->1<=L->L<=200->(∀a H',(∀b o,H b\o->b≠x->H' b\o)->ay C H' x (RS.new L (bL (2* L))) a->(∀b,a.own x b->b=x\/H b=none)->Q .non H')->OO C vs H Q E_
def dw (a:RA)(r:Zs)(H c:Hp):Prop:=∀b o,¬a.own r b->H b\o->c b\o
inductive J1 (C:Zs)(vs:Zb)(H:Hp)(Q:VK)(E_:XK):Prop
 |mk (r:Zs)(S:RS)(a:RA)(c d:Nat)(z:Int):vs=[↑r,.int c,.int z,.int d]->ay C H r S a->S.Wf->c<S.q->d<S.q->(∀l∈S.ways,⇑l<=100000)->(∀H',dw a r H H'->ay C H' r (S.keep c z d) a->Q .non H')->J1 C vs H Q E_
inductive J9 (C:Zs)(vs:Zb)(H:Hp)(Q:VK)(E_:XK):Prop
 |mk (r:Zs)(S:RS)(a:RA)(c:Nat)(z:Int):vs=[↑r,.int c,.int z]->ay C H r S a->S.Wf->1<=S.L->S.L<=200->c<S.q->S.q<=100000->⇑S.rows<=1000000->(∀l∈S.ways,⇑l<=100000)->(∀a' H',dw a r H H'->ay C H' r (S.make c z (bL (2* S.L))) a'->(∀b,a'.own r b->a.own r b\/H b=none)->Q (.int S.q) H')->J9 C vs H Q E_
inductive OQ (C:Zs)(vs:Zb)(H:Hp)(Q:VK)(E_:XK):Prop
 |mk (r:Zs)(S:RS)(a:RA)(c:Nat)(z:Int):vs=[↑r,.int c,.int z]->ay C H r S a->c<⇑S.ways->(Q (((S.by c z).map λn:Nat=>V.int (n:Int)).getD .non) H)->OQ C vs H Q E_
inductive FT (C:Zs)(vs:Zb)(H:Hp)(Q:VK)(E_:XK):Prop
 |mk (r:Zs)(S:RS)(a:RA)(c e:Nat):vs=[↑r,.int c]->ay C H r S a->S.aV[c]?\e->Q (.int e) H->FT C vs H Q E_
inductive xD (C:Zs)(vs:Zb)(H:Hp)(Q:VK)(E_:XK):Prop
 |mk (r:Zs)(S:RS)(a:RA):vs=[↑r]->ay C H r S a->S.Wf->S.q<=100000->(∀l,H l=none->Q ↑l (upd H l (.lst (au (nI ((~~~S.q).filter λc=>decide (S.aV[c]?\c)))))))->xD C vs H Q E_
def xE (k:Nat):Sp:=λc H Q _=>∃(v:V)(d:Dt),c=[v]/\bW H k v d/\mU d/\∀b a,av H a->bW a k b d->Q b a
inductive FU (k:Nat)(C:Zs)(vs:Zb)(H:Hp)(Q:VK)(E_:XK):Prop
 |mk (r:Zs)(S:RS)(a:RA):vs=[↑r]->ay C H r S a->⇑S.rows<=1000000->(∀p d,d∈S.rows->bW H 4 ↑p d->bW H k ↑p d)->(∀l ps H',av H H'->H l=none->H' l\.lst (ps.map V.ref)->Each (λp d=>bW H' 4 ↑p d) ps S.rows->Q ↑l H')->FU k C vs H Q E_
def U4:Nat->Sp
 |0=>λ_ _ _ _=>False
 |n+ 1=>xE n
def vG {dp lv:Nat}(T:Txt K mg A)(o:dP P w K mg base (dz P w) lv A.uc A.ud ["value"] (U4 dp)):dP P w K mg base (dz P w) (lv+ 1) A.uc A.ud ["value"] (xE dp):=by
 rwa[T.own.F.okN U1 (λf H Q E h=>?_) (λcy AA G s H f Q E I h=>?_)]
 ·let⟨v,d,rfl,_⟩:=h;rfl
 ·let⟨v,d,rfl,L,u,k⟩:=h
  erw[_,{bD (cX (bx jE rfl T.fG akC #[0,kJ (v:=.ty "tuple") rfl T.pO alx rfl]))
   {a9 (fX qS rfl T.pO alx #[iR (fns:=[]) (ixs:=[]) (cl:=[]) rfl (vY (pv 0)) (cM [] rfl True.intro rfl) (λC s H ex=>(pc (hj:=ajE _) T.own o I #[0]))])}
   bj,bD (cX (bx jE rfl T.fG akC #[0,kJ (v:=.ty "list") rfl T.km ald rfl]))
    y6
    bj,bD (cX (bx jE rfl T.fG akC #[0,kJ (v:=.ty "dict") rfl T.JQ PyProof.Rows.boot_dict rfl]))
    y6
    bj,a9 (pv 0)}]
  rwa[iQ ?_];intro iV eR U
  let atom:(∃n,v=.int n)\/(∃l,v=.str (tx l))\/∃(a:Zs)(f:Zb)(ds:List Dt)(m:Nat),dp=m+ 1/\v=↑a/\d=.t ds/\(H a\.tup f/\⇑f=⇑ds/\∀(j:Nat)(v:V)(x:Dt),f[j]?\v->ds[j]?\x->bW H m v x):=by
   cases L with
   |i=>exact .inl ⟨12⟩
   |s=>exact .inr (.inl ⟨12⟩)
   |n=>ext u
   |b=>ext u
   |t g M J=>exact .inr (.inr ⟨1111222,g,M,J⟩)
   |l=>ext u
  rcases atom with ⟨n,rfl⟩|⟨l,rfl⟩|⟨a,f,ds,m,rfl,rfl,rfl,B⟩
  ·rwa[⟨_,rfl,_,_,_,_,rfl,.int n,Ac K,_,rfl,b8 ?_⟩];rwa[⟨1211112,.int n,Bx K,12,b8 ?_⟩];rwa[⟨1211112,.int n,By K,12,b8 ?_⟩];rwa[12,k _ H (λ_ _ e=>e) L]
  ·rwa[⟨1211112,.str (tx l),Ad K,12,b8 ?_⟩];rwa[⟨1211112,.str (tx l),Bz K,12,b8 ?_⟩];rwa[⟨1211112,.str (tx l),BD K,12,b8 ?_⟩];rwa[12,k _ H (λ_ _ e=>e) L]
  ·let⟨g,M,J⟩:=B;obtain⟨hz,p⟩:⇑ds<=100000/\∀x∈ds,mU x:=by cases u with|t a b=>exact⟨a,b⟩
   rwa[⟨1211112,.tup g,kM K "tuple",12,dg ?_⟩];erw[12,a,2,⟨_,bu.of g⟩];rwa[oh ⇑f (λi=>f.getD i .non) (λc v i=>∃x,ds[i]?\x/\mU x/\bW c m v x) (λH1 c v i s ζ=>by let⟨x,e,hn,q⟩:=ζ;rwa[⟨x,e,hn,q.same s⟩]) ?_ (λi c s2 r=>Ta (bu.of (s2^g)) i r) (λi x c Y s2 r y=>?_) (λc s2=>LN (bu.of (s2^g))) (λi c Rr r s2 Z=>?_) (λD c ys s2 X hl I=>?_)]
   ·rwa[ajO ∅ (show 100000<=sizeLine by decide)]
   ·let⟨e,B⟩:=Qs (bu.of (s2^g)) i x Y r y
    cbv
   ·let B:f[i]?\(f.getD i .non):=by rw[ajH,ajz r];rfl
    let z:ds[i]?\(ds[i]'∅):=ajz ∅
    rwa[⟨12112,(J i _ _ B z).same s2,p _ (ajA z),λS H' R q'=>Z S H' R ⟨_,z,p _ (ajA z),q'⟩⟩]
   ·rwa[⟨D,ys,2,.inl ⟨aF.of aj,λl F=>?_⟩⟩];let N:av c (upd c D (.lst ys)):=av.upd X;let O:av (upd c D (.lst ys)) (upd (upd c D (.lst ys)) l (.tup ys)):=av.upd F;rwa[k _ _ (s2.trans (N.trans O)) (.t aj ∅ λj v x e1 e2=>?_)];obtain⟨y,e3,-,q⟩:=I j v e1;obtain rfl:y=x:=Za0 (e3.symm.trans e2);rwa[q.same (N.trans O)]
def Ka:dP P w K mg base (dz P w) 2 A.uc A.ud ["value"] (xE 0):=vG (dp:=0) (lv:=1) T ⟨λ_ _ _ _ h=>h.elim,λ_ _ _ _ _ _ _ _ _ _ _ _ _ h=>h.elim⟩
def Kb:dP P w K mg base (dz P w) 3 A.uc A.ud ["value"] (xE 1):=vG T (Ka T)
def zM:dP P w K mg base (dz P w) 4 A.uc A.ud ["value"] (xE 2):=vG T (Kb T)
def uQ:T.qz.Ok P w base 1 M7:=by
 rwa[T.qz.on oU (λx F g s H D Q E G h=>?_) (len:=by rintro _ _ _ _ ⟨L,rfl,_⟩;rfl)]
 ·let⟨L,rfl,u,C,k⟩:=h
  erw[_,{bF 1 oU.nd (bY ah),cf ajV rfl (nY rfl T.eA #[ak,aL cw (pv 0) ak]) (cS 2 oU.nd)
    {bp (df ajL ajW ajX bV (pv 1) #[2]),bp (df ajL ajW ajX bV (pv 1) #[eF dy (pv 2)])},a9 (pv 1)}]
  rwa[dE ?_];intro z r;rwa[⟨aj8 _,λl j=>?_⟩];let q:av H (upd H l (.lst [])):=av.upd j;let p:upd H l (.lst []) l\(.lst (au (bL (2* 0)))):=aj;change upd H l _=H0 at q p ⊢;erw[121122,(1),(L:Int)+ 1,2,⟨3333⟩]
  let' c:Nat->St->Hp->Prop:=λi m d=>∃v:Zc,m=#v[.int L,↑l,v]/\av H d/\d l\(.lst (au (bL (2* i))))
  rwa[gY (lo:=1) (n:=((L:Int)+ 1 - 1).toNat) c ⟨none,2,q,p⟩ ?_ ?_]
  ·rintro i m d I ⟨v,rfl,f,a⟩;dsimp only[cZ];rwa[vj ?_];intro B y;let t:i<L:=∅
   erw[12,.inl ⟨21,aF.of a⟩,12,l,1122,a,5]
   ·rw[aJ,uf];rwa[ajJ (show 2* i<=400 by omega) ⋯]
   erw[12,.inl ⟨21,aF.of aj⟩,1212,l,1122,aj,5]
   ·rw[ajC,aJ,uf];rwa[ajJ (show 2* i+ 1<=400 by omega) ⋯]
   erw[12,λb o e=>?_]
   ·rw[ao (aw e j),ao (aw e j)];rwa[f^e]
   ·rw[aj,<-Ro,ints_app,ints_app];rfl
  ·rintro m d ⟨v,rfl,f,a⟩;rw[show ((L:Int)+ 1 - 1).toNat=L by ext]at a;rwa[12,k l d f a]
def uR:T.qB.Ok P w base 2 U2:=by
 rwa[T.qB.on EE (λY AA n s H vs Q E B h=>?_) (len:=by rintro _ _ _ _ ⟨L,rfl,_⟩;rfl)]
 ·let⟨L,rfl,o,G,k⟩:=h;erw[_,{a9 (fX (wy rfl) rfl T.JQ PyProof.Rows.boot_dict #[iR (fns:=[]) (ixs:=[]) (cl:=[]) rfl (cQ (pc T.qz (uQ T) B #[0])) (cM [] rfl True.intro rfl) (λC s H ex=>(bG #[0,eD]))])}];rwa[⟨12,L,2,o,G,λl Z s1 j=>⟨l,2,⟨_,aF.of j⟩,5⟩⟩];let hn:⇑(au ((~~~(2* L)).map M12.st))=2* L:=by rw[aJ,ajD,akG]
  rwa[oh (2* L) (λi=>.int (M12.st i)) (λc v i=>∃p,v=↑p/\c p\.tup [.int (M12.st i),.bl true]) (λZ c v i s ζ=>by let⟨p,e,q⟩:=ζ;rwa[⟨p,e,s^q⟩]) ?_ (λi c s2 f=>ka (aF.of (s2^j)) i ∅) (λi x c U s2 f y=>?_) (λc s2=>?_) (λi c Rr f s2 X=>?_) (λD c ys s2 S u B=>?_)]
  ·rwa[ajO (show 2* L<=400 by omega) ⋯]
  ·let⟨e,hx⟩:=i7 (aF.of (s2^j)) i x U ∅ y;erw[e];rw[show (au ((~~~(2* L)).map M12.st))[i]?=some (.int (M12.st i)) from bQ (tf f)]at hx
   cbv
  ·have:=hU (aF.of (K:=K) (s2^j));rw[hn]at this;rwa[this]
  ·rwa[⟨12,(Za4 2),λt R=>X _ _ (av.upd R) ⟨t,2,aj⟩⟩]
  ·let⟨g,rfl,F⟩:=tZ (P:=λi p=>c p\.tup [.int (M12.st i),.bl true]) ys 0 (λi v hv=>[Nat.zero_add]▸B i v hv);let J:av c (upd c D (.lst (g.map V.ref))):=av.upd S;rw[ajD]at u;rwa[⟨D,g,gK (bL (2* L)),2,aj,by rw[TV,uf,u],λi p kv M r=>?_,λd I=>?_⟩]
   ·let f:i<2* L:=by rw[<-u];rwa[(ajy.mp M).1]
    have:=F i p M;rw[Nat.zero_add]at this;unfold gK at r;rw[aj0,tf f]at r;rw[<-Za0 r];rwa[J^this]
   ·let e:jo [] (gK (bL (2* L)))=gK (bL (2* L)):=by rw[zr _ _ ?_,amc];rw[amc];unfold gK;rw[aki];rwa[alh.mpr (List.Pairwise.imp (λ{a b} m z=>m (Sum.inl.inj z)) (J0 _))]
    rw[e];let O:av (upd c D (.lst (g.map V.ref))) (upd (upd c D (.lst (g.map V.ref))) d (.dK (gK (bL (2* L))))):=av.upd I;let N:=s1.trans (s2.trans J);rwa[k d _ (N.trans O) (N.free I) aj]
def iC:T.iU.Ok mg P w base 1 (OQ A.aB):=by
 rwa[T.iU.on EG (λf n d s H m Q E j h=>?_)]
 ·let⟨r,S,a,c,z,rfl,h,l,k⟩:=h;let b:=eG j;erw[_,{a9 (LZ b ((0<<<1)|||1) (pv 2) ⟨2222⟩)}];let i:S.ways[c]?\(S.way c):=by unfold RS.way;rw[ajH,ajz l];rfl
  let⟨p,g,e⟩:=h.rW.at i;erw[12,r,_,a.dx,112,h.ins,aK T,T.jq,ja^_,12,a.aW,11122,aF.of h.hW,eH g,p,2,.inl ⟨_,.inl e⟩,121,dv.k (k:=Sum.inl z) e];rw[lK];rwa[k]
def jg:T.iA.Ok mg P w base 1 (FT A.aB):=by
 rwa[T.iA.on yO (λd j b s H g Q E i h=>?_)]
 ·let⟨r,S,a,c,e,rfl,h,f,k⟩:=h;erw[_,{a9 ((0<<<1)|||1)}];rwa[12,r,_,a.dx,112,h.ins,aK T,T.jJ,jP^_,12,a.aE,11122,aF.of h.hE,b6 (bQ (eU f)),k]
def pS {c:Nat}(h:c<⇑S.ways):S.ways[c]?\(S.way c):=by unfold RS.way;cbv
def xF {c:Nat}(h:c<⇑S.gaps):S.gaps[c]?\(S.gap c):=by unfold RS.gap;cbv
def C4 (h:∀l∈S.ways,⇑l<=m):⇑(S.way n)<=m:=by
 unfold RS.way;rw[ajH]
 cases e:S.ways[n]? with
 |none=>exact aj8 _
 |some l=>exact h l (ajA e)
def OS (h:O.ws[i]?\b):O.own a b:=.inr (.inr (dW (ajA h)))
def Yn (h:O.gs[i]?\b):O.own a b:=.inr (.inr (gO (ajA h)))
def dw.upd {o:HO}(h:O.own a b):dw O a H (upd H b o):=λc u d e=>[ao (λz=>d ([z]▸h))]▸e
def dw.trans (h:dw O a H I)(d:dw O a I J):dw O a H J:=λb u c e=>d b u c (h b u c e)
def rD:T.mD.Ok mg P w base 1 (J1 A.aB):=by
 rwa[T.mD.on AB (λcy AA F s H vs Q E hr h=>?_)]
 ·let⟨r,S,a,c,d,z,rfl,h,hw,hc,M,Y,k⟩:=h;let j:=eG hr
  erw[_,{jO j ((0<<<1)|||1) (pv 2) (pv 3) rfl,jO j ((0<<<1)|||3) (eF dy (pv 2)) (pv 1) rfl,bp (vh ((0<<<1)|||1) (pv 2) b9 ⟨2222⟩),bp (vh ((0<<<1)|||3) (eF dy (pv 2)) b9 ⟨2222⟩)}]
  rwa[iQ ?_];intro iV eR eZ;let⟨p,b,J⟩:=h.rW.at (pS (S:=S) (c:=c) ([hw.w]▸hc));let b1:⇑(S.way c)<=100000:=C4 Y;erw[1212,r,_,a.dx,112,h.ins,aK T,T.jq,ja^_,12,a.aW,11122,aF.of h.hW,eH b,12,p,12,kb.k (k:=Sum.inl z) J ([Bs]▸ajJ b1 ⋯)];rw[Bu];let n:ay A.aB _ r (S.cH c z d) a:=h.Bw b (kc (S.way c) z d);let X:dw a r H (upd H p (.dK (wK (kc (S.way c) z d)))):=dw.upd (OS b);change upd H p _=G at n X ⊢;let w1:(S.cH c z d).ways.length=S.q:=by show ⇑(S.ways.set c _)=_;rw[aj5,hw.w]
  let⟨q,D,B⟩:=n.rW.at (pS (S:=S.cH c z d) (c:=d) ([w1]▸M))
  let b2:⇑((S.cH c z d).way d)<=100001:=C4 λl g=>by
   rcases alL g with g|rfl
   ·rwa[Nat.le_succ_of_le (Y l g)]
   ·rwa[ajO (L9^_) (by omega)]
  rwa[⟨_,rfl,_,rfl,r,_,a.dx,_,_,rfl,n.ins,aK T,T.jq,ja^_,_,rfl,a.aW,_,_,_,rfl,rfl,aF.of n.hW,eH D,_,rfl,_,rfl,q,_,rfl,kb.k (k:=Sum.inl (-z)) B (by rw[Bs];rwa[ajJ b2 (by decide)]),?_⟩];rw[Bu];let f:ay A.aB _ r ((S.cH c z d).cH d (-z) c) a:=n.Bw D (kc ((S.cH c z d).way d) (-z) c);let O:dw a r G (upd G q (.dK (wK (kc ((S.cH c z d).way d) (-z) c)))):=dw.upd (OS D);change upd G q _=H2 at f O ⊢;generalize U:(S.cH c z d).cH d (-z) c=C at f ⊢;let N:⇑C.gaps=S.q:=by rw[<-U];rwa[hw.g]
  let⟨p3,o,m⟩:=f.rG.at (xF (S:=C) (c:=c) ([N]▸hc))
  let pop:∀{H:Hp}{S:RS}{c:Nat}{z:Int}{p:Zs},ay A.aB H r S a->a.gs[c]?\p->H p\.dK (gK (S.gap c))->∀{Q:V->Hp->Prop},(∀v L,dw a r H L->ay A.aB L r (S.mx c z) a->Q v L)->
   LY p (.int z) .non H Q:=by
   intro H S c z p h b J Q B
   suffices q:(∀v,bC (gK (S.gap c)) (Sum.inl z)\v->Q v (upd H p (.dK (fJ (gK (S.gap c)) (Sum.inl z)))))/\(bC (gK (S.gap c)) (Sum.inl z)=none->Q .non H) from ⟨_,Sum.inl z,J,2,q.1,q.2⟩
   rw[Ja,QI];cases I:z∈S.gap c
   ·rw[aj3 I];rwa[λv _=>B _ _ (dw.upd (Yn b)) (h.T2 b _),λz=>by ext z]
   ·rw[ajY I];rwa[⟨λv z=>(by ext z),λ_=>B _ _ (λ_ _ _ e=>e) ?_⟩];let e:(S.gap c).filter (λx=>decide (x≠z))=S.gap c:=List.filter_eq_self.mpr λx hx=>ajZ λz=>I (z ▸ hx)
    let g:c<⇑S.gaps:=by rw[<-h.rG.1];rwa[(ajy.mp b).1]
    have:S.mx c z=S:=by
     unfold RS.mx RS.setG;rw[e]
     let es:S.gaps.set c (S.gap c)=S.gaps:=alf λi=>by
      cases Z:c=i
      ·subst Z;rw[akh g,xF g]
      ·rw[aky Z]
     rw[es]
    rw[this];rwa[h]
  rwa[⟨12,r,_,a.dx,112,f.ins,aK T,T.sW,tW^_,12,a.aG,11122,aF.of f.hG,eH o,p3,2,.inl ⟨_,.inl m⟩,12,pop f o m λv H3 u3 t=>?_⟩];generalize e3:C.mx c z=S3 at t;let g3:⇑S3.gaps=S.q:=by rw[<-e3];show ⇑(C.gaps.set c _)=_;rw[aj5,N]
  let⟨p4,y,u⟩:=t.rG.at (xF (S:=S3) (c:=d) ([g3]▸M));rwa[⟨12,r,_,a.dx,112,t.ins,aK T,T.sW,tW^_,12,a.aG,11122,aF.of t.hG,eH y,p4,2,.inl ⟨_,.inl u⟩,1212,pop t y u λv H4 u4 R=>?_⟩];rwa[k H4 (X.trans (O.trans (u3.trans u4))) ?_];rw[<-e3,<-U]at R;rwa[R]
def uv:T.gS.Ok mg P w base 3 (OO A.aB):=by
 rwa[T.gS.on uq (λcy AA outer s H vs Q E hr h=>?_)]
 ·let⟨x,B,L,rfl,hx,oJ,nL,k⟩:=h
  erw[_,{cE (pv 0) (pv 1) rfl,cE (pv 0) ak rfl,cE (pv 0) (bY ah) rfl,cE (pv 0) (bY #[gw]) rfl,cE (pv 0) (bY #[pc T.qB (uR T) hr #[1]]) rfl,cE (pv 0) (bY #[ak]) rfl,cE (pv 0) (bY #[bY #[ak]]) rfl,cE (pv 0) (bY ah) rfl}]
  rwa[qj ?_];intro C5 rE mv kD iV eR eZ
  let st:∀{H0:Hp}{fs:List (Str×V)}{f:Str}{v:V},H0 x\.ins A.aB B fs->(∀b o,H b\o->b≠x->H0 b\o)->upd H0 x (.ins A.aB B (bT f v fs)) x\.ins A.aB B (bT f v fs)/\(∀b o,H b\o->b≠x->upd H0 x (.ins A.aB B (bT f v fs)) b\o)/\∀b o,b≠x->H0 b\o->upd H0 x (.ins A.aB B (bT f v fs)) b\o:=λ_ h=>⟨aj,λb o e n=>[ao n]▸h b o e n,λb o n e=>[ao n]▸e⟩
  erw[1212,x,_,B,12,hx,aK T,T.sU,(by show 0<1000;decide)];obtain⟨x1,o1,-⟩:=st (f:="letters") (v:=.int L) hx (λb o e _=>e);change upd H x _=H1 at x1 o1 ⊢;let f1:⇑(bT "letters" (.int L) ([]:List (Str×V)))<=1:=jR (n:=0) (ajE _);erw[12,x,_,B,12,x1,aK T,T.pQ,ajJ f1 ⋯];obtain⟨x2,o2,-⟩:=st (f:="made") (v:=.int 1) x1 o1;let f2:=jR (f:="made") (v:=.int 1) f1;generalize e2:bT "made" (.int 1) (bT "letters" (.int L) [])=fs2 at x2 o2 f2 ⊢;change upd H1 x _=H2 at x2 o2 ⊢;rwa[⟨aj8 _,λu nR=>⟨12,x,_,B,12,av.upd nR _ _ x2,aK T,T.sV,ajJ f2 ⋯,5⟩⟩];let YZ:upd H2 u (.lst []) u\(.lst []):=aj;let C:u≠x:=(aw x2 nR).symm;let s3:=av.upd (o:=.lst []) nR
  let n0:∀{b:Zs}{H0:Hp},(∀c o,H c\o->c≠x->H0 c\o)->H0 b=none->b≠x->H b=none:=λ{b H0} h n nx=>by
   cases e:H b with
   |none=>rfl
   |some o=>rw[h b o e nx]at n;ext n
  let kR:=n0 o2 nR C;change upd H2 u _=H3 at YZ s3 ⊢;let⟨x4,o4,k4⟩:=st (f:="rows") (v:=↑u) (s3^x2) (λb o e n=>s3^o2 b o e n);let f4:=jR (f:="rows") (v:=↑u) f2;generalize e4:bT "rows" ↑u fs2=fs4 at x4 o4 f4 k4 ⊢;let U6:=k4 _ _ C YZ;change upd H3 x _=H4 at x4 o4 U6 ⊢;intro wd U9;let l:wd≠x:=(aw x4 U9).symm;let Y0:=n0 o4 U9 l;generalize e_:upd H4 wd _=H5;let⟨s5,ack⟩:=du e_ U9;rwa[⟨(Za4 1),λG nW=>⟨12,x,_,B,12,av.upd nW _ _ (s5^x4),aK T,T.jq,ajJ f4 ⋯,5⟩⟩];let U:G≠x:=(aw (s5^x4) nW).symm;let kW:=n0 (λb o e n=>s5^o4 b o e n) nW U;let nWR:G≠u:=(aw (s5^U6) nW).symm;generalize e_:upd H5 G _=H6;let⟨s6,hW6⟩:=du e_ nW;let⟨x7,o7,k7⟩:=st (f:="ways") (v:=↑G) (s6^s5^x4) (λb o e n=>s6^s5^o4 b o e n);let f7:=jR (f:="ways") (v:=↑G) f4;generalize e7:bT "ways" ↑G fs4=fs7 at x7 o7 f7 k7 ⊢;let Va:=k7 _ _ C (s6^s5^U6);let Vb:=k7 _ _ U hW6;let M8:=k7 _ _ l (s6^ack);change upd H6 x _=H7 at x7 o7 Va Vb M8 ⊢;rwa[⟨12,L,2,oJ,nL,λgd H8 s8 Vc acm=>?_⟩];let t:gd≠x:=(aw x7 Vc).symm;let kgd:=n0 o7 Vc t;let ngw:gd≠wd:=(aw M8 Vc).symm;rwa[⟨(Za4 1),λN nG=>⟨12,x,_,B,12,av.upd nG _ _ (s8^x7),aK T,T.sW,ajJ f7 ⋯,5⟩⟩];let Kc:N≠x:=(aw (s8^x7) nG).symm;let kG:=n0 (λb o e n=>s8^o7 b o e n) nG Kc;let nGR:N≠u:=(aw (s8^Va) nG).symm;let nGW:N≠G:=(aw (s8^Vb) nG).symm;generalize e_:upd H8 N _=H9;let⟨s9,hG9⟩:=du e_ nG;let⟨x10,OU,Y⟩:=st (f:="gaps") (v:=↑N) (s9^s8^x7) (λb o e n=>s9^s8^o7 b o e n);let Kd:=jR (f:="gaps") (v:=↑N) f7;generalize e10:bT "gaps" ↑N fs7=acn at x10 OU Kd Y ⊢;let M9:=Y _ _ C (s9^s8^Va);let Nb:=Y _ _ U (s9^s8^Vb);let OV:=Y _ _ l (s9^s8^M8);let Nc:=Y _ _ Kc hG9;let OW:=Y _ _ t (s9^acm);change upd H9 x _=OX at x10 OU M9 Nb OV Nc OW ⊢;rwa[⟨4,λI nE=>⟨12,x,_,B,12,av.upd nE _ _ x10,aK T,T.jJ,ajJ Kd ⋯,5⟩⟩];let OY:I≠x:=(aw x10 nE).symm;let kE:=n0 OU nE OY;let nER:I≠u:=(aw M9 nE).symm;let nEW:I≠G:=(aw Nb nE).symm;let nEG:I≠N:=(aw Nc nE).symm;generalize e_:upd OX I _=Vd;let⟨y,aco⟩:=du e_ nE;let⟨X,Ke,F⟩:=st (f:="elders") (v:=↑I) (y^x10) (λb o e n=>y^OU b o e n);let Ve:=jR (f:="elders") (v:=↑I) Kd;generalize e12:bT "elders" ↑I acn=acp at X Ke Ve F ⊢;let R:=F _ _ C (y^M9);let J:=F _ _ U (y^Nb);let OZ:=F _ _ l (y^OV);let S:=F _ _ Kc (y^Nc);let O6:=F _ _ t (y^OW);let O:=F _ _ OY aco;change upd Vd x _=Y1 at X Ke R J OZ S O6 O ⊢;rwa[⟨4,λcl r=>⟨(Za4 1),λM nC=>⟨12,x,_,B,12,av.upd nC _ _ (av.upd r _ _ X),aK T,T.nB,ajJ Ve ⋯,5⟩⟩⟩];let Nf:cl≠x:=(aw X r).symm;let kcl:=n0 Ke r Nf;let ncR:cl≠u:=(aw R r).symm;let ncW:cl≠G:=(aw J r).symm;let ncG:cl≠N:=(aw S r).symm;let ncE:cl≠I:=(aw O r).symm;let a:=av.upd (o:=.lst [.int 0]) r;let z:upd Y1 cl (.lst [.int 0]) cl\(.lst [.int 0]):=aj;change upd Y1 cl _=H13 at a z nC ⊢;let Vf:M≠x:=(aw (a^X) nC).symm;let kC:=n0 (λb o e n=>a^Ke b o e n) nC Vf;let nCR:M≠u:=(aw (a^R) nC).symm;let nCW:M≠G:=(aw (a^J) nC).symm;let nCG:M≠N:=(aw (a^S) nC).symm;let nCE:M≠I:=(aw (a^O) nC).symm;let nCc:M≠cl:=(aw z nC).symm;generalize e_:upd H13 M _=H14;let⟨m,acq⟩:=du e_ nC;let⟨Kf,O8,q⟩:=st (f:="called") (v:=↑M) (m^a^X) (λb o e n=>m^a^Ke b o e n);let O9:=jR (f:="called") (v:=↑M) Ve;generalize e15:bT "called" ↑M acp=acr at Kf O8 O9 q ⊢;let Ng:=q _ _ C (m^a^R);let Nh:=q _ _ U (m^a^J);let Pa:=q _ _ l (m^a^OZ);let Ni:=q _ _ Kc (m^a^S);let Pb:=q _ _ t (m^a^O6);let Nj:=q _ _ OY (m^a^O);let D:=q _ _ Nf (m^z);let Nk:=q _ _ Vf acq;change upd H14 x _=H15 at Kf O8 Ng Nh Pa Ni Pb Nj D Nk ⊢;rwa[⟨aj8 _,λZ nN=>⟨12,x,_,B,12,av.upd nN _ _ Kf,aK T,T.sX,ajJ O9 ⋯,5⟩⟩];let Y2:Z≠x:=(aw Kf nN).symm;let kN:=n0 O8 nN Y2;let nNR:Z≠u:=(aw Ng nN).symm;let nNW:Z≠G:=(aw Nh nN).symm;let nNG:Z≠N:=(aw Ni nN).symm;let nNE:Z≠I:=(aw Nj nN).symm;let nNC:Z≠M:=(aw Nk nN).symm;let nNc:Z≠cl:=(aw D nN).symm;generalize e_:upd H15 Z _=H16;let⟨g,acs⟩:=du e_ nN;let⟨Y3,Y4,j⟩:=st (f:="went") (v:=↑Z) (g^Kf) (λb o e n=>g^O8 b o e n)
  let ef:bT "went" ↑Z acr=gx (L:Int) 1 ⟨B,u,G,N,I,M,Z,[],[wd],[gd],[cl]⟩:=by
   rw[<-e15,<-e12,<-e10,<-e7,<-e4,<-e2]
   kernel_rfl
  rw[ef]at Y3 Y4 j ⊢;rwa[k ⟨B,u,G,N,I,M,Z,[],[wd],[gd],[cl]⟩ _ Y4 ⟨Y3,j _ _ C (g^Ng),j _ _ U (g^Nh),j _ _ Kc (g^Ni),j _ _ OY (g^Nj),j _ _ Vf (g^Nk),j _ _ Y2 acs,⟨2,(λi p d h=>by simp at h)⟩,555,(λd hd=>by ext hd),55⟩ ?_]
  ·rwa[Each.snoc (ps:=[]) (xs:=[]) ⟨2,λi p d h=>by simp at h⟩ (j _ _ l (g^Pa))]
  ·rwa[Each.snoc (ps:=[]) (xs:=[]) ⟨2,λi p d h=>by simp at h⟩ (j _ _ t (g^Pb))]
  ·rwa[Each.snoc (ps:=[]) (xs:=[]) ⟨2,λi p d h=>by simp at h⟩ (j _ _ Nf (g^D))]
  ·show [u,G,N,I,M,Z,cl].Nodup;simp only[akf,ajS,akn,alJ,not_or,akW,and_true,alS]
   cbv
  ·show [wd,gd].Nodup;simp only[akf,ajS,akn,alJ,akW,and_true,alS];rwa[ngw.symm]
  ·intro b hb;rcases hb with rfl|hb|hb
   ·rwa[.inl rfl]
   ·simp only[RA.lists,ajS,akn,alJ]at hb
    cbv
   ·simp only[RA.ft,ajK,ajS,akn,alJ]at hb
    cbv
def _root_.Lake.L2.ay.C6 (h:ay a H b S O){p:Zs}(c:H p=none):¬O.own b p:=λz=>by
 let⟨o,e⟩:=h.there z
 cbv
def AF:T.qH.Ok mg P w base 3 (J9 A.aB):=by
 rwa[T.qH.on rB (λcy AA outer s H vs Q E hr h=>?_)]
 ·let⟨r,S,a,c,z,rfl,h,hw,oJ,nL,hc,hm,ti,hz,k⟩:=h
  erw[_,{bF 3 rB.nd (0<<<1),cE (pv 0) (aL cw (pv 3) ak) rfl,bp (df ajL ajW ajX bV (0<<<1) #[bG #[dA (l:=[110,101,119]) rfl,1,2,3]]),bp (df ajL ajW ajX bV (0<<<1) #[gw]),bp (df ajL ajW ajX bV (0<<<1) #[pc T.qB (uR T) hr #[0<<<1]]),bp (df ajL ajW ajX bV (0<<<1) #[3]),bp (df ajL ajW ajX bV (0<<<1) #[bY #[3]]),bp (pm (pv 0) (aK T) T.mD (rD T) hr #[1,2,3]),a9 (pv 3)}]
  rwa[BG ?_];intro Vg C5 rE mv kD iV eR eZ;erw[12,r,_,a.dx,112,h.ins,aK T,T.pQ,tU^_];erw[12112212,r,_,a.dx,12,h.ins,aK T,T.pQ,(by show 8<1000;decide)];rw[Jb,show (S.q:Int)+ 1=((S.q+ 1:Nat):Int) by ext];let h1:=h.QJ (S.q+ 1);let u1:dw a r H (upd H r (.ins A.aB a.dx (gx S.L ((S.q+ 1:Nat):Int) a))):=dw.upd (.inl rfl);change upd H r _=H1 at h1 u1 ⊢;let lR:⇑(a.rs.map V.ref)<sizeLine:=by rw[ajD,h.rR.1];rwa[ajJ ti ⋯]
  rwa[⟨12,r,_,a.dx,112,h1.ins,aK T,T.sV,tV^_,.inl ⟨21,aF.of h1.hR⟩,121212,(Za4 4),λt ht=>⟨a.aR,1122,av.upd ht _ _ h1.hR,lR,5⟩⟩];generalize e_:upd H1 t _=H2;let⟨s2,ht2⟩:=du e_ ht
  let hd2:bW H2 4 ↑t (il c z S.q):=by
   rwa[.t ht2 rfl λj v d u G=>?_]
   rcases j with _|_|_|_|j
   ·simp at u G;subst u G;rwa[.s]
   ·simp at u G;subst u G;rwa[.i]
   ·simp at u G;subst u G;rwa[.i]
   ·simp at u G;subst u G;rwa[.i]
   ·simp at u
  let nl:mU (il c z S.q):=.t (by show 4<=100000;decide) λd hd=>by
   simp only[ajS,akn,alJ]at hd;rcases hd with rfl|rfl|rfl|rfl
   ·rwa[.s]
   ·rwa[.i]
   ·rwa[.i]
   ·rwa[.i]
  let C:=(h1.same s2).Bv hd2 nl;let u3:dw a r H2 (upd H2 a.aR (.lst (a.rs.map V.ref++[↑t]))):=dw.upd (.inr (.inl gG));change upd H2 a.aR _=H3 at C u3 ⊢;generalize O:({ a with rs:=a.rs++[t] }:RA)=p at C;let X:∀b,p.own r b->a.own r b:=λb f=>by rw[<-O]at f;rwa[f]
  let ah7:∀b,a.own r b->p.own r b:=λb f=>by rw[<-O];rwa[f]
  let ewG:p.dx=a.dx:=by rw[<-O]
  let U3:dw a r H H3:=u1.trans (λb o f e=>u3 b o f (s2^e));erw[12,r,_,p.dx,112,C.ins,aK T,T.jq,ja^_,.inl ⟨21,aF.of C.hW⟩];intro m x;let hdW:⇑(p.ws.map V.ref)<sizeLine:=by rw[ajD,C.rW.1];show ⇑S.ways<sizeLine;rw[hw.w];rwa[ajJ hm ⋯]
  let s4:=av.upd (o:=.dK []) x;let J:upd H3 m (.dK []) m\(.dK (wK [])):=aj;let acu:=C.C6 x;erw[p.aW,1122,s4^C.hW,hdW];change upd H3 m _=H4 at s4 J ⊢;let D:=(C.same s4).TY J (λz=>acu (.inr (.inr z)));let u5:dw p r H4 (upd H4 p.aW (.lst (p.ws.map V.ref++[↑m]))):=dw.upd (.inr (.inl gH));change upd H4 p.aW _=H5 at D u5 ⊢;generalize ea5:({ p with ws:=p.ws++[m] }:RA)=n at D
  let aih:∀b,n.own r b->p.own r b\/b=m:=λb f=>by
   rw[<-ea5]at f;rcases f with f|f|f
   ·rwa[.inl (.inl f)]
   ·rwa[.inl (.inr (.inl f))]
   ·simp only[RA.ft,ajK,ajF]at f;rcases f with (f|f)|f
    ·rwa[.inl (.inr (.inr (aj4 _ f)))]
    ·rwa[.inr f]
    ·rwa[.inl (.inr (.inr (ajI _ f)))]
  let Y0:H m=none\/a.own r m:=by
   cases B:a.own r m
   ·rwa[.inr B]
   ·rwa[.inl ?_]
    cases e:H m with
    |none=>rfl
    |some o=>rw[U3 m o B e]at x;ext x
  let U5:dw a r H H5:=U3.trans λb o f e=>u5 b o (λz=>f (X b z)) (s4^e)
  rwa[⟨12,r,_,n.dx,112,D.ins,aK T,T.sW,tW^_,.inl ⟨21,aF.of D.hG⟩,12,r,_,n.dx,112,D.ins,aK T,T.sU,wz^_,S.L,2,oJ,nL,λy H6 s6 M U=>?_⟩];let hdG:⇑(n.gs.map V.ref)<sizeLine:=by rw[ajD,D.rG.1];show ⇑S.gaps<sizeLine;rw[hw.g];rwa[ajJ hm ⋯]
  let h6:=D.same s6;let acv:=D.C6 M;erw[n.aG,1122,h6.hG,hdG];let R:=h6.T1 U (λz=>acv (.inr (.inr z)));let u7:dw n r H6 (upd H6 n.aG (.lst (n.gs.map V.ref++[↑y]))):=dw.upd (.inr (.inl jx));change upd H6 n.aG _=H7 at R u7 ⊢;generalize ea7:({ n with gs:=n.gs++[y] }:RA)=g at R
  let aii:∀b,g.own r b->n.own r b\/b=y:=λb f=>by
   rw[<-ea7]at f;rcases f with f|f|f
   ·rwa[.inl (.inl f)]
   ·rwa[.inl (.inr (.inl f))]
   ·simp only[RA.ft,ajK,ajF]at f;rcases f with f|f|f
    ·rwa[.inl (.inr (.inr (aj4 _ f)))]
    ·rwa[.inl (.inr (.inr (ajI _ f)))]
    ·rwa[.inr f]
  let w5:H m=none\/a.own r m:=Y0
  let acw:∀b o,¬a.own r b->H b\o->¬n.own r b:=λb o f e z=>by cbv
  let U7:dw a r H H7:=λb o f e=>u7 b o (acw b o f e) (s6^U5 b o f e)
  let kgd:H y=none\/a.own r y:=by
   cases B:a.own r y
   ·rwa[.inr B]
   ·rwa[.inl ?_]
    cases e:H y with
    |none=>rfl
    |some o=>rw[U5 y o B e]at M;ext M
  erw[12,r,_,g.dx,112,R.ins,aK T,T.jJ,jP^_,.inl ⟨21,aF.of R.hE⟩,12,g.aE,1122,R.hE,5]
  ·rw[aJ,bO];show ⇑S.aV<sizeLine;rw[hw.e];rwa[ajJ hm ⋯]
  let eE:au (nI S.aV)++[V.int (S.q:Int)]=au (nI (S.aV++[S.q])):=by rw[iN,ints_app];rfl
  show _;let I:=R.zt (S.aV++[S.q]);rw[<-eE]at I;let u8:dw g r H7 (upd H7 g.aE (.lst (au (nI S.aV)++[V.int (S.q:Int)]))):=dw.upd (.inr (.inl hV));change upd H7 g.aE _=H8 at I u8 ⊢
  let F:∀b o,¬a.own r b->H b\o->¬g.own r b:=λb o f e z=>by cbv
  let U8:dw a r H H8:=λb o f e=>u8 b o (F b o f e) (U7 b o f e)
  rwa[⟨12,r,_,g.dx,112,I.ins,aK T,T.nB,n7^_,.inl ⟨21,aF.of I.hC⟩,12,(Za4 1),λcl q=>⟨g.aC,1122,av.upd q _ _ I.hC,55⟩⟩]
  ·rw[ajD,I.rC.1];show ⇑S.called<sizeLine;rw[hw.c];rwa[ajJ hm ⋯]
  generalize e_:upd H8 cl _=H9;obtain⟨s9,Y⟩:_/\_\(.lst (au (nI [S.q]))):=du e_ q;let acx:=I.C6 q;let N:=(I.same s9).Jc Y (λz=>acx (.inr (.inl z)));let Z:dw g r H9 (upd H9 g.aC (.lst (g.cs.map V.ref++[↑cl]))):=dw.upd (.inr (.inl jb));change upd H9 g.aC _=OX at N Z ⊢;generalize acy:({ g with cs:=g.cs++[cl] }:RA)=i at N
  let ah8:∀b,i.own r b->g.own r b\/b=cl:=λb f=>by
   rw[<-acy]at f;rcases f with f|f|f
   ·rwa[.inl (.inl f)]
   ·let BQ:b∈g.lists++[cl]:=f;rcases ajK.mp BQ with f|f
    ·rwa[.inl (.inr (.inl f))]
    cbv
   ·rwa[.inl (.inr (.inr f))]
  let kcl:H cl=none\/a.own r cl:=by
   cases B:a.own r cl
   ·rwa[.inr B]
   ·rwa[.inl ?_]
    cases e:H cl with
    |none=>rfl
    |some o=>rw[U8 cl o B e]at q;ext q
  let L:∀b o,¬a.own r b->H b\o->¬i.own r b:=λb o f e z=>by cbv
  let U10:dw a r H OX:=λb o f e=>Z b o (F b o f e) (s9^U8 b o f e)
  let hS:ay A.aB OX r (S.grown c z (bL (2* S.L))) i:=N;rwa[⟨12,r,i.dx,12,hS.ins,da _ _ _ ⋯,121212,r,S.grown c z (bL (2* S.L)),i,c,S.q,z,2,hS,⟨5555⟩,555,λVd u11 h11=>?_⟩]
  ·show ⇑(S.ways++[[]])=S.q+ 1;rw[ajC,hw.w];rfl
  ·show ⇑(S.gaps++[_])=S.q+ 1;rw[ajC,hw.g];rfl
  ·show ⇑(S.aV++[_])=S.q+ 1;rw[ajC,hw.e];rfl
  ·show ⇑(S.called++[_])=S.q+ 1;rw[ajC,hw.c];rfl
  ·show c<S.q+ 1;ext
  ·show S.q<S.q+ 1;ext
  ·intro l hl;rcases ajK.mp hl with hl|hl
   ·rwa[hz l hl]
   cbv
  ·rwa[⟨_,rfl,k i Vd (λb o f e=>u11 b o (L b o f e) (U10 b o f e)) h11 λb f=>?_⟩]
   cbv
def C7 {j:TT}{Q:VK}(h:⇑S.aV=S.q)(p:S.q<=100000)(n:∀(i e:Nat) (R:Bool->Hp->Prop),S.aV[i]?\e->R (decide (V.int (e:Int)=V.int (i:Int))) H->j (some (.int (i:Int))::D) H R)(q:∀(v:V) (R:VK),R v H->r (some v::D) H R)(k:∀a,H a=none->Q ↑a (upd H a (.lst (au (nI ((~~~S.q).filter λc=>decide (S.aV[c]?\c))))))):Bo j r D Q (y7 0 S.q) H:=by
 rwa[⟨λi m ys l=>m=S.q - i/\i<=S.q/\ys=au (nI ((~~~i).filter λc=>decide (S.aV[c]?\c)))/\l=H,⟨S.q,by simp,aj8 _,rfl,rfl⟩,?_⟩];rintro i m ys l ⟨rfl,t,rfl,rfl⟩
 let hlen:⇑(au (nI ((~~~i).filter λc=>decide (S.aV[c]?\c))))<=i:=by rw[aJ,bO];rwa[ajO (alI _ _) (by cbv)]
 cases b:i<S.q
 ·rwa[.inr ⟨b,ajJ (ajO hlen (show i<=100000 by omega)) ⋯,λx s g=>?_⟩];let⟨rfl,rfl⟩:=g;let d:S.aV[i]?\(S.aV[i]'([h]▸b)):=ajz _
  change S.aV[i]'([h]▸b)=e at d;rw[Int.zero_add];rwa[n i e _ d ?_];cases f:e=i
  ·subst f;rw[ajZ rfl];rwa[q^⟨S.q - (e+ 1),32,b,52⟩];rw[ak8,List.filter_append,amM (by cbv),List.filter_nil,iN,ints_app];rfl
  ·rw[show decide (V.int (e:Int)=V.int (i:Int))=false from akj (λz=>f (by injection z with z;omega))];rwa[⟨S.q - (i+ 1),32,b,52⟩];rw[ak8,List.filter_append,List.filter_cons_of_neg (by cbv),List.filter_nil,akb]
 ·let e:i=S.q:=∅
  subst e;rwa[.inl ⟨ajE _,ajO hlen (ajO p ⋯),λa o=>k a o⟩]
def gI:T.fz.Ok mg P w base 1 (xD A.aB):=by
 rwa[T.fz.on ur (λd m b s H l Q E n h=>?_)]
 ·let⟨r,S,a,rfl,h,hw,g,k⟩:=h;erw[_,{a9 (wI (fns:=["self"]) (ixs:=[0]) (cl:=_) rfl (fy rfl T.eA #[0<<<1]) (cM [(_,_)] rfl ⟨22222,True.intro⟩ rfl) (λC s H ex=>(aM cV (aH (vi (K:=K) rfl) (QL (K:=K) rfl (pv 1) rfl) (pv 0) (λ_ _=>rfl)) (pv 0) (aO _))) (λC s H ex=>(pv 0)))}];erw[12,r,_,a.dx,112,h.ins,aK T,T.pQ,tU^_,(S.q:Int),233];rw[aka];rwa[C7 hw.e g (λi e R j c=>⟨12,r,_,a.dx,112,h.ins,aK T,T.jJ,jP^_,12,a.aE,11122,aF.of h.hE,b6 (bQ (eU j)),12212,c⟩) (λv R c=>⟨12,c⟩) k]
def pT:T.lD.Ok mg P w base 5 (FU 2 A.aB):=by
 rwa[T.lD.on yP (λcy AA m s H vs Q E X h=>?_)]
 ·let⟨r,S,a,rfl,h,B,u,k⟩:=h;erw[_,{a9 (iR (fns:=[]) (ixs:=[]) (cl:=[]) rfl (cQ (0<<<1)) (cM [] rfl True.intro rfl) (λC s H ex=>(pc T.own (zM T) X #[0])))}];erw[12,r,_,a.dx,112,h.ins,aK T,T.sV,tV^_,a.aR,2,⟨_,aF.of h.hR⟩];let j:⇑(a.rs.map V.ref)=⇑S.rows:=by rw[ajD,h.rR.1]
  let L:∀i,i<⇑S.rows->∃p d,a.rs[i]?\p/\S.rows[i]?\d/\d∈S.rows/\bW H 4 ↑p d:=λi f=>by let c:=ajz f;let⟨p,o,q⟩:=h.rR.at c;rwa[p,_,o,c,ajA c,q]
  rwa[oh ⇑S.rows (λi=>(a.rs.map V.ref).getD i .non) (λb v i=>∃p d,v=↑p/\S.rows[i]?\d/\mU d/\bW b 4 ↑p d) (λH1 b v i s q0=>by let⟨p,x,e,n,hn,q⟩:=q0;rwa[p,x,e,n,hn,q.same s]) ?_ (λi b s2 f=>ka (aF.of (s2^h.hR)) i ∅) (λi x b H3 s2 f y=>?_) (λb s2=>?_) (λi b Rr f s2 kk=>?_) (λD b ys s2 N U X=>?_)]
  ·rwa[ajO B ⋯]
  ·let⟨e,F⟩:=i7 (aF.of (s2^h.hR)) i x H3 ∅ y;erw[e];rw[ajH,F];rfl
  ·have:=hU (aF.of (K:=K) (s2^h.hR));rw[j]at this;rwa[this]
  ·let⟨p,d,o,c,g,q⟩:=L i f;let F:(a.rs.map V.ref).getD i .non=↑p:=by rw[ajH,aj0,o];rfl
   let q1:=(u p d g q).same s2;rw[F];rwa[⟨12,↑p,d,2,q1,h.flat d g,λv' H' s' Z=>?_⟩]
   have:∃J,v'=↑J:=by
    let I:∃R,d=.t R:=by
     cases q with
     |t=>cbv
     |l=>exact absurd (h.flat _ g) (λz=>by ext z)
    let⟨R,rfl⟩:=I
    cases Z with
    |t=>cbv
   let⟨J,rfl⟩:=this;rwa[kk _ H' s' ⟨J,d,2,c,h.flat d g,Z.le ⋯⟩]
  ·let⟨O,rfl,G⟩:=tZ (P:=λi p=>∃d,S.rows[i]?\d/\bW b 4 ↑p d) ys 0 (λi v hv=>by cbv)
   let M:av b (upd b D (.lst (O.map V.ref))):=av.upd N;rw[ajD]at U;rwa[k D O _ (s2.trans M) (s2.free N) aj ⟨U,λi p d e1 n=>?_⟩];let⟨d',Y,q⟩:=G i p e1;rw[Nat.zero_add]at Y;obtain rfl:d'=d:=Za0 (Y.symm.trans n);rwa[q.same M]
def dB (H:Hp)(p:Zs)(a:Ze):Prop:=∃b:Zn,H p\.lst (b.map V.ref)/\Each (λq (w:Way)=>H q\.tup [.int (w.1:Int),.int w.2.1,.int (w.2.2:Int)]) b a
def qK (a:RA)(r p:Zs)(H c:Hp):Prop:=∀b o,¬a.own r b->b≠p->H b\o->c b\o
def dB.keep {c:Ze}(h:dB H a c)(k:∀o,H a\o->I a\o)(f:∀b d,H b\.tup d->I b\.tup d):dB I a c:=by let⟨g,j,i⟩:=h;rwa[g,k _ j,i.imp λq w _ _ e=>f^e]
structure Small (S:RS):Prop where
 m:S.q<=100000
 w:∀l∈S.ways,⇑l<=100000
 r:⇑S.rows<=1000000
 n:⇑S.bz<=1000000
 c:∀l∈S.called,⇑l<=1000000
inductive C8 (C:Zs)(vs:Zb)(H:Hp)(Q:VK)(E_:XK):Prop
 |mk (r p:Zs)(S:RS)(a:RA)(c:Nat)(pend:Ze):vs=[↑r,.int c,↑p]->ay C H r S a->S.Wf->c<S.q->GZ S c->(∀l∈S.ways,⇑l<=100000)->dB H p pend->¬a.own r p->⇑pend<=1000000->(∀a' H',qK a r p H H'->ay C H' r (S.pj c pend).1 a'->dB H' p (S.pj c pend).2->(∀b,a'.own r b->a.own r b\/H b=none)->Q .non H')->C8 C vs H Q E_
inductive FV (C:Zs)(vs:Zb)(H:Hp)(Q:VK)(E_:XK):Prop
 |mk (r p:Zs)(S:RS)(a:RA)(c x y:Nat)(z:Int)(pend:Ze):vs=[↑r,.int c,.int z,.int x,.int y,↑p]->ay C H r S a->S.Wf->x<S.q->y<S.q->x≠y->GZ S (max x y)->(∀n∈S.cI (max x y),n<S.q)->Small S->dB H p pend->¬a.own r p->⇑pend<=1000000->(∀a' H',qK a r p H H'->ay C H' r (S.meet c z x y pend).1 a'->dB H' p (S.meet c z x y pend).2->(∀b,a'.own r b->a.own r b\/H b=none)->Q .non H')->FV C vs H Q E_
structure xG (S:RS):Prop where
 wf:S.Wf
 el:∀c,c<S.q->S.ax c<S.q
 bl:∀c z d,S.by c z=some d->d<S.q
 cl:∀c,∀n∈S.cI c,n<S.q
 off:∀c,c<S.q->GZ S c
 sm:Small S
inductive C9 (C:Zs)(vs:Zb)(H:Hp)(Q:VK)(E_:XK):Prop
 |mk (r t p:Zs)(S:RS)(a:RA)(w:Way)(pend:Ze):vs=[↑r,↑t,↑p]->ay C H r S a->H t\.tup [.int (w.1:Int),.int w.2.1,.int (w.2.2:Int)]->xG S->w.1<S.q->w.2.2<S.q->dB H p pend->¬a.own r p->⇑pend<=1000000->(∀a' H',qK a r p H H'->ay C H' r (S.takeIn pend w).1 a'->dB H' p (S.takeIn pend w).2->(∀b,a'.own r b->a.own r b\/H b=none)->Q .non H')->C9 C vs H Q E_
inductive Pg (C:Zs)(vs:Zb)(H:Hp)(Q:VK)(E_:XK):Prop
 |mk (r q:Zs)(S:RS)(a:RA)(c d:Nat)(z:Int)(row:Dt)(I:RS->Ze->Prop)(μ:RS->Ze->Nat):vs=[↑r,.int c,.int z,.int d,↑q]->ay C H r S a->⇑S.rows<=1000000->bW H 2 ↑q row->mU row->I { S with rows:=S.rows++[row] } [(c,z,d)]->(∀S pend w,I S (pend++[w])->xG S/\w.1<S.q/\w.2.2<S.q/\⇑pend<=1000000/\I (S.takeIn pend w).1 (S.takeIn pend w).2/\μ (S.takeIn pend w).1 (S.takeIn pend w).2 < μ S (pend++[w]))->(∀S' a' H',dw a r H H'->ay C H' r S' a'->I S' []->(∀b,a'.own r b->a.own r b\/H b=none)->Q .non H')->Pg C vs H Q E_
def pU (h:i<n):uE n (i:Int)\i:=by unfold uE;rw[aj3 ∅,aj3 ∅,aka]
def Nm {l:List (Int×Nat)}(a:(l.map (·.1)).Nodup){q:Int×Nat}(h:q∈l):fP l q.1\q.2:=by
 induction l with
 |nil=>ext h
 |cons p l b=>
  unfold fP;rw[akN,akf]at a;cases e:p.1=q.1
  ·cbv
  ·rw[al9 (by simpa using e)];rcases ajS.mp h with rfl|h
   ·rwa[absurd rfl e]
   ·rwa[b a.2 h]
def vH:T.mj.Ok mg P w base 1 (C8 A.aB):=by
 rwa[T.mj.on hY (λcy AA outer s H vs Q E hr h=>?_)]
 ·let⟨r,p,S,a,c,d,rfl,h,hw,hc,ok,sm,hP,np,lL,k⟩:=h;let kF:=eG hr
  erw[_,{bF 3 hY.nd ((0<<<1)|||1),jn gw (vV (0<<<1) (pv 1) set_list),cf ajV rfl (cQ (fX (kg rfl) rfl T.km ald #[3])) (cS 4 hY.nd)
    {bF 5 hY.nd (tR kF (pv 3) (pv 4) (λ_ _=>rfl)),bE (bD (aM i5 (pv 5) (pv 1) (aO _))
     {bp (L0 ((0<<<1)|||5) (eF dy (pv 4)) ⟨2222⟩)}
     bj),bp (df ajL ajW ajX bV (pv 2) #[bG #[1,4,5]])}}]
  rwa[dE ?_];intro eR eZ;let R:c<⇑S.ways:=by rw[hw.w];rwa[hc]
  let⟨u,v,Y5⟩:=h.rW.at (pS R);let Y6:⇑(S.way c)<=100000:=C4 sm;erw[12,r,_,a.dx,112,h.ins,aK T,T.jq,ja^_,12,a.aW,11122,aF.of h.hW,eH v];intro Z D;generalize e_:upd H Z _=H1;obtain⟨s1,acz⟩:_/\_\(.dK (wK [])):=du e_ D;let nn:=h.C6 D;let nnp:Z≠p:=λz=>by let⟨J,q1,_⟩:=hP;cbv
  let h1:=h.same s1;let hi:c<⇑a.ws:=by rw[h.rW.1];rwa[R]
  erw[12,r,_,a.dx,112,h1.ins,aK T,T.jq,ja^_,12,a.aW,11,c,22,h1.hW,pU ([ajD]▸hi)];let h2:=h1.T3 hi acz (λz=>nn (.inr (.inr z)));let u2:∀b o,b≠a.aW->H1 b\o->upd H1 a.aW (.lst ((a.ws.map V.ref).set c ↑Z)) b\o:=λb o y e=>by rw[ao y];rwa[e]
  change upd H1 a.aW _=H2 at h2 u2 ⊢;let npW:p≠a.aW:=λz=>np (.inr (.inl ([z]▸gH)))
  let wdW:u≠a.aW:=(h.ld gH (dW (ajA v))).symm;let N:H2 u\(.dK (wK (S.way c))):=u2 _ _ wdW (s1^Y5);generalize FW:({ a with ws:=a.ws.set c Z }:RA)=a2 at h2;let Y7:ay A.aB H2 r (dm c S d []).1 a2:=h2
  let acA:¬a2.own r u:=λz=>by
   rw[<-FW]at z;rcases z with z|z|z
   ·rwa[(h.rd (dW (ajA v))) z.symm]
   ·rwa[h.ld z (dW (ajA v)) rfl]
   ·let Y8:=akv.mp h.mV;let z':u∈a.ws.set c Z++a.gs:=z;rcases ajK.mp z' with z|z
    ·let⟨j,M⟩:=akr z;cases e:c=j
     ·subst e;rw[akh hi]at M;have:Z=u:=Za0 M;rw[this,Y5]at D;ext D
     ·rw[aky e]at M;rwa[e ((amX hi Y8.1).mp (v.trans M.symm))]
    ·rwa[Y8.2.2 u (ajA v) u z rfl]
  let L:∀b,a2.own r b->a.own r b\/H b=none:=λb f=>by
   rw[<-FW]at f;rcases f with f|f|f
   ·rwa[.inl (.inl f)]
   ·rwa[.inl (.inr (.inl f))]
   ·let BQ:b∈a.ws.set c Z++a.gs:=f;rcases ajK.mp BQ with f|f
    ·rcases alL f with f|rfl
     ·rwa[.inl (.inr (.inr (aj4 _ f)))]
     ·rwa[.inr D]
    ·rwa[.inl (.inr (.inr (ajI _ f)))]
  let xH:¬a2.own r p:=λz=>by
   rcases L p z with q|q
   ·rwa[np q]
   ·let⟨J,q1,_⟩:=hP;cbv
  let FC:dB H2 p (dm c S d []).2:=hP.keep (λo e=>u2 _ _ npW (s1^e)) (λb U e=>u2 _ _ (h.tl e gH) (s1^e));let B2:qK a r p H H2:=λb o y _ e=>u2 _ _ (λz=>y (.inr (.inl ([z]▸gH)))) (s1^e)
  rwa[⟨12,u,12,N,λl nl=>?_⟩];let s3:=av.upd (o:=.lst ((wK (S.way c)).map λG=>kV G.1)) nl;let X:upd H2 l (.lst ((wK (S.way c)).map λG=>kV G.1)) l\(.lst ((wK (S.way c)).map λG=>kV G.1)):=aj;let FX:=Y7.C6 nl;let Y9:l≠p:=λz=>by let⟨J,q1,_⟩:=FC;cbv
  let nlw:l≠u:=λz=>by cbv
  let nlH:H l=none\/a.own r l:=by
   cases ho:a.own r l
   ·rwa[.inr ho]
   ·rwa[.inl ?_]
    cases e:H l with
    |none=>rfl
    |some o=>rw[B2 l o ho Y9 e]at nl;ext nl
  change upd H2 l _=H3 at s3 X ⊢;erw[l,2,⟨_,aF.of X⟩];let hlen:⇑((wK (S.way c)).map λG=>kV G.1)=⇑(S.way c):=by rw[ajD,Bs]
  let' kZ:Nat->St->Hp->Prop:=λi σ I=>∃v4 v5,σ=#v[↑r,.int (c:Int),↑p,↑u,v4,v5]/\ay A.aB I r (dm c S d ((S.way c).take i)).1 a2/\dB I p (dm c S d ((S.way c).take i)).2/\(∀b o,¬a2.own r b->b≠p->H3 b\o->I b\o)
  rwa[dJ (xs:=(wK (S.way c)).map λG=>kV G.1) kZ ⟨none,none,2,Y7.same s3,FC.keep (λo e=>s3^e) (λb U e=>s3^e),λb o _ _ e=>e⟩ (λi σ I _ ζ=>by let⟨_,_,_,_,_,kk⟩:=ζ;rwa[aF.of (kk _ _ FX Y9 X)]) ?_ ?_]
  ·intro i x σ I hx Y;rwa[aZ ?_];intro q_;let⟨v4,v5,rfl,O,B,kk⟩:=Y;dsimp only[q_];clear q_;dsimp only[cZ];rwa[qh ?_];intro g9 Ph Pj;let F:i<⇑(S.way c):=by rw[<-hlen];rwa[(ajy.mp hx).1]
   let hg:(S.way c)[i]?\((S.way c)[i]'F):=ajz F
   change (S.way c)[i]'F=w at hg
   let ex:x=.int w.1:=by unfold wK at hx;rw[aj0,aj0,hg]at hx;rwa[(Za0 hx).symm]
   subst ex;let hm:=ajA hg;let Dc:(S.way c).take (i+ 1)=(S.way c).take i++[w]:=by rw[aly,hg];rfl
   let acB:I u\(.dK (wK (S.way c))):=kk _ _ acA (λz=>by let⟨J,q1,_⟩:=FC;cbv) (s3^N);let hv:bC (wK (S.way c)) (Sum.inl w.1)\(.int (w.2:Int)):=by rw[lK,Nm ok.nd hm];rfl
   let o6:=ok.lt w hm;let Ur:=(g6 c S d ((S.way c).take i)).1;erw[1212,u,12,(by have:=dv.k (k:=Sum.inl w.1) acB;rw[hv]at this;rwa[this])]
   let' qL:St->Hp->Prop:=λ fV H'=>fV=#v[↑r,.int (c:Int),↑p,↑u,.int w.1,.int (w.2:Int)]/\ay A.aB H' r (dm c S d ((S.way c).take (i+ 1))).1 a2/\dB H' p (dm c S d ((S.way c).take i)).2/\(∀b o,¬a2.own r b->b≠p->H3 b\o->H' b\o)
   erw[qL,5]
   ·rwa[bB ?_];intro g9;rwa[⟨1212212,bK (λo8=>?_) (λo8=>?_)⟩]
    ·let n:w.2≠c:=λz=>by cbv
     let hd2:w.2<(dm c S d ((S.way c).take i)).1.ways.length:=by rw[Ur,hw.w];rwa[o6]
     let⟨pd,C,hPD⟩:=O.rW.at (pS hd2)
     let T4:((dm c S d ((S.way c).take i)).1.by w.2 (-w.1)).isSome=true:=by
      rw[yp R _ (λq hq=>[hw.w]▸ok.lt q (List.mem_of_mem_take hq)),ajY]
      ·rwa[ok.bk w hm n]
      ·rintro (q|⟨q,hq,q1,q2⟩)
       ·rwa[n q]
       ·let⟨j,M⟩:=akr hq
        let Vh:j<i:=by have:=(ajy.mp M).1;rw[ake]at this;ext
        rw[alQ Vh]at M;let e1:((S.way c).map (·.1))[j]?\q.1:=by rw[aj0,M];rfl
        let e2:((S.way c).map (·.1))[i]?\w.1:=by rw[aj0,hg];rfl
        let e3:q.1=w.1:=∅
        rw[e3]at e1;have:=(amX ([ajD]▸F) ok.nd).mp (e2.trans e1.symm);ext
     let⟨m,Dd⟩:=ak3.mp T4;erw[12,r,_,a2.dx,112,O.ins,aK T,T.jq,ja^_,12,a2.aW,11122,aF.of O.hW,eH C,pd,2,.inl ⟨_,.inl hPD⟩,12121,Sum.inl (-w.1),.int (m:Int),hPD,25]
     ·rw[lK];show ((dm c S d ((S.way c).take i)).1.by w.2 (-w.1)).map _=_;rw[Dd];rfl
     ·rw[QM];rwa[⟨25,B.keep (λo e=>?_) (λb U e=>?_),λb o y g e=>?_⟩]
      ·rw[Dc,iO];unfold jS;simp only[n,am5,alS,ne_eq];rwa[O.Bw C _]
      ·rw[ao (λz=>xH (.inr (.inr (dW ([z]▸ajA C)))))];rwa[e]
      ·rw[ao (O.td e (dW (ajA C)))];rwa[e]
      ·rw[ao (λz=>y (.inr (.inr (dW ([z]▸ajA C)))))];rwa[kk b o y g e]
    ·let n:w.2=c:=by
      cases e:w.2=c
      ·rwa[e]
      ·cbv
     rwa[⟨25,B,kk⟩];rw[Dc,iO];unfold jS
     cbv
   rintro fV H5 ⟨rfl,h5,hP5,kk5⟩;let⟨J,Kg,Pk⟩:=hP5
   let De:⇑(J.map V.ref)<sizeLine:=by rw[ajD,Pk.1,zu,ajC,ajD,ake];rwa[ajJ (show _<=1100000 by omega) ⋯]
   rwa[⟨12,.inl ⟨21,aF.of Kg⟩,121212,(Za4 3),λt nt=>?_⟩];generalize e_:upd H5 t _=H6;let⟨s6,ht6⟩:=du e_ nt;erw[p,1122,s6^Kg,De];let kp:∀b o,b≠p->H6 b\o->upd H6 p (.lst (J.map V.ref++[↑t])) b\o:=λb o y e=>by rw[ao y];rwa[e]
   let Vi:∀b U,H6 b\.tup U->upd H6 p (.lst (J.map V.ref++[↑t])) b\(.tup U):=λb U e=>kp _ _ (cz e (s6^Kg) (by cbv)) e
   rwa[⟨112,(h5.same s6).keep (λb o f e=>kp b o (λz=>xH (z ▸ f)) e) Vi,⟨J++[t],55⟩,λb o y g e=>kp b o g (s6^kk5 b o y g e)⟩]
   ·rw[aj,akd];rfl
   ·rw[Dc,iO];rwa[(Pk.imp λq w' _ _ e=>Vi^s6^e).snoc (Vi^ht6)]
  ·intro σ I Y;rwa[aZ ?_];intro q_;let⟨v4,v5,rfl,O,B,kk⟩:=Y;dsimp only[q_];clear q_;rw[hlen,akR]at O B;rwa[k a2 I (λb o y g e=>?_) O B L];let e2:=B2 b o y g e;rwa[kk b o (λz=>by cbv) g (s3^e2)]
def xI (h:n<⇑S.called):S.called[n]?\(S.cI n):=by unfold RS.cI;cbv
def tj (h:n<⇑S.aV):S.aV[n]?\(S.ax n):=by unfold RS.ax;cbv
def Kh (h:∀l∈S.called,⇑l<=m):⇑(S.cI n)<=m:=by
 unfold RS.cI;rw[ajH]
 cases e:S.called[n]? with
 |none=>exact aj8 _
 |some l=>exact h l (ajA e)
theorem vI (x:Nat):∀(l a:Zh),⇑(l.foldl (λa n=>a.set n x) a)=⇑a
 |[],_=>rfl
 |n::l,a=>by rw[List.foldl_cons,vI x l,aj5]
def ints_set (ns:Zg)(i:Nat)(z:Int):(au ns).set i (.int z)=au (ns.set i z):=by unfold au;rw[List.map_set]
def j2:T.gj.Ok mg P w base 2 (FV A.aB):=by
 rwa[T.gj.on eY (λcy AA outer s H vs Q E hr h=>?_)]
 ·let⟨r,p,S,a,c,x,y,z,f,rfl,h,hw,hx,hy,hxy,ok,pA,sm,hP,np,lL,k⟩:=h
  erw[_,{bF 6 eY.nd (bx (Ii rfl) rfl T.OJ PyProof.Rows.boot_min #[3,4]),bF 7 eY.nd (bx (Ih rfl) rfl T.Yl PyProof.Rows.boot_max #[3,4]),bp (df ajL ajW ajX bV (0<<<1) #[bG #[dA (l:=[109,101,101,116]) rfl,1,2,6,7]]),bp (df ajL ajW ajX bV (0<<<1) #[7]),cf ajV rfl (cQ ((0<<<1)|||7)) (cS 8 eY.nd)
    {jn (pv 6) (vV (0<<<1) (pv 8) set_list)},bp (df ajL PySem.F.slot_list_extend PySem.F.type_list_extend zi ((0<<<1)|||6) #[(0<<<1)|||7]),bp (pm (pv 0) (aK T) T.mj (vH T) hr #[7,5])}]
  rwa[qi ?_];intro rE mv kD iV eR eZ;let C:(if (y:Int)<(x:Int) then (y:Int) else (x:Int))=((min x y:Nat):Int):=by split <;> ext
  let F:(if (y:Int) > (x:Int) then (y:Int) else (x:Int))=((max x y:Nat):Int):=by split <;> ext
  let hlm:min x y<max x y:=∅
  let I:max x y<S.q:=∅
  generalize ev:min x y=u at C hlm;let ek:∀a' O,qK a r p H O->ay A.aB O r ((S.joined c z u (max x y)).pj (max x y) f).1 a'->dB O p ((S.joined c z u (max x y)).pj (max x y) f).2->(∀b,a'.own r b->a.own r b\/H b=none)->Q .non O:=λa' O h1 N M g=>k a' O h1 (by unfold RS.meet;rw[ev];rwa[N]) (by unfold RS.meet;rw[ev];rwa[M]) g
  clear k;change max x y=v at F hlm I ok pA ek;erw[1212112];rw[C];erw[1212112];rw[F];let lR:⇑(a.rs.map V.ref)<sizeLine:=by rw[ajD,h.rR.1];rwa[ajJ sm.r ⋯]
  rwa[⟨12,r,_,a.dx,112,h.ins,aK T,T.sV,tV^_,.inl ⟨21,aF.of h.hR⟩,12121212,(Za4 5),λt nt=>⟨a.aR,1122,av.upd nt _ _ h.hR,lR,5⟩⟩];generalize e_:upd H t _=H1;let⟨s1,ht1⟩:=du e_ nt
  let Vj:bW H1 4 ↑t (fS c z u v):=by
   rwa[.t ht1 rfl λj w d C F=>?_]
   rcases j with _|_|_|_|_|j
   ·simp at C F;subst C F;rwa[.s]
   ·simp at C F;subst C F;rwa[.i]
   ·simp at C F;subst C F;rwa[.i]
   ·simp at C F;subst C F;rwa[.i]
   ·simp at C F;subst C F;rwa[.i]
   ·simp at C
  let nl:mU (fS c z u v):=.t (by show 5<=100000;decide) λd hd=>by
   simp only[ajS,akn,alJ]at hd;rcases hd with rfl|rfl|rfl|rfl|rfl
   ·rwa[.s]
   ·rwa[.i]
   ·rwa[.i]
   ·rwa[.i]
   ·rwa[.i]
  let N:=(h.same s1).Bv Vj nl;let B2:qK a r p H (upd H1 a.aR (.lst (a.rs.map V.ref++[↑t]))):=λb o D _ e=>by rw[ao (λz=>D (.inr (.inl ([z]▸gG))))];rwa[s1^e]
  let npl:∀{b},b∈a.lists->p≠b:=λhb z=>np (.inr (.inl ([z]▸hb)))
  let P2:dB (upd H1 a.aR (.lst (a.rs.map V.ref++[↑t]))) p f:=hP.keep (λo e=>[ao (npl gG)]▸s1^e) (λb xs e=>[ao (h.tl e gG)]▸s1^e);change upd H1 a.aR _=H2 at N B2 P2 ⊢;generalize FW:({ a with rs:=a.rs++[t] }:RA)=a2 at N;let Y:∀b,a2.own r b↔a.own r b:=λb=>by rw[<-FW];rwa[Iff.rfl]
  let xH:¬a2.own r p:=λz=>np ((Y p).mp z)
  let G:∀{b},b∈a2.lists->p≠b:=λhb z=>xH (.inr (.inl ([z]▸hb)))
  let lN:⇑(au (nI S.bz))<sizeLine:=by rw[aJ,bO];rwa[ajJ sm.n ⋯]
  erw[12,r,_,a2.dx,112,N.ins,aK T,T.sX,tX^_,.inl ⟨21,aF.of N.hN⟩,12,a2.aN,1122,N.hN,lN];let eN:au (nI S.bz)++[V.int (v:Int)]=au (nI (S.bz++[v])):=by rw[iN,ints_app];rfl
  let M:=N.QK (S.bz++[v]);rw[<-eN]at M;let B3:qK a r p H (upd H2 a2.aN (.lst (au (nI S.bz)++[V.int (v:Int)]))):=λb o D B e=>by rw[ao (λz=>D ((Y b).mp (.inr (.inl ([z]▸iF)))))];rwa[B2 b o D B e]
  let P3:dB (upd H2 a2.aN (.lst (au (nI S.bz)++[V.int (v:Int)]))) p f:=P2.keep (λo e=>[ao (G iF)]▸e) (λb xs e=>[ao (N.tl e iF)]▸e);show _;change upd H2 a2.aN _=H3 at M B3 P3 ⊢;let⟨pv,J,hPV⟩:=M.rC.at (show S.called[v]?=some (S.cI v) from xI ([hw.c]▸I));let mpv:=ajA J;erw[12,r,_,a2.dx,112,M.ins,aK T,T.nB,n7^_,12,a2.aC,11122,aF.of M.hC,eH J,pv,2,⟨_,aF.of hPV⟩];obtain⟨-,-,-,-,-,nc⟩:=wA M.ji;let npE:pv≠a2.aE:=(nc pv mpv).2.2.2.1
  let' kZ:Nat->St->Hp->Prop:=λi σ L=>∃v8,σ=#v[↑r,.int (c:Int),.int z,.int (x:Int),.int (y:Int),↑p,.int (u:Int),.int (v:Int),v8]/\ay A.aB L r { S with rows:=S.rows++[fS c z u v],bz:=S.bz++[v],aV:=((S.cI v).take i).foldl (λU n=>U.set n u) S.aV } a2/\qK a r p H L/\dB L p f
  rwa[dJ (xs:=au (nI (S.cI v))) kZ ⟨none,2,M,B3,P3⟩ (λi σ L _ ⟨11,g,11⟩=>aF.of (g.rC.2 v pv _ J (show S.called[v]?=some (S.cI v) from xI ([hw.c]▸I)))) ?_ ?_]
  ·rintro i w σ L hw4 ⟨v8,rfl,g,B4,P4⟩;dsimp only[cZ];rwa[bB ?_];intro g9;let⟨m,rfl,Z⟩:=cO hw4;unfold nI at Z;rw[aj0]at Z
   cases hn:(S.cI v)[i]? with
   |none=>rw[hn]at Z;ext Z
   |some n=>
    rw[hn]at Z;obtain rfl:(n:Int)=m:=Za0 Z;let zN:=pA n (ajA hn);let hel:⇑(((S.cI v).take i).foldl (λU n=>U.set n u) S.aV)=S.q:=by rw[vI,hw.e]
    erw[1212,r,_,a2.dx,112,g.ins,aK T,T.jJ,jP^_,12,a2.aE,11,n,22,g.hE,pU ([aJ,bO,hel]▸zN)];rw[ints_set,TR];let h5:=g.zt ((((S.cI v).take i).foldl (λU n=>U.set n u) S.aV).set n u);rwa[⟨125,λb o D B e=>?_,P4.keep (λo e=>?_) (λb xs e=>?_)⟩]
    ·let Dc:(S.cI v).take (i+ 1)=(S.cI v).take i++[n]:=by rw[aly,hn];rfl
     rw[Dc,amj];rwa[h5]
    ·rw[ao (λz=>D ((Y b).mp (.inr (.inl ([z]▸hV)))))];rwa[B4 b o D B e]
    ·rw[ao (G hV)];rwa[e]
    ·rw[ao (g.tl e hV)];rwa[e]
  ·rintro σ L ⟨v8,rfl,g,B4,P4⟩;rw[aJ,bO,akR]at g;let hul:u<⇑S.called:=by rw[hw.c];ext
   let Uo:v<⇑S.called:=by rw[hw.c];rwa[I]
   let⟨pu,X,hPU⟩:=g.rC.at (show S.called[u]?=some (S.cI u) from xI hul);let acC:=g.rC.2 v pv _ J (show S.called[v]?=some (S.cI v) from xI Uo);let b1:⇑(S.cI u)<=1000000:=Kh sm.c;let b2:⇑(S.cI v)<=1000000:=Kh sm.c;erw[12,r,_,a2.dx,112,g.ins,aK T,T.nB,n7^_,12,a2.aC,11122,aF.of g.hC,eH X,.inl ⟨21,aF.of hPU⟩];erw[12,r,_,a2.dx,112,g.ins,aK T,T.nB,n7^_,12,a2.aC,11122,aF.of g.hC,eH J,pu,pv,1122,hPU,acC,5]
   ·rw[aJ,aJ,bO,bO];rwa[ajO (show _<=2000000 by omega) ⋯]
   let eC:au (nI (S.cI u))++au (nI (S.cI v))=au (nI (S.cI u++S.cI v)):=by rw[iN,ints_app]
   rw[eC];let h5:=g.Jd X (S.cI u++S.cI v);let R:=gN (ajA X);let B5:qK a r p H (upd L pu (.lst (au (nI (S.cI u++S.cI v))))):=λb o D B e=>by rw[ao (λz=>D ((Y b).mp (.inr (.inl ([z]▸R)))))];rwa[B4 b o D B e]
   let P5:dB (upd L pu (.lst (au (nI (S.cI u++S.cI v))))) p f:=P4.keep (λo e=>[ao (G R)]▸e) (λb xs e=>[ao (g.tl e R)]▸e);change upd L pu _=H5 at h5 B5 P5 ⊢;let h5':ay A.aB H5 r (S.joined c z u v) a2:=h5;rwa[⟨12,r,a2.dx,12,h5'.ins,da _ _ _ ⋯,1212,r,p,S.joined c z u v,a2,v,f,2,h5',⟨hw.w,hw.g,55⟩,I,⟨ok.nd,ok.lt,ok.bk⟩,sm.w,P5,xH,lL,λa' O b' r' p' o'=>ek a' O (λb o D B e=>b' b o (λz=>D ((Y b).mp z)) B (B5 b o D B e)) r' p' (λb hb=>?_)⟩]
   ·show ⇑((S.cI v).foldl (λU n=>U.set n u) S.aV)=S.q;rw[vI];rwa[hw.e]
   ·show ⇑(S.called.set u (S.cI u++S.cI v))=S.q;rw[aj5];rwa[hw.c]
   ·rcases o' b hb with q|q
    ·rwa[.inl ((Y b).mp q)]
    ·cases ho:a.own r b
     ·rwa[.inl ho]
     ·rwa[.inr ?_]
      cases e:H b with
      |none=>rfl
      |some o=>
       cases hbp:b=p
       ·let⟨qs,q1,_⟩:=P5
        cbv
       ·rw[B5 b o ho hbp e]at q;ext q
def vJ:T.mh.Ok mg P w base 3 (C9 A.aB):=by
 rwa[T.mh.on eP (λcy AA O s H vs Q E L h=>?_)]
 ·let⟨r,t,p,S,a,w,i,rfl,h,ht,ok,G,y,hP,M,x,k⟩:=h;let B:=eG L
  erw[_,{bF 3 eP.nd ((0<<<1)|||(1&&&ak)),bF 4 eP.nd (1&&&ak),bF 5 eP.nd ((0<<<1)|||(1&&&ak)),bF 6 eP.nd (mR B ((0<<<1)|||3) (pv 4) (pv 5) ⟨2222⟩),bF 7 eP.nd (mR B ((0<<<1)|||5) (eF dy (pv 4)) (pv 3) ⟨2222⟩),bE (bD (aM i5 (pv 6) (pv 5) (aO _))
    {bp (pm (pv 0) (aK T) T.gj (j2 T) L #[3,4,6,5,2])}
    {bE (bD (aM i5 (pv 7) (pv 3) (aO _))
     {bp (pm (pv 0) (aK T) T.gj (j2 T) L #[5,eF dy (pv 4),7,3,2])}
     {bp (pm (pv 0) (aK T) T.mD (rD T) L #[3,4,5])})})}]
  rwa[mX ?_];intro mv kD iV eR eZ;let R:bu K H t [.int (w.1:Int),.int w.2.1,.int (w.2.2:Int)]:=bu.of ht;let C:∀{c:Nat},c<S.q->S.aV[c]?\(S.ax c):=λ{c} j=>tj ([ok.wf.e]▸j)
  let j:=ok.el _ G;let u:=ok.el _ y;erw[12,r,_,a.dx,112,h.ins,aK T,T.jJ,jP^_,12,t,11122,R,(rfl:fY _ (0:Int)=_),a.aE,11122,aF.of h.hE,b6 (bQ (eU (C G)))];erw[12,t,11122,R,(rfl:fY _ (1:Int)=_)];erw[12,r,_,a.dx,112,h.ins,aK T,T.jJ,jP^_,12,t,11122,R,(rfl:fY _ (2:Int)=_),a.aE,11122,aF.of h.hE,b6 (bQ (eU (C y)))];let g:=k;clear k;unfold RS.takeIn at g;change S.ax w.1=c at j g ⊢;change S.ax w.2.2=d at u g ⊢;change w.2.1=z at g ⊢;let⟨pc,X,I⟩:=h.rW.at (pS (S:=S) (c:=c) ([ok.wf.w]▸j));let⟨pd,Vk,F⟩:=h.rW.at (pS (S:=S) (c:=d) ([ok.wf.w]▸u));let gd:∀(o:Zi)(n:Nat),(o.map λr:Nat=>V.int (r:Int)).getD (.int (n:Int))=V.int ((o.getD n:Nat):Int):=λo n=>by cases o <;> rfl
  erw[12,r,_,a.dx,112,h.ins,aK T,T.jq,ja^_,12,a.aW,11122,aF.of h.hW,eH X,pc,2,.inl ⟨_,.inl I⟩,12121,dv.k (k:=Sum.inl z) I];rw[lK,gd];show _;erw[12,r,_,a.dx,112,h.ins,aK T,T.jq,ja^_,12,a.aW,11122,aF.of h.hW,eH Vk,pd,2,.inl ⟨_,.inl F⟩,1212121,dv.k (k:=Sum.inl (-z)) F];rw[lK,gd];let e1:fP (S.way c) z=S.by c z:=rfl;let e2:fP (S.way d) (-z)=S.by d (-z):=rfl;rw[e1,e2]
  let hl:(S.by c z).getD d<S.q:=by
   cases e:S.by c z with
   |none=>exact u
   |some m=>exact ok.bl _ _ _ e
  let hf:(S.by d (-z)).getD c<S.q:=by
   cases e:S.by d (-z) with
   |none=>exact j
   |some m=>exact ok.bl _ _ _ e
  change (S.by c z).getD d=l at hl g ⊢;change (S.by d (-z)).getD c=f at hf g ⊢
  let ne:∀{m n:Nat},m≠n->(!decide (V.int (m:Int)=V.int (n:Int)))=true:=λ{m n} q=>by cbv
  rwa[⟨λ_ J=>Q .non J,5,λ_ _ q=>q⟩];cases D:l≠d
  ·rw[aj3 D]at g;erw[1212212];rw[ne D];rwa[dg ?_];rwa[12,r,a.dx,12,h.ins,da _ _ _ ⋯,1212121212,r,p,S,a,c,l,d,z,i,2,h,ok.wf,hl,u,D,ok.off _ ∅,λn Z=>ok.cl _ n Z,ok.sm,hP,M,x,g]
  ·let Y:l=d:=amk.mp D;rw[ajY D]at g;rwa[⟨1212212,i6 (by rw[Y]) ?_⟩];rwa[⟨λ_ J=>Q .non J,5,λ_ _ q=>q⟩];cases v:f≠c
   ·rw[aj3 v]at g;erw[1212212];rw[ne v];rwa[dg ?_];rwa[12,r,a.dx,12,h.ins,da _ _ _ ⋯,121212121212,r,p,S,a,d,f,c,-z,i,2,h,ok.wf,hf,j,v,ok.off _ ∅,λn Z=>ok.cl _ n Z,ok.sm,hP,M,x,g]
   ·let U:f=c:=amk.mp v;rw[ajY v]at g;rwa[⟨1212212,i6 (by rw[U]) ?_⟩];rwa[⟨12,r,a.dx,12,h.ins,da _ _ _ ⋯,121212,r,S,a,c,d,z,2,h,ok.wf,j,u,ok.sm.w,λJ N r'=>g a J (λb o nb _ e=>N b o nb e) r' (hP.keep (λo e=>N _ _ M e) (λb xs e=>N _ _ (h.tY e) e)) λb hb=>.inl hb⟩]
def Df:T.sT.Ok mg P w base 5 (Pg A.aB):=by
 rwa[T.sT.on sZ (λcy AA outer s H vs Q E hr h=>?_)]
 ·let⟨r,q,S,a,c,d,z,row,I,μ,rfl,h,ti,hq,x,hI,step,k⟩:=h
  erw[_,{bp (df ajL ajW ajX bV (0<<<1) #[pc T.own (zM T) hr #[4]]),bF 5 sZ.nd (bY #[bG #[1,2,3]]),bE (fA ajV (A5 (pv 5) (λ_=>rfl))
    {bp (pm (pv 0) (aK T) T.mh (vJ T) hr #[Iq ajL PySem.F.slot_list_pop PySem.F.type_list_pop Ir (pv 5),5])})}]
  rwa[dE ?_];intro eR eZ;let lR:⇑(a.rs.map V.ref)<sizeLine:=by rw[ajD,h.rR.1];rwa[ajJ ti ⋯]
  obtain⟨ds,rfl⟩:∃ds,row=.t ds:=by
   cases hq with
   |t=>rwa[12]
   |l=>ext x
  rwa[⟨12,r,_,a.dx,112,h.ins,aK T,T.sV,tV^_,.inl ⟨21,aF.of h.hR⟩,12,↑q,.t ds,2,hq,x,λv' H1 s1 hv'=>?_⟩];obtain⟨q',rfl⟩:∃q',v'=↑q':=by cases hv' with|t=>exact⟨_,rfl⟩
  erw[a.aR,1122,s1^h.hR,lR];let h2:=(h.same s1).Bv (hv'.le ⋯) x;let B2:dw a r H (upd H1 a.aR (.lst (a.rs.map V.ref++[↑q']))):=λb o j e=>by rw[ao (λz=>j (.inr (.inl ([z]▸gG))))];rwa[s1^e]
  change upd H1 a.aR _=H2 at h2 B2 ⊢;generalize FW:({ a with rs:=a.rs++[q'] }:RA)=a2 at h2;let eo:∀b,a2.own r b↔a.own r b:=λb=>by rw[<-FW];rwa[Iff.rfl]
  rwa[⟨121212,(Za4 3),λt nt=>?_⟩];generalize e_:upd H2 t _=H3;let⟨s3,Vl⟩:=du e_ nt;rwa[⟨(Za4 1),λp O=>?_⟩];generalize e_:upd H3 p _=H4;let⟨s4,hp4⟩:=du e_ O;let np0:¬a2.own r p:=(h2.same s3).C6 O
  let Z:H p=none:=by
   cases e:H p with
   |none=>rfl
   |some o=>have:=s3^(B2 p o (λz=>np0 ((eo p).mpr z)) e);rw[O]at this;ext this
  let B4:dw a r H H4:=λb o j e=>s4^s3^B2 b o j e
  let P4:dB H4 p [(c,z,d)]:=⟨[t],hp4,Each.snoc (ps:=[]) (xs:=[]) ⟨2,λi p d h=>by simp at h⟩ (s4^Vl)⟩;rwa[⟨λ_ Y=>Q .non Y,5,λ_ _ q=>q⟩];erw[λm σ n=>∃C J pend,m=μ C pend/\σ=#v[↑r,.int (c:Int),.int z,.int (d:Int),↑q,↑p]/\ay A.aB n r C J/\dB n p pend/\I C pend/\¬J.own r p/\(∀b o,¬a.own r b->b≠p->H b\o->n b\o)/\∀b,J.own r b->a.own r b\/H b=none,⟨11,a2,[(c,z,d)],22,(h2.same s3).same s4,P4,hI,np0,λb o j _ e=>B4 b o j e,λb G=>.inl ((eo b).mp G)⟩];intro m σ n tm;rwa[aZ ?_];intro q_;let⟨C,J,pend,rfl,rfl,h5,P5,I5,R,B5,O5⟩:=tm;dsimp only[q_];clear q_;let⟨X,B,y⟩:=id P5;erw[12,!(X.map V.ref).isEmpty,.inl ⟨_,aF.of B,2⟩];cases F:pend=[]
  ·subst F;let eq0:X=[]:=ak0 y.1;subst eq0;rwa[b8 ?_];rwa[k C J n (λb o j e=>B5 b o j (λz=>by rw[z,Z]at e;ext e) e) h5 I5 O5]
  ·let L:=alv F;change pend.getLast F=w at L;change pend.dropLast=pre at L;subst L;let N:⇑X=⇑pre+ 1:=by rw[y.1,ajC];rfl
   let hqn:X≠[]:=λz=>by rw[z]at N;ext N
   let v:=alv hqn;change X.getLast hqn=D at v;change X.dropLast=f at v;subst v;let lL:⇑f=⇑pre:=by rw[ajC]at N;have:⇑([D]:Zn)=1:=rfl;ext
   let⟨ok,hw1,hw3,G,hI2,Pl⟩:=step C pre w I5;let htq:n D\(.tup [.int (w.1:Int),.int w.2.1,.int (w.2.2:Int)]):=y.2 ⇑pre D w (by rw[<-lL,ajN (ajE _),alq];rfl) (by rw[ajN (ajE _),alq];rfl);let ht:(!((f++[D]).map V.ref).isEmpty)=true:=by simp
   rw[ht];rwa[dg ?_];erw[λ fV Y=>∃S6 a6 g,μ S6 g < μ C (pre++[w])/\fV=#v[↑r,.int (c:Int),.int z,.int (d:Int),↑q,↑p]/\ay A.aB Y r S6 a6/\dB Y p g/\I S6 g/\¬a6.own r p/\(∀b o,¬a.own r b->b≠p->H b\o->Y b\o)/\∀b,a6.own r b->a.own r b\/H b=none,λ fV Y ζ=>by let⟨S6,a6,g,lt,e1,e2,e3,e4,e5,e6,e7⟩:=ζ;rwa[⟨_,lt,S6,a6,g,2,e1,e2,e3,e4,e5,e6,e7⟩]];erw[12,r,J.dx,12,h5.ins,da _ _ _ ⋯,12,.inl ⟨21,aF.of B⟩,p,_,↑D,22,B,5]
   ·rw[akd,ajC];show ((f.map V.ref)++[V.ref D])[⇑(f.map V.ref)+ 1 - 1]?=_
    rw[Nat.add_sub_cancel,ajN (ajE _),alq];rfl
   let Vm:((f++[D]).map V.ref).dropLast=f.map V.ref:=by rw[akd];rwa[List.dropLast_concat]
   rw[Vm];let kp:∀b o,b≠p->n b\o->upd n p (.lst (f.map V.ref)) b\o:=λb o j e=>by rw[ao j];rwa[e]
   let kt:∀b xs,n b\.tup xs->upd n p (.lst (f.map V.ref)) b\(.tup xs):=λb xs e=>kp b _ (cz e B f!"") e
   let h6:=h5.keep (λb o G e=>kp b o (λz=>R (z ▸ G)) e) kt;let P6:dB (upd n p (.lst (f.map V.ref))) p pre:=⟨f,aj,lL,λi t' w' e1 e2=>kt^(y.2 i t' w' ([ajM (ajy.mp e1).1]▸e1) ([ajM (ajy.mp e2).1]▸e2))⟩;change upd n p _=H6 at kp kt h6 P6 ⊢;rwa[⟨12,r,D,p,C,J,w,pre,2,h6,kt^htq,ok,hw1,hw3,P6,R,G,λa7 H7 b7 h7 P7 o7=>?_⟩];rwa[⟨_,a7,_,Pl,2,h7,P7,hI2,λz=>?_,λb o j U e=>b7 b o (λz=>?_) U (kp b o U (B5 b o j U e)),λb G=>?_⟩]
   ·rcases o7 p z with u|u
    ·rwa[R u]
    ·let⟨_,q2,_⟩:=P6;rw[u]at q2;ext q2
   ·rcases O5 b z with u|u
    ·rwa[j u]
    ·rw[u]at e;ext e
   ·rcases o7 b G with u|u
    ·rwa[O5 b u]
    ·cases ho:a.own r b
     ·rwa[.inl ho]
     ·rwa[.inr ?_]
      cases e:H b with
      |none=>rfl
      |some o=>
       cases M:b=p
       ·rw[M,Z]at e;ext e
       ·rw[kp b o M (B5 b o ho M e)]at u;ext u
def Rp {a:Type}{ws:List a}{z:a}(h:ws[i]?\z):ws.drop i=z::ws.drop (i+ 1):=by let b:=(ajy.mp h).1;rw[alj b,(ajy.mp h).2]
inductive Dg (C:Zs)(vs:Zb)(H:Hp)(Q:VK)(E_:XK):Prop
 |mk (r:Zs)(S:RS)(a:RA)(c:Nat)(t:Zs)(ws:Zg):vs=[↑r,.int c,↑t]->ay C H r S a->S.Wf->c<S.q->(∀c z d,S.by c z=some d->d<S.q)->H t\.tup (au ws)->⇑ws<=1000->(∀l H',av H H'->H' l\.lst (au (nI (c::cG S.by c ws)))->Q ↑l H')->Dg C vs H Q E_
def zO:T.walked.Ok P w base 2 (Dg A.aB):=by
 rwa[T.walked.on oH (λcy AA I s H vs Q E hr h=>?_)]
 ·let⟨r,S,a,c,t,ws,rfl,h,hw,hc,G,U,Z,k⟩:=h
  refine⟨_,{bF 3 oH.nd (bY #[1]),cf ajV rfl (vY (pv 2)) (cS 4 oH.nd)
    {bF 1 oH.nd (pm (pv 0) (aK T) T.iU (iC T) hr #[1,4]),bD (aM ik (pv 1) b9 (aO _))
     {u6}
     bj,bp (df ajL ajW ajX bV (pv 3) #[1])},a9 (pv 3)},?_⟩
  rwa[dE ?_];intro eR eZ;rwa[⟨12,(Za4 1),λl F=>?_⟩];generalize e_:upd H l _=Y;obtain⟨M,C⟩:_/\_\(.lst (au (nI [c]))):=du e_ F;let O:¬a.own r l:=h.C6 F;let y:=M^U;let J:t≠l:=aw U F;erw[12,t,2,⟨_,bu.of y⟩]
  let fin:∀{f:Hp}{pre:Zh},(∀b o,b≠l->Y b\o->f b\o)->f l\.lst (au (nI (c::pre)))->cG S.by c ws=pre->Q ↑l f:=λ{f pre} g d e=>by subst e;rwa[k l f (λb o e=>g b o (aw e F) (M^e)) d]
  let' u:Nat->St->Hp->Prop:=λi D f=>∃cur:Nat,∃pre N,D=#v[↑r,.int (cur:Int),↑t,↑l,N]/\cur<S.q/\⇑pre=i/\cG S.by c ws=pre++cG S.by cur (ws.drop i)/\(∀b o,b≠l->Y b\o->f b\o)/\f l\(.lst (au (nI (c::pre))))
  rwa[dJ (xs:=au ws) u ⟨c,[],none,2,hc,22,λ_ _ _ e=>e,C⟩ (λi D f _ ζ=>by let⟨_,_,_,_,_,_,_,g,_⟩:=ζ;rwa[bu.of (g _ _ J y)]) ?_ ?_]
  ·intro i x D f hx m;rwa[aZ ?_];intro B;let⟨cur,pre,N,rfl,v,p,j,g,d⟩:=m;dsimp only[B];clear B;dsimp only[cZ];rwa[qh ?_];intro g9 Ph Pj;let⟨z,rfl,X⟩:=cO hx;let hi:i<⇑ws:=(ajy.mp X).1;let R:ay A.aB f r S a:=(h.same M).keep (λb o hb e=>g b o (λq=>O (q ▸ hb)) e) (λb xs e=>g b _ (cz e C (by cbv)) e);rw[Rp X]at j;erw[12,r,a.dx,12,R.ins,da _ _ _ ⋯,1212,r,S,a,cur,z,2,R,by rw[hw.w];ext]
   cases L:S.by cur z with
   |none=>rwa[⟨12212,dg ?_⟩];rw[zC L,akb]at j;rwa[12,fin g d j]
   |some b=>
    rw[show (Option.map (λn:Nat=>V.int (n:Int)) (some b)).getD V.non=V.int (b:Int) from rfl];rwa[⟨12212,b8 ?_⟩];rw[om L]at j;erw[12,.inl ⟨21,aF.of d⟩,12,l,1122,d,5]
    ·rw[aJ,bO,aj1,p];rwa[ajJ (show i+ 1<=1001 by omega) ⋯]
    erw[b,pre++[b],12,G _ _ _ L,by rw[ajC,p];rfl,by rw[j,akl];rfl,λx o n e=>[ao n]▸g x o n e];rw[aj,<-al1,iN,ints_app];rfl
  ·intro D f m;rwa[aZ ?_];intro B;let⟨cur,pre,N,rfl,v,p,j,g,d⟩:=m;dsimp only[B];clear B;rw[aJ,am4]at j;rwa[12,fin g d ([j]▸akb _)]
def iW (g:Gg)(a:Zs):List (Str×V):=[("which",.int g.which),("word",↑a),("start",.int g.start),("front",.int g.front),("first",.int g.first),("rear",.int g.bJ),("last",.int g.last)]
def Nn (g:Gg)(a:Zs):(iW g a).lookup ("which":Str)\(.int g.which):=by kernel_rfl
def k8 (g:Gg)(a:Zs):(iW g a).lookup ("word":Str)\↑a:=by kernel_rfl
def vK (g:Gg)(a:Zs):(iW g a).lookup ("start":Str)\(.int g.start):=by kernel_rfl
def lb (g:Gg)(a:Zs):(iW g a).lookup ("front":Str)\(.int g.front):=by kernel_rfl
def ia (g:Gg)(a:Zs):(iW g a).lookup ("first":Str)\(.int g.first):=by kernel_rfl
def lg (g:Gg)(a:Zs):(iW g a).lookup ("rear":Str)\(.int g.bJ):=by kernel_rfl
def lh (g:Gg)(a:Zs):(iW g a).lookup ("last":Str)\(.int g.last):=by kernel_rfl
def Pn {g:Gg}(h:x∉(["which","word","start","front","first","rear","last"]:Zp)):(iW g a).lookup x=none:=by simp only[ajS,akn,alJ,not_or]at h;let⟨e,c,j,d,i,b,f⟩:=h;unfold iW;simp only[List.lookup,aj2.mpr e,aj2.mpr c,aj2.mpr j,aj2.mpr d,aj2.mpr i,aj2.mpr b,aj2.mpr f]
def Dh (g:Gg)(a:Zs)(n:Nat):bT "front" (.int n) (iW g a)=iW { g with front:=n } a:=by kernel_rfl
def Np (g:Gg)(a:Zs)(n:Nat):bT "first" (.int n) (iW g a)=iW { g with first:=n } a:=by kernel_rfl
def FY (g:Gg)(a:Zs)(n:Nat):bT "rear" (.int n) (iW g a)=iW { g with bJ:=n } a:=by kernel_rfl
def Rq (g:Gg)(a:Zs)(n:Nat):bT "last" (.int n) (iW g a)=iW { g with last:=n } a:=by kernel_rfl
structure eV (CG:Zs)(H:Hp)(p dx wa:Zs)(g:Gg):Prop where
 ins:H p\(.ins CG dx (iW g wa))
 wo:H wa\(.tup (au g.word))
def eV.same {dx:Zs}{g:Gg}(h:eV a H b dx c g)(s:av H I):eV a I b dx c g:=⟨s^h.ins,s^h.wo⟩
def eV.set {dx:Zs}{g g':Gg}(h:eV a H b dx c g)(e:g'.word=g.word):eV a (upd H b (.ins a dx (iW g' c))) b dx c g':=⟨aj,[ao (cz h.wo h.ins (by cbv)),e]▸h.wo⟩
def jj (a:List (Zg×Nat)):List (Zd×V):=a.map λp=>(p.1.map Sum.inl,V.int p.2)
structure yQ (rs:Za3)(fp:List (Zg×Nat)):Prop where
 a:∀p∈fp,rs[p.2]?\p.1
 b:∀w∈rs,∃n,(w,n)∈fp
 n:(fp.map (·.1)).Nodup
def Dj {c:List (Zg×Nat)}(w:Zg):bC (jj c) (w.map Sum.inl)=((c.find? λp=>decide (p.1=w)).map λp=>V.int p.2):=by
 induction c with
 |nil=>rfl
 |cons p l d=>
  cases h:p.1=w
  ·rw[amP (by cbv)];rwa[dk (p:=(p.1.map Sum.inl,V.int p.2)) (by rw[h])]
  ·rw[al9 (by simpa using h)];rwa[(dc (p:=(p.1.map Sum.inl,V.int p.2)) (λz=>h ?_)).trans d]
   let inj:∀{a b:Zg},a.map (Sum.inl:Int->Key)=b.map Sum.inl->a=b:=λ{a b} e=>by
    induction a generalizing b with
    |nil=>cases b with|nil=>rfl|cons=>ext e
    |cons x a d=>cases b with
     |nil=>ext e
     |cons y b=>cbv
   rwa[inj z]
def Nq:Sp:=λc H Q _=>∃(l:Zs)(rs:Za3),c=[↑l]/\bR H l rs/\⇑rs<=1000/\∀d b a,av H a->H d=none->a d\.dT (jj b)->yQ rs b->Q ↑d a
def xJ:T.nh.Ok P w base 1 Nq:=by
 rwa[T.nh.on iI (λcy AA Z s H vs Q E hr h=>?_) (len:=by rintro _ _ _ _ ⟨l,rs,rfl,_⟩;rfl)]
 ·let⟨l,rs,rfl,hW,hl,k⟩:=h;let U:=eG hr
  erw[_,{bF 1 iI.nd qf,cf ajV rfl (L4 rfl T.oT (pv 0) rfl) (ie rfl (bP (cS 2 iI.nd) (bP (cS 3 iI.nd) fQ)))
    {bp (Mj U (pv 1) (pv 3) (pv 2) ⟨2222⟩)},a9 (pv 1)}]
  rwa[dE ?_];intro eR eZ;let⟨C,y,x⟩:=id hW;rwa[λd M=>?_]
  generalize e_:upd H d _=H1;obtain⟨s1,q1⟩:_/\_\(.dT (jj [])):=du e_ M;let ndl:l≠d:=aw y M;erw[12,l,2,⟨_,aF.of (s1^y)⟩]
  let' I:Nat->St->Hp->Prop:=λi N B=>∃a v2 R,N=#v[↑l,↑d,v2,R]/\av H B/\B d\.dT (jj a)/\(∀p∈a,rs[p.2]?\p.1/\p.2<i)/\(∀(j:Nat)(w:Zg),j<i->rs[j]?\w->∃n,(w,n)∈a)/\(a.map (·.1)).Nodup/\⇑a<=i
  refine Bq (xs:=C.map V.ref) I
   ⟨[],none,none,2,s1,q1,(λp c=>by ext c),λj w D=>absurd D ∅,akW,ajE _⟩ (λi N B _ ζ=>by let⟨_,_,_,_,s2,_⟩:=ζ;rwa[aF.of (s2^y)]) ?_ ?_
  ·intro i v N B t hi nt g;rwa[aZ ?_];intro J;let⟨a,v2,R,rfl,s2,O,F,S,hn,hlen⟩:=g;dsimp only[J];clear J
   let f:i<⇑C:=by have:=(ajy.mp hi).1;rw[ajD]at this;rwa[this]
   let r:i<⇑rs:=by rw[<-x.1];rwa[f]
   let g1:C[i]?\(C[i]'f):=ajz f
   let X:rs[i]?\(rs[i]'r):=ajz r
   rw[aj0,g1]at hi;obtain rfl:V.ref (C[i]'f)=v:=Za0 hi;change C[i]'f=q at g1;change rs[i]'r=w at X;let L:=av.upd (o:=.tup [.int (i:Int),↑q]) nt;erw[t,12,bu.of aj,21121122];change upd B t _=H3 at L ⊢;let m:=L^O;let hq:H3 q\(.tup ((w.map (Sum.inl:Int->Key)).map kV)):=by rw[aki];rwa[(s2.trans L) _ _ (x.2 i q w g1 X)]
   rwa[⟨12,d,2,.inr ⟨_,.inl m⟩,1212,jj a,w.map Sum.inl,q,m,2,hq,5,λv G=>?_,λG=>?_⟩]
   ·unfold jj;rw[ajD];rwa[ajJ (show ⇑a<=1000 by omega) ⋯]
   ·rw[Dj]at G;let⟨p,c,rfl⟩:=akE.mp G;let e:p.1=w:=by let h9:=List.find?_some c;simpa using h9
    let hm:=List.mem_of_find?_eq_some c;rwa[⟨a,112,s2.trans L,m,λp c=>⟨(F p c).1,by have:=(F p c).2;ext⟩,λj u D eu=>?_,hn,3⟩];cases Y:j<i
    ·rwa[S j u Y eu]
    ·cbv
   ·rw[Dj]at G
    let hno:∀p∈a,p.1≠w:=λp c e=>by
     have:=List.find?_eq_none.mp (amQ.mp G) p c
     cbv
    let ep:putK (jj a) (w.map Sum.inl) (V.int (i:Int))=jj (a++[(w,i)]):=by rw[Bj _ ([Dj]▸G)];unfold jj;rw[akd];rfl
    rw[ep];let Vn:H d=none:=M;rwa[⟨a++[(w,i)],112,λb o e=>[ao (aw e Vn)]▸(s2.trans L) _ _ e,aj,λp c=>?_,λj u D eu=>?_,5,by rw[ajC];show _+ 1<=_;ext⟩]
    ·rcases ajK.mp c with z|z
     ·rwa[⟨(F p z).1,by have:=(F p z).2;ext⟩]
     ·rw[ajF.mp z];rwa[X,by show i<i+ 1;ext]
    ·cbv
    cbv
  ·intro N B g;rwa[aZ ?_];intro J;let⟨a,v2,R,rfl,s2,O,F,S,hn,hlen⟩:=g;dsimp only[J];clear J;rwa[⟨12,k d a B s2 M O ⟨λp c=>(F p c).1,λw hw=>?_,hn⟩⟩];let⟨j,D⟩:=akr hw;rwa[S j w ([ajD,x.1]▸(ajy.mp D).1) D]
def zP (a:Nat)(word:Zg)(start:Nat):Gg:=⟨a,word,start,start,(0),start,⇑word - 1⟩
inductive Ki (CG:Zs)(vs:Zb)(H:Hp)(Q:VK)(E_:XK):Prop
 |mk (x dx wa:Zs)(which start:Nat)(word:Zg):vs=[↑x,.int which,↑wa,.int start]->H x\.ins CG dx []->H wa\.tup (au word)->1<=⇑word->⇑word<=1000->(∀H',(∀b o,H b\o->b≠x->H' b\o)->eV CG H' x dx wa (zP which word start)->Q .non H')->Ki CG vs H Q E_
def Vo (a start:Nat)(b:Zs)(l:Int):List (Str×V):=[("which",.int a)]
def Vp (a start:Nat)(b:Zs)(l:Int):List (Str×V):=[("which",.int a),("word",↑b)]
def Vq (a start:Nat)(b:Zs)(l:Int):List (Str×V):=[("which",.int a),("word",↑b),("start",.int start)]
def Vr (a start:Nat)(b:Zs)(l:Int):List (Str×V):=[("which",.int a),("word",↑b),("start",.int start),("front",.int start)]
def Vs (a start:Nat)(b:Zs)(l:Int):List (Str×V):=[("which",.int a),("word",↑b),("start",.int start),("front",.int start),("first",.int 0)]
def Vt (a start:Nat)(b:Zs)(l:Int):List (Str×V):=[("which",.int a),("word",↑b),("start",.int start),("front",.int start),("first",.int 0),("rear",.int start)]
def gx7 (a start:Nat)(b:Zs)(l:Int):List (Str×V):=[("which",.int a),("word",↑b),("start",.int start),("front",.int start),("first",.int 0),("rear",.int start),("last",.int l)]
def gy2 (a start:Nat)(b:Zs)(l:Int):bT "word" ↑b (Vo a start b l)=Vp a start b l:=eI (by kernel_rfl)
def gy3 (a start:Nat)(b:Zs)(l:Int):bT "start" (.int start) (Vp a start b l)=Vq a start b l:=eI (by kernel_rfl)
def gy4 (a start:Nat)(b:Zs)(l:Int):bT "front" (.int start) (Vq a start b l)=Vr a start b l:=eI (by kernel_rfl)
def gy5 (a start:Nat)(b:Zs)(l:Int):bT "first" (.int 0) (Vr a start b l)=Vs a start b l:=eI (by kernel_rfl)
def gy6 (a start:Nat)(b:Zs)(l:Int):bT "rear" (.int start) (Vs a start b l)=Vt a start b l:=eI (by kernel_rfl)
def gy7 (a start:Nat)(b:Zs)(l:Int):bT "last" (.int l) (Vt a start b l)=gx7 a start b l:=eI (by kernel_rfl)
def uw:T.gR.Ok mg P w base 1 (Ki A.aY):=by
 rwa[T.gR.on um (λS AA m s H vs Q E hr h=>?_)]
 ·let⟨x,c,d,a,start,word,rfl,r,f,xK,N,k⟩:=h
  refine⟨_,{cE (pv 0) (pv 1) rfl,cE (pv 0) (pv 2) rfl,cE (pv 0) (pv 3) rfl,cE (pv 0) (pv 3) rfl,cE (pv 0) ak rfl,cE (pv 0) (pv 3) rfl,cE (pv 0) (aL ig (2<<<0) ak) rfl},?_⟩
  rwa[qi ?_];intro R mv X U eR J;let st:∀{H0:Hp}{fs gs:List (Str×V)},H0 x\.ins A.aY c fs->(∀b o,H b\o->b≠x->H0 b\o)->upd H0 x (.ins A.aY c gs) x\.ins A.aY c gs/\∀b o,H b\o->b≠x->upd H0 x (.ins A.aY c gs) b\o:=λ_ h=>⟨aj,λb o e n=>[ao n]▸h b o e n⟩
  let g:d≠x:=cz f r (by cbv);let o0:∀b o,H b\o->b≠x->H b\o:=λb o e _=>e
  erw[1212,x,_,c,12,r,bf T,T.CM,(by show 0<1000;decide)];rw[show bT "which" (.int a) []=Vo a start d (((⇑word - 1:Nat):Int)) from rfl];let⟨v,C⟩:=st (gs:=Vo a start d (((⇑word - 1:Nat):Int))) r o0;change upd H x _=Y at v C ⊢;erw[1212,x,_,c,12,v,bf T,T.j0,(by show 1<1000;decide)];rw[gy2];let⟨q,B⟩:=st (gs:=Vp a start d (((⇑word - 1:Nat):Int))) v C;change upd Y x _=Z at q B ⊢;erw[1212,x,_,c,12,q,bf T,T.qI,(by show 2<1000;decide)];rw[gy3];let⟨l,D⟩:=st (gs:=Vq a start d (((⇑word - 1:Nat):Int))) q B;change upd Z x _=L at l D ⊢;erw[1212,x,_,c,12,l,bf T,T.hX,(by show 3<1000;decide)];rw[gy4];let⟨j,F⟩:=st (gs:=Vr a start d (((⇑word - 1:Nat):Int))) l D;change upd L x _=O at j F ⊢;erw[12,x,_,c,12,j,bf T,T.fH,(by show 4<1000;decide)];rw[gy5];let⟨t,z⟩:=st (gs:=Vs a start d (((⇑word - 1:Nat):Int))) j F;change upd O x _=M at t z ⊢;erw[1212,x,_,c,12,t,bf T,T.iB,(by show 5<1000;decide)];rw[gy6];let⟨u,i⟩:=st (gs:=Vt a start d (((⇑word - 1:Nat):Int))) t z;change upd M x _=G at u i ⊢;erw[12,d,12,.inr (bu.of (i _ _ f g)),112212,x,_,c,12,u,bf T,T.je,(by show 6<1000;decide)];rw[show V.int ((⇑(au word):Int) - 1)=V.int (((⇑word - 1:Nat):Int)) by show V.int ((⇑(au word):Int) - 1)=_;rw[aJ];congr 1;ext];rw[gy7];let⟨y,p⟩:=st (gs:=gx7 a start d (((⇑word - 1:Nat):Int))) u i;change upd G x _=I at y p ⊢;rwa[k I p ⟨y,p _ _ f g⟩]
structure tq (S:RS)(g g':Gg):Prop where
 wh:g'.which=g.which
 wo:g'.word=g.word
 st:g'.start=g.start
 gi:GI S g'
 ef:S.ax g'.front=g'.front
 er:S.ax g'.bJ=g'.bJ
 k1:S.ax g.front=g.front->S.by g.front g.z1=none->g'.front=g.front/\g'.first=g.first
 k2:S.ax g.bJ=g.bJ->S.by g.bJ g.z2=none->g'.bJ=g.bJ/\g'.last=g.last
def tq.fwd {g g1:Gg}(h:tq S g g1)(i:Good S [] R)(a:g1.first<g1.last){c:Nat}(hc:S.by g1.front g1.z1=some c):tq S g { g1 with front:=c,first:=g1.first+ 1 }:=by
 let⟨_,b,_,e⟩:=i.st _ _ _ hc;let ll:=h.gi.ll;let hz:=Gg.mn (g:=g1) ∅;rwa[⟨h.wh,h.wo,h.st,⟨a,ll,h.gi.s,b,h.gi.r,5,h.gi.wr⟩,e,h.er,λf d=>?_,h.k2⟩]
 ·have:=h.gi.wf;rw[h.ef]at this;show wk S.by _ (g1.word.take (g1.first+ 1))=some (S.ax c);rw[take_snoc hz,sh this,Jj hc,e]
 ·let⟨j,k⟩:=h.k1 f d;unfold Gg.z1 at hc d;rw[j,k,h.wo,d]at hc;ext hc
def tq.bwd {g g1:Gg}(h:tq S g g1)(d:Good S [] R)(f:g1.first<g1.last){c:Nat}(hc:S.by g1.bJ g1.z2=some c):tq S g { g1 with bJ:=c,last:=g1.last - 1 }:=by
 let⟨_,a,_,e⟩:=d.st _ _ _ hc;let ll:=h.gi.ll;let hz:=Gg.at2 (g:=g1) ll;rwa[⟨h.wh,h.wo,h.st,⟨by show g1.first<=g1.last - 1;ext,by show g1.last - 1<⇑g1.word;ext,h.gi.s,h.gi.f,a,h.gi.wf,5⟩,h.ef,e,h.k1,λi b=>?_⟩]
 ·have:=h.gi.wr;rw[h.er]at this;show wk S.by (S.ax c) (g1.word.drop (g1.last - 1+ 1))=some (S.ax g1.start);rw[show g1.last - 1+ 1=g1.last by ext,drop_cons hz,e,jW (d.sy _ _ _ hc)];ext
 ·let⟨j,k⟩:=h.k2 i b;unfold Gg.z2 at hc b;rw[j,k,h.wo,b]at hc;ext hc
inductive Pp (CR CG:Zs)(vs:Zb)(H:Hp)(Q:VK)(E_:XK):Prop
 |mk (p dx wa r:Zs)(g:Gg)(S:RS)(a:RA)(R:Za2):vs=[↑p,↑r]->eV CG H p dx wa g->ay CR H r S a->Good S [] R->GI S g->¬a.own r p->⇑g.word<=1000->(∀g' H',(∀b o,b≠p->H b\o->H' b\o)->eV CG H' p dx wa g'->YF S g g'->Q .non H')->Pp CR CG vs H Q E_
theorem vL:T.lZ.Ok mg P w base 2 (Pp A.aB A.aY):=by
 rwa[T.lZ.on jK (λcy AA outer s H vs Q E hr h=>?_)]
 ·let⟨p,d,C,r,g,S,a,R,rfl,Z,hR,F,y,Vu,O,k⟩:=h
  refine⟨_,{cE (pv 0) (pm (pv 1) (aK T) T.iA (jg T) hr #[0<<<1]) rfl,cE (pv 0) (pm (pv 1) (aK T) T.iA (jg T) hr #[0<<<1]) rfl,bE (fA ajV (aM j7 (0<<<1) (0<<<1) (aO _))
    {bF 2 jK.nd (pm (pv 1) (aK T) T.iU (iC T) hr #[0<<<1,(0<<<1)&&&(0<<<1)]),bD (aM ik (pv 2) b9 (aO _))
     {u6}
     bj,cE (pv 0) (pv 2) rfl,cE (pv 0) (aL cw (0<<<1) ak) rfl}),bE (fA ajV (aM j7 (0<<<1) (0<<<1) (aO _))
    {bF 2 jK.nd (pm (pv 1) (aK T) T.iU (iC T) hr #[0<<<1,eF dy ((0<<<1)&&&(0<<<1))]),bD (aM ik (pv 2) b9 (aO _))
     {u6}
     bj,cE (pv 0) (pv 2) rfl,cE (pv 0) (aL ig (0<<<1) ak) rfl})},?_⟩
  rwa[iQ ?_];intro iV eR eZ;let eo:∀{c:Nat},c<S.q->S.aV[c]?\(S.ax c):=λ{c} hc=>tj ([F.wf.e]▸hc)
  let kp:∀{G:Hp},(∀b o,b≠p->H b\o->G b\o)->ay A.aB G r S a:=λ{G} f=>hR.keep (λb o hb e=>f b o (λz=>Vu (z ▸ hb)) e) (λb xs e=>f b _ (cz e Z.ins (by cbv)) e)
  let up:∀{G:Hp}{o2:HO},(∀b o,b≠p->H b\o->G b\o)->∀b o,b≠p->H b\o->upd G p o2 b\o:=λf b o n e=>by rw[ao n];rwa[f b o n e]
  erw[12,r,a.dx,12,hR.ins,da _ _ _ ⋯,12,p,_,d,112,Z.ins,bf T,T.hX,lb _ _,r,S,a,g.front,S.ax g.front,2,hR,eo y.f,12,p,_,d,12,Z.ins,bf T,T.hX,(by show 7<1000;decide)];rw[Dh];let p1:=Z.set (g':={ g with front:=S.ax g.front }) rfl;let f1:=up (o2:=.ins A.aY d (iW { g with front:=S.ax g.front } C)) (λb o _ e=>e);change upd H p _=H1 at p1 f1 ⊢;let R1:=kp f1;erw[12,r,a.dx,12,R1.ins,da _ _ _ ⋯,12,p,_,d,112,p1.ins,bf T,T.iB,lg _ _,r,S,a,g.bJ,S.ax g.bJ,2,R1,eo y.r,12,p,_,d,12,p1.ins,bf T,T.iB,(by show 7<1000;decide)];rw[FY];let p2:=p1.set (g':={ g with front:=S.ax g.front,bJ:=S.ax g.bJ }) rfl;let f2:=up (o2:=.ins A.aY d (iW { g with front:=S.ax g.front,bJ:=S.ax g.bJ } C)) f1;change upd H1 p _=G at p2 f2 ⊢;let e1:=(F.el _ y.f).2;let e2:=(F.el _ y.r).2;let I:tq S g { g with front:=S.ax g.front,bJ:=S.ax g.bJ }:=⟨222,⟨y.fl,y.ll,y.s,F.lt y.f,F.lt y.r,by show wk _ _ _\S.ax (S.ax g.front);rw[e1];rwa[y.wf],by show wk _ (S.ax (S.ax g.bJ)) _=_;rw[e2];rwa[y.wr]⟩,e1,e2,λe _=>⟨e,2⟩,λe _=>⟨e,2⟩⟩
  let' L:St->Hp->Prop:=λ B j=>∃g1 u,B=#v[↑p,↑r,u]/\(∀b o,b≠p->H b\o->j b\o)/\eV A.aY j p d C g1/\tq S g g1/\(g1.first<g1.last->S.by g1.front g1.z1=none)
  erw[L,5]
  ·rwa[bB ?_];intro g9;erw[λm N j=>∃g1 u,m=g1.last - g1.first/\N=#v[↑p,↑r,u]/\(∀b o,b≠p->H b\o->j b\o)/\eV A.aY j p d C g1/\tq S g g1,⟨11,none,22,f2,p2,I⟩];intro m N j t;rwa[aZ ?_];intro v;let⟨g1,u,rfl,rfl,x,i,ad⟩:=t;dsimp only[v];clear v;let Y:=kp x;let ll:=ad.gi.ll;let fl:=ad.gi.fl;let lw:⇑g1.word<=1000:=by rw[ad.wo];rwa[O]
   erw[12,p,_,d,112,i.ins,bf T,T.fH,ia _ _,12,p,_,d,112,i.ins,bf T,T.je,lh _ _,112212];rwa[bK (λq=>?_) (λq=>?_)]
   ·let q:(g1.first:Int)<(g1.last:Int):=ajQ q;erw[_,λ_ _ z=>z];let hz:=Gg.mn (g:=g1) ∅;erw[12,r,a.dx,12,Y.ins,da _ _ _ ⋯,12,p,_,d,112,i.ins,bf T,T.hX,lb _ _,12,p,_,d,112,i.ins,bf T,T.j0,k8 _ _,12,p,_,d,112,i.ins,bf T,T.fH,ia _ _,C,11,.int g1.z1,22,bu.of i.wo,b6 (bQ hz),r,S,a,g1.front,g1.z1,2,Y,[F.wf.w]▸ad.gi.f]
    cases U:S.by g1.front g1.z1 with
    |none=>rwa[12212,dg ⟨g1,12,x,i,ad,λ_=>U⟩]
    |some c=>rw[show (Option.map (λn:Nat=>V.int (n:Int)) (some c)).getD V.non=V.int (c:Int) from rfl];rwa[⟨12212,b8 ?_⟩];erw[1212,p,_,d,12,i.ins,bf T,T.hX,(by show 7<1000;decide)];rw[Dh];let D:=i.set (g':={ g1 with front:=c }) rfl;let X:=up (o2:=.ins A.aY d (iW { g1 with front:=c } C)) x;change upd j p _=H3 at D X ⊢;erw[12,p,_,d,112,D.ins,bf T,T.fH,ia _ _,112212,p,_,d,12,D.ins,bf T,T.fH,(by show 7<1000;decide)];rw[show V.int ((({ g1 with front:=c }:Gg).first:Int)+ 1)=V.int ((g1.first+ 1:Nat):Int) from rfl,Np];rwa[_,by show g1.last - (g1.first+ 1)<_;ext,1122,up X,D.set rfl,ad.fwd F ∅ U]
   ·rwa[g1,u,2,x,i,ad,λz=>absurd (ajZ (show (g1.first:Int)<(g1.last:Int) by omega)) q]
  intro B j t;rwa[aZ ?_];intro v;let⟨g0,v0,rfl,f0,p0,I,n0⟩:=t;dsimp only[v];clear v
  let' J:St->Hp->Prop:=λ B j=>∃g1 u,B=#v[↑p,↑r,u]/\(∀b o,b≠p->H b\o->j b\o)/\eV A.aY j p d C g1/\tq S g g1/\(g1.first<g1.last->S.by g1.front g1.z1=none)/\(g1.first<g1.last->S.by g1.bJ g1.z2=none)
  erw[J,5]
  ·rwa[bB ?_];intro g9;erw[λm N j=>∃g1 u,m=g1.last - g1.first/\N=#v[↑p,↑r,u]/\(∀b o,b≠p->H b\o->j b\o)/\eV A.aY j p d C g1/\tq S g g1/\(g1.first<g1.last->S.by g1.front g1.z1=none),⟨11,v0,22,f0,p0,I,n0⟩];intro m N j t;rwa[aZ ?_];intro v;let⟨g1,u,rfl,rfl,x,i,ad,M⟩:=t;dsimp only[v];clear v;let Y:=kp x;let ll:=ad.gi.ll;let fl:=ad.gi.fl;let lw:⇑g1.word<=1000:=by rw[ad.wo];rwa[O]
   erw[12,p,_,d,112,i.ins,bf T,T.fH,ia _ _,12,p,_,d,112,i.ins,bf T,T.je,lh _ _,112212];rwa[bK (λq=>?_) (λq=>?_)]
   ·let q:(g1.first:Int)<(g1.last:Int):=ajQ q;erw[_,λ_ _ z=>z];let hz:=Gg.at2 (g:=g1) ll;erw[12,r,a.dx,12,Y.ins,da _ _ _ ⋯,12,p,_,d,112,i.ins,bf T,T.iB,lg _ _,12,p,_,d,112,i.ins,bf T,T.j0,k8 _ _,12,p,_,d,112,i.ins,bf T,T.je,lh _ _,C,11,.int (-g1.z2),22,bu.of i.wo,b6 (bQ hz),12,r,S,a,g1.bJ,g1.z2,(by cbv),Y,[F.wf.w]▸ad.gi.r]
    cases U:S.by g1.bJ g1.z2 with
    |none=>rwa[12212,dg ⟨g1,12,x,i,ad,M,λ_=>U⟩]
    |some c=>rw[show (Option.map (λn:Nat=>V.int (n:Int)) (some c)).getD V.non=V.int (c:Int) from rfl];rwa[⟨12212,b8 ?_⟩];erw[1212,p,_,d,12,i.ins,bf T,T.iB,(by show 7<1000;decide)];rw[FY];let D:=i.set (g':={ g1 with bJ:=c }) rfl;let X:=up (o2:=.ins A.aY d (iW { g1 with bJ:=c } C)) x;change upd j p _=H3 at D X ⊢;erw[12,p,_,d,112,D.ins,bf T,T.je,lh _ _,112212,p,_,d,12,D.ins,bf T,T.je,(by show 7<1000;decide)];rw[show V.int ((({ g1 with bJ:=c }:Gg).last:Int) - 1)=V.int ((g1.last - 1:Nat):Int) by show V.int ((g1.last:Int) - 1)=_;congr 1;ext,Rq];rwa[_,by show (g1.last - 1) - g1.first<_;ext,1122,up X,D.set rfl,ad.bwd F ∅ U,λz=>M (by let z:g1.first<g1.last - 1:=z;omega)]
   ·rwa[g1,u,2,x,i,ad,M,λz=>absurd (ajZ (show (g1.first:Int)<(g1.last:Int) by omega)) q]
  intro B j t;rwa[aZ ?_];intro v;let⟨g1,u,rfl,x,i,ad,M,n2⟩:=t;dsimp only[v];clear v;rwa[k g1 j x i ⟨ad.wh,ad.wo,ad.st,ad.gi,ad.ef,ad.er,M,n2,ad.k1,ad.k2⟩]
def Yo (ns:Zg)(j:Nat):iE (au ns) none (some (j:Int))=au (ns.take j):=by
 rw[Bh,HT.yc];show au ((List.drop 0 ns).take (min j ⇑ns - 0))=_
 cbv
def Rt (ns:Zg)(j:Nat)(h:j<=⇑ns):iE (au ns) (some (j:Int)) none=au (ns.drop j):=by rw[Bh,HT.yc,alD h];show au ((ns.drop j).take (⇑ns - j))=_;rw[alE ([akx]▸ajE _)]
theorem pV {by_:Nat->Int->Zi}:∀{ws:Zg}{r:Nat},⇑(cG by_ r ws)<=⇑ws
 |[],_=>ajE _
 |z::ws,r=>by
  cases q:by_ r z with
  |none=>rw[zC q];rwa[aj8 _]
  |some d=>rw[om q,aj1,aj1];rwa[Nat.succ_le_succ pV]
inductive Kj (CR CG:Zs)(vs:Zb)(H:Hp)(Q:VK)(E_:XK):Prop
 |mk (p dx wa r:Zs)(g:Gg)(S:RS)(a:RA)(R:Za2):vs=[↑p,↑r]->eV CG H p dx wa g->ay CR H r S a->Good S [] R->g.start<S.q->g.bJ<S.q->g.last<⇑g.word->⇑g.word<=1000->(∀q H',av H H'->bW H' 2 ↑q (jX g.which ((g.start::cG S.by g.start (g.word.take g.first))++(g.bJ::cG S.by g.bJ (g.word.drop (g.last+ 1)))) g.first)->Q ↑q H')->Kj CR CG vs H Q E_
theorem Dl:T.sS.Ok mg P w base 3 (Kj A.aB A.aY):=by
 rwa[T.sS.on nH (λcy AA J s H vs Q E hr h=>?_)]
 ·let⟨p,m,wa,r,g,S,a,R,rfl,n,hR,I,hs,N,hll,Kk,k⟩:=h
  refine⟨_,{bF 2 nH.nd (pc T.walked (zO T) hr #[1,0<<<1,mO vg (0<<<1) yd (kL (0<<<1))]),bF 3 nH.nd (pc T.walked (zO T) hr #[1,0<<<1,mO vg (0<<<1) (kL (aL cw (0<<<1) ak)) yd]),a9 (bG #[dA (l:=[114,117,108,101]) rfl,0<<<1,fX qS rfl T.pO alx #[aL oY (pv 2) (pv 3)],0<<<1])},?_⟩
  rwa[dE ?_];intro eR eZ;let y:∀c z d,S.by c z=some d->d<S.q:=λc z d e=>(I.st c z d e).2.1
  rwa[⟨1212,p,_,m,112,n.ins,bf T,T.qI,vK _ _,12,p,_,m,112,n.ins,bf T,T.j0,k8 _ _,12,p,_,m,112,n.ins,bf T,T.fH,ia _ _,12,wa,12,n.wo,λt1 H1 s1 e1=>?_⟩];rw[Yo]at e1;rwa[⟨r,S,a,g.start,t1,g.word.take g.first,2,hR.same s1,I.wf,hs,y,e1,by rw[ake];ext,λl1 H2 s2 h2=>?_⟩];let B:=s1.trans s2;let F:=n.same B;rwa[⟨1212,p,_,m,112,F.ins,bf T,T.iB,lg _ _,12,p,_,m,112,F.ins,bf T,T.j0,k8 _ _,12,p,_,m,112,F.ins,bf T,T.je,lh _ _,112212,wa,12,F.wo,λt2 H3 s3 e3=>?_⟩];rw[show (g.last:Int)+ 1=((g.last+ 1:Nat):Int) by ext,Rt _ _ ∅]at e3;let C:=B.trans s3;rwa[⟨r,S,a,g.bJ,t2,g.word.drop (g.last+ 1),2,hR.same C,I.wf,N,y,e3,by rw[akx];ext,λl2 Z V h4=>?_⟩];let D:=C.trans V;let X:=n.same D;let lx:=pV (by_:=S.by) (ws:=g.word.take g.first) (r:=g.start);let ly:=pV (by_:=S.by) (ws:=g.word.drop (g.last+ 1)) (r:=g.bJ);rw[ake]at lx;rw[akx]at ly;rwa[⟨12,p,_,m,112,X.ins,bf T,T.CM,Nn _ _,1212,l1,l2,1122,(s3.trans V) _ _ h2,h4,5,λM n3=>?_⟩]
  ·rw[aJ,aJ,bO,bO,aj1,aj1];rwa[ajO (show _<=100000 by omega) ⋯]
  rwa[⟨M,12,.inl ⟨aF.of aj,λG Y=>?_⟩⟩];rw[<-ints_app,<-iN]at Y ⊢;let s5:=av.upd (o:=.lst (au (nI ((g.start::cG S.by g.start (g.word.take g.first))++(g.bJ::cG S.by g.bJ (g.word.drop (g.last+ 1))))))) n3;change (g.start::cG S.by g.start (g.word.take g.first))++(g.bJ::cG S.by g.bJ (g.word.drop (g.last+ 1)))=path at *;let U:=s5.trans (av.upd (o:=.tup (au (nI path))) Y);let e6:upd (upd Z M (.lst (au (nI path)))) G (.tup (au (nI path))) G=_:=aj;change upd (upd Z M (.lst (au (nI path)))) G (.tup (au (nI path)))=H6 at U e6 ⊢;rwa[⟨12,p,_,m,112,(U^X.ins),bf T,T.fH,ia _ _,(Za4 4),λq nq=>?_⟩];let s7:=av.upd (o:=.tup [.str (tx [114,117,108,101]),.int (g.which:Int),↑G,.int (g.first:Int)]) nq;rwa[k q _ (D.trans (U.trans s7)) (.t aj rfl λj v d b f=>?_)]
  match j,b,f with
  |0,b,f=>ext b;ext f;rwa[.s]
  |1,b,f=>ext b;ext f;rwa[.i]
  |2,b,f=>
   ext b;ext f;rwa[.t (s7^e6) (by rw[aJ,bO,ajD]) λi u x f1 O=>?_]
   let⟨z,rfl,t⟩:=cO f1;unfold nI at t;rw[aj0]at t O
   cases q1:path[i]? with
   |none=>rw[q1]at t;ext t
   |some c=>rw[q1]at t O;ext t;ext O;rwa[.i]
  |3,b,f=>ext b;ext f;rwa[.i]
  |j+ 4,b,f=>simp at b
def same_none (s:av H I){b:Zs}(h:I b=none):H b=none:=by
 cases e:H b with
 |none=>rfl
 |some o=>rw[s^e]at h;ext h
structure KA where
 dx:Zs
 aQ:Zs
 aG:Zs
 aA:Zs
 aW:Zs
def pW (r:Zs)(c:KA)(a:Nat):List (Str×V):=[("rooms",↑r),("rules",↑c.aQ),("goings",↑c.aG),("agenda",↑c.aA),("waiting",↑c.aW),("heard",.int a)]
def gC (r:Zs)(c:KA)(a:Nat):(pW r c a).lookup ("rooms":Str)\↑r:=by kernel_rfl
def Nr (r:Zs)(c:KA)(a:Nat):(pW r c a).lookup ("rules":Str)\↑c.aQ:=by kernel_rfl
def lV (r:Zs)(c:KA)(a:Nat):(pW r c a).lookup ("goings":Str)\↑c.aG:=by kernel_rfl
def oK (r:Zs)(c:KA)(a:Nat):(pW r c a).lookup ("agenda":Str)\↑c.aA:=by kernel_rfl
def mE (r:Zs)(c:KA)(a:Nat):(pW r c a).lookup ("waiting":Str)\↑c.aW:=by kernel_rfl
def vM (r:Zs)(c:KA)(a:Nat):(pW r c a).lookup ("heard":Str)\(.int a):=by kernel_rfl
def fN {c:KA}(h:x∉(["rooms","rules","goings","agenda","waiting","heard"]:Zp)):(pW a c n).lookup x=none:=by simp only[ajS,akn,alJ,not_or]at h;let⟨f,d,i,e,g,b⟩:=h;unfold pW;simp only[List.lookup,aj2.mpr f,aj2.mpr d,aj2.mpr i,aj2.mpr e,aj2.mpr g,aj2.mpr b]
def Nt (r:Zs)(c:KA)(a n:Nat):bT "heard" (.int n) (pW r c a)=pW r c n:=by kernel_rfl
structure qM (CG:Zs)(H:Hp)(gv:Zb)(gs:Zf)(O:Zs->Prop):Prop where
 l:⇑gv=⇑gs
 n:∀(i:Nat)(v:V),gv[i]?\v->gs[i]?\none->v=.non
 s:∀(i:Nat)(v:V)(g:Gg),gv[i]?\v->gs[i]?\some g->∃p dx wa,v=↑p/\eV CG H p dx wa g/\O p
 i:∀(i j:Nat)(p:Zs),gv[i]?\↑p->gv[j]?\↑p->i=j
structure cJ (CG CC:Zs)(H:Hp)(x r:Zs)(c:KA)(gs:Zf)(ag:Zh)(W:bN)(hd:Nat)(fp:List (Zg×Nat))(O:Zs->Prop):Prop where
 ins:H x\(.ins CC c.dx (pW r c hd))
 hG:∃gv,H c.aG\.lst gv/\qM CG H gv gs O
 hA:H c.aA\(.lst (au (nI ag)))
 wt:pz H c.aW W O
 ne:c.aG≠c.aA
 ox:O x
 oG:O c.aG
 oA:O c.aA
 th:∀b,O b->∃o,H b\o/\(∀xs,o≠.tup xs)/\(∀kv,o≠.dT kv)/\(∀u v,o≠.cL u v)/\∀ps,o≠.fU ps
section
variable {CG CC:Zs}{H H':Hp}{x r:Zs}{c:KA}{gs:Zf}{ag:Zh}{W:bN}{hd:Nat}{fp:List (Zg×Nat)}{O:Zs->Prop}
def qM.keep (h:qM CG H L gs O)(f:∀b o,O b->H b\o->H' b\o)(d:∀b a,H b\.tup a->H' b\.tup a):qM CG H' L gs O:=by rwa[⟨h.l,h.n,λi v g j l=>?_,h.i⟩];let⟨p,dx,k,e,q,o⟩:=h.s i v g j l;rwa[p,dx,k,e,⟨f _ _ o q.ins,d^q.wo⟩,o]
def cJ.keep (h:cJ CG CC H x r c gs ag W hd fp O)(f:∀b o,O b->H b\o->H' b\o)(g:∀b a,H b\.tup a->H' b\.tup a):cJ CG CC H' x r c gs ag W hd fp O:=by let⟨j,i,g2⟩:=h.hG;rwa[⟨f _ _ h.ox h.ins,⟨j,f _ _ h.oG i,g2.keep f g⟩,f _ _ h.oA h.hA,h.wt.keep f,h.ne,h.ox,h.oG,h.oA,λb d=>?_⟩];let⟨o,e,q⟩:=h.th b d;rwa[o,f _ _ d e,q]
def cJ.same (h:cJ CG CC H x r c gs ag W hd fp O)(s:av H H'):cJ CG CC H' x r c gs ag W hd fp O:=h.keep (λb o _ e=>s b o e) (λb o e=>s^e)
def cJ.jB (h:cJ CG CC H x r c gs ag W hd fp O){b:Zs}{a:Zb}(e:H b\.tup a):¬O b:=λz=>by
 let⟨o,q,n,_⟩:=h.th b z
 cbv
def cJ.Kl (h:cJ CG CC H x r c gs ag W hd fp O){b:Zs}{a:List (Zd×V)}(e:H b\.dT a):¬O b:=λz=>by
 let⟨o,q,_,n,_⟩:=h.th b z
 cbv
def cJ.waits (h:cJ CG CC H x r c gs ag W hd fp O){k:bN}{a:Zs->Prop}(f:∀b o,(∀j,o≠.dK j)->H b\o->H' b\o)(d:∀b,O b->a b)(w:pz H' c.aW k a)(th:∀b,a b->∃o,H' b\o/\(∀t,o≠.tup t)/\(∀j,o≠.dT j)/\(∀u v,o≠.cL u v)/\∀m,o≠.fU m):cJ CG CC H' x r c gs ag k hd fp a:=by let⟨l,s,g2⟩:=h.hG;rwa[⟨f _ _ (by cbv) h.ins,⟨l,f _ _ (by cbv) s,g2.l,g2.n,λi v g y n=>?_,g2.i⟩,f _ _ (by cbv) h.hA,w,h.ne,d _ h.ox,d _ h.oG,d _ h.oA,th⟩];let⟨p,dx,z,e,q,o⟩:=g2.s i v g y n;rwa[p,dx,z,e,⟨f _ _ (by cbv) q.ins,f _ _ (by cbv) q.wo⟩,d _ o]
def cJ.agenda (h:cJ CG CC H x r c gs ag W hd fp O)(a:Zh):cJ CG CC (upd H c.aA (.lst (au (nI a)))) x r c gs a W hd fp O:=by
 let⟨f,l,g2⟩:=h.hG;let k:∀b o,b≠c.aA->H b\o->upd H c.aA (.lst (au (nI a))) b\o:=λb o n e=>by rw[ao n];rwa[e]
 let kn:∀b o,(∀m,o≠.lst m)->H b\o->upd H c.aA (.lst (au (nI a))) b\o:=λb o n e=>k b o (λz=>by rw[z,h.hA]at e;cbv) e
 rwa[⟨kn _ _ (by cbv) h.ins,⟨f,k _ _ h.ne l,g2.l,g2.n,λi v g s j=>?_,g2.i⟩,aj,5,h.ne,h.ox,h.oG,h.oA,λb d=>?_⟩]
 ·let⟨p,dx,t,e,q,o⟩:=g2.s i v g s j;rwa[p,dx,t,e,⟨kn _ _ (by cbv) q.ins,kn _ _ (by cbv) q.wo⟩,o]
 ·let⟨D,E,k1,k2⟩:=h.wt;rwa[D,E,k1.keep λb o d e=>by let⟨u,q⟩:=k1.there d;cbv,k2]
 ·cases e:b=c.aA
  ·rwa[_,[e]▸aj,(by cbv),(by cbv),(by cbv),by cbv]
  ·let⟨o,q,n⟩:=h.th b d;rwa[o,k _ _ e q,n]
end
def Bt (O:Zs->Prop)(H a:Hp):Prop:=∀b o,¬O b->H b\o->a b\o
def Bt.trans {O a:Zs->Prop}(h:Bt O H I)(c:Bt a I J)(f:∀b,a b->O b\/H b=none):Bt O H J:=λb o n e=>c b o (λz=>(f b z).elim n λq=>by cbv) (h b o n e)
def Bt.of {O:Zs->Prop}(s:av H I):Bt O H I:=λb o _ e=>s b o e
inductive Km (CR CG CC:Zs)(vs:Zb)(H:Hp)(Q:VK)(E_:XK):Prop
 |mk (x r:Zs)(c:KA)(gs:Zf)(ag:Zh)(W:bN)(hd:Nat)(fp:List (Zg×Nat))(O:Zs->Prop)(n m:Nat)(s:Int):vs=[↑x,.int n,.int m,.int s]->cJ CG CC H x r c gs ag W hd fp O->m<100000->n<100000->(-1000<=s/\s<=1000)->(∀O' H',Bt O H H'->(∀b o,(∀kv,o≠.dK kv)->H b\o->H' b\o)->(∀b,O b->O' b)->(∀b,O' b->O b\/H b=none)->cJ CG CC H' x r c gs ag (addW W m s n) hd fp O'->Q .non H')->Km CR CG CC vs H Q E_
structure ku (H:Hp)(O:Zs->Prop)(H1:Hp)(O1:Zs->Prop):Prop where
 f:∀b o,(∀kv,o≠.dK kv)->H b\o->H1 b\o
 bt:Bt O H H1
 le:∀b,O b->O1 b
 nw:∀b,O1 b->O b\/H b=none
 th:∀b,O1 b->∃o,H1 b\o/\(∀xs,o≠.tup xs)/\(∀kv,o≠.dT kv)/\(∀u v,o≠.cL u v)/\∀ps,o≠.fU ps
def ku.new {O a:Zs->Prop}(h:ku H O I a){p:Zs}{c:List (Key×V)}(d:I p=none):ku H O (upd I p (.dK c)) a:=by let s:=av.upd (o:=.dK c) d;rwa[⟨λb o n e=>s^h.f b o n e,λb o n e=>s^h.bt b o n e,h.le,h.nw,λb f=>?_⟩];let⟨o,e,q⟩:=h.th b f;rwa[o,s^e,q]
def ku.put {O a:Zs->Prop}(h:ku H O I a){d:Zs}(hd:a d){f kv':List (Key×V)}(ed:I d\.dK f):ku H O (upd I d (.dK kv')) a:=by
 let k:∀b o,b≠d->I b\o->upd I d (.dK kv') b\o:=λb o n e=>by rw[ao n];rwa[e]
 rwa[⟨λb o n e=>k _ _ (λz=>by have:=h.f b o n e;cbv) (h.f b o n e),λb o n e=>k _ _ (λz=>?_) (h.bt b o n e),h.le,h.nw,λb c=>?_⟩]
 ·rcases h.nw d hd with q|q
  ·cbv
  cbv
 ·cases e:b=d
  ·rwa[⟨_,by rw[e];rwa[aj],(by cbv),(by cbv),(by cbv),by cbv⟩]
  ·let⟨o,q,m⟩:=h.th b c;rwa[o,k _ _ e q,m]
def ku.or1 {O a:Zs->Prop}(h:ku H O I a){p:Zs}(d:H p=none){o:HO}(l:I p\o)(g:∀i,o≠.tup i)(c:∀k,o≠.dT k)(j:∀u v,o≠.cL u v)(f:∀e,o≠.fU e):ku H O I (Jo a p):=by
 rwa[⟨h.f,h.bt,λb z=>.inl (h.le b z),λb z=>z.elim (h.nw b) λq=>.inr ([q]▸d),λb z=>?_⟩];rcases z with z|z
 ·rwa[h.th b z]
 ·rw[z];rwa[o,l,g,c,j,f]
def ku.no {O b:Zs->Prop}(h:ku H O I b){p:Zs}(a:I p=none):H p=none:=by
 cases e:H p with
 |none=>rfl
 |some o=>
  cases q:O p
  ·let⟨d,c,_⟩:=h.th p (h.le p q);cbv
  ·rw[h.bt p o q e]at a;ext a
def cJ.mid {x:Zs}{d:KA}{gs:Zf}{W:bN}{hd:Nat}{f:List (Zg×Nat)}{O:Zs->Prop}(h:cJ a b H x c d gs B W hd f O):ku H O H O:=⟨λ_ _ _ e=>e,λ_ _ _ e=>e,λ_ z=>z,λ_ z=>.inl z,h.th⟩
def oM:T.kl.Ok mg P w base 1 (Km A.aB A.aY A.aI):=by
 rwa[T.kl.on kr (λY AA J s H vs Q E Z h=>?_)]
 ·let⟨x,r,c,gs,ag,W,F,fp,O,n,m,s,rfl,h,hm,hn,hs,k⟩:=h;let I:=eG Z
  erw[_,{bE (bF 4 kr.nd (oj (0<<<1) (pv 2) gw ⟨2222⟩)),bE (bF 5 kr.nd (oj (pv 4) (pv 3) gw ⟨2222⟩)),jO I (pv 5) (pv 1) eD rfl}]
  rwa[dE ?_];intro eR X
  let' t:St->Hp->Prop:=λ f M=>∃d C,f=#v[↑x,.int (n:Int),.int (m:Int),.int s,↑d,none]/\ku H O M C/\gb M c.aW W C m d
  erw[t,5]
  ·rwa[bB ?_];intro R;rwa[⟨12,x,_,c.dx,112,h.ins,aS T,T.ko,mE^_,c.aW,2,h.wt.qU,12,λp a=>?_⟩];let⟨b,g,u,q,L⟩:=h.wt.room a (c:=(m:Int)) ∅;rwa[⟨b,Sum.inl (m:Int),g,2,u,λv j=>?_,λj=>?_⟩]
   ·let⟨d,rfl,w⟩:=q v j;rwa[d,O,2,h.mid.new a,w]
   ·let w:=L j;let S:O c.aW:=by let⟨D,E,_,z⟩:=h.wt;rwa[z.o _ (.inl rfl)]
    rwa[p,12,((h.mid.new a).put S g).or1 a ([ao (λz=>by rw[z]at a;let⟨o,e,_⟩:=h.th _ S;rw[a]at e;ext e)]▸aj) s!"" s!"" (by intro _ _ z;ext z) s!"",w]
  rintro f M ⟨d,C,rfl,B,G⟩
  let' l:St->Hp->Prop:=λ f N=>∃e y,f=#v[↑x,.int (n:Int),.int (m:Int),.int s,↑d,↑e]/\ku H O N y/\qp N c.aW W y m s e
  erw[l,5]
  ·rwa[bB ?_];intro R;rwa[⟨12,d,2,G.qU,12,λp a=>?_⟩];let⟨b,g,u,q,L⟩:=G.cell a hs;rwa[⟨b,Sum.inl s,g,2,u,λv j=>?_,λj=>?_⟩]
   ·let⟨e,rfl,w⟩:=q v j;rwa[e,C,2,B.new a,w]
   ·let w:=L j;let F:=G.own;rwa[p,12,((B.new a).put F g).or1 (B.no a) ([ao (λz=>by rw[z]at a;let⟨o,e,_⟩:=B.th _ F;rw[a]at e;ext e)]▸aj) s!"" s!"" (by intro _ _ z;ext z) s!"",w]
  rintro f N ⟨e,y,rfl,V,U⟩;let⟨b,g,u,q⟩:=U.put (n:=(n:Int)) ∅;erw[1212,e,12,kb.k (k:=Sum.inl (n:Int)) g u];let i:=V.put (kv':=putK b (Sum.inl (n:Int)) (.bl true)) U.own g;rwa[k y _ i.bt i.f i.le i.nw (h.waits i.f i.le q i.th)]
inductive Kn (CR CG CC:Zs)(vs:Zb)(H:Hp)(Q:VK)(E_:XK):Prop
 |mk (x r:Zs)(c:KA)(gs:Zf)(ag:Zh)(W:bN)(hd:Nat)(fp:List (Zg×Nat))(O:Zs->Prop)(m:Nat)(s:Int):vs=[↑x,.int m,.int s]->cJ CG CC H x r c gs ag W hd fp O->(∀ns:Zh,ns.Nodup->(∀n:Nat,n∈ns↔W m s n=true)->⇑ag+ ⇑ns<=1000000)->(∀ns H',Bt O H H'->ns.Nodup->(∀n:Nat,n∈ns↔W m s n=true)->cJ CG CC H' x r c gs (ag++ns) (gP W m s) hd fp O->Q .non H')->Kn CR CG CC vs H Q E_
def gn:T.fF.Ok mg P w base 1 (Kn A.aB A.aY A.aI):=by
 rwa[T.fF.on xB (λcy AA C s H vs Q E hr h=>?_)]
 ·let⟨x,r,c,gs,ag,W,hd,fp,O,m,s,rfl,h,hz,k⟩:=h;let B:=eG hr;erw[_,{bp (df ajL PySem.F.slot_list_extend PySem.F.type_list_extend zi (0<<<1) #[fX (kg rfl) rfl T.km ald #[vh (mR B (0<<<1) (pv 1) gw ⟨2222⟩) (pv 2) gw ⟨2222⟩]])}]
  let rest:∀{g:Hp}{L:bN}{l:Zs}{ns:Zh},cJ A.aY A.aI g x r c gs ag L hd fp O->Bt O H g->g l=none->ns.Nodup->(∀n:Nat,n∈ns↔W m s n=true)->L=gP W m s->yf (V.ref c.aA) [V.ref l] (upd g l (.lst (au (nI ns)))) (λ_ H'=>Q .non H'):=λ{g L l ns} j b2 f N Y eW=>by
   subst eW;let J:=av.upd (o:=.lst (au (nI ns))) f;erw[c.aA,l,1122,J^j.hA,aj,5]
   ·rw[aJ,aJ,bO,bO];rwa[ajO (hz ns N Y) ⋯]
   ·rw[<-ints_app,<-iN];rwa[k ns _ (λb o n e=>[ao (λz=>n ([z]▸h.oA))]▸J^b2 b o n e) N Y ((j.same J).agenda (ag++ns))]
  rwa[⟨12,x,_,c.dx,112,h.ins,aS T,T.lT,oK^_,.inl ⟨21,aF.of h.hA⟩,12,x,_,c.dx,112,h.ins,aS T,T.ko,mE^_,c.aW,2,h.wt.qU,12,λU I=>?_⟩];generalize u:upd H U _=X;let⟨s1,R⟩:=du u I;let D:=h.same s1;let⟨o,g1,g2⟩:=D.wt.get (c:=(m:Int));erw[o,g1];rcases g2 with ⟨rfl,no⟩|⟨d,rfl,w⟩
  ·rwa[⟨U,rfl,.inl ⟨_,.inl R⟩,_,rfl,λt i=>?_⟩];generalize u:upd X t _=g;let⟨a,M⟩:=du u i;rwa[⟨[],Sum.inl s,a^R,2,(λv p=>by ext p),λ_=>⟨t,[],2,M,λl f=>?_⟩⟩];rwa[rest (ns:=[]) (D.same a) (.of (s1.trans a)) f akW (λn=>⟨(λz=>by ext z),λz=>by cbv⟩) (yq (no s)).symm]
  ·rwa[⟨d,2,w.qU,12,λt i=>?_⟩];generalize u:upd X t _=g;let⟨a,M⟩:=du u i;let j:=D.same a;let⟨q,Z,S,e3⟩:=(w.same a).pop s;rwa[⟨q,Sum.inl s,Z,2,λv p=>?_,λp=>⟨t,[],2,M,λl f=>?_⟩⟩]
   ·let⟨e,G,ns,rfl,F,f1,f2,f3,f4,f5⟩:=e3 v p;rwa[⟨e,G,2,[ao F]▸f1,λl f=>?_⟩];let y:=(j.mid.put (kv':=fJ q (Sum.inl s)) w.own Z);rw[f2];rwa[rest (j.waits y.f y.le f5 y.th) (Bt.trans (.of (s1.trans a)) y.bt λb z=>.inl z) f f3 f4 rfl]
   ·rwa[rest (ns:=[]) j (.of (s1.trans a)) f akW (λn=>⟨(λz=>by ext z),λz=>by rw[S p]at z;ext z⟩) (yq (S p)).symm]
def _root_.Lake.L2.CI.Vv {bs:List (Nat×Zg×Nat)}{gs:Zf}{W:bN}{d:Nat->Int->Prop}{x:Zi}(h:CI S bs gs B W d x){m:Nat}{s:Int}{ns:Zh}(nd:ns.Nodup)(c:∀n:Nat,n∈ns↔W m s n=true):⇑ns+ wC S.q ⇑gs (gP W m s)<=wC S.q ⇑gs W:=by
 cases ns with
 |nil=>
  have:∀n,W m s n=false:=λn=>by
   cases q:W m s n with
   |false=>rfl
   |true=>
    let⟨_,b,_,e,_⟩:=h.en _ _ _ q
    cbv
  rw[yq this,akL,Nat.zero_add];rwa[ajE _]
 |cons n r=>
  let⟨k,b,l,_,a,_,f,_⟩:=h.en _ _ _ ((c n).mp (ajU ..));let a:m<S.q:=∅
  let i:=QW (G:=⇑gs) (W:=W) a f
  let g:=Jp (P:=λn:Nat=>W m s n) (G:=⇑gs) nd λn a=>by let w:=(c n).mp a;let⟨_,b,_,e,_,j,_⟩:=h.en _ _ _ w;rwa[3,w]
  ext
def _root_.Lake.L2.CI.two {bs:List (Nat×Zg×Nat)}{gs:Zf}{W:bN}{a:Nat->Int->Prop}{x:Zi}(h:CI S bs gs B W a x):wC S.q ⇑gs W<=2* ⇑gs:=QY λn=>by let⟨p,q,e,_⟩:=h.sl n;rwa[p,q,e]
def _root_.Lake.L2.gb.keys {k:Zs}{W:bN}{O:Zs->Prop}(h:gb H k W O z d):∃(a:List (Key×V))(zs:Zg),H d\.dK a/\a.map (λb=>kV b.1)=au zs/\⇑zs<=2001/\∀s n,W z s n=true->s∈zs:=by
 let⟨D,E,l,p,hd⟩:=h;let⟨a,j,o,c,f⟩:=l.Mh hd
 let q:⇑a<=2001:=wB (n:=2001) (lo:=-1000) o c f λi v m=>by
  cases e:E z i with
  |none=>rw[e]at m;ext m
  |some x=>have:=p.e z i x e;ext
 let ex:∃zs:Zg,a.map (·.1)=zs.map Sum.inl:=by
  clear j o f q
  induction a with
  |nil=>rwa[[],2]
  |cons b r t=>
   let⟨zs,e⟩:=t λx g=>c x (akc _ g)
   let⟨i,u⟩:=c b (ajU ..);rwa[i::zs,by cbv]
 let⟨zs,e⟩:=ex;rwa[⟨a,zs,j,55,λs n w=>?_⟩]
 ·rw[show (λb:Key×V=>kV b.1)=kV ∘ (·.1) from rfl,<-aki,e,aki];rfl
 ·have:=akK List.length e;rw[ajD,ajD]at this;ext
 ·let⟨x,g⟩:=l.se _ _ _ w;have:Sum.inl s∈a.map (·.1):=Fz (v:=↑x) (by rw[f,g];rfl)
  cbv
structure lW (CG CC:Zs)(S:RS)(bs:List (Nat×Zg×Nat))(gs:Zf)(W0:bN)(Ex:Nat->Int->Prop)(B:Nat)(x r:Zs)(c:KA)(hd:Nat)(fp:List (Zg×Nat))(O:Zs->Prop)(H:Hp)(ag:Zh)(W:bN):Prop where
 c:cJ CG CC H x r c gs ag W hd fp O
 i:CI S bs gs ag W Ex none
 s:∀r s n,W r s n=true->W0 r s n=true
 b:⇑ag+ wC S.q ⇑gs W<=B
def lW.wake {bs:List (Nat×Zg×Nat)}{gs:Zf}{g:bN}{i:Nat->Int->Prop}{x:Zs}{e:KA}{hd:Nat}{f:List (Zg×Nat)}{O:Zs->Prop}{W:bN}(h:lW a b S bs gs g i n x c e hd f O H B W){m:Nat}{s:Int}{ns:Zh}(nd:ns.Nodup)(j:∀d:Nat,d∈ns↔W m s d=true)(q:cJ a b I x c e gs (B++ns) (gP W m s) hd f O):lW a b S bs gs g i n x c e hd f O I (B++ns) (gP W m s):=⟨q,h.i.wake j,λc s d w=>h.s _ _ _ (dF.mp w).1,by have:=h.i.Vv nd j;have:=h.b;rw[ajC];ext⟩
def lW.fits {bs:List (Nat×Zg×Nat)}{gs:Zf}{f:bN}{g:Nat->Int->Prop}{x:Zs}{e:KA}{hd:Nat}{i:List (Zg×Nat)}{O:Zs->Prop}{W:bN}(h:lW a b S bs gs f g n x c e hd i O H B W)(k:n<=1000000){m:Nat}{s:Int}:∀ns:Zh,ns.Nodup->(∀d:Nat,d∈ns↔W m s d=true)->⇑B+ ⇑ns<=1000000:=λns nd j=>by have:=h.i.Vv nd j;have:=h.b;ext
inductive FZ (CR CG CC:Zs)(vs:Zb)(H:Hp)(Q:VK)(E_:XK):Prop
 |mk (x r:Zs)(c:KA)(S:RS)(a:RA)(bs:List (Nat×Zg×Nat))(gs:Zf)(ag:Zh)(W:bN)(Ex:Nat->Int->Prop)(B hd:Nat)(fp:List (Zg×Nat))(O:Zs->Prop)(m:Nat):vs=[↑x,.int m]->lW CG CC S bs gs W Ex B x r c hd fp O H ag W->B<=1000000->ay CR H r S a->S.Wf->(∀b,a.own r b->¬O b)->m<S.q->S.ax m<S.q->(∀jk W' H',Bt O H H'->lW CG CC S bs gs W Ex B x r c hd fp O H' jk W'->(∀s n,W' m s n=false)->(∀s n,W' (S.ax m) s n=true->S.by (S.ax m) s=none)->Q .non H')->FZ CR CG CC vs H Q E_
def rM:T.jI.Ok mg P w base 2 (FZ A.aB A.aY A.aI):=by
 rwa[T.jI.on fM (λcy AA outer s H vs Q E hr h=>?_)]
 ·let⟨x,r,c,S,a,bs,gs,ag,W,Ex,B,hd,fp,O,m,rfl,h,hB,hR,wf,dj,hm,he,k⟩:=h;let kF:=eG hr
  erw[_,{cf ajV rfl (cQ (fX (kg rfl) rfl T.km ald #[mR kF (0<<<1) (pv 1) gw ⟨2222⟩])) (cS 2 fM.nd)
   {bp (pm (pv 0) (aS T) T.fF (gn T) hr #[1,2])},bF 3 fM.nd (pm (0<<<1) (aK T) T.iA (jg T) hr #[1]),cf ajV rfl (cQ (fX (kg rfl) rfl T.km ald #[mR kF (0<<<1) (pv 3) gw ⟨2222⟩])) (cS 2 fM.nd)
    {bE (bD (aM oX (pm (0<<<1) (aK T) T.iU (iC T) hr #[3,2]) b9 (aO _))
     {bp (pm (pv 0) (aS T) T.fF (gn T) hr #[3,2])}
     bj)}}]
  rwa[dE ?_];intro eR eZ;let rk:∀{F:Hp},Bt O H F->ay A.aB F r S a:=λ{F} b=>hR.keep (λb' o hb e=>b b' o (dj b' hb) e) (λb' xs e=>b b' _ (h.c.jB e) e)
  let get:∀{U:Hp}{ag1:Zh}{W1:bN}(m1:Nat),lW A.aY A.aI S bs gs W Ex B x r c hd fp O U ag1 W1->∀N,U N=none->∃(o:Zc)(d:Zs)(y:List (Key×V))(J:Zg),dv (upd U N (.dK [])) c.aW (.int (m1:Int)) o/\o.getD ↑N=↑d/\upd U N (.dK []) d\.dK y/\y.map (λkv=>kV kv.1)=au J/\∀s n,W1 m1 s n=true->s∈J:=λ{U ag1 W1} m1 h1 N I=>by
   let s1:=av.upd (o:=.dK []) I;let⟨o,Y,g2⟩:=(h1.c.same s1).wt.get (c:=(m1:Int));rcases g2 with ⟨rfl,no⟩|⟨d,rfl,w⟩
   ·rwa[⟨none,N,[],[],Y,rfl,aj,rfl,λs n z=>by cbv⟩]
   ·let⟨y,J,e1,e2,_,e4⟩:=w.keys;rwa[_,d,y,J,Y,2,e1,e2,e4]
  rwa[⟨12,x,_,c.dx,112,h.c.ins,aS T,T.ko,mE^_,c.aW,2,h.c.wt.qU,12,λN I=>?_⟩];let⟨o,d,y,J,Y,g2,g3,g4,hzs⟩:=get m h N I;rwa[⟨o,Y,d,y,(by rw[g2]),g3,λl nl=>?_⟩];rw[g4];let s1:=(av.upd (o:=.dK []) I).trans (av.upd (o:=.lst (au J)) nl);let hl:upd (upd H N (.dK [])) l (.lst (au J)) l\(.lst (au J)):=aj;replace nl:=same_none (av.upd (o:=.dK []) I) nl;change upd (upd H N (.dK [])) l (.lst (au J))=U at s1 hl ⊢;clear Y g2 g3 g4;let nol:¬O l:=λz=>by let⟨o,e,_⟩:=h.c.th l z;cbv
  let h1:lW A.aY A.aI S bs gs W Ex B x r c hd fp O U ag W:=⟨h.c.same s1,h.i,h.s,h.b⟩;erw[l,2,⟨_,aF.of hl⟩]
  let' kZ:Nat->St->Hp->Prop:=λi R F=>∃u L v2,R=#v[↑x,.int (m:Int),v2,none]/\Bt O U F/\lW A.aY A.aI S bs gs W Ex B x r c hd fp O F u L/\∀(j:Nat)(s:Int),j<i->J[j]?\s->∀n,L m s n=false
  refine dJ (xs:=au J) kZ
   ⟨ag,W,none,2,λ_ _ _ e=>e,h1,λj s D=>absurd D ∅⟩ (λi R F _ ζ=>by let⟨_,_,_,_,b2,_⟩:=ζ;rwa[aF.of (b2 _ _ nol hl)]) ?_ ?_
  ·intro i v R F hi g;rwa[aZ ?_];intro G;let⟨u,L,v2,rfl,b2,p,D⟩:=g;dsimp only[G];clear G;dsimp only[cZ];rwa[bB ?_];intro g9;let⟨s,rfl,hs⟩:=cO hi;rwa[⟨12,x,c.dx,12,p.c.ins,fN ⋯,1212,x,r,c,gs,u,L,hd,fp,O,m,s,2,p.c,p.fits hB,λns H3 b3 nd hn h3=>?_⟩];rwa[⟨1112,b2.trans b3 λb z=>.inl z,p.wake nd hn h3,λj s' f e n=>?_⟩]
   cases q:gP L m s m s' n with
   |false=>rfl
   |true=>
    let⟨q1,q2⟩:=dF.mp q
    cbv
  intro R F g;rwa[aZ ?_];intro G;let⟨u,L,v2,rfl,b2,p,D⟩:=g;dsimp only[G];clear G;rw[aJ]at D;let Vw:Bt O H F:=Bt.trans (.of s1) b2 λb z=>.inl z
  let off:∀s n,L m s n=false:=λs n=>by
   cases q:L m s n with
   |false=>rfl
   |true=>let⟨j,f,e⟩:=alu.mp (hzs s n (p.s _ _ _ q));rw[D j s f (by rw[ajz f,e]) n]at q;ext q
  clear D hzs hl nol h1;let R2:=rk Vw;erw[12,x,_,c.dx,112,p.c.ins,aS T,T.fI,gC^_,r,a.dx,12,R2.ins,da _ _ _ ⋯,12,r,S,a,m,S.ax m,2,R2,tj ([wf.e]▸hm)];change S.ax m=e at he k ⊢;rwa[⟨12,x,_,c.dx,112,p.c.ins,aS T,T.ko,mE^_,c.aW,2,p.c.wt.qU,12,λp2 xH=>?_⟩];let⟨o2,d2,Nu,C,Y,g2,g3,g4,acD⟩:=get e p p2 xH;rwa[⟨o2,Y,d2,Nu,(by rw[g2]),g3,λl2 FX=>?_⟩];rw[g4];let s3:=(av.upd (o:=.dK []) xH).trans (av.upd (o:=.lst (au C)) FX);let BP:upd (upd F p2 (.dK [])) l2 (.lst (au C)) l2\(.lst (au C)):=aj;replace FX:=same_none (av.upd (o:=.dK []) xH) FX;change upd (upd F p2 (.dK [])) l2 (.lst (au C))=H3 at s3 BP ⊢;clear Y g2 g3 g4;let acE:¬O l2:=λz=>by let⟨o,e,_⟩:=p.c.th l2 z;cbv
  let h3:lW A.aY A.aI S bs gs W Ex B x r c hd fp O H3 u L:=⟨p.c.same s3,p.i,p.s,p.b⟩;erw[l2,2,⟨_,aF.of BP⟩]
  let' qN:Nat->St->Hp->Prop:=λi R Z=>∃M W4 v2,R=#v[↑x,.int (m:Int),v2,.int (e:Int)]/\Bt O H3 Z/\lW A.aY A.aI S bs gs W Ex B x r c hd fp O Z M W4/\(∀r s n,W4 r s n=true->L r s n=true)/\∀(j:Nat)(s:Int),j<i->C[j]?\s->∀n,W4 e s n=true->S.by e s=none
  refine dJ (xs:=au C) qN
   ⟨u,L,12,λ_ _ _ q=>q,h3,λ_ _ _ q=>q,λj s D=>absurd D ∅⟩ (λi R Z _ ζ=>by let⟨_,_,_,_,b4,_⟩:=ζ;rwa[aF.of (b4 _ _ acE BP)]) ?_ ?_
  ·intro i v R Z hi g;rwa[aZ ?_];intro G;let⟨M,W4,v4,rfl,b4,X,t,D⟩:=g;dsimp only[G];clear G;dsimp only[cZ];rwa[bB ?_];intro g9;let⟨s,rfl,hs⟩:=cO hi;let b04:Bt O H Z:=Vw.trans (Bt.trans (.of s3) b4 λb z=>.inl z) λb z=>.inl z
   let R4:=rk b04;rwa[⟨15,λ_ _ z=>z⟩];erw[12,x,_,c.dx,112,X.c.ins,aS T,T.fI,gC^_,r,a.dx,12,R4.ins,da _ _ _ ⋯,1212,r,S,a,e,s,2,R4,[wf.w]▸he]
   cases eb:S.by e s with
   |none=>
    erw[212];rwa[bK (λz=>absurd z ⋯) (λ_=>?_)];rwa[⟨1112,b4,X,t,λj s' f q n w=>?_⟩]
    cbv
   |some d=>
    rw[show (Option.map (λn:Nat=>V.int (n:Int)) (some d)).getD V.non=V.int (d:Int) from rfl];erw[212];rwa[bK (λ_=>?_) (λz=>absurd rfl z)];rwa[⟨12,x,c.dx,12,X.c.ins,fN ⋯,1212,x,r,c,gs,M,W4,hd,fp,O,e,s,2,X.c,X.fits hB,λns H5 b5 nd hn h5=>?_⟩];rwa[⟨1112,b4.trans b5 λb z=>.inl z,X.wake nd hn h5,λr s n w=>t _ _ _ (dF.mp w).1,λj s' f q n w=>?_⟩];let⟨w1,w2⟩:=dF.mp w
    cbv
  intro R Z g;rwa[aZ ?_];intro G;let⟨M,W4,v4,rfl,b4,X,t,D⟩:=g;dsimp only[G];clear G;rw[aJ]at D;rwa[k M W4 Z (Vw.trans (Bt.trans (.of s3) b4 λb z=>.inl z) λb z=>.inl z) X (λs n=>?_) λs n w=>?_]
  ·cbv
  ·let⟨j,f,q⟩:=alu.mp (acD s n (t _ _ _ w));rwa[D j s f (by rw[ajz f,q]) n w]
def cJ.Yp {x:Zs}{j:KA}{gs:Zf}{W:bN}{hd:Nat}{r:List (Zg×Nat)}{O:Zs->Prop}(h:cJ a b H x c j gs B W hd r O)(F:∀(n:Nat) (g:Gg) (p dx k:Zs),gs[n]?\some g->eV a H p dx k g->p≠x)(n:Nat):cJ a b (upd H x (.ins b j.dx (pW c j n))) x c j gs B W n r O:=by
 let kn:∀f o,(∀C d fs,o≠.ins C d fs)->H f\o->upd H x (.ins b j.dx (pW c j n)) f\o:=λf o q e=>by rw[ao (λz=>by rw[z,h.ins]at e;cbv)];rwa[e]
 let⟨t,u,g2⟩:=h.hG;rwa[⟨aj,⟨t,kn _ _ (by cbv) u,g2.l,g2.n,λi v g y s=>?_,g2.i⟩,kn _ _ (by cbv) h.hA,5,h.ne,h.ox,h.oG,h.oA,λf l=>?_⟩]
 ·let⟨p,dx,k,e,q,o⟩:=g2.s i v g y s;rwa[p,dx,k,e,⟨[ao (F i g p dx k s q)]▸q.ins,kn _ _ (by cbv) q.wo⟩,o]
 ·let⟨D,E,k1,k2⟩:=h.wt;rwa[D,E,k1.keep λf o l e=>by let⟨G,q⟩:=k1.there l;rw[q]at e;ext e;rwa[kn _ _ (by cbv) q],k2]
 ·cases e:f=x
  ·rwa[_,[e]▸aj,(by cbv),(by cbv),(by cbv),by cbv]
  ·let⟨o,q,m⟩:=h.th f l;rwa[o,[ao e]▸q,m]
def Dm {x:Zs}{d:KA}{f:Zf}{W:bN}{i:List (Zg×Nat)}{O:Zs->Prop}(h:cJ a b H x c d f B W n i O){p k j:Zs}{g:Gg}(q:eV a H p k j g):p≠x:=λz=>by have:=q.ins;rw[z,h.ins]at this;let e:=akK (λo:Option HO=>match o with|some (.ins _ _ fs)=>⇑fs|_=>0) this;rwa[absurd (show 6=7 from e) ⋯]
def Pq (S:RS)(a:Nat):Nat->Int->Prop:=λr _=>∃m∈S.bz.drop a,r=m\/r=S.ax m
inductive Ko (CR CG CC:Zs)(vs:Zb)(H:Hp)(Q:VK)(E_:XK):Prop
 |mk (x r:Zs)(c:KA)(S:RS)(a:RA)(R:Za2)(bs:List (Nat×Zg×Nat))(gs:Zf)(ag:Zh)(W:bN)(B hd:Nat)(fp:List (Zg×Nat))(O:Zs->Prop):vs=[↑x]->lW CG CC S bs gs W (Pq S hd) B x r c hd fp O H ag W->B<=1000000->hd<=⇑S.bz->ay CR H r S a->Good S [] R->(∀m∈S.bz,m<S.q)->(∀b,a.own r b->¬O b)->(∀jk W' H',Bt O H H'->lW CG CC S bs gs W gy B x r c ⇑S.bz fp O H' jk W'->Q .non H')->Ko CR CG CC vs H Q E_
def xM:T.ny.Ok mg P w base 3 (Ko A.aB A.aY A.aI):=by
 rwa[T.ny.on xC (λcy AA L s H vs Q E N h=>?_)]
 ·let⟨x,r,c,S,a,R,bs,gs,ag,W,B,hd,fp,O,rfl,h,hB,Y,hR,J,X,dj,k⟩:=h
  refine⟨_,{bE (fA ajV (aM j7 (0<<<1) (((0<<<1)<<<1)<<<0) (aO _))
   {bp (pm (pv 0) (aS T) T.jI (rM T) N #[((0<<<1)<<<1)|||(0<<<1)]),cE (pv 0) (aL cw (0<<<1) ak) rfl})},?_⟩
  let rk:∀{u:Hp},Bt O H u->ay A.aB u r S a:=λ{u} b=>hR.keep (λF o hb e=>b F o (dj F hb) e) (λF xs e=>b F _ (h.c.jB e) e)
  rwa[⟨λ fV H'=>Q .non H',5,λ_ _ q=>q⟩];erw[λm σ u=>∃d j G,m=⇑S.bz - d/\σ=#v[↑x]/\d<=⇑S.bz/\Bt O H u/\lW A.aY A.aI S bs gs W (Pq S d) B x r c d fp O u j G,⟨_,hd,ag,W,22,Y,λ_ _ _ e=>e,h⟩];intro m σ u I;rwa[aZ ?_];intro q_;let⟨d,j,G,rfl,rfl,BP,U,i⟩:=I;dsimp only[q_];clear q_;let R2:=rk U;let t:=R2.ins;erw[12,x,_,c.dx,112,i.c.ins,aS T,T.nF,vM^_,12,x,_,c.dx,112,i.c.ins,aS T,T.fI,gC^_,r,_,a.dx,112,t,aK T,T.sX,tX^_,a.aN,12,.inl (aF.of R2.hN),112212];rwa[bK (λq=>?_) (λq=>?_)]
  ·let q:(d:Int)<(⇑(au (nI S.bz)):Int):=ajQ q;rw[aJ,bO]at q;let f:d<⇑S.bz:=∅
   let D:S.bz[d]?\(S.bz[d]'f):=ajz f
   change S.bz[d]'f=m at D;let y:=X m (ajA D);erw[_,λ_ _ z=>z];erw[12,x,c.dx,12,i.c.ins,fN ⋯,12,x,_,c.dx,112,i.c.ins,aS T,T.fI,gC^_,r,_,a.dx,112,t,aK T,T.sX,tX^_,12,x,_,c.dx,112,i.c.ins,aS T,T.nF,vM^_,a.aN,11,.int (m:Int),22,aF.of R2.hN,b6 (bQ (eU D))];rwa[⟨x,r,c,S,a,bs,gs,j,G,Pq S d,B,d,fp,O,m,2,⟨i.c,i.i,λ_ _ _ z=>z,i.b⟩,hB,R2,J.wf,dj,y,J.lt y,λM W3 H3 b3 l w1 w2=>?_⟩];erw[12,x,_,c.dx,112,l.c.ins,aS T,T.nF,vM^_,112212,x,_,c.dx,12,l.c.ins,aS T,T.nF,(by show 6<1000;decide)];rw[show V.int ((d:Int)+ 1)=V.int ((d+ 1:Nat):Int) from rfl,Nt];let c4:=l.c.Yp (λn g p dx wa _ z=>Dm l.c z) (d+ 1);rwa[⟨⇑S.bz - (d+ 1),3,d+ 1,M,W3,22,f,5,c4,l.i.ex λr' s n w N ex=>?_,λr s n w=>i.s _ _ _ (l.s _ _ _ w),l.b⟩]
   ·rwa[(U.trans b3 λb z=>.inl z).trans (λb o n e=>by rw[ao (λz=>n ([z]▸l.c.ox))];rwa[e]:Bt O H3 _) λb z=>.inl z]
   ·let⟨Z,v,C⟩:=ex;rw[alj f]at v;rcases ajS.mp v with z|z
    ·let em:Z=m:=by rw[z];rw[ajz f]at D;rwa[Za0 D]
     subst em;rcases C with C|C
     ·rw[C,w1]at w;ext w
     ·subst C;rwa[.inl ⟨(J.el _ y).2,w2 s n w⟩]
    ·rwa[.inr ⟨Z,z,C⟩]
  ·let q:¬(d:Int)<(⇑(au (nI S.bz)):Int):=λz=>q (ajZ z)
   rw[aJ,bO]at q;let e:d=⇑S.bz:=∅
   subst e;rwa[k j G u U ⟨i.c,i.i.ex λr' s n w N ex=>?_,i.s,i.b⟩];let⟨Z,v,_⟩:=ex
   cbv
def zQ {h:Ze}(g:Good S h R)(o:∀a z b,R a z b->z∈l)(r:S.q<=100000)(m:⇑l<=100000)(s:⇑S.rows<=1000000)(p:⇑S.bz<=1000000):xG S:=by
 rwa[⟨g.wf,λc i=>g.lt i,λc z d e=>(g.st c z d e).2.1,λc n t=>g.cb c n t,λc _=>⟨g.kn c,λq j=>(g.st c q.1 q.2 (jU (g.kn c) j)).2.1,λq j _=>?_⟩,⟨r,λf k=>?_,s,p,λf k=>?_⟩⟩]
 ·rw[g.sy c q.1 q.2 (jU (g.kn c) j)];rfl
 ·let⟨c,i⟩:=akr k;have:S.way c=f:=by unfold RS.way;rw[ajH,i];rfl
  rw[<-this];rwa[ajO (g.Jg o c) m]
 ·let⟨c,i⟩:=akr k;have:S.cI c=f:=by unfold RS.cI;rw[ajH,i];rfl
  rw[<-this];rwa[ajO (g.T5 c) ∅]
def Dq (S:RS):S.stand<=S.q:=by unfold RS.stand;rwa[ajO List.countP_le_length (by cbv)]
def Vx (R:Za2)(m L B f M:Nat)(e:Zg)(d:RS)(c:Ze)(S:RS)(a:Ze):Prop:=Good S a R/\S.q=m/\S.L=L/\⇑S.rows+ S.stand<=B/\⇑S.bz+ S.stand<=f/\mu ⇑e S a<=M/\∀b,kQ S a b->kQ d c b
def Nv {M:Nat}{T:RS}{r:Ze}(p:∀a z b,R a z b->z∈l)(J:m<=100000)(s:⇑l<=100000)(N:i<=1000000)(L:j<=1000000)(I:M<=1000000)(S:RS)(pend:Ze)(w:Way)(h:Vx R m n i j M l T r S (pend++[w])):
 xG S/\w.1<S.q/\w.2.2<S.q/\⇑pend<=1000000/\Vx R m n i j M l T r (S.takeIn pend w).1 (S.takeIn pend w).2/\mu ⇑l (S.takeIn pend w).1 (S.takeIn pend w).2<mu ⇑l S (pend++[w]):=by
 let⟨g,D,v,E,H,o,t⟩:=h;let⟨F,G,u,B,q⟩:=g.take p;let hw:=g.pl w (ajI _ ajU);rwa[⟨zQ g p ∅ s ∅ ∅,hw.1,hw.2,5,⟨F,by rw[u,D],by rw[B,v],553,λC d=>t C (.take d)⟩,G⟩]
 ·unfold mu at o;rw[ajC]at o;ext
 ·rcases q with ⟨e,k,f⟩|⟨e,c,z,x,y,_,_,_,_,_,k,f,_⟩
  ·rw[e,k];rwa[E]
  ·rw[k,ajC];have:⇑([fS c z (min x y) (max x y)]:List Dt)=1:=rfl;ext
 ·rcases q with ⟨e,k,f⟩|⟨e,c,z,x,y,_,_,_,_,_,k,f,_⟩
  ·rw[e,f];rwa[H]
  ·rw[f,ajC];have:⇑([max x y]:Zh)=1:=rfl;ext
def iD:z∈bL (2* n)↔z≠0/\z.natAbs<=n:=by
 unfold bL;rw[akp];constructor
 ·rintro ⟨i,a,rfl⟩;rwa[M12.Yh (akt.mp a)]
 ·rintro ⟨d,c⟩;cases b:0<z
  ·erw[2* (z.toNat - 1),akt.mpr ∅];unfold M12.st;rw[aj3 ∅];ext
  ·erw[2* (z.natAbs - 1)+ 1,akt.mpr ∅];unfold M12.st;rw[ajY ∅];ext
structure jl (CR:Zs)(H:Hp)(r:Zs)(S:RS)(a:RA)(R:Za2)(ks:Zg)(B:Nat):Prop where
 at_:ay CR H r S a
 g:Good S [] R
 w:iG S
 k:∀a z b,R a z b->z∈ks
 m:S.q<=2000
 l:⇑ks<=400
 rb:⇑S.rows+ S.stand<=B
 wb:⇑S.bz+ S.stand<=900000
def jl.keep {CR:Zs}(h:jl CR H a S O R l n)(k:∀b o,O.own a b->H b\o->I b\o)(d:∀b c,H b\.tup c->I b\.tup c):jl CR I a S O R l n:=⟨h.at_.keep k d,h.g,h.w,h.k,h.m,h.l,h.rb,h.wb⟩
def jl.same {CR:Zs}(h:jl CR H a S O R l n)(s:av H I):jl CR I a S O R l n:=h.keep (λb o _ e=>s^e) (λb o e=>s^e)
def yR (h:ay a H b S O){c:Zs}{f:List (Zd×V)}(e:H c\.dT f):¬O.own b c:=λz=>by
 rcases z with z|z|z
 ·rw[z,h.ins]at e;ext e
 ·let⟨d,q⟩:=h.Ol z;cbv
 ·let⟨d,q⟩:=h.qU z;cbv
def Nw (w:Nat)(p:Zh)(k:Nat)(h:⇑p<=100000):mU (jX w p k):=by
 rwa[.t (by show 4<=100000;decide) λd a=>?_]
 simp only[ajS,akn,alJ]at a;rcases a with rfl|rfl|rfl|rfl
 ·rwa[.s]
 ·rwa[.i]
 ·rwa[.t (by rw[ajD];rwa[h]) λd a=>?_]
  let⟨c,_,rfl⟩:=akp.mp a;rwa[.i]
 ·rwa[.i]
inductive Kq (CR CG CC:Zs)(vs:Zb)(H:Hp)(Q:VK)(E_:XK):Prop
 |mk (x r p dx wa:Zs)(c:KA)(S:RS)(a:RA)(R:Za2)(ks:Zg)(B:Nat)(ws:Za3)(nr:Nat)(bs:List (Nat×Zg×Nat))(gs:Zf)(ag:Zh)(W:bN)(fp:List (Zg×Nat))(O:Zs->Prop)(n:Nat)(g:Gg):vs=[↑x,↑p]->cJ CG CC H x r c gs ag W ⇑S.bz fp O->jl CR H r S a R ks B->B<900000->(∀b,a.own r b->¬O b)->CI S bs gs ag W gy (some n)->gs[n]?\none->bs[n]?\(g.which,g.word,g.start)->eV CG H p dx wa g->¬O p->¬a.own r p->GI S g->g.first=g.last->S.ax g.start=g.start->S.ax g.front=g.front->S.ax g.bJ=g.bJ->ws[g.which]?\g.word->(g.which<nr\/g.start=0)->(∀z∈g.word,z∈ks/\-z∈ks)->⇑g.word<=1000->⇑ag+ 2* ⇑gs<=1000000->(∀S' a' R' jk W' H',(∀b o,¬O b->¬a.own r b->H b\o->H' b\o)->cJ CG CC H' x r c gs jk W' ⇑S'.bz fp O->jl CR H' r S' a' R' ks (B+ 1)->(∀b,a'.own r b->a.own r b\/H b=none)->CI S' bs gs jk W' gy none->⇑jk<=⇑ag+ 2* ⇑gs->(∀a z b,R a z b->R' a z b)->S'.q=S.q->S'.L=S.L->Tr ws nr S S'->Q .non H')->Kq CR CG CC vs H Q E_
def yS:T.oS.Ok mg P w base 6 (Kq A.aB A.aY A.aI):=by
 rwa[T.oS.on pR (λcy AA outer s H vs Q E U h=>?_)]
 ·let⟨x,r,p,t,wa,c,S,a,R,ks,B,ws,nr,bs,I,ag,W,fp,O,n,g,rfl,Z,f,hB,dj,ci,hgn,Kr,v,Dr,Vu,i,F,es,ef,er,Pu,Ks,hks,Kk,L,k⟩:=h
  refine⟨_,{bF 2 pR.nd ((1<<<1)&&&(1<<<1)),bD (aM cV (pm (0<<<1) (aK T) T.iU (iC T) U #[1<<<1,2]) (1<<<1) (aO _))
    {x5}
    bj,bp (pm (0<<<1) (aK T) T.sT (Df T) U #[1<<<1,2,1<<<1,pm (pv 1) (bf T) T.sS (Dl T) U #[0<<<1]]),bp (pm (pv 0) (aS T) T.fF (gn T) U #[1<<<1,2]),bp (pm (pv 0) (aS T) T.fF (gn T) U #[1<<<1,eF dy (pv 2)]),bp (wM (pv 0) (aS T) T.ny (xM T) U)},?_⟩
  rwa[mX ?_];intro mv kD iV eR eZ;let hz:=Gg.mn (g:=g) ([F]▸i.ll);let mn:fY (au g.word) (g.first:Int)\(.int g.z1):=b6 (bQ hz);let gd:=f.g;erw[12,p,_,t,112,v.ins,bf T,T.j0,k8 _ _,12,p,_,t,112,v.ins,bf T,T.fH,ia _ _,wa,11,.int g.z1,22,bu.of v.wo,mn];erw[12,x,_,c.dx,112,Z.ins,aS T,T.fI,gC^_,r,a.dx,12,f.at_.ins,da _ _ _ ⋯,12,p,_,t,112,v.ins,bf T,T.hX,lb _ _,12,r,S,a,g.front,g.z1,2,f.at_,[gd.wf.w]▸i.f,12,p,_,t,112,v.ins,bf T,T.iB,lg _ _]
  let fin:S.by g.front g.z1=some g.bJ->Q .non H:=λj=>by rwa[k S a R ag W H (λ_ _ _ _ e=>e) Z ⟨f.at_,f.g,f.w,f.k,f.m,f.l,by have:=f.rb;ext,f.wb⟩ (λb z=>.inl z) (ci.done hgn λb eb=>?_) ∅ (λ_ _ _ z=>z) rfl rfl (.refl S)];rw[Kr]at eb;obtain rfl:=Za0 eb;rwa[.inr (i.whole F es ef er j)]
  cases j:S.by g.front g.z1=some g.bJ
  ·rw[j];erw[212];rwa[bK (λ_=>fin j) (λz=>absurd (ajZ rfl) z)]
  let N:Li (((S.by g.front g.z1).map λn:Nat=>V.int (n:Int)).getD .non) (.int (g.bJ:Int))=true/\decide ((((S.by g.front g.z1).map λn:Nat=>V.int (n:Int)).getD .non)=V.int (g.bJ:Int))=false:=by
   cases q:S.by g.front g.z1 with
   |none=>rwa[2,akj f!""]
   |some d=>rwa[2,akj (λz=>j (by rw[q];have:=V.int.inj z;congr 1;omega))]
  erw[N.1,12];rw[N.2];rwa[b8 ?_];clear fin N;rwa[⟨12,x,_,c.dx,112,Z.ins,aS T,T.fI,gC^_,r,a.dx,12,f.at_.ins,da _ _ _ ⋯,12,p,_,t,112,v.ins,bf T,T.hX,lb _ _,1212,p,_,t,112,v.ins,bf T,T.iB,lg _ _,12,p,t,12,v.ins,Pn ⋯,12,x,_,c.dx,112,Z.ins,aS T,T.fI,gC^_,p,t,wa,r,g,S,a,R,2,v,f.at_,gd,i.s,i.r,i.ll,Kk,λq H1 s1 dt=>?_⟩];let lx:=pV (by_:=S.by) (ws:=g.word.take g.first) (r:=g.start);let ly:=pV (by_:=S.by) (ws:=g.word.drop (g.last+ 1)) (r:=g.bJ);rw[ake]at lx;rw[akx]at ly;let f1:=i.wf;let f2:=i.wr;rw[es,ef]at f1;rw[es,er,<-F]at f2;rw[<-F]at dt ly;let ra:BK ws nr S g.which g.word g.start g.first g.front g.bJ g.z1:=⟨Pu,Ks,⟨i.s,es⟩,hz,f1,f2,⟨i.f,ef⟩,⟨i.r,er⟩,j⟩
  let C:∀a y b,fb R g.front g.z1 g.bJ a y b->y∈ks:=by
   have:=hks g.z1 (ajA hz);rintro a y b (z|⟨_,e,_⟩|⟨_,e,_⟩)
   ·rwa[f.k _ _ _ z]
   ·rw[e];rwa[this.1]
   ·rw[e];rwa[this.2]
  let stl:=Dq S
  let Pl:mu ⇑ks (qo S g.which g.word g.start g.first g.bJ) [(g.front,g.z1,g.bJ)]<=1000000:=by unfold mu;let h1:(qo S g.which g.word g.start g.first g.bJ).stand=S.stand:=rfl;have:S.stand* (⇑ks+ 1)<=2000* 401:=amr (by have:=f.m;omega) (by have:=f.l;omega);rw[h1];show S.stand* (⇑ks+ 1)+ 1<=_;ext
  let gl:=gd.lay g.z1 i.f i.r (qo S g.which g.word g.start g.first g.bJ).rows;rwa[⟨r,q,S,a,g.front,g.bJ,g.z1,_,Vx (fb R g.front g.z1 g.bJ) S.q S.L (B+ 1) 900000 1000000 ks (qo S g.which g.word g.start g.first g.bJ) [(g.front,g.z1,g.bJ)],mu ⇑ks,2,f.at_.same s1,by have:=f.rb;ext,dt,Nw _ _ _ (by rw[ajC,aj1,aj1];omega),⟨gl,225,f.wb,Pl,λ_ z=>z⟩,Nv C (by have:=f.m;omega) (by have:=f.l;omega) ∅ ⋯ ⋯,λu a' H2 b2 h2 i2 o2=>?_⟩]
  ·show ⇑(S.rows++[_])+ S.stand<=_;rw[ajC];have:=f.rb;show _+ 1+ _<=_;ext
  let⟨g2,em,eL,rb2,wb2,_,re⟩:=i2;let lay:=re u (.nil u);let⟨_,w2,_,_,l,el⟩:=lay.all gl C (⟨f.w.a,f.w.b,f.w.c⟩:iG (qo S g.which g.word g.start g.first g.bJ));let el:u.bz=S.bz++l:=el;let D:∀b o,¬a.own r b->H b\o->H2 b\o:=λb o nb e=>b2 b o nb (s1^e)
  let o02:∀b,a'.own r b->a.own r b\/H b=none:=λb z=>(o2 b z).imp id (same_none s1)
  let M:∀b,a'.own r b->¬O b:=λb z y=>by
   rcases o02 b z with q|q
   ·rwa[dj b q y]
   ·let⟨o,e,_⟩:=Z.th b y;cbv
  let X:cJ A.aY A.aI H2 x r c I ag W ⇑S.bz fp O:=Z.keep (λb o j e=>D b o (λz=>dj b z j) e) (λb xs e=>D b _ (f.at_.tY e) e);let p2:eV A.aY H2 p t wa g:=⟨D _ _ Vu v.ins,D _ _ (f.at_.tY v.wo) v.wo⟩;let lt:=Later.of gd g2 jH (amy em.symm)
  let Ds:=ci.lay hgn gd g2 em f.w w2 el i.f ef i.r er λb eb=>by
   rw[Kr]at eb;obtain rfl:=Za0 eb;show u.ax g.start≠g.start\/wk u.by g.start g.word=some g.start;cases Y:u.ax g.start=g.start
   ·right
    let h1:=lt.wk f1;let h3:=lt.wk f2;let hbb:=g2.mW.mpr ⟨g.front,g.bJ,qg,22⟩;rw[Y]at h1 h3;have:g.word=g.word.take g.first++(g.z1::g.word.drop (g.first+ 1)):=by rw[<-drop_cons hz,amh]
    rw[this,sh h1,jW hbb];rwa[h3]
   ·rwa[.inl Y]
  let Kt:lW A.aY A.aI u bs I W _ (⇑ag+ 2* ⇑I) x r c ⇑S.bz fp O H2 ag W:=⟨X,Ds,λ_ _ _ z=>z,by have:=Ds.two;ext⟩;rwa[⟨12,x,c.dx,12,X.ins,fN ⋯,12,p,_,t,112,p2.ins,bf T,T.hX,lb _ _,12,x,r,c,I,ag,W,⇑S.bz,fp,O,g.front,g.z1,2,X,Kt.fits L,λns H3 b3 nd hn c3=>?_⟩];let wk1:=Kt.wake nd hn c3;let p3:eV A.aY H3 p t wa g:=⟨b3 _ _ Dr p2.ins,b3 _ _ (X.jB p2.wo) p2.wo⟩;rwa[⟨12,x,c.dx,12,c3.ins,fN ⋯,12,p,_,t,112,p3.ins,bf T,T.iB,lg _ _,1212,x,r,c,I,11,⇑S.bz,fp,O,g.bJ,-g.z1,2,c3,wk1.fits L,λns2 H4 b4 Vn Pw c4=>?_⟩];let wk2:=wk1.wake Vn Pw c4;let G:Bt O H2 H4:=b3.trans b4 λb z=>.inl z
  let R4:ay A.aB H4 r u a':=h2.keep (λb o j e=>G b o (M b j) e) (λb xs e=>G b _ (X.jB e) e)
  let i4:CI u bs I (ag++ns++ns2) (gP (gP W g.front g.z1) g.bJ (-g.z1)) (Pq u ⇑S.bz) none:=wk2.i.ex λr' s n' w U ex=>by
   let⟨w1,n1⟩:=dF.mp w;let⟨w2,n2⟩:=dF.mp w1;rcases ex with ⟨Y,e2⟩|⟨Y,e2⟩|⟨m,hm,e⟩
   ·rwa[absurd ⟨by rw[Y],e2⟩ n2]
   ·rwa[absurd ⟨by rw[Y],e2⟩ n1]
   ·rwa[.inr ⟨m,by cbv,e⟩]
  rwa[⟨_,rfl,x,c.dx,_,rfl,c4.ins,fN (by decide),x,r,c,u,a',_,bs,I,_,_,_,⇑S.bz,fp,O,rfl,⟨c4,i4,λ_ _ _ z=>z,wk2.b⟩,L,by rw[el,ajC];ext,R4,g2,w2.c,M,λVy W5 H5 b5 h5=>?_⟩];let J:Bt O H2 H5:=G.trans b5 λb z=>.inl z
  rwa[k u a' _ Vy W5 H5 (λb o n1 n2 e=>J b o n1 (D b o n2 e)) h5.c ⟨h2.keep (λb o j e=>J b o (M b j) e) (λb xs e=>J b _ (X.jB e) e),g2,w2,C,[em]▸f.m,f.l,rb2,wb2⟩ o02 h5.i (by have:=h5.b;omega) jH em eL (.step (.refl S) ra lay)]
def Yq {x:V}{A B:Prop}(h:x=q)(k:B):if (!decide (x=q))=true then A else B:=by cbv
section
variable {CG CC:Zs}{H H':Hp}{x r:Zs}{c:KA}{gs:Zf}{ag:Zh}{W:bN}{hd:Nat}{fp:List (Zg×Nat)}{O:Zs->Prop}{gv:Zb}{n:Nat}{p dx wa:Zs}{g g':Gg}
def cJ.Yr (h:cJ CG CC H x r c gs ag W hd fp O)(hG:H c.aG\.lst gv)(j:qM CG H gv gs O)(I:gv[n]?\↑p)(N:O p)(q:eV CG H p dx wa g)(f:∀b o,b≠p->H b\o->H' b\o)(L:eV CG H' p dx wa g'):cJ CG CC H' x r c (gs.set n (some g')) ag W hd fp O/\qM CG H' gv (gs.set n (some g')) O:=by
 let kn:∀b o,(∀C d fs,o≠.ins C d fs)->H b\o->H' b\o:=λb o w e=>f b o (λz=>by rw[z,q.ins]at e;cbv) e
 let a:qM CG H' gv (gs.set n (some g')) O:=by
  rwa[⟨[aj5]▸j.l,λi v y l=>?_,λi v u y l=>?_,j.i⟩]
  ·rcases fB l with ⟨_,z⟩|⟨_,z⟩
   ·ext z
   ·rwa[j.n i v y z]
  ·rcases fB l with ⟨z1,z⟩|⟨z1,z⟩
   ·cbv
   ·let⟨F,t,s,e,B,J⟩:=j.s i v u y z;let G:F≠p:=λz=>z1 (j.i i n p (by cbv) I)
    rwa[F,t,s,e,⟨f _ _ G B.ins,kn _ _ (by cbv) B.wo⟩,J]
 rwa[⟨⟨f _ _ (Dm h q).symm h.ins,⟨gv,kn _ _ (by cbv) hG,a⟩,kn _ _ (by cbv) h.hA,5,h.ne,h.ox,h.oG,h.oA,λb k=>?_⟩,a⟩]
 ·let⟨D,E,k1,k2⟩:=h.wt;rwa[D,E,k1.keep λb o k e=>by let⟨M,q⟩:=k1.there k;cbv,k2]
 ·cases e:b=p
  ·rwa[_,[e]▸L.ins,(by cbv),(by cbv),(by cbv),by cbv]
  ·let⟨o,q,m⟩:=h.th b k;rwa[o,f _ _ e q,m]
theorem cJ.F0 (h:cJ CG CC H x r c gs ag W hd fp O)(hG:H c.aG\.lst gv)(f:qM CG H gv gs O)(M:gv[n]?\↑p)(q:eV CG H p dx wa g):cJ CG CC (upd H c.aG (.lst (gv.set n .non))) x r c (gs.set n none) ag W hd fp (λb=>O b/\b≠p):=by
 let k:∀b o,b≠c.aG->H b\o->upd H c.aG (.lst (gv.set n .non)) b\o:=λb o n e=>by rw[ao n];rwa[e]
 let kn:∀b o,(∀s,o≠.lst s)->H b\o->upd H c.aG (.lst (gv.set n .non)) b\o:=λb o w e=>k b o (λz=>by cbv) e
 let I:∀{b s},H b\.lst s->b≠p:=λ{b s} e z=>by rw[z,q.ins]at e;ext e
 rwa[⟨kn _ _ (by cbv) h.ins,⟨_,aj,[aj5,aj5]▸f.l,λi v l d=>?_,λi v u l d=>?_,λi j R l d=>?_⟩,k _ _ h.ne.symm h.hA,5,h.ne,⟨h.ox,(Dm h q).symm⟩,⟨h.oG,I hG⟩,⟨h.oA,I h.hA⟩,λb a=>?_⟩]
 ·rcases fB l with ⟨z1,z⟩|⟨z1,z⟩
  ·rwa[z]
  ·rcases fB d with ⟨t,_⟩|⟨_,y⟩
   ·rwa[absurd t z1]
   ·rwa[f.n i v z y]
 ·rcases fB d with ⟨_,z⟩|⟨z1,z⟩
  ·ext z
  ·rcases fB l with ⟨t,_⟩|⟨_,y⟩
   ·rwa[absurd t z1]
   ·let⟨G,C,B,e,F,N⟩:=f.s i v u y z;let L:G≠p:=λw=>z1 (f.i i n p (by cbv) M)
    rwa[G,C,B,e,⟨kn _ _ (by cbv) F.ins,kn _ _ (by cbv) F.wo⟩,N,L]
 ·rcases fB l with ⟨_,z⟩|⟨_,z⟩
  ·ext z
  ·rcases fB d with ⟨_,y⟩|⟨_,y⟩
   ·ext y
   ·rwa[f.i i j R z y]
 ·let⟨D,E,k1,k2⟩:=h.wt;rwa[⟨D,E,k1.keep λb o a e=>by let⟨Q,q⟩:=k1.there a;cbv,λb a=>⟨k2.o b a,λz=>?_⟩,k2.d,k2.e,k2.w⟩];let⟨Q,J⟩:=k1.there a;rw[z,q.ins]at J;ext J
 ·cases e:b=c.aG
  ·rwa[_,[e]▸aj,(by cbv),(by cbv),(by cbv),by cbv]
  ·let⟨o,q,m⟩:=h.th b a.1;rwa[o,k _ _ e q,m]
end
structure Du (ws:Za3)(nr:Nat)(ks:Zg)(bs:List (Nat×Zg×Nat)):Prop where
 w:∀b∈bs,ws[b.1]?\b.2.1
 n:∀b∈bs,b.1<nr\/b.2.2=0
 l:∀b∈bs,⇑b.2.1<=1000
 k:∀b∈bs,∀z∈b.2.1,z∈ks/\-z∈ks
 c:⇑bs<100000
def live (a:Zf):Nat:=a.countP (·.isSome)
def Dv {a:Zf}{g:Gg}(h:a[n]?\some g):(∀u:Gg,live (a.set n (some u))=live a)/\live (a.set n none)+ 1=live a:=by
 unfold live
 induction a generalizing n with
 |nil=>simp at h
 |cons y r c=>
  cases n with
  |zero=>
   have:y\g:=by simpa using h
   subst this;simp[List.countP_cons]
  |succ n=>let⟨b,d⟩:=c (n:=n) (by simpa using h);simp only[List.set_cons_succ,List.countP_cons];rwa[λu=>by rw[b u],3]
inductive Ku (CR CG CC:Zs)(vs:Zb)(H:Hp)(Q:VK)(E_:XK):Prop
 |mk (x r:Zs)(c:KA)(S:RS)(a:RA)(R:Za2)(ks:Zg)(B:Nat)(ws:Za3)(nr:Nat)(bs:List (Nat×Zg×Nat))(gs:Zf)(ag:Zh)(W:bN)(fp:List (Zg×Nat))(O:Zs->Prop)(n:Nat):vs=[↑x,.int n]->cJ CG CC H x r c gs ag W ⇑S.bz fp O->jl CR H r S a R ks B->B<900000->(∀b,a.own r b->¬O b)->CI S bs gs (ag++[n]) W gy none->Du ws nr ks bs->⇑ag+ 2* ⇑gs<=1000000->(∀S' a' R' jr jk W' O' B' H',(∀b o,¬O b->¬a.own r b->H b\o->H' b\o)->cJ CG CC H' x r c jr jk W' ⇑S'.bz fp O'->jl CR H' r S' a' R' ks B'->(∀b,a'.own r b->a.own r b\/H b=none)->(∀b,O' b->O b\/H b=none)->(∀b,a'.own r b->¬O' b)->CI S' bs jr jk W' gy none->(∀a z b,R a z b->R' a z b)->S'.q=S.q->S'.L=S.L->Tr ws nr S S'->(live jr=live gs/\⇑jk=⇑ag/\B'=B)\/(live jr+ 1=live gs/\⇑jk<=⇑ag+ 2* ⇑gs/\B'<=B+ 1)->Q .non H')->Ku CR CG CC vs H Q E_
theorem vN:T.l0.Ok mg P w base 7 (Ku A.aB A.aY A.aI):=by
 rwa[T.l0.on nJ (λcy AA outer s H vs Q E hr h=>?_)]
 ·let⟨x,r,c,S,a,R,ks,B,ws,nr,bs,F,ag,W,fp,O,n,rfl,h,J,hB,Z,ci,m,hag,k⟩:=h
  refine⟨_,{bF 2 nJ.nd ((0<<<1)|||1),bD (aM ik (pv 2) b9 (aO _))
    {x5}
    bj,bD (aM i5 (pm (0<<<1) (aK T) T.iA (jg T) hr #[2<<<1]) (2<<<1) (aO _))
    {jn b9 (vV (0<<<1) (pv 1) set_list),x5}
    bj,bp (pm (pv 2) (bf T) T.lZ (vL T) hr #[0<<<1]),bE (bD (aM j7 (2<<<1) (2<<<1) (aO _))
    {bp (pm (pv 0) (aS T) T.kl (oM T) hr #[1,2<<<1,(2<<<1)&&&(2<<<1)]),bp (pm (pv 0) (aS T) T.kl (oM T) hr #[1,2<<<1,eF dy ((2<<<1)&&&(2<<<1))])}
    {jn b9 (vV (0<<<1) (pv 1) set_list),bp (pm (pv 0) (aS T) T.oS (yS T) hr #[2])})},?_⟩
  rwa[vk ?_];intro kD iV eR eZ;let U:n<⇑F:=ci.ab n (ajI _ (ajF.mpr rfl));let⟨I,hG,hs⟩:=h.hG;let hv:I[n]?\(I[n]'([hs.l]▸U)):=ajz _
  change I[n]'(by cbv)=v at hv;let gd:=J.g;erw[12,x,_,c.dx,112,h.ins,aS T,T.j1,lV^_,12,c.aG,11,v,22,aF.of hG,b6 hv];let f:F[n]?\(F[n]'U):=ajz U
  change F[n]'U=og at f
  cases og with
  |none=>obtain rfl:=hs.n n v hv f;rwa[⟨12212,dg ?_⟩];rwa[k S a R F ag W O B H (λ_ _ _ _ e=>e) h J (λb z=>.inl z) (λb z=>.inl z) Z (ci.pop.done f λb eb=>ci.de n b f (by cbv) eb) (λ_ _ _ z=>z) rfl rfl (.refl S) (.inl ⟨222⟩)]
  |some g=>
   let⟨p,i,wa,rfl,N,op⟩:=hs.s n v g hv f;let⟨Kr,gi,_⟩:=ci.al n g f;let D:=ajA Kr;let Kk:⇑g.word<=1000:=m.l _ D;let V:¬a.own r p:=λz=>Z p z op
   rwa[⟨12212,b8 ?_⟩];erw[12,x,_,c.dx,112,h.ins,aS T,T.fI,gC^_,r,a.dx,12,J.at_.ins,da _ _ _ ⋯,12,p,_,i,112,N.ins,bf T,T.qI,vK _ _,r,S,a,g.start,S.ax g.start,2,J.at_,tj ([gd.wf.e]▸gi.s),12,p,_,i,112,N.ins,bf T,T.qI,vK _ _,212];let Y:∀b,a.own r b->¬(O b/\b≠p):=λb z y=>Z b z y.1
   cases es:S.ax g.start=g.start
   ·rwa[Yq (by rw[es]) ?_];rwa[⟨12,p,i,12,N.ins,Pn ⋯,12,x,_,c.dx,112,h.ins,aS T,T.fI,gC^_,p,i,wa,r,g,S,a,R,2,N,J.at_,gd,gi,V,Kk,λd j f1 l ad=>?_⟩];let R1:jl A.aB j r S a R ks B:=J.keep (λb o hb e=>f1 b o (λz=>V (z ▸ hb)) e) (λb xs e=>f1 b _ (cz e N.ins (by cbv)) e);let⟨c1,gs1⟩:=h.Yr hG hs hv op N f1 l;let hG1:j c.aG\(.lst I):=f1 _ _ (cz hG N.ins (by cbv)) hG;let t:=ad.gi;let hll:=t.ll;let Px:=t.fl;let acF:⇑d.word<=1000:=by rw[ad.wo];rwa[Kk]
    let z1:=Gg.mn (g:=d) ∅;let z2:=Gg.at2 (g:=d) hll;let aij:(F.set n (some d))[n]?\(some d):=akh U
    let lv:=Dv f;let lm:=J.m;rwa[⟨λ_ H'=>Q .non H',5,λ_ _ q=>q⟩];erw[12,p,_,i,112,l.ins,bf T,T.fH,ia _ _,12,p,_,i,112,l.ins,bf T,T.je,lh _ _,112212];rwa[bK (λq=>?_) (λq=>?_)]
    ·let q:(d.first:Int)<(d.last:Int):=ajQ q;let bw:∀z∈d.word,-1000<=z/\z<=1000:=λz hz=>ci.bd _ D z (by rw[<-ad.wo];rwa[hz])
     let b1:=bw _ (ajA z1);let b2:=bw _ (ajA z2);let hf:=t.f;let hrr:=t.r;let hnb:n<100000:=by have:=ci.len;have:=m.c;ext
     rwa[⟨12,x,c.dx,12,c1.ins,fN ⋯,1212,p,_,i,112,l.ins,bf T,T.hX,lb _ _,12,p,_,i,112,l.ins,bf T,T.j0,k8 _ _,12,p,_,i,112,l.ins,bf T,T.fH,ia _ _,wa,11,.int d.z1,22,bu.of l.wo,b6 (bQ z1),x,r,c,_,ag,W,⇑S.bz,fp,O,n,d.front,d.z1,2,c1,3,hnb,b1,λO2 H2 bt2 f2 Py uS u=>?_⟩];let L:eV A.aY H2 p i wa d:=⟨f2 _ _ (by cbv) l.ins,f2 _ _ (by cbv) l.wo⟩;rwa[⟨12,x,c.dx,12,u.ins,fN ⋯,1212,p,_,i,112,L.ins,bf T,T.iB,lg _ _,12,p,_,i,112,L.ins,bf T,T.j0,k8 _ _,12,p,_,i,112,L.ins,bf T,T.je,lh _ _,wa,11,.int (-d.z2),22,bu.of L.wo,b6 (bQ z2),12,x,r,c,_,ag,_,⇑S.bz,fp,O2,n,d.bJ,d.z2,(by cbv),u,3,hnb,3,λO3 H3 bt3 f3 le3 nw3 c3=>?_⟩]
     let acG:∀b,O3 b->O b\/j b=none:=λb z=>by
      rcases nw3 b z with y|y
      ·rwa[uS b y]
      ·cases w:O b
       ·rwa[.inl w]
       ·rwa[.inr ?_]
        cases e:j b with
        |none=>rfl
        |some o=>rw[bt2 b o w e]at y;ext y
     let nw:∀b,O3 b->O b\/H b=none:=λb z=>by
      rcases acG b z with y|y
      ·rwa[.inl y]
      ·cases w:b=p
       ·cbv
       ·rwa[.inr ?_]
        cases e:H b with
        |none=>rfl
        |some o=>rw[f1 b o w e]at y;ext y
     let C:Bt O j H3:=bt2.trans bt3 uS
     let dj3:∀b,a.own r b->¬O3 b:=λb z y=>by
      rcases nw b y with w|w
      ·rwa[Z b z w]
      ·let⟨o,e⟩:=J.at_.there z;cbv
     rwa[k S a R _ ag _ O3 B H3 (λb o G _ e=>C b o G (f1 b o (λz=>G ([z]▸op)) e)) c3 (R1.keep (λb o hb e=>C b o (Z b hb) e) (λb xs e=>C b _ (c1.jB e) e)) (λb z=>.inl z) nw dj3 (ci.pop.waits f ad ∅) (λ_ _ _ z=>z) rfl rfl (.refl S) (.inl ⟨lv.1 d,22⟩)]
    ·let q:¬(d.first:Int)<(d.last:Int):=λz=>q (ajZ z)
     let efl:d.first=d.last:=∅
     erw[12,x,_,c.dx,112,c1.ins,aS T,T.j1,lV^_,12,c.aG,11,n,22,hG1,pU ([hs.l]▸U)];let u:=c1.F0 hG1 gs1 hv l;let kn:∀b o,(∀xs,o≠.lst xs)->j b\o->upd j c.aG (.lst (I.set n .non)) b\o:=λb o w e=>by rw[ao (λz=>by cbv)];rwa[e]
     let L:eV A.aY (upd j c.aG (.lst (I.set n .non))) p i wa d:=⟨kn _ _ (by cbv) l.ins,kn _ _ (by cbv) l.wo⟩;let X:¬a.own r c.aG:=λz=>Z _ z h.oG
     let R2:jl A.aB (upd j c.aG (.lst (I.set n .non))) r S a R ks B:=R1.keep (λb o hb e=>[ao (λz=>X (by cbv))]▸e) (λb xs e=>kn _ _ (by cbv) e);let ess:(F.set n (some d)).set n none=F.set n none:=List.set_set ..;rw[ess]at u;let Vz:∀b o,¬O b->H b\o->upd j c.aG (.lst (I.set n .non)) b\o:=λb o G e=>by rw[ao (λz=>G ([z]▸h.oG))];cbv
     let M:∀b,upd j c.aG (.lst (I.set n .non)) b=none->H b=none:=λb z=>by
      cases e:H b with
      |none=>rfl
      |some o=>
       cases w:O b
       ·cases y:b=p
        ·rw[y,L.ins]at z;ext z
        ·let⟨o2,e2,_⟩:=u.th b ⟨w,y⟩;cbv
       ·rw[Vz b o w e]at z;ext z
     change upd j c.aG _=H2 at u L R2 Vz M ⊢;rwa[⟨12,x,c.dx,12,u.ins,fN ⋯,12,x,r,p,i,wa,c,S,a,R,ks,B,ws,nr,bs,F.set n none,ag,W,fp,_,n,d,2,u,R2,hB,Y,ci.pop.kill,akh U,by rw[Kr,ad.wh,ad.wo,ad.st],L,(λz=>z.2 rfl),V,t,efl,[ad.st]▸es,ad.ef,ad.er,[ad.wh,ad.wo]▸m.w _ D,[ad.wh,ad.st]▸m.n _ D,[ad.wo]▸m.k _ D,acF,[aj5]▸hag,λS' a' R' jk W' H' f3 c3 R3 o3 VA la rr em eL tr=>?_⟩];let o03:∀b,a'.own r b->a.own r b\/H b=none:=λb z=>(o3 b z).imp id (M b)
     rw[aj5]at la;rwa[k S' a' R' _ jk W' _ (B+ 1) H' (λb o G n2 e=>f3 b o (λz=>G z.1) n2 (Vz b o G e)) c3 R3 o03 (λb z=>.inl z.1) (λb z y=>?_) VA rr em eL tr (.inr ⟨lv.2,la,ajE _⟩)];rcases o3 b z with w|w
     ·rwa[Y b w y]
     ·let⟨o2,e2,_⟩:=u.th b y;cbv
   ·rwa[bK (λ_=>?_) (λz=>absurd (by cbv) z)];erw[12,x,_,c.dx,112,h.ins,aS T,T.j1,lV^_,12,c.aG,11,n,22,hG,pU (by cbv)];let u:=h.F0 hG hs hv N;let X:¬a.own r c.aG:=λz=>Z _ z h.oG
    rwa[k S a R _ ag W _ B _ (λb o G _ e=>[ao (λz=>G ([z]▸h.oG))]▸e) u (J.keep (λb o hb e=>[ao (λz=>X (by cbv))]▸e) (λb xs e=>[ao (λz=>by cbv)]▸e)) (λb z=>.inl z) (λb z=>.inl z.1) Y (ci.pop.kill.done (akh U) λb eb=>?_) (λ_ _ _ z=>z) rfl rfl (.refl S) (.inr ⟨(Dv f).2,33⟩)]
    cbv
def _root_.Lake.L2.Tr.trans {ws:Za3}{T c:RS}(h:Tr ws n S T)(k:Tr ws n T c):Tr ws n S c:=by
 induction k with
 |refl=>exact h
 |step _ a b d=>exact .step d a b
inductive Dw (CR CG CC:Zs)(vs:Zb)(H:Hp)(Q:VK)(E_:XK):Prop
 |mk (x r:Zs)(c:KA)(S:RS)(a:RA)(R:Za2)(ks:Zg)(B:Nat)(ws:Za3)(nr:Nat)(bs:List (Nat×Zg×Nat))(gs:Zf)(ag:Zh)(W:bN)(fp:List (Zg×Nat))(O:Zs->Prop):vs=[↑x]->cJ CG CC H x r c gs ag W ⇑S.bz fp O->jl CR H r S a R ks B->B+ live gs<900000->(∀b,a.own r b->¬O b)->CI S bs gs ag W gy none->Du ws nr ks bs->live gs* (2* ⇑bs+ 1)+ ⇑ag+ 2* ⇑bs<=1000000->(∀S' a' R' jr W' O' B' H',(∀b o,¬O b->¬a.own r b->H b\o->H' b\o)->cJ CG CC H' x r c jr [] W' ⇑S'.bz fp O'->jl CR H' r S' a' R' ks B'->(∀b,a'.own r b->a.own r b\/O b\/H b=none)->(∀b,O' b->O b\/a.own r b\/H b=none)->(∀b,a'.own r b->¬O' b)->CI S' bs jr [] W' gy none->(∀a z b,R a z b->R' a z b)->S'.q=S.q->S'.L=S.L->Tr ws nr S S'->B'+ live jr<=B+ live gs->Q .non H')->Dw CR CG CC vs H Q E_
theorem mw:T.jc.Ok mg P w base 8 (Dw A.aB A.aY A.aI):=by
 rwa[T.jc.on uo (λcy AA outer s H vs Q E hr h=>?_)]
 ·let⟨x,r,c,S,a,R,ks,B,ws,nr,bs,gs,ag,W,fp,O,rfl,h,hR,hB,dj,ci,hbs,hm,k⟩:=h
  refine⟨_,{bE (fA ajV (A5 (0<<<1) (λ_=>rfl))
   {bp (pm (pv 0) (aS T) T.l0 (vN T) hr #[Iq ajL PySem.F.slot_list_pop PySem.F.type_list_pop Ir (0<<<1)])})},?_⟩
  let hgl:=ci.len;rwa[⟨λ_ H'=>Q .non H',5,λ_ _ q=>q⟩];erw[λm σ g=>∃j a2 R2 f d Y L J,m=live f* (2* ⇑bs+ 1)+ ⇑d/\σ=#v[↑x]/\(∀b o,¬O b->¬a.own r b->H b\o->g b\o)/\cJ A.aY A.aI g x r c f d Y ⇑j.bz fp L/\jl A.aB g r j a2 R2 ks J/\(∀b,a2.own r b->a.own r b\/O b\/H b=none)/\(∀b,L b->O b\/a.own r b\/H b=none)/\(∀b,a2.own r b->¬L b)/\CI j bs f d Y gy none/\(∀a z b,R a z b->R2 a z b)/\j.q=S.q/\j.L=S.L/\Tr ws nr S j/\J+ live f<=B+ live gs/\live f* (2* ⇑bs+ 1)+ ⇑d+ 2* ⇑bs<=1000000,⟨_,S,a,R,gs,ag,W,O,B,22,λ_ _ _ _ e=>e,h,hR,λb z=>.inl z,λb z=>.inl z,dj,ci,λ_ _ _ z=>z,22,.refl S,ajE _,hm⟩];intro m σ g tm;rwa[aZ ?_];intro q_;let⟨j,a2,R2,f,d,Y,L,J,rfl,rfl,f2,i,r2,C,l,v,F,Z,X,M,V,U,Dd⟩:=tm;dsimp only[q_];clear q_;erw[12,x,_,c.dx,112,i.ins,aS T,T.lT,oK^_,!(au (nI d)).isEmpty,.inl ⟨_,aF.of i.hA,2⟩];cases p:d=[]
  ·subst p;rwa[b8 ?_];rwa[k j a2 R2 f Y L J g f2 i r2 C l v F Z X M V U]
  ·let D:=alv p;change d.getLast p=n at D;change d.dropLast=pre at D;subst D;rw[show (!(au (nI (pre++[n]))).isEmpty)=true by unfold au nI;simp];rwa[dg ?_];erw[_,λ_ _ z=>z];erw[12,x,c.dx,12,i.ins,fN ⋯,12,x,_,c.dx,112,i.ins,aS T,T.lT,oK^_,.inl ⟨21,aF.of i.hA⟩,c.aA,_,.int (n:Int),22,i.hA,5]
   ·rw[aJ,bO,ajC];rwa[bQ (eU (by show (pre++[n])[⇑pre+ 1 - 1]?\n;rw[Nat.add_sub_cancel,ajN (ajE _),alq];rfl))]
   let Vm:(au (nI (pre++[n]))).dropLast=au (nI pre):=by rw[iN,ints_app];rwa[List.dropLast_concat]
   rw[Vm];let c3:=i.agenda pre;let noA:¬a2.own r c.aA:=λz=>v _ z i.oA
   let f3:∀b o,b≠c.aA->g b\o->upd g c.aA (.lst (au (nI pre))) b\o:=λb o I e=>by rw[ao I];rwa[e]
   let r3:jl A.aB (upd g c.aA (.lst (au (nI pre)))) r j a2 R2 ks J:=r2.keep (λb o hb e=>f3 b o (λz=>noA (by rw[<-z];rwa[hb])) e) (λb xs e=>f3 b _ (λz=>by rw[z,i.hA]at e;ext e) e)
   let t:∀b,upd g c.aA (.lst (au (nI pre))) b=none->g b=none:=λb z=>by
    cases e:b=c.aA
    ·rw[e,aj]at z;ext z
    ·rw[ao e]at z;rwa[z]
   change upd g c.aA _=H3 at c3 f3 r3 t ⊢;let ln2:=F.len;rw[ajC]at Dd;have:⇑([n]:Zh)=1:=rfl
   let N:∀b,g b=none->a.own r b\/O b\/H b=none:=λb z=>by
    cases w:a.own r b
    ·rwa[.inl w]
    ·cases w2:O b
     ·rwa[.inr (.inl w2)]
     ·rwa[.inr (.inr ?_)]
      cases e:H b with
      |none=>rfl
      |some o=>rw[f2 b o w2 w e]at z;ext z
   rwa[⟨x,r,c,j,a2,R2,ks,J,ws,nr,bs,f,pre,Y,fp,L,n,2,c3,r3,3,v,F,hbs,3,λS4 a4 R4 u ag4 W4 O4 B4 H4 f4 c4 r4 ow4 oo4 dj4 F1 rr4 em4 eL4 tr4 ms=>?_⟩];let ow:∀b,a4.own r b->a.own r b\/O b\/H b=none:=λb z=>(ow4 b z).elim (C b) λw=>N b (t b w)
   let oo:∀b,O4 b->O b\/a.own r b\/H b=none:=λb z=>(oo4 b z).elim (l b) λw=>by
    rcases N b (t b w) with y|y|y
    ·rwa[.inr (.inl y)]
    ·rwa[.inl y]
    ·rwa[.inr (.inr y)]
   let G:B4+ live u<=B+ live gs/\live u* (2* ⇑bs+ 1)+ ⇑ag4<live f* (2* ⇑bs+ 1)+ ⇑(pre++[n]):=by
    rw[ajC];rcases ms with ⟨e1,e2,e3⟩|⟨e1,e2,e3⟩
    ·rw[e1,e2,e3];rwa[U,3]
    ·rw[<-e1,amY];rwa[33]
   rwa[⟨_,G.2,S4,a4,R4,u,ag4,W4,O4,B4,22,λb o I n2 e=>?_,c4,r4,ow,oo,dj4,F1,λa z b q=>rr4 _ _ _ (Z _ _ _ q),em4.trans X,eL4.trans M,V.trans tr4,G.1,by have:=G.2;rw[ajC]at this;ext⟩];rwa[f4 b o (λz=>?_) (λz=>?_) (f3 b o (λz=>I ?_) (f2 b o I n2 e))]
   ·rcases l b z with w|w|w
    ·rwa[I w]
    ·rwa[n2 w]
    ·rw[w]at e;ext e
   ·rcases C b z with w|w|w
    ·rwa[n2 w]
    ·rwa[I w]
    ·rw[w]at e;ext e
   ·subst z;rcases l c.aA i.oA with w|w|w
    ·rwa[w]
    ·rwa[absurd w n2]
    ·rw[w]at e;ext e
theorem _root_.Lake.L2.CI.begin {bs:List (Nat×Zg×Nat)}{gs:Zf}{W:bN}{t:Nat->Int->Prop}(h:CI S bs gs B W t none){which m:Nat}{word:Zg}(D:word≠[])(l:m<S.q)(x:∀z∈word,-1000<=z/\z<=1000):CI S (bs++[(which,word,m)]) (gs++[some (zP which word m)]) (B++[⇑gs]) W t none:=by
 let E:=List.length_pos_iff.mpr D
 let old:∀{k:Nat}{y:Option Gg},(gs++[some (zP which word m)])[k]?\y->(k<⇑gs/\gs[k]?\y)\/(k=⇑gs/\y\zP which word m):=λ{k y} e=>by
  cases a:k<⇑gs
  ·rw[ajM a]at e;rwa[.inl ⟨a,e⟩]
  ·rw[ajN ∅]at e;have:=(ajy.mp e).1;let f:k=⇑gs:=by simp at this;ext
   subst f;rw[alq]at e;rwa[.inr ⟨2,(Za0 e).symm⟩]
 let c:∀{k:Nat},k<⇑gs->(bs++[(which,word,m)])[k]?=bs[k]?:=λ{k} a=>ajM (by rw[<-h.len];rwa[a])
 rwa[⟨by rw[ajC,ajC,h.len];rfl,λk g e=>?_,λk b e G o=>?_,λk a=>?_,λr s k q=>?_,λk=>?_,λb n=>?_⟩]
 ·rcases old e with ⟨a,e⟩|⟨a,e⟩
  ·let⟨j,i,F⟩:=h.al k g e;rwa[[c a]▸j,i,F.imp (aj4 _) id]
  ·ext e;rwa[⟨5,⟨aj8 _,by show ⇑word - 1<⇑word;ext,l,l,l,25⟩,.inl (ajI _ (ajF.mpr a))⟩]
   ·rw[ajN ([a,h.len]▸ajE _),a,h.len,alq];rfl
   ·show wk S.by _ (word.drop (⇑word - 1+ 1))=_;rw[show ⇑word - 1+ 1=⇑word by ext,am4];rfl
 ·rcases old e with ⟨a,e⟩|⟨a,e⟩
  ·rw[c a]at o;rwa[h.de k b e G o]
  ·ext e
 ·rw[ajC];rcases ajK.mp a with q|q
  ·have:=h.ab k q;show k<_+ 1;ext
  ·rw[ajF.mp q];show _<_+ 1;ext
 ·let⟨v,d,H,C,I,J,u⟩:=h.en r s k q;rwa[v,d,H,C,I,by rw[ajC];show d<_+ 1;ext,u]
 ·cases a:k<⇑gs
  ·let⟨p,q,j,i⟩:=h.sl k;rwa[⟨p,q,j,λg e=>i g ?_⟩];rw[ajM a]at e;rwa[e]
  ·rwa[⟨((zP which word m).front,(zP which word m).z1),((zP which word m).bJ,(zP which word m).z2),λr s w=>?_,λg e=>?_⟩]
   ·let⟨_,d,_,e,_,E,_⟩:=h.en r s k w;ext
   cbv
 ·rcases ajK.mp n with q|q
  ·rwa[h.bd b q]
  ·rw[ajF.mp q];rwa[x]
def cJ.Ys {x:Zs}{l:KA}{gs:Zf}{W:bN}{hd:Nat}{Q:List (Zg×Nat)}{O:Zs->Prop}{dx X:Zs}{g:Gg}(h:cJ a b H x c l gs B W hd Q O)(hG:H l.aG\.lst L)(r:qM a H L gs O)(np:H d=none)(s:av H I)(q:eV a I d dx X g):cJ a b (upd I l.aG (.lst (L++[↑d]))) x c l (gs++[some g]) B W hd Q (Jo O d):=by
 let k:∀f o,f≠l.aG->I f\o->upd I l.aG (.lst (L++[↑d])) f\o:=λf o n e=>by rw[ao n];rwa[e]
 let kn:∀f o,(∀Z,o≠.lst Z)->I f\o->upd I l.aG (.lst (L++[↑d])) f\o:=λf o w e=>k f o (λz=>by rw[z,s^hG]at e;cbv) e
 let fresh:∀(i:Nat),L[i]?≠some ↑d:=λi e=>by
  let t:i<⇑gs:=by rw[<-r.l];rwa[(ajy.mp e).1]
  cases U:gs[i]? with
  |none=>cbv
  |some y=>
   cases y with
   |none=>cases r.n i _ e U
   |some u=>let⟨T,_,_,F,G,_⟩:=r.s i _ u e U;ext F;have:=G.ins;cbv
 let old:∀{i:Nat}{v:V},(L++[↑d])[i]?\v->(i<⇑L/\L[i]?\v)\/(i=⇑L/\v=↑d):=λ{i v} e=>by
  cases R:i<⇑L
  ·rw[ajM R]at e;rwa[.inl ⟨R,e⟩]
  ·rw[ajN ∅]at e;have:=(ajy.mp e).1;let J:i=⇑L:=by simp at this;ext
   subst J;rw[alq]at e;rwa[.inr ⟨2,(Za0 e).symm⟩]
 rwa[⟨kn _ _ (by cbv) (s^h.ins),⟨_,aj,by rw[ajC,ajC,r.l];rfl,λi v F p=>?_,λi v u F p=>?_,λi j p' F p=>?_⟩,k _ _ h.ne.symm (s^h.hA),5,h.ne,.inl h.ox,.inl h.oG,.inl h.oA,λf C=>?_⟩]
 ·rcases old F with ⟨t,e⟩|⟨t,e⟩
  ·rw[ajM (by rw[<-r.l];rwa[t])]at p;rwa[r.n i v e p]
  ·rw[t,r.l,ajN (ajE _),alq]at p;cases Za0 p
 ·rcases old F with ⟨t,e⟩|⟨t,e⟩
  ·rw[ajM (by rw[<-r.l];rwa[t])]at p;let⟨T,N,M,e3,G,Y⟩:=r.s i v u e p;rwa[T,N,M,e3,⟨kn _ _ (by cbv) (s^G.ins),kn _ _ (by cbv) (s^G.wo)⟩,.inl Y]
  ·rw[t,r.l,ajN (ajE _),alq]at p;cases Za0 p;rwa[d,dx,X,e,⟨kn _ _ (by cbv) q.ins,kn _ _ (by cbv) q.wo⟩,.inr rfl]
 ·rcases old F with ⟨t,e⟩|⟨t,e⟩
  ·rcases old p with ⟨hj,S⟩|⟨hj,S⟩
   ·rwa[r.i i j p' e S]
   cbv
  cbv
 ·let⟨D,E,k1,k2⟩:=h.wt;rwa[D,E,(k1.same s).keep λf o C e=>by let⟨kv,q⟩:=(k1.same s).there C;cbv,λf C=>.inl (k2.o f C),k2.d,k2.e,k2.w]
 ·rcases C with C|C
  ·cases e:f=l.aG
   ·rwa[⟨_,by rw[e];rwa[aj],(by cbv),(by cbv),(by cbv),by cbv⟩]
   ·let⟨o,q,m⟩:=h.th f C;rwa[o,k _ _ e (s^q),m]
  ·rw[C];rwa[_,kn _ _ (by cbv) q.ins,(by cbv),(by cbv),(by cbv),by cbv]
def nz (b:Nat)(a:Zg)(m:Nat):List (Nat×Zg×Nat):=if a=[] then [] else [(b,a,m)]
inductive F2 (CR CG CC:Zs)(vs:Zb)(H:Hp)(Q:VK)(E_:XK):Prop
 |mk (x r wa:Zs)(c:KA)(S:RS)(bs:List (Nat×Zg×Nat))(gs:Zf)(ag:Zh)(W:bN)(hd:Nat)(fp:List (Zg×Nat))(O:Zs->Prop)(Ex:Nat->Int->Prop)(which m:Nat)(word:Zg):vs=[↑x,.int which,↑wa,.int m]->cJ CG CC H x r c gs ag W hd fp O->CI S bs gs ag W Ex none->H wa\.tup (au word)->⇑word<=1000->(∀z∈word,-1000<=z/\z<=1000)->m<S.q->⇑bs<100000->⇑ag<=⇑bs->(∀jr jk O' H',Bt O H H'->(∀b,O b->O' b)->(∀b,O' b->O b\/H b=none)->cJ CG CC H' x r c jr jk W hd fp O'->CI S (bs++nz which word m) jr jk W Ex none->⇑jk<=⇑(bs++nz which word m)->Q .non H')->F2 CR CG CC vs H Q E_
def nM:T.jy.Ok mg P w base 3 (F2 A.aB A.aY A.aI):=by
 rwa[T.jy.on vF (λcy AA I s H vs Q E hr h=>?_)]
 ·let⟨x,r,X,c,S,bs,l,j,W,hd,fp,O,Ex,d,m,a,rfl,h,ci,g,D,F,hm,Z,N,k⟩:=h
  refine⟨_,{bE (bD (aM qd (2<<<0) ak (aO _))
   {bp (df ajL ajW ajX bV (0<<<1) #[(0<<<1)<<<0]),bp (df ajL ajW ajX bV (0<<<1) #[x9 (vE T) (uw T) hr.Za5 rfl T.Rn T.gR.b .nil gQ #[1,2,3]])}
   bj)},?_⟩
  let hgl:=ci.len;rwa[⟨λ_ H'=>Q .non H',5,λ_ _ q=>q⟩];erw[12,X,12,.inr (bu.of g),112212];rwa[bK (λq=>?_) (λq=>?_)]
  ·let q:(0:Int)<(⇑(au a):Int):=ajQ q;rw[aJ]at q;let f:a≠[]:=λz=>by cbv
   let⟨gv,hG,hs⟩:=h.hG;erw[12,x,_,c.dx,112,h.ins,aS T,T.lT,oK^_,.inl ⟨21,aF.of h.hA⟩,12,x,_,c.dx,112,h.ins,aS T,T.j1,lV^_,c.aG,12,.inl (aF.of hG),c.aA,1122,h.hA,5]
   ·rw[aJ,bO];rwa[ajJ (show ⇑j<=100000 by omega) ⋯]
   let ea:au (nI j)++[V.int (⇑gv:Int)]=au (nI (j++[⇑l])):=by rw[iN,ints_app,hs.l];rfl
   rw[ea];let B:=h.agenda (j++[⇑l]);let C:∀b o,b≠c.aA->H b\o->upd H c.aA (.lst (au (nI (j++[⇑l])))) b\o:=λb o n e=>by rw[ao n];rwa[e]
   let Y:∀b,upd H c.aA (.lst (au (nI (j++[⇑l])))) b=none->H b=none:=λb z=>by
    cases e:b=c.aA
    ·rw[e,aj]at z;ext z
    ·rw[ao e]at z;rwa[z]
   change upd H c.aA _=L at B C Y ⊢;let v:=C _ _ (cz g h.hA (by cbv)) g;let⟨gv1,i,t⟩:=B.hG;rwa[⟨12,x,_,c.dx,112,B.ins,aS T,T.j1,lV^_,.inl ⟨21,aF.of i⟩,121212,λp R y G J=>?_⟩];let U:av L (upd (upd L R (.own p)) p (.ins A.aY R [])):=(av.upd G).trans (av.upd ([ao J.symm]▸y));rwa[⟨p,R,X,d,m,a,2,aj,U^v,3,D,λH3 f3 g3=>⟨25⟩⟩];let M:av L H3:=λb o e=>f3 b o (U^e) (aw e y)
   erw[c.aG,1122,M^i,([t.l]▸ajJ (show ⇑l<=100000 by omega) ⋯)];let u:nz d a m=[(d,a,m)]:=ajY f;rwa[k _ _ (Jo O p) _ (λb o n e=>?_) (λb z=>.inl z) (λb z=>z.imp id λw=>[w]▸Y p y) (B.Ys i t y M g3) ([u]▸ci.begin f hm F) (by rw[u,ajC,ajC];show _+ 1<=_+ 1;omega)];rw[ao (λz=>n ([z]▸h.oG))];rwa[M^(C b o (λz=>n ([z]▸h.oA)) e)]
  ·let q:¬(0:Int)<(⇑(au a):Int):=λz=>q (ajZ z)
   rw[aJ]at q;let f:a=[]:=List.length_eq_zero_iff.mp ∅;let u:nz d a m=[]:=aj3 f;rwa[k l j O H (λ_ _ _ e=>e) (λb z=>z) (λb z=>.inl z) h ([u,akb]▸ci) ([u,akb]▸N)]
def gX (a:List (Zg×Nat))(m:Nat):List (Nat×Zg×Nat):=a.flatMap λp=>nz p.2 p.1 m
def Pz (w:Nat)(u:Zg)(m:Nat):⇑(nz w u m)<=1:=by
 unfold nz;split
 ·rwa[aj8 _]
 ·rwa[ajE _]
theorem qO (m:Nat):∀a:List (Zg×Nat),⇑(gX a m)<=⇑a
 |[]=>ajE _
 |p::l=>by have:=qO m l;have:=Pz p.2 p.1 m;unfold gX at *;rw[List.flatMap_cons,ajC,aj1];ext
def Kv {a:List (Zg×Nat)}{p:Zg×Nat}(h:a[i]?\p)(m:Nat):gX (a.take (i+ 1)) m=gX (a.take i) m++nz p.2 p.1 m:=by unfold gX;rw[aly,h,amw];show _++(nz p.2 p.1 m++[])=_;rw[akb]
def VB {b:List (Zg×Nat)}{a:Zd×V}(h:(jj b)[i]?\a):∃p,b[i]?\p/\a=(p.1.map Sum.inl,.int p.2):=by
 unfold jj at h
 cbv
inductive Kw (CR CG CC:Zs)(vs:Zb)(H:Hp)(Q:VK)(E_:XK):Prop
 |mk (x r:Zs)(c:KA)(S:RS)(bs:List (Nat×Zg×Nat))(gs:Zf)(ag:Zh)(W:bN)(hd:Nat)(fp:List (Zg×Nat))(O:Zs->Prop)(Ex:Nat->Int->Prop)(m:Nat):vs=[↑x,.int m]->cJ CG CC H x r c gs ag W hd fp O->H c.aQ\.dT (jj fp)->CI S bs gs ag W Ex none->(∀p∈fp,⇑p.1<=1000/\∀z∈p.1,-1000<=z/\z<=1000)->m<S.q->⇑bs+ ⇑fp<100000->⇑ag<=⇑bs->(∀jr jk O' H',Bt O H H'->(∀b,O b->O' b)->(∀b,O' b->O b\/H b=none)->cJ CG CC H' x r c jr jk W hd fp O'->CI S (bs++gX fp m) jr jk W Ex none->⇑jk<=⇑(bs++gX fp m)->Q .non H')->Kw CR CG CC vs H Q E_
def jt:T.fK.Ok mg P w base 4 (Kw A.aB A.aY A.aI):=by
 rwa[T.fK.on gB (λcy AA outer s H vs Q E hr h=>?_)]
 ·let⟨x,r,c,S,bs,gs,ag,W,hd,f,O,Ex,m,rfl,h,C,ci,hfp,hm,Dx,PB,k⟩:=h
  refine⟨_,{tT (cf ajV rfl (XY (0<<<1) rfl rfl) (ie rfl (bP (cS 2 gB.nd) (bP (cS 3 gB.nd) fQ)))
   {bp (pm (pv 0) (aS T) T.jy (nM T) hr #[3,2,1])})},?_⟩
  let nQ:¬O c.aQ:=h.Kl C;let nxQ:x≠c.aQ:=cz h.ins C f!"";rwa[⟨c.aQ,_,C,trivial,12,x,_,c.dx,112,h.ins,aS T,T.CN,Nr^_,c.aQ,jj f,2,C,λY=>?_⟩];let k0:∀b o,b≠c.aQ->H b\o->upd H c.aQ (.cL Y (.dT (jj f))) b\o:=λb o n e=>by rw[ao n];rwa[e]
  let h0:cJ A.aY A.aI (upd H c.aQ (.cL Y (.dT (jj f)))) x r c gs ag W hd f O:=h.keep (λb o L e=>k0 b o (λz=>nQ (by rw[<-z];rwa[L])) e) (λb xs e=>k0 b _ (cz e C f!"") e)
  let' R:Nat->St->Hp->Prop:=λi σ B=>∃g a v v2 v3,σ=#v[↑x,.int (m:Int),v2,v3]/\B c.aQ\.cL Y (.dT (jj f))/\(∀b o,b≠c.aQ->¬O b->H b\o->B b\o)/\(∀b,O b->v b)/\(∀b,v b->O b\/H b=none)/\cJ A.aY A.aI B x r c g a W hd f v/\CI S (bs++gX (f.take i) m) g a W Ex none/\⇑a<=⇑(bs++gX (f.take i) m)
  refine T7 (d:=c.aQ) (o:=Y) (kvs:=jj f) R
   ⟨gs,ag,O,none,none,2,aj,λb o n _ e=>k0 b o n e,λb z=>z,λb z=>.inl z,h0,by rw[List.take_zero];show CI S (bs++[]) _ _ _ _ _;rw[akb];rwa[ci],by rw[List.take_zero];show _<=⇑(bs++[]);rw[akb];rwa[PB]⟩ (λi σ B _ ζ=>by let⟨_,_,_,_,_,_,q,_⟩:=ζ;rwa[q]) ?_ ?_
  ·intro i kv σ B t kp F3 nt F J;rwa[aZ ?_];intro N;let⟨g,a,v,v2,v3,rfl,V,Z,D,j,c5,u,l⟩:=J;dsimp only[N];clear N;let⟨p,hp,rfl⟩:=VB F3;let hi:=(ajy.mp hp).1
   replace F:B kp\(.tup (au p.1)):=by rw[F];show some (HO.tup (((p.1.map (Sum.inl:Int->Key)).map kV)))=_;rw[aki];rfl
   let G:=av.upd (o:=.tup [↑kp,.int (p.2:Int)]) nt;erw[t,12,bu.of aj,21121122];change upd B t _=H6 at G ⊢;let L:=hfp p (ajA hp);let bl:=qO m (f.take i);rw[ake]at bl;let c6:=c5.same G;rwa[⟨12,x,c.dx,12,c6.ins,fN ⋯,121212,x,r,kp,c,S,_,g,a,W,hd,f,v,Ex,p.2,m,p.1,2,c6,u,G^F,L.1,L.2,hm,by rw[ajC];ext,l,λgs7 ag7 O7 H7 X le7 nw7 c7 M U=>?_⟩];let I:¬v c.aQ:=λz=>(j _ z).elim nQ λq=>by rw[C]at q;ext q
   rw[akl,<-Kv hp]at M U;rwa[⟨gs7,ag7,O7,112,X _ _ I (G^V),λb o n1 n2 e=>X b o (λz=>(j b z).elim n2 λq=>by rw[q]at e;ext e) (G^Z b o n1 n2 e),λb z=>le7 b (D b z),λb z=>?_,c7,M,U⟩];rcases nw7 b z with w|w
   ·rwa[j b w]
   ·cases y:O b
    ·rwa[.inl y]
    ·rwa[.inr ?_]
     cases e:H b with
     |none=>rfl
     |some o=>
      cases y2:b=c.aQ
      ·rw[y2,G^V]at w;ext w
      ·rw[G^Z b o y2 y e]at w;ext w
  ·intro σ B J;rwa[aZ ?_];intro N;let⟨g,a,v,v2,v3,rfl,V,Z,D,j,c5,u,l⟩:=J;dsimp only[N];clear N;rw[show ⇑(jj f)=⇑f by unfold jj;rw[ajD],akR]at u l;let I:¬v c.aQ:=λz=>(j _ z).elim nQ λq=>by rw[C]at q;ext q
   rwa[⟨Y,V,k g a v _ (λb o n e=>?_) D j (c5.keep (λb o L e=>[ao (λz=>I (by rw[<-z];rwa[L]))]▸e) (λb xs e=>[ao (λz=>by rw[z,V]at e;ext e)]▸e)) u l⟩];cases z:b=c.aQ
   ·rw[z,aj,<-C,<-z];rwa[e]
   ·rw[ao z];rwa[Z b o z n e]
def VC (r:Zs):List (Str×V):=[("rooms",↑r)]
def VD (r q:Zs):List (Str×V):=[("rooms",↑r),("rules",↑q)]
def VF (r q g:Zs):List (Str×V):=[("rooms",↑r),("rules",↑q),("goings",↑g)]
def VG (r q g e:Zs):List (Str×V):=[("rooms",↑r),("rules",↑q),("goings",↑g),("agenda",↑e)]
def VH (r q g e w:Zs):List (Str×V):=[("rooms",↑r),("rules",↑q),("goings",↑g),("agenda",↑e),("waiting",↑w)]
def cy6 (r q g e w:Zs)(n:Int):List (Str×V):=[("rooms",↑r),("rules",↑q),("goings",↑g),("agenda",↑e),("waiting",↑w),("heard",.int n)]
def cz2 (r q:Zs):bT "rules" ↑q (VC r)=VD r q:=eI (by kernel_rfl)
def cz3 (r q g:Zs):bT "goings" ↑g (VD r q)=VF r q g:=eI (by kernel_rfl)
def cz4 (r q g e:Zs):bT "agenda" ↑e (VF r q g)=VG r q g e:=eI (by kernel_rfl)
def cz5 (r q g e w:Zs):bT "waiting" ↑w (VG r q g e)=VH r q g e w:=eI (by kernel_rfl)
def cz6 (r q g e w:Zs)(n:Int):bT "heard" (.int n) (VH r q g e w)=cy6 r q g e w n:=eI (by kernel_rfl)
def kat_nil {k:Zs}(h:H k\.dK []):eQ H k (λ_=>none) (λ_ _=>none) (λ_ _ _=>false):=⟨⟨[],h,by simp,(λa z=>by ext z),λ_=>rfl⟩,(λ_ _ z=>by ext z),(λ_ _ _ z=>by ext z),(λ_ _ _ z=>by ext z),(λ_ _ _ z=>by ext z),(λ_ _ z=>by ext z),(λ_ _ _ z=>by ext z),(λ_ _ _ z=>by ext z),(λ_ _ _ _ z=>by ext z),(λ_ _ _ _ _ z=>by ext z)⟩
def dH (S:RS):Zh:=(~~~S.q).filter λc=>decide (S.aV[c]?\c)
def eh (a:List (Zg×Nat))(st:Zh):List (Nat×Zg×Nat):=st.flatMap λm=>gX a m
def gq (a:Za3)(b i:Nat):List (Nat×Zg×Nat):=(~~~i).flatMap λj=>nz (b+ j) (a.getD j []) 0
theorem mF (a:List (Zg×Nat)):∀st:Zh,⇑(eh a st)<=⇑st* ⇑a
 |[]=>aj8 _
 |m::st=>by have:=mF a st;have:=qO m a;unfold eh at *;rw[List.flatMap_cons,ajC,aj1,amY];ext
theorem tu (a:Za3)(b:Nat):∀i,⇑(gq a b i)<=i
 |0=>ajE _
 |i+ 1=>by have:=tu a b i;have:=Pz (b+ i) (a.getD i []) 0;unfold gq at *;rw[ak8,amw,ajC];show _+ ⇑(nz _ _ 0++[])<=_;rw[akb];ext
def tD:bN:=λ_ _ _=>false
def VJ:CI S [] [] [] tD gy none:=⟨2,(λn g e=>by simp at e),(λn b e=>by simp at e),(λn z=>by ext z),(λr s n z=>by ext z),λn=>⟨(0,0),(0,0),(λr s z=>by ext z),λg e=>by simp at e⟩,(λb z=>by ext z)⟩
inductive Kx (CR CG CC:Zs)(vs:Zb)(H:Hp)(Q:VK)(E_:XK):Prop
 |mk (x dx r ru pa:Zs)(S:RS)(a:RA)(R:Za2)(rs ps:Za3):vs=[↑x,↑r,↑ru,↑pa]->H x\.ins CC dx []->ay CR H r S a->Good S [] R->0<S.q->S.q<=2000->¬a.own r x->bR H ru rs->bR H pa ps->⇑rs<=400->⇑ps<=400->(∀u∈rs++ps,⇑u<=1000/\∀z∈u,-1000<=z/\z<=1000)->(∀fp,yQ rs fp->S.q* ⇑fp+ ⇑ps<50000)->(∀c gs ag fp O H',(∀b o,H b\o->b≠x->H' b\o)->cJ CG CC H' x r c gs ag tD ⇑S.bz fp O->H' c.aQ\.dT (jj fp)->(∀b,O b->b=x\/H b=none)->CI S (eh fp (dH S)++gq ps ⇑rs ⇑ps) gs ag tD gy none->⇑ag<=⇑(eh fp (dH S)++gq ps ⇑rs ⇑ps)->yQ rs fp->Q .non H')->Kx CR CG CC vs H Q E_
structure StX (H H0 H1:Hp)(x:Zs)(o:HO):Prop where
 s:H1 x\o
 o:∀b o,H b\o->b≠x->H1 b\o
 k:∀b o,b≠x->H0 b\o->H1 b\o
 n:∀b,H1 b=none->H0 b=none
def stx {H0:Hp}{x:Zs}{u o:HO}(h:H0 x\u)(f:∀b o,H b\o->b≠x->H0 b\o):StX H H0 (upd H0 x o) x o:=⟨aj,λb o e n=>by rw[ao n];rwa[f b o e n],λb o n e=>by rw[ao n];rwa[e],λb z=>by
 cases e:b=x
 ·rw[e,aj]at z;ext z
 ·rw[ao e]at z;rwa[z]⟩
def rN:T.fE.Ok mg P w base 5 (Kx A.aB A.aY A.aI):=by
 rwa[T.fE.on fL (λcy AA outer s H vs Q E hr h=>?_)]
 ·let⟨x,M,r,ru,pa,S,a,R,rs,ps,rfl,hx,hR,gd,hm0,hm,F4,xN,zR,ti,lL,hwb,Dy,k⟩:=h
  refine⟨_,{cE (pv 0) (pv 1) rfl,cE (pv 0) (pc T.nh (xJ T) hr #[2]) rfl,cE (pv 0) (bY ah) rfl,cE (pv 0) (bY ah) rfl,cE (pv 0) gw rfl,cE (pv 0) ((1<<<1)<<<0) rfl,cf ajV rfl (cQ (wM (pv 1) (aK T) T.fz (gI T) hr)) (cS 4 fL.nd)
    {bp (pm (pv 0) (aS T) T.fK (jt T) hr #[4])},cf ajV rfl (Jn rfl T.oT (pv 3) (2<<<0) rfl rfl) (ie rfl (bP (cS 5 fL.nd) (bP (cS 6 fL.nd) fQ)))
    {bp (pm (pv 0) (aS T) T.jy (nM T) hr #[5,6,ak])}},?_⟩
  rwa[qj ?_];intro C5 rE mv kD iV eR eZ;let⟨VL,PD,F5⟩:=id xN;let⟨I,PF,VM⟩:=id zR;let o0:∀b o,H b\o->b≠x->H b\o:=λb o e _=>e
  let VN:ru≠x:=cz PD hx (by cbv);let VP:pa≠x:=cz PF hx (by cbv);erw[1212,x,_,M,12,hx,aS T,T.fI,(by show 0<1000;decide)];rw[show bT "rooms" ↑r []=VC r from rfl];let S1:=stx (o:=.ins A.aI M (VC r)) hx o0;change upd H x _=H1 at S1 ⊢;let wr1:bR H1 ru rs:=⟨VL,S1.o _ _ PD VN,F5.1,λi q u e1 e2=>S1.o _ _ (F5.2 i q u e1 e2) (cz (F5.2 i q u e1 e2) hx f!"")⟩;rwa[⟨12,ru,rs,2,wr1,3,λq d H2 s2 nq hq Ky=>?_⟩];let x2:=s2^S1.s;let o2:∀b o,H b\o->b≠x->H2 b\o:=λb o e n=>s2^S1.o b o e n
  let n2:∀b,H2 b=none->H b=none:=λb z=>S1.n b (same_none s2 z)
  erw[12,x,_,M,12,x2,aS T,T.CN,(by show 1<1000;decide)];rw[cz2];let Kz:q≠x:=cz hq x2 (by cbv);let S3:=stx (o:=.ins A.aI M (VD r q)) x2 o2;change upd H2 x _=Y at S3 ⊢;let q3:=S3.k _ _ Kz hq;rwa[⟨aj8 _,λg ng=>?_⟩];let N:=av.upd (o:=.lst []) ng;let g4:upd Y g (.lst []) g\(.lst []):=aj;let n4:∀b,upd Y g (.lst []) b=none->H b=none:=λb z=>n2 b (S3.n b (same_none N z))
  let ng0:=n2 g (S3.n g ng);change upd Y g _=H4 at N g4 n4 ⊢;erw[12,x,_,M,12,N^S3.s,aS T,T.j1,(by show 2<1000;decide)];rw[cz3];let S5:=stx (o:=.ins A.aI M (VF r q g)) (N^S3.s) (λb o e n=>N^S3.o b o e n);change upd H4 x _=H5 at S5 ⊢;let KC:g≠x:=cz g4 (N^S3.s) f!"";let q5:=S5.k _ _ Kz (N^q3);let g5:=S5.k _ _ KC g4;rwa[⟨aj8 _,λe ne=>?_⟩];let s6:=av.upd (o:=.lst []) ne;let e6:upd H5 e (.lst []) e\(.lst []):=aj;let n6:∀b,upd H5 e (.lst []) b=none->H b=none:=λb z=>n4 b (S5.n b (same_none s6 z))
  let F6:=n4 e (S5.n e ne);let nge:g≠e:=aw g5 ne;change upd H5 e _=H6 at s6 e6 n6 ⊢;erw[12,x,_,M,12,s6^S5.s,aS T,T.lT,(by show 3<1000;decide)];rw[cz4];let S7:=stx (o:=.ins A.aI M (VG r q g e)) (s6^S5.s) (λb o e n=>s6^S5.o b o e n);change upd H6 x _=H7 at S7 ⊢;let wH:e≠x:=cz e6 (s6^S5.s) f!"";let q7:=S7.k _ _ Kz (s6^q5);let g7:=S7.k _ _ KC (s6^g5);let e7:=S7.k _ _ wH e6;rwa[λw nw=>?_]
  let Z:=av.upd (o:=.dK []) nw;let w8:upd H7 w (.dK []) w\(.dK []):=aj;let n8:∀b,upd H7 w (.dK []) b=none->H b=none:=λb z=>n6 b (S7.n b (same_none Z z))
  let nw0:=n6 w (S7.n w nw);change upd H7 w _=H8 at Z w8 n8 ⊢;erw[12,x,_,M,12,Z^S7.s,aS T,T.ko,(by show 4<1000;decide)];rw[cz5];let S9:=stx (o:=.ins A.aI M (VH r q g e w)) (Z^S7.s) (λb o e n=>Z^S7.o b o e n);change upd H8 x _=H9 at S9 ⊢;let VQ:w≠x:=cz w8 (Z^S7.s) f!"";let R9:ay A.aB H9 r S a:=hR.keep (λb o hb e=>S9.o b o e (λz=>F4 (by rw[<-z];rwa[hb]))) (λb xs e=>S9.o b _ e (cz e hx f!""));erw[12,r,_,a.dx,112,R9.ins,aK T,T.sX,tX^_,a.aN,12,.inl (aF.of R9.hN),12,x,_,M,12,S9.s,aS T,T.nF,(by show 5<1000;decide)];rw[aJ,bO,cz6];let Sa:=stx (o:=.ins A.aI M (cy6 r q g e w ⇑S.bz)) S9.s S9.o;change upd H9 x _=Ha at Sa ⊢;let up:∀b o,b≠x->H8 b\o->Ha b\o:=λb o n z=>Sa.k b o n (S9.k b o n z)
  let cA:cJ A.aY A.aI Ha x r ⟨M,q,g,e,w⟩ [] [] tD ⇑S.bz d (λb=>b=x\/b=g\/b=e\/b=w):=by
   rwa[⟨Sa.s,⟨[],up _ _ KC (Z^g7),2,(λi v z=>by simp at z),(λi v u z=>by simp at z),(λi j p z=>by simp at z)⟩,up _ _ wH (Z^e7),⟨11,kat_nil (up _ _ VQ w8),⟨λb hb=>?_,(λ_ _ z=>by ext z),(λ_ _ _ z=>by ext z),(λ_ _ _ z=>by ext z)⟩⟩,nge,.inl rfl,.inr (.inl rfl),.inr (.inr (.inl rfl)),λb hb=>?_⟩]
   ·rcases hb with z|⟨_,z⟩|⟨_,_,z⟩
    ·rwa[.inr (.inr (.inr z))]
    ·ext z
    ·ext z
   ·rcases hb with z|z|z|z
    ·rw[z];rwa[_,Sa.s,s!"",s!"",(by intro _ _ z;ext z),s!""]
    ·rw[z];rwa[_,up _ _ KC (Z^g7),s!"",s!"",(by intro _ _ z;ext z),s!""]
    ·rw[z];rwa[_,up _ _ wH (Z^e7),s!"",s!"",(by intro _ _ z;ext z),s!""]
    ·rw[z];rwa[_,up _ _ VQ w8,s!"",s!"",(by intro _ _ z;ext z),s!""]
  let qa:=up _ _ Kz (Z^q7)
  let Oa:∀b,(b=x\/b=g\/b=e\/b=w)->b=x\/H b=none:=λb z=>by
   rcases z with z|z|z|z
   ·rwa[.inl z]
   ·rw[z];rwa[.inr ng0]
   ·rw[z];rwa[.inr F6]
   ·rw[z];rwa[.inr nw0]
  let Ra:ay A.aB Ha r S a:=hR.keep (λb o hb e=>Sa.o b o e (λz=>F4 (by rw[<-z];rwa[hb]))) (λb xs e=>Sa.o b _ e (cz e hx f!""));let nA:∀b,Ha b=none->H b=none:=λb z=>n8 b (S9.n b (Sa.n b z))
  obtain⟨O,eO⟩:∃O:Zs->Prop,O=λb=>b=x\/b=g\/b=e\/b=w:=⟨12⟩
  rw[<-eO]at cA;replace Oa:∀b,O b->b=x\/H b=none:=by rw[eO];rwa[Oa]
  clear eO;generalize ec:(⟨M,q,g,e,w⟩:KA)=c at cA;let qa:Ha c.aQ\(.dT (jj d)):=by rw[<-ec];rwa[qa]
  clear g7 e7 w8 S9 Z n8 S7 s6 n6 e6 S5 N g4 n4 S3 S1 x2 o2 n2 up q7 q5 q3 g5 R9 nw0 F6 ng0 nw ne ng nge wH KC VQ hq nq s2 Kz wr1;let hfb:∀p∈d,⇑p.1<=1000/\∀z∈p.1,-1000<=z/\z<=1000:=λp hp=>hwb _ (aj4 _ (ajA (Ky.a p hp)))
  let Dy:=Dy d Ky;rwa[⟨12,r,a.dx,12,Ra.ins,da _ _ _ ⋯,r,S,a,2,Ra,gd.wf,3,λl nl=>?_⟩];let sl:⇑(dH S)<=S.q:=ajO (alI _ _) (by cbv);let stm:∀m∈dH S,m<S.q:=λm hm=>akt.mp (alk.mp hm).1
  let hmf:⇑(dH S)* ⇑d<=S.q* ⇑d:=alM _ sl;let sb:=av.upd (o:=.lst (au (nI (dH S)))) nl;let hl:upd Ha l (.lst (au (nI (dH S)))) l\(.lst (au (nI (dH S)))):=aj;show ∃a_1,_;rw[show (~~~S.q).filter (λc=>decide (S.aV[c]?\c))=dH S from rfl];let nl0:=nA l nl;let nlO:¬O l:=λz=>by let⟨o,e,_⟩:=cA.th l z;cbv
  change upd Ha l _=Hb at sb hl ⊢;let cB:=cA.same sb;erw[l,2,⟨_,aF.of hl⟩]
  let' kZ:Nat->St->Hp->Prop:=λi σ H2=>∃X D O2 v4,σ=#v[↑x,↑r,↑ru,↑pa,v4,none,none]/\(∀b o,¬O b->Hb b\o->H2 b\o)/\(∀b,O b->O2 b)/\(∀b,O2 b->O b\/Hb b=none)/\cJ A.aY A.aI H2 x r c X D tD ⇑S.bz d O2/\CI S (eh d ((dH S).take i)) X D tD gy none/\⇑D<=⇑(eh d ((dH S).take i))
  refine dJ (xs:=au (nI (dH S))) kZ
   ⟨[],[],O,none,2,λ_ _ _ e=>e,λb z=>z,λb z=>.inl z,cB,VJ,ajE _⟩ (λi σ H2 _ ζ=>by let⟨_,_,_,_,_,f,_⟩:=ζ;rwa[aF.of (f _ _ nlO hl)]) ?_ ?_
  ·intro i v σ H2 hi J;rwa[aZ ?_];intro q_;let⟨X,D,O2,v4,rfl,f2,Py,uS,c2,Ds,KD⟩:=J;dsimp only[q_];clear q_;dsimp only[cZ];rwa[bB ?_];intro g9;let⟨z,rfl,hz⟩:=cO hi
   obtain⟨m,VR,rfl⟩:∃m,(dH S)[i]?\m/\z=(m:Int):=by
    unfold nI at hz
    cbv
   let L:=(ajy.mp VR).1;let nQ:¬O c.aQ:=cA.Kl qa;let q2:=f2 _ _ nQ (sb^qa);let ll:=mF d ((dH S).take i);rw[ake,alD ∅]at ll;let li:(i+ 1)* ⇑d<=⇑(dH S)* ⇑d:=alM _ L;rw[amY]at li;rwa[⟨12,x,c.dx,12,c2.ins,fN ⋯,12,x,r,c,S,_,X,D,tD,⇑S.bz,d,O2,gy,m,2,c2,q2,Ds,hfb,stm m (ajA VR),3,KD,λC B O3 Y b3 le3 U c3 F G=>?_⟩]
   let es:eh d ((dH S).take (i+ 1))=eh d ((dH S).take i)++gX d m:=by unfold eh;rw[aly,VR,amw];show _++(gX d m++[])=_;rw[akb]
   rw[<-es]at F G;rwa[⟨C,B,O3,12,λb o n e=>b3 b o (λz=>(uS b z).elim n λy=>by cbv) (f2 b o n e),λb z=>le3 b (Py b z),λb z=>?_,c3,F,G⟩];rcases U b z with y|y
   ·rwa[uS b y]
   ·cases y2:O b
    ·rwa[.inl y2]
    ·rwa[.inr ?_]
     cases e:Hb b with
     |none=>rfl
     |some o=>rw[f2 b o y2 e]at y;ext y
  intro σ H2 J;rwa[aZ ?_];intro q_;let⟨X,D,O2,v4,rfl,f2,Py,uS,c2,Ds,KD⟩:=J;dsimp only[q_];clear q_;rw[aJ,bO,akR]at Ds KD;let ll:=mF d (dH S);let VS:Hb pa\(.lst (I.map V.ref)):=sb^Sa.o _ _ PF VP;let Dr:∀{b o},H b\o->b≠x->¬O b:=λ{b o} e n z=>(Oa b z).elim n λy=>by cbv
  let acH:=f2 _ _ (Dr PF VP) VS;let acI:=f2 _ _ (Dr PD VN) (sb^Sa.o _ _ PD VN);let lr:⇑(VL.map V.ref)=⇑rs:=by rw[ajD,F5.1]
  erw[1212,ru,12,.inl (aF.of acI),pa,(⇑(VL.map V.ref):Int),2233,⟨_,aF.of acH⟩];rw[lr]
  let' qN:Nat->St->Hp->Prop:=λi σ Y=>∃C B O3 v5 v6,σ=#v[↑x,↑r,↑ru,↑pa,v4,v5,v6]/\(∀b o,¬O b->Hb b\o->Y b\o)/\(∀b,O3 b->O b\/Hb b=none)/\cJ A.aY A.aI Y x r c C B tD ⇑S.bz d O3/\CI S (eh d (dH S)++gq ps ⇑rs i) C B tD gy none/\⇑B<=⇑(eh d (dH S)++gq ps ⇑rs i)
  refine Bq (xs:=I.map V.ref) qN
   ⟨X,D,O2,none,none,2,f2,uS,c2,by show CI S (_++[]) _ _ _ _ _;rw[akb];rwa[Ds],by show _<=⇑(_++[]);rw[akb];rwa[KD]⟩ (λi σ Y _ ζ=>by let⟨_,_,_,_,_,_,f,_⟩:=ζ;rwa[aF.of (f _ _ (Dr PF VP) VS)]) ?_ ?_
  ·intro i v σ Y t hi nt J;rwa[aZ ?_];intro q_;let⟨C,B,O3,v5,v6,rfl,f3,U,c3,F,G⟩:=J;dsimp only[q_];clear q_
   let L:i<⇑I:=by have:=(ajy.mp hi).1;rw[ajD]at this;rwa[this]
   let VW:i<⇑ps:=by rw[<-VM.1];rwa[L]
   let g1:I[i]?\(I[i]'L):=ajz L
   let g2:ps[i]?\(ps[i]'VW):=ajz VW
   rw[aj0,g1]at hi;obtain rfl:V.ref (I[i]'L)=v:=Za0 hi;change I[i]'L=wa at g1;change ps[i]'VW=u at g2;let tE:=VM.2 i wa u g1 g2;let hwx:wa≠x:=cz tE hx (by cbv);let acJ:=f3 _ _ (Dr tE hwx) (sb^Sa.o _ _ tE hwx);let N:=av.upd (o:=.tup [.int ((⇑rs:Int)+ (i:Int)),↑wa]) nt;erw[t,12,bu.of aj,21121122];change upd Y t _=H4 at N ⊢;let c4:=c3.same N;let pl:=tu ps ⇑rs i;let hub:=hwb u (ajI _ (ajA g2));rwa[⟨12,x,c.dx,12,c4.ins,fN ⋯,1212,x,r,wa,c,S,_,C,B,tD,⇑S.bz,d,O3,gy,⇑rs+ i,(0),u,2,c4,F,N^acJ,hub.1,hub.2,hm0,by rw[ajC];ext,G,λgs5 Vy O5 H5 b5 le5 nw5 c5 KG al5=>?_⟩]
   let ep:gq ps ⇑rs (i+ 1)=gq ps ⇑rs i++nz (⇑rs+ i) u 0:=by unfold gq;rw[ak8,amw];show _++(nz (⇑rs+ i) (ps.getD i []) 0++[])=_;rw[akb,ajH,g2];rfl
   rw[akl,<-ep]at KG al5;rwa[⟨gs5,Vy,O5,112,λb o n e=>b5 b o (λz=>(U b z).elim n λy=>by cbv) (N^f3 b o n e),λb z=>?_,c5,KG,al5⟩];rcases nw5 b z with y|y
   ·rwa[U b y]
   ·cases y2:O b
    ·rwa[.inl y2]
    ·rwa[.inr ?_]
     cases e:Hb b with
     |none=>rfl
     |some o=>rw[N^f3 b o y2 e]at y;ext y
  ·intro σ Y J;rwa[aZ ?_];intro q_;let⟨C,B,O3,v5,v6,rfl,f3,U,c3,F,G⟩:=J;dsimp only[q_];clear q_;rw[ajD,VM.1]at F G;rwa[k c C B d O3 Y (λb o e n=>f3 b o (Dr e n) (sb^Sa.o b o e n)) c3 (f3 _ _ (cA.Kl qa) (sb^qa)) (λb z=>?_) F G Ky];rcases U b z with y|y
   ·rwa[Oa b y]
   ·rwa[.inr (nA b (same_none sb y))]
def Dz {rs:Za3}{b:List (Zg×Nat)}(h:yQ rs b):⇑b<=⇑rs:=by
 let c:(b.map (·.2)).Nodup:=by
  have:=h.n;unfold List.Nodup at this ⊢;rw[alh]at this ⊢
  exact this.imp_of_mem λ{p q} a d n e=>n (by
   let i:=h.a p a;let g:=h.a q d
   cbv)
 have:=my ⇑rs _ c λn f=>by let⟨p,a,rfl⟩:=akp.mp f;rwa[(ajy.mp (h.a p a)).1]
 rw[ajD]at this;rwa[this]
def xO {b:Nat×Zg×Nat}{w:Nat}(h:b∈nz w l m):b=(w,l,m)/\l≠[]:=by
 unfold nz at h
 cbv
def HJ {w:Nat}(h:l≠[]):(w,l,m)∈nz w l m:=by unfold nz;cbv
def Ru {c:List (Zg×Nat)}{st:Zh}{a:Za3}{b:Nat×Zg×Nat}(h:b∈eh c st++gq a n ⇑a):(∃p∈c,b.1=p.2/\b.2.1=p.1/\b.2.2∈st)\/∃j u,a[j]?\u/\b=(n+ j,u,0):=by
 rcases ajK.mp h with q|q
 ·let⟨m,e,q⟩:=alb.mp q;let⟨p,d,q⟩:=alb.mp q;let⟨rfl,_⟩:=xO q;rwa[.inl ⟨p,d,22,e⟩]
 ·let⟨j,f,q⟩:=alb.mp q;let⟨rfl,_⟩:=xO q
  cbv
def ends {bs:List (Nat×Zg×Nat)}{d:Zf}{W:bN}(ci:CI S bs d [] W gy none)(x:Good S [] R){b:Nat×Zg×Nat}(p:b∈bs)(a:S.ax b.2.2=b.2.2):Fy S b.2.2 b.2.1:=by
 let⟨n,f⟩:=akr p;let B:n<⇑d:=by rw[ci.len];rwa[(ajy.mp f).1]
 cases q:d[n]? with
 |none=>cbv
 |some y=>
  cases y with
  |none=>
   rcases ci.de n b q (by cbv) f with z|z
   ·rwa[absurd a z]
   ·rwa[.inl z]
  |some g=>
   let⟨e,c,z⟩:=ci.al n g q;rw[f]at e;obtain rfl:=Za0 e;rcases z with z|z|⟨lt,l,v⟩
   ·ext z
   ·ext z
   ·let⟨o,_,k,_,_,_,_,f1⟩:=ci.en _ _ _ l;let⟨s,_,j,_,_,_,_,f2⟩:=ci.en _ _ _ v;let k:o=g.front:=∅
    let j:s=g.bJ:=∅
    subst k j;rcases f1 with ⟨t,u⟩|f1
    ·rcases f2 with ⟨m,r⟩|f2
     ·let i:=c.wf;let h:=c.wr;let a:S.ax g.start=g.start:=a;rw[a,t]at i;rw[a,m]at h;rwa[.inr ⟨g.first,g.last,g.front,g.bJ,g.z1,-g.z2,lt,Gg.mn (by have:=c.ll;omega),Gg.at2 c.ll,i,u,h,[alg]▸r⟩]
     ·rwa[f2.elim]
    ·rwa[f1.elim]
inductive Rw (CR CG CC:Zs)(vs:Zb)(H:Hp)(Q:VK)(E_:XK):Prop
 |mk (r ru pa:Zs)(S:RS)(a:RA)(R:Za2)(ks:Zg)(B:Nat)(rs ps:Za3):vs=[↑r,↑ru,↑pa]->jl CR H r S a R ks B->0<S.q->B<800000->bR H ru rs->bR H pa ps->⇑rs<=400->⇑ps<=400->S.q* ⇑rs+ ⇑ps<=700->(∀u∈rs++ps,⇑u<=1000/\∀z∈u,(-1000<=z/\z<=1000)/\z∈ks/\-z∈ks)->(∀S' a' R' B' H',(∀b o,¬a.own r b->H b\o->H' b\o)->jl CR H' r S' a' R' ks B'->(∀b,a'.own r b->a.own r b\/H b=none)->(∀a z b,R a z b->R' a z b)->S'.q=S.q->S'.L=S.L->Tr (rs++ps) ⇑rs S S'->vn rs ps S'->B'<=B+ 700->Q .non H')->Rw CR CG CC vs H Q E_
def dM (z:Int):Int:=if z > 0 then 2* z - 2 else -2* z - 1
def nS (k:Nat):dM (M12.st k)=k:=by
 unfold dM M12.st;cases h:k % 2=0
 ·rw[aj3 h,aj3 ∅];ext
 ·rw[ajY h,ajY ∅];ext
def ug (h:dM z=dM y):z=y:=by unfold dM at h;split at h <;> split at h <;> ext
def Rx:Sp:=λa H Q _=>∃z:Int,a=[.int z]/\Q (.int (dM z)) H
def pX (l:Zg):V:=(l.head?.map V.int).getD .non
inductive VX (C:Zs)(vs:Zb)(H:Hp)(Q:VK)(E_:XK):Prop
 |mk (r:Zs)(S:RS)(a:RA)(c:Nat):vs=[↑r,.int c]->ay C H r S a->c<⇑S.gaps->Q (pX (S.gap c)) H->VX C vs H Q E_
def EH:T.ni.Ok P w base 1 Rx:=by
 rwa[T.ni.on EC (λb f a s H d Q E e h=>?_) (len:=by rintro _ _ _ _ ⟨z,rfl,_⟩;rfl)]
 ·let⟨z,rfl,k⟩:=h
  refine⟨_,{bD (aM qd (pv 0) ak (aO _))
   {a9 (aL ig (aL j6 ak (pv 0)) ak)}
   bj,a9 (aL ig (aL j6 (eF dy ak) (pv 0)) ak)},?_⟩
  rwa[iP ?_];intro c;erw[12112212];unfold dM at k;rwa[bK (λh=>?_) (λh=>?_)]
  ·rw[aj3 (ajQ h)]at k;rwa[121122,.inl ⟨44⟩,1122,k]
  ·rw[ajY (λq=>h (ajZ q))]at k;rwa[12121122,.inl ⟨44⟩,1122,k]
def iX:T.gf.Ok mg P w base 1 (VX A.aB):=by
 rwa[T.gf.on lU (λB L n s H J Q E M h=>?_)]
 ·let⟨r,S,a,c,rfl,h,I,k⟩:=h
  erw[_,{tT (cf ajV rfl (XW ((0<<<1)|||1)) (cS 2 lU.nd)
   {a9 (pv 2)}),a9 b9}]
  rwa[iP ?_];intro x;let y:=xF I;let⟨p,C,m⟩:=h.rG.at y;erw[p,.dK (gK (S.gap c)),m,True.intro];rwa[⟨12,r,_,a.dx,112,h.ins,aK T,T.sW,tW^_,12,a.aG,11122,aF.of h.hG,eH C,p,gK (S.gap c),2,m,λo=>?_⟩]
  let back:upd (upd H p (.cL o (.dK (gK (S.gap c))))) p (.dK (gK (S.gap c)))=H:=by
   rw[Qk]
   funext b
   cases u:b=p
   ·rw[u,aj,m]
   ·rw[ao u]
  let' g:Nat->St->Hp->Prop:=λi j l=>j=#v[↑r,.int c,none]/\l=upd H p (.cL o (.dK (gK (S.gap c))))/\i=0
  rwa[T6 (d:=p) (o:=o) (kvs:=gK (S.gap c)) g ⟨222⟩ (λi j l _ q=>[q.2.1]▸aj) ?_ ?_]
  ·rintro i D j l f ⟨rfl,rfl,rfl⟩;dsimp only[cZ];rwa[bB ?_];intro G
   let e:∃z,(S.gap c).head?\z/\kV D.1=.int z:=by
    unfold gK at f;rw[aj0]at f
    cases q:(S.gap c)[0]? with
    |none=>rw[q]at f;ext f
    |some z=>rw[q]at f;erw[z,[List.head?_eq_getElem?]▸q];rw[<-Za0 f];rfl
   let⟨z,F,t⟩:=e;rw[t];erw[12,o,aj];rw[back];have:pX (S.gap c)=.int z:=by unfold pX;rw[F];rfl
   rw[<-this];rwa[k]
  ·rintro j l ⟨rfl,rfl,e⟩;erw[o,aj];rw[back];have:S.gap c=[]:=ak0 (by unfold gK at e;rw[ajD]at e;rwa[e]);let t:pX (S.gap c)=.non:=by rw[this];rfl
   show Q V.non H;rw[<-t];rwa[k]
def eX:Pos:=⟨(167),(29),(167),(57)⟩
def iY:Str:=(PyProof.Rows.envOfC "ByLetters.gap" (az kh) 0 0 .none).qual++"<lambda>"
def Kp (c:Zs)(H a:Hp):Prop:=∀b u,b≠c->H b\u->a b\u
def Kp.trans (c:Kp a H I)(b:Kp a I J):Kp a H J:=λx u n e=>b x u n (c x u n e)
def Kp.same (b:av H I):Kp a H I:=λx u _ e=>b x u e
def _root_.Lake.L2.dG.same {pos:Pos}(h:dG a pos x H)(s:av H I):dG a pos x I:=h.keep λb u e _=>s b u e
def dO (S:RS)(L c:Nat)(z:Int):Prop:=c<S.q/\S.aV[c]?\c/\z∈bL (2* L)/\S.by c z=none
def rk (w c:Nat)(z:Int):Zg:=if w=0 then [(c:Int),dM z] else if w=1 then [dM z,(c:Int)] else [-(c:Int),dM z]
def ib (w:Nat)(S:RS)(L c:Nat)(z:Int):Prop:=dO S L c z/\∀a b,dO S L a b->HT.lexLt (rk w a b) (rk w c z)=false
structure GL (S:RS)(L:Nat):Prop where
 wf:S.Wf
 m:S.q<=100000
 l2:L<=200
 gp:∀c,c<S.q->S.aV[c]?\c->S.gap c=(bL (2* L)).filter λz=>(S.by c z).isNone
inductive kx (C Pt D:Zs)(w:Nat)(vs:Zb)(H:Hp)(Q:VK)(E_:XK):Prop
 |mk (o dx r:Zs)(S:RS)(a:RA)(L:Nat):vs=[↑o,↑r]->H o\.ins D dx []->ay C H r S a->GL S L->dG Pt eX iY H->((∀c z,¬dO S L c z)->∀H',Kp Pt H H'->dG Pt eX iY H'->Q .non H')->(∀(c:Nat)(z:Int),ib w S L c z->∀t H',Kp Pt H H'->dG Pt eX iY H'->H' t\.tup [.int (c:Int),.int z]->Q ↑t H')->kx C Pt D w vs H Q E_
def bU (S:RS):Zh:=(~~~S.q).filter λc=>decide (S.aV[c]?\c)
def fh:n∈bU S↔n<S.q/\S.aV[n]?\n:=by unfold bU;rw[alk,akt];simp
def yT (S:RS):(bU S).Pairwise (·< ·):=List.Pairwise.filter _ amR
def Yt (n:Nat):(bL n).Pairwise λa b=>dM a<dM b:=by unfold bL;rw[alh];rwa[List.Pairwise.imp (λh=>?_) (amR (n:=n))];rw[nS,nS];ext
def HK (pw:l.Pairwise λa b=>dM a<dM b){z:Int}(h:l.head?\z):z∈l/\∀y∈l,dM z<=dM y:=by
 cases l with
 |nil=>ext h
 |cons x l=>
  let e:x=z:=Za0 h;subst e;rwa[⟨ajU,λy c=>?_⟩];rcases ajS.mp c with rfl|c
  ·rwa[Int.le_refl _]
  ·rwa[Int.le_of_lt ((List.pairwise_cons.mp pw).1 y c)]
def GL.head (g:GL S n)(hc:m<S.q)(h:S.aV[m]?\m):(∀z,(S.gap m).head?\z->dO S n m z/\∀y,dO S n m y->dM z<=dM y)/\((S.gap m).head?=none->∀y,¬dO S n m y):=by
 let e:=g.gp m hc h
 let mem:∀y,dO S n m y↔y∈S.gap m:=λy=>by
  rw[e,alk];constructor
  ·rintro ⟨_,_,d,c⟩;rwa[d,by rw[c];rfl]
  ·rintro ⟨d,c⟩;rwa[hc,h,d,by simpa using c]
 let pw:(S.gap m).Pairwise λa b=>dM a<dM b:=by rw[e];rwa[(Yt _).filter _]
 rwa[⟨λz hz=>?_,λi y f=>?_⟩]
 ·let⟨d,c⟩:=HK pw hz;rwa[(mem z).mpr d,λy f=>c y ((mem y).mp f)]
 cbv
def fm (S:RS)(cs:Zh):Option (Nat×Int):=cs.findSome? λc=>(S.gap c).head?.map λz=>(c,z)
def EI (h:fm S B=none):∀c∈B,(S.gap c).head?=none:=λc a=>by
 unfold fm at h;rw[List.findSome?_eq_none_iff]at h;have:=h c a
 cases q:(S.gap c).head? with
 |none=>rfl
 |some z=>cbv
theorem uT {S:RS}:∀{cs:Zh}{c:Nat}{z:Int},fm S cs\(c,z)->∃i:Nat,cs[i]?\c/\(S.gap c).head?\z/\∀j b:Nat,j<i->cs[j]?\b->(S.gap b).head?=none
 |[],_,_,h=>by ext h
 |x::cs,c,z,h=>by
  unfold fm at h;rw[List.findSome?_cons]at h
  cases q:(S.gap x).head? with
  |some y=>
   rw[q]at h;let h:(x,y)=(c,z):=Za0 h;injection h with d a
   subst d a;rwa[(0),2,q,λj b e=>absurd e (Nat.not_lt_zero _)]
  |none=>
   rw[q]at h;let⟨i,d,a,g⟩:=uT (cs:=cs) h;rwa[⟨i+ 1,d,a,λj b e f=>?_⟩]
   cases j with
   |zero=>rw[<-Za0 f];rwa[q]
   |succ j=>exact g j b ∅ f
inductive F7 (C:Zs)(vs:Zb)(H:Hp)(Q:VK)(E_:XK):Prop
 |mk (r l:Zs)(S:RS)(a:RA)(cs:Zh):vs=[↑r,↑l]->ay C H r S a->H l\.lst (au (nI cs))->(∀c∈cs,c<⇑S.gaps)->(fm S cs=none->Q .non H)->(∀(c:Nat)(z:Int),fm S cs\(c,z)->∀t,H t=none->Q ↑t (upd H t (.tup [.int (c:Int),.int z])))->F7 C vs H Q E_
def EJ {cs:Zh}(d:cs[i]?\n)(a:fm S (cs.take i)=none):(∀z,(S.gap n).head?\z->fm S cs\(n,z))/\((S.gap n).head?=none->fm S (cs.take (i+ 1))=none):=by
 let e:cs.take (i+ 1)=cs.take i++[n]:=by rw[List.take_add_one,d];rfl
 constructor
 ·intro z b;let c:cs=cs.take (i+ 1)++cs.drop (i+ 1):=(amh _ _).symm;unfold fm at a ⊢;rw[c,e,akl,List.findSome?_append,a,Option.none_or,al1,List.findSome?_cons,b];rfl
 ·intro b;unfold fm at a ⊢
  cbv
def uU:T.mS.Ok P w base 2 (F7 A.aB):=by
 rwa[T.mS.on oV (λF R n s H O Q E G h=>?_)]
 ·let⟨r,l,S,a,cs,rfl,h,o,N,B,q⟩:=h
  erw[_,{cf ajV rfl (cQ (pv 1)) (cS 2 oV.nd)
   {bF 3 oV.nd (pm (pv 0) (aK T) T.gf (iX T) G #[2]),bD (aM oX (pv 3) b9 (aO _))
    {a9 (bG #[2,3])}
    bj},a9 b9}]
  rwa[iP ?_];intro p;erw[12,l,2,⟨_,aF.of o⟩]
  let' b:Nat->St->Hp->Prop:=λi g k=>∃v m,g=#v[↑r,↑l,v,m]/\k=H/\fm S (cs.take i)=none
  rwa[dJ (xs:=au (nI cs)) b ⟨none,none,222⟩ (λi g k _ ζ=>by let⟨_,_,_,e,_⟩:=ζ;rwa[[e]▸aF.of o]) ?_ ?_]
  ·rintro i x g k I ⟨v,m,rfl,rfl,j⟩;dsimp only[cZ];rwa[vj ?_];intro M J;let⟨z,rfl,D⟩:=cO I
   obtain⟨c,d,rfl⟩:∃c:Nat,cs[i]?\c/\z=(c:Int):=by
    unfold nI at D
    cbv
   let⟨C,L⟩:=EJ d j;erw[12,r,a.dx,12,h.ins,212,r,S,a,c,2,h,N c (ajA d)];erw[12212]
   cases f:(S.gap c).head? with
   |none=>
    let e:pX (S.gap c)=.non:=by unfold pX;rw[f];rfl
    rw[e];rwa[some (.int c),some .non,22,L f]
   |some y=>
    let e:pX (S.gap c)=.int y:=by unfold pX;rw[f];rfl
    rw[e];rwa[1212,Za4 2,λt u=>q c y (C y f) t u]
  ·rintro g k ⟨v,m,rfl,rfl,j⟩;rw[aJ,bO,akR]at j;rwa[B j]
def vO {a a' b b':Int}(h:a<a'\/a'=a/\b<=b'):HT.lexLt [a',b'] [a,b]=false:=by
 rw[HT.hO,HT.hO,HT.jv]
 cbv
def yU {b a:Int}(d:HT.lexLt [y,a] [z,b]=false)(c:HT.lexLt [z,b] [y,a]=false):y=z/\a=b:=by
 rw[HT.hO,HT.hO,HT.jv]at d c
 cbv
def G9 {c:Type}{R:c->c->Prop}{l:List c}(pw:l.Pairwise R){i j:Nat}{a b:c}(d:i<j)(f:l[i]?\a)(h:l[j]?\b):R a b:=by let⟨g,rfl⟩:=ajy.mp f;let⟨e,rfl⟩:=ajy.mp h;rwa[List.pairwise_iff_getElem.mp pw i j g e d]
def DB (g:GL S n)(b:∀c,c∈bU S->c∈B)(h:fm S B=none):∀c z,¬dO S n c z:=λc z a=>(g.head a.1 a.2.1).2 (EI h c (b c (fh.mpr ⟨a.1,a.2.1⟩))) z a
def uV {w:Nat}{cs:Zh}(R:Nat->Nat->Prop)(g:GL S n)(k:∀m,m∈cs↔m∈bU S)(pw:cs.Pairwise R)(r:∀a b,R a b->∀y,HT.lexLt (rk w b y) (rk w a z)=false)(u:∀y,dM z<=dM y->HT.lexLt (rk w m y) (rk w m z)=false)(h:fm S cs\(m,z)):ib w S n m z:=by
 let⟨i,f,p,s⟩:=uT h;let o:=fh.mp ((k m).mp (ajA f));let⟨t,v⟩:=(g.head o.1 o.2).1 z p;rwa[⟨t,λd e c=>?_⟩];let⟨j,l⟩:=akr ((k d).mpr (fh.mpr ⟨c.1,c.2.1⟩));rcases Nat.lt_trichotomy i j with q|q|q
 ·rwa[r m d (G9 pw q f l) e]
 ·cbv
 ·rwa[absurd c ((g.head c.1 c.2.1).2 (s j d q l) e)]
def VY (g:GL S n)(h:fm S (bU S)\(m,z)):ib 0 S n m z:=uV (·< ·) g (λ_=>Iff.rfl) (yT S) (λa b d y=>vO (.inl (by omega))) (λy c=>vO (.inr ⟨rfl,c⟩)) h
def VZ (g:GL S n)(h:fm S (bU S).reverse\(m,z)):ib 2 S n m z:=uV (λa b=>b<a) g (λm=>List.mem_reverse) (List.pairwise_reverse.mpr (yT S)) (λa b d y=>vO (.inl (by omega))) (λy c=>vO (.inr ⟨rfl,c⟩)) h
def tF:T.jZ.Ok mg P w base 3 (kx A.aB A.fe A.di 0):=by
 rwa[T.jZ.on C3 (λv D f s H C Q E k h=>?_)]
 ·let⟨o,G,r,S,a,L,rfl,F,h,g,j,p,n⟩:=h;erw[_,{a9 (pc T.mS (uU T) k #[1,wM (pv 1) (aK T) T.fz (gI T) k])}];rwa[⟨1212,r,a.dx,12,h.ins,2,r,S,a,2,h,g.wf,g.m,λl x=>?_⟩];let d:av H (upd H l (.lst (au (nI (bU S))))):=av.upd x;rwa[⟨r,l,S,a,bU S,2,h.same d,aj,λc B=>[g.wf.g]▸(fh.mp B).1,λy=>p (DB g (λ_ h=>h) y) _ (.same d) (j.same d),λc z q t m=>?_⟩];let i:=av.upd (o:=.tup [.int (c:Int),.int z]) m;rwa[n c z (VY g q) t _ (.same λb u e=>i b u (d b u e)) ((j.same d).same i) aj]
def rF:T.jd.Ok mg P w base 3 (kx A.aB A.fe A.cU 2):=by
 rwa[T.jd.on Az (λC M i s H J Q E m h=>?_)]
 ·let⟨o,O,r,S,a,L,rfl,N,h,g,k,x,v⟩:=h;erw[_,{a9 (pc T.mS (uU T) m #[1,G4 rfl rfl T.km rfl T.Hs #[wM (pv 1) (aK T) T.fz (gI T) m] rfl rfl])}];rwa[⟨1212,r,a.dx,12,h.ins,2,r,S,a,2,h,g.wf,g.m,λl D=>?_⟩];let F:av H (upd H l (.lst (au (nI (bU S))))):=av.upd D;rwa[⟨l,12,aF.of aj,λn f=>?_⟩];let y:=av.upd (o:=.lst (au (nI (bU S))).reverse) f;let d:av H (upd (upd H l (.lst (au (nI (bU S))))) n (.lst (au (nI (bU S))).reverse)):=λb u e=>y b u (F b u e)
  let p:(au (nI (bU S))).reverse=au (nI (bU S).reverse):=by unfold au nI;rw[List.map_reverse,List.map_reverse]
  rwa[⟨r,n,S,a,(bU S).reverse,2,h.same d,by rw[<-p];rwa[aj],λc I=>[g.wf.g]▸(fh.mp (List.mem_reverse.mp I)).1,λG=>x (DB g (λ_ h=>List.mem_reverse.mpr h) G) _ (.same d) (k.same d),λc z B t q=>?_⟩];let j:=av.upd (o:=.tup [.int (c:Int),.int z]) q;rwa[v c z (VZ g B) t _ (.same λb u e=>j b u (d b u e)) ((k.same d).same j) aj]
def kH (S:RS)(cs:Zh):List (Nat×Int):=cs.filterMap λc=>(S.gap c).head?.map λz=>(c,z)
def yV:(n,z)∈kH S B↔n∈B/\(S.gap n).head?\z:=by
 unfold kH;rw[amF];constructor
 ·rintro ⟨b,a,e⟩
  cases q:(S.gap b).head? with
  |none=>rw[q]at e;ext e
  |some y=>cbv
 cbv
def V0 {cs:Zh}(h:cs.Pairwise (·< ·)):(kH S cs).Pairwise λp q=>p.1<q.1:=by
 unfold kH;rwa[List.pairwise_filterMap.mpr (h.imp λ{a b} e p c q d=>?_)]
 cases f:(S.gap a).head? with
 |none=>rw[f]at c;ext c
 |some y=>
  cases g:(S.gap b).head? with
  |none=>rw[g]at d;ext d
  |some x=>rw[f]at c;rw[g]at d;rw[<-Za0 c,<-Za0 d];rwa[e]
def Nx {cs:Zh}(a:cs[i]?\n):kH S (cs.take (i+ 1))=kH S (cs.take i)++((S.gap n).head?.map λz=>(n,z)).toList:=by unfold kH;rw[show cs.take (i+ 1)=cs.take i++[n] by rw[List.take_add_one,a];rfl,List.filterMap_append,List.filterMap_cons,List.filterMap_nil];cases (S.gap n).head? <;> rfl
def V1 (g:GL S n)(h:(kH S (bU S))[i]?\(m,z))(r:∀j d c,(kH S (bU S))[j]?\(d,c)->dM z<=dM c/\(j<i->dM z<dM c)):ib 1 S n m z:=by
 let⟨s,p⟩:=yV.mp (ajA h);let o:=fh.mp s;rwa[⟨((g.head o.1 o.2).1 z p).1,λd c f=>?_⟩];let hd:=g.head f.1 f.2.1
 cases q:(S.gap d).head? with
 |none=>exact absurd f (hd.2 q c)
 |some y=>
  let B:=(hd.1 y q).2 c f;let⟨j,l⟩:=akr (yV.mpr ⟨fh.mpr ⟨f.1,f.2.1⟩,q⟩);let⟨u,t⟩:=r j d y l;rwa[vO (a:=dM z) (b:=(m:Int)) (a':=dM c) (b':=(d:Int)) ?_];cases e:dM z<dM c
  ·rwa[.inl e]
  ·rwa[.inr ⟨35⟩];rcases Nat.lt_trichotomy i j with k|k|k
   ·have:m<d:=G9 (V0 (yT S)) k h l;ext
   ·cbv
   ·have:=t k;ext
def V2 (g:GL S n)(h:kH S (bU S)=[]):∀c z,¬dO S n c z:=λc z a=>by
 let hd:=g.head a.1 a.2.1
 cases q:(S.gap c).head? with
 |none=>exact hd.2 q z a
 |some y=>
  have:=yV.mpr ⟨fh.mpr ⟨a.1,a.2.1⟩,q⟩
  cbv
def nT(Dx:kS mg base):dP P w K mg base (dz P w) 6 A.oD A.kj ["self","rooms"] (kx A.aB A.fe A.bS 1):=by
 rwa[T.ip.F.okT T.lam.code nK (λvs H Q E h=>?_) (λAA outer s H vs Q E hr h=>?_)]
 ·let⟨o,dx,r,S,a,L,rfl,_⟩:=h;rfl
 ·let⟨o,dx,r,S,a,L,rfl,ho,h,g,hT,kn,ks⟩:=h
  erw[_,{qW (iy:=2) nK.nd rfl (Or.inl rfl) (fns:=["rooms"]) (ixs:=[1]) (cl:=_) rfl (cQ (wM (pv 1) (aK T) T.fz (gI T) hr)) (cM [(_,_)] rfl ⟨22222,True.intro⟩ rfl) (λC s H ex=>(aM oX (pm (pv 1) (aK T) T.gf (iX T) hr #[0]) b9 (aO _))) (λC s H ex=>(bG #[0,pm (pv 1) (aK T) T.gf (iX T) hr #[0]])),a9 (Q6 (x:="gap") (k:=2) rfl rfl T.OJ (pv 2) rfl T.lam.hd rfl rfl Dx hr.Za5 () (λ_ _ _ _=>rfl) (λ_ _ _ _ _ _ F5=>x8 (EH T) (F5.mono ⋯) rfl T.ni.m T.ni.F.kp T.ni.b .nil gQ #[aH (mH (K:=K) rfl) (pv 0) ak (λ_ _=>rfl)]) rfl rfl)}]
  rwa[iP ?_];intro eZ;rwa[⟨12,r,a.dx,12,h.ins,2,r,S,a,2,h,g.wf,g.m,λl hl=>?_⟩];let s1:av H (upd H l (.lst (au (nI (bU S))))):=av.upd hl;let J:upd H l (.lst (au (nI (bU S)))) l\(.lst (au (nI (bU S)))):=aj;rw[show ((~~~S.q).filter λc=>decide (S.aV[c]?\c))=bU S from rfl];change upd H l (.lst (au (nI (bU S))))=H1 at s1 J;let h1:=h.same s1;let R:=hT.same s1;let KH:⇑(bU S)<=S.q:=ajO (alI _ _) (by cbv);let hgm:=g.m;let el:⇑(au (nI (bU S)))=⇑(bU S):=by rw[aJ,bO]
  erw[l,2,⟨_,aF.of J⟩];erw[λi m ys Z=>m=⇑(bU S) - i/\i<=⇑(bU S)/\av H1 Z/\∃d:Zn,ys=d.map V.ref/\⇑d<=i/\Each (λt (p:Nat×Int)=>Z t\.tup [.int (p.1:Int),.int p.2]) d (kH S ((bU S).take i)),⟨⇑(bU S),by simp,aj8 _,λ_ _ e=>e,[],2,ajE _,2,λi p x e=>by simp at e⟩];rintro i m ys Z ⟨rfl,hi,G,d,rfl,F8,B⟩;let N:=G^J;let h2:=h1.same G;cases U:i<⇑(bU S)
  ·rwa[.inr ⟨ka (aF.of N) i ∅,[ajD]▸ajJ (ajO F8 (show i<=100000 by omega)) ⋯,λx H3 V3=>?_⟩];let⟨rfl,hx⟩:=i7 (aF.of N) i x H3 ∅ V3;let⟨z,rfl,hz⟩:=cO hx
   obtain⟨c,X,rfl⟩:∃c:Nat,(bU S)[i]?\c/\z=(c:Int):=by
    unfold nI at hz
    cbv
   let pA:c<⇑S.gaps:=by rw[g.wf.g];rwa[(fh.mp (ajA X)).1]
   let et:=Nx (S:=S) X;erw[12,r,a.dx,12,h2.ins,212,r,S,a,c,2,h2,pA,212]
   cases hg:(S.gap c).head? with
   |none=>
    let e:pX (S.gap c)=.non:=by unfold pX;rw[hg];rfl
    rw[e];erw[⇑(bU S) - (i+ 1),32,U,G,d,23];rw[et,hg];simpa using B
   |some y=>
    let e:pX (S.gap c)=.int y:=by unfold pX;rw[hg];rfl
    rw[e];rwa[⟨1212,r,a.dx,12,h2.ins,212,r,S,a,c,2,h2,pA,Za4 2,λt hnt=>?_⟩];let v:=av.upd (o:=.tup [.int (c:Int),pX (S.gap c)]) hnt;erw[⇑(bU S) - (i+ 1),32,U,λb u q=>v b u (G b u q),d++[t],by cbv,by rw[ajC,akJ];ext];rw[et,hg];rwa[(B.imp λp x _ _ q=>v^q).snoc ?_];show upd H3 t _ t=_;rw[aj,e]
  ·let e:i=⇑(bU S):=∅
   subst e;rw[akR]at B;rwa[.inl ⟨by rw[<-el];rwa[hU (aF.of N)],[ajD]▸ajO F8 (ajO (show ⇑(bU S)<=100000 by omega) ⋯),λD hD=>?_⟩];let v:=av.upd (o:=.lst (d.map V.ref)) hD;let hD3:upd Z D (.lst (d.map V.ref)) D\(.lst (d.map V.ref)):=aj;change upd Z D (.lst (d.map V.ref))=H3 at v hD3;let Y:av H H3:=λb u q=>v b u (G b u (s1 b u q))
   rwa[⟨12,D,d.map V.ref,λj=>dM ((kH S (bU S)).getD j (0,0)).2,2,aF.of hD3,(R.same G).same v,λH4 hT4 k4=>⟨λj y M=>?_,λe=>?_,λj y M hb=>?_⟩⟩]
   ·let I:j<⇑(kH S (bU S)):=by rw[<-B.1,<-ajD (f:=V.ref)];rwa[(ajy.mp M).1]
    let⟨t,O,q⟩:=B.at (ajz I);rw[aj0,O]at M;let e:=Za0 M;subst e
    let q4:H4 t=_:=k4 t _ (λz=>by
     let q3:=v^q;rcases (R.same G).same v with w|⟨_,_,_,_,w,_⟩
     ·rw[z,w]at q3;ext q3
     cbv) (v^q)
    rwa[⟨12,t,11122,bu.of q4,21252⟩]
    cbv
   ·have:d=[]:=List.map_eq_nil_iff.mp e;let e2:kH S (bU S)=[]:=ak0 (by rw[<-B.1,this];rfl);rwa[kn (V2 g e2) H4 (λb u n q=>k4 b u n (Y b u q)) hT4]
   ·let I:j<⇑(kH S (bU S)):=by rw[<-B.1,<-ajD (f:=V.ref)];rwa[(ajy.mp M).1]
    let F:=ajz I;change (kH S (bU S))[j]=p at F;let⟨t,O,q⟩:=B.at F;rw[aj0,O]at M;let e:=Za0 M;subst e;let q3:=v^q
    let q4:H4 t=_:=k4 t _ (λz=>by
     rcases (R.same G).same v with w|⟨_,_,_,_,w,_⟩
     ·cbv
     cbv) q3
    let kv:∀{n:Nat}{x:Nat×Int},(kH S (bU S))[n]?\x->dM ((kH S (bU S)).getD n (0,0)).2=dM x.2:=λ{n x} hx=>by cbv
    rwa[ks p.1 p.2 (V1 g F λn c' z' hn=>?_) t H4 (λb u n q=>k4 b u n (Y b u q)) hT4 q4];have:=hb n ([ajD,B.1]▸(ajy.mp hn).1);dsimp only at this;rw[kv F,kv hn]at this;rwa[this]
def V4:Zh:=[114,111,111,109,115]
def NF:Zh:=[108,101,116,116,101,114,115]
def V5:Zh:=[110,101,119,101,115,116]
def New (C:Zs)(H:Hp)(Q:VK):Prop:=∀x d,H x=none->H d=none->d≠x->Q ↑x (upd (upd H d (.own x)) x (.ins C d []))
def KJ (e c d a:Zs):Sp:=λb H Q E=>∃t:Zh,b=[.str (tx t)]/\(t=V4\/t=NF\/t=V5)/\(t=V4->New c H Q)/\(t=NF->New d H Q)/\(t=V5->New a H Q)
def j3 {b:Zh}:(V.str (tx B)=V.str (tx b))↔B=b:=⟨λh=>IC (V.str.inj h),λh=>by rw[h]⟩
def EK:dP P w K mg base (dz P w) 1 A.xa A.xc ["name"] (KJ A.oE A.di A.bS A.cU):=by
 rwa[T.qA.F.UE ED (λf H Q E h=>?_) (λj p a s H f Q E r h=>?_)]
 ·let⟨t,rfl,_⟩:=h;rfl
 ·let⟨t,rfl,m,g,b,n⟩:=h
  erw[_,{bD (aM cV (pv 0) (dA (l:=[114,111,111,109,115]) rfl) (aO _))
   {a9 (vo T.M4 T.M6 T.M5 rfl T.Rl)}
   bj,bD (aM cV (pv 0) (dA (l:=[108,101,116,116,101,114,115]) rfl) (aO _))
    {a9 (vo T.CW T.CZ T.CY rfl T.EB)}
    bj,bD (aM cV (pv 0) (dA (l:=[110,101,119,101,115,116]) rfl) (aO _))
    {a9 (vo T.JX T.JZ T.JY rfl T.MJ)}
    bj,Le}]
  rwa[iQ ?_];intro k o d;erw[12212];rwa[bK (λh=>?_) (λe=>?_)]
  ·rwa[g (j3.mp (ajQ h))]
  erw[12212];rwa[bK (λh=>?_) (λi=>?_)]
  ·rwa[b (j3.mp (ajQ h))]
  erw[12212];rwa[bK (λh=>?_) (λc=>?_)]
  ·rwa[n (j3.mp (ajQ h))]
  rwa[m.elim (λz=>e (ajZ (j3.mpr z))) λq=>q.elim (λz=>i (ajZ (j3.mpr z))) λz=>c (ajZ (j3.mpr z))]
def qP (h:ay a H b S O){d:Zs}{o:HO}(i:H d\o)(k:∀p q f,o≠.ins p q f)(j:∀c,o≠.lst c)(l:∀c,o≠.dK c):¬O.own b d:=λg=>by
 rcases g with q|q|q
 ·have:=h.ins;cbv
 ·let⟨c,e⟩:=h.Ol q;cbv
 ·let⟨c,e⟩:=h.qU q;cbv
def Rz (h:ay a H b S O){p:Zs}{d:Zb}(c:H p\.tup d):¬O.own b p:=qP h c (by cbv) (by cbv) (by cbv)
def RB {C x:Zs}(nx:H x=none)(c:H a=none)(d:a≠x)(k:∀b o,upd (upd H a (.own x)) x (.ins C a []) b\o->b≠x->I b\o)(g:∀b,O.own x b->b=x\/upd (upd H a (.own x)) x (.ins C a []) b=none):av H I/\∀b,O.own x b->H b=none:=by let f:av H (upd (upd H a (.own x)) x (.ins C a [])):=(av.upd c).trans (av.upd ([ao d.symm]▸nx));rwa[λb o e=>k b o (f^e) (aw e nx),λb z=>(g b z).elim (λe=>[e]▸nx) (same_none f)]
def PH (p:Zs)(H a:Hp):Prop:=∀q o,q≠p->H q\o->a q\o
def PH.upd {o:HO}:PH a H (upd H a o):=λq u n e=>[ao n]▸e
def _root_.Lake.L2.fk.but {rs:Zn}{rows:Za3}{w:Zs}(h:fk H rs rows)(b:PH w H I)(c:w∉rs):fk I rs rows:=⟨h.1,λi r ns a d=>b _ _ (λz=>c (by rw[<-z];rwa[ajA a])) (h.2 i r ns a d)⟩
def Ny {rows:Za3}(h:fk H F rows){r:Zs}(c:r∈F):∃d,H r\(.lst (au d)):=by
 let⟨i,b,e⟩:=alu.mp c;let a:i<⇑rows:=by rw[<-h.1];rwa[b]
 rwa[_,h.2 i r _ (by rw[ajz b,e]) (ajz a)]
def _root_.Lake.L2.fk.snoc {rs:Zn}{rows:Za3}{ns:Zg}(h:fk H rs rows)(f:H a\.lst (au ns)):fk H (rs++[a]) (rows++[ns]):=by
 rwa[⟨by rw[ajC,ajC,h.1];rfl,λi q e c b=>?_⟩];cases d:i<⇑rs
 ·rw[ajM d]at c;rw[ajM (by rw[<-h.1];rwa[d])]at b;rwa[h.2 i q e c b]
 ·rw[ajN ∅]at c;rw[ajN (by rw[<-h.1];omega)]at b;rw[ajF.mp (ajA c),ajF.mp (ajA b)];rwa[f]
def cF (S:RS)(k c:Nat):Nat:=(S.by c (M12.st k)).getD 0
inductive xP (C:Zs)(vs:Zb)(H:Hp)(Q:VK)(E_:XK):Prop
 |mk (r:Zs)(S:RS)(a:RA)(Z:Nat->Prop):vs=[↑r]->ay C H r S a->1<=S.L->S.L<=40->S.q<=300->⇑S.ways=S.q->Z 0->(∀c,Z c->c<S.q/\∀k,k<2* S.L->∃d,S.by c (M12.st k)=some d/\Z d)->(∀l N H',av H H'->H l=none->TabAt H' l (M24.yu (cF S) (2* S.L) (M24.cq (cF S) (2* S.L) 0 N))->⇑(M24.cq (cF S) (2* S.L) 0 N)=N->Q ↑l H')->xP C vs H Q E_
def vP (a:List (Key×V))(found:Zh):Prop:=⇑a<=⇑found/\∀c:Nat,bC a (Sum.inl (c:Int))=if c∈found then some (V.int (M24.ix found c:Int)) else none
def vP.one:vP [(Sum.inl 0,.int 0)] [0]:=⟨ajE _,λc=>by
 cases h:c=0
 ·subst h;rfl
 ·rw[ajY (λq=>h (ajF.mp q))];show bC (putK [] (Sum.inl 0) (.int 0)) (Sum.inl (c:Int))=none;rw[jF,ajY (λq=>by injection q with q;omega)];rfl⟩
def vP.put {c:List (Key×V)}{found:Zh}(h:vP c found)(nd:found.Nodup)(hc:n∉found):vP (putK c (Sum.inl (n:Int)) (.int (⇑found:Int))) (found++[n]):=by
 let g:(found++[n]).Nodup:=by rw[akv];rwa[nd,by simp,λa i b j=>by cbv]
 rwa[⟨5,λf=>?_⟩]
 ·have:=dR c (Sum.inl (n:Int)) (.int (⇑found:Int));have:=h.1;rw[ajC,akJ];ext
 rw[jF];cases e:f=n
 ·subst e;rw[aj3 rfl,aj3 (ajI _ ajU),M24.UX hc]
 ·rw[ajY (λq=>e (by injection q with q;omega)),h.2];cases d:f∈found
  ·rw[aj3 d,aj3 (aj4 _ d),M24.JG g d]
  cbv
structure NS (H0 H:Hp)(lf d lr:Zs)(ts:Zn)(kvs:List (Key×V))(found:Zh)(Tb:Za3):Prop where
 same:av H0 H
 f1:H lf\(.lst (au (nI found)))
 d1:H d\(.dK kvs)
 nm:vP kvs found
 r1:H lr\(.lst (ts.map V.ref))
 r2:fk H ts Tb
 un:(lf::lr::ts).Nodup
 new:∀x∈lf::lr::ts,H0 x=none
 dn:H0 d=none
section
variable {H0 H H':Hp}{lf d lr:Zs}{ts:Zn}{kvs:List (Key×V)}{found:Zh}{Tb:Za3}
def NS.more (h:NS H0 H lf d lr ts kvs found Tb)(s:av H H'):NS H0 H' lf d lr ts kvs found Tb:=⟨h.same.trans s,s^h.f1,s^h.d1,h.nm,s^h.r1,h.r2.same s,h.un,h.new,h.dn⟩
def NS.ne (h:NS H0 H lf d lr ts kvs found Tb):lf≠lr/\lf∉ts/\lr∉ts/\ts.Nodup:=by
 let a:=akf.mp h.un
 cbv
def NS.add (h:NS H0 H lf d lr ts kvs found Tb)(nd:found.Nodup){c:Nat}(hc:c∉found):NS H0 (upd (upd H d (.dK (putK kvs (Sum.inl (c:Int)) (.int (⇑found:Int))))) lf (.lst (au (nI found)++[.int (c:Int)]))) lf d lr ts (putK kvs (Sum.inl (c:Int)) (.int (⇑found:Int))) (found++[c]) Tb:=by
 let⟨j,k,n,m⟩:=h.ne;let dl:∀b g,H b\.lst g->b≠d:=λb g e=>cz e h.d1 (by cbv)
 rwa[⟨λb o e=>?_,55,h.nm.put nd hc,5,⟨h.r2.1,λi q ns f l=>?_⟩,h.un,h.new,h.dn⟩]
 ·rw[ao (aw e (h.new lf ajU)),ao (aw e h.dn)];rwa[h.same^e]
 ·rw[aj,iN,ints_app];rfl
 ·rw[ao (akI (dl lf _ h.f1)),aj]
 ·rw[ao (akI j),ao (dl lr _ h.r1)];rwa[h.r1]
 ·let a:=h.r2.2 i q ns f l;rw[ao (λe=>k (by rw[<-e];rwa[ajA f])),ao (dl q _ a)];rwa[a]
def NS.row (h:NS H0 H lf d lr ts kvs found Tb){q:Zs}{row:Zg}(f:H q\.lst (au row))(p:H0 q=none)(c:q∉lf::lr::ts):NS H0 (upd H lr (.lst ((ts++[q]).map V.ref))) lf d lr (ts++[q]) kvs found (Tb++[row]):=by
 let⟨g,k,m,i⟩:=h.ne;simp only[ajS,not_or]at c;let⟨j,l,n⟩:=c;rwa[⟨λb o e=>?_,55,h.nm,aj,55,λx a=>?_,h.dn⟩]
 ·rw[ao (aw e (h.new lr (akc _ ajU)))];rwa[h.same^e]
 ·rw[ao g];rwa[h.f1]
 ·rw[ao (cz h.d1 h.r1 (by cbv))];rwa[h.d1]
 ·rwa[fk.but (w:=lr) (h.r2.snoc f) PH.upd ?_]
  cbv
 ·cbv
 ·rw[<-al1,<-al1]at a;rcases ajK.mp a with a|a
  ·rwa[h.new x a]
  cbv
end
def EL:T.numbered.Ok P w base 2 (xP A.aB):=by
 rwa[T.numbered.on gA (λcy AA outer s H vs Q E hr h=>?_)]
 ·let⟨r,S,a,Z,rfl,hR,oJ,nL,hm,hw,hZ0,hZ,k⟩:=h;let kF:=eG hr
  erw[_,{bF 1 gA.nd (pc T.qz (uQ T) hr #[0<<<1]),bF 2 gA.nd (bY #[ak]),bF 3 gA.nd (Qy (LX ak ak Qx) rfl rfl (by simp) ⋯),bF 4 gA.nd (bY ah),bE (fA ajV (aM j7 (4<<<0) (2<<<0) (aO _))
    {lu (iy:=5) gA.nd rfl (Or.inl rfl) (fns:=["rows","rooms","found"]) (ixs:=[4,0,2]) (cl:=_) rfl (cQ (pv 1)) (cM [(_,_),(_,_),(_,_)] rfl ⟨222222222222222,True.intro⟩ rfl) (λC s H ex=>(pm (pv 2) (aK T) T.iU (iC T) hr #[aH (vi (K:=K) rfl) (pv 3) (bx (Aa (K:=K) rfl) rfl T.cC aj6 #[1]) (λ_ _=>rfl),0])),cf ajV rfl (cQ (pv 5)) (cS 6 gA.nd)
     {bE (bD (mJ (rY kF (pv 6) (pv 3)))
      {jO kF (pv 3) (pv 6) (2<<<0) rfl,bp (df ajL ajW ajX bV (pv 2) #[6])}
      bj)},bp (df ajL ajW ajX bV (pv 4) #[iR (fns:=["numbers"]) (ixs:=[3]) (cl:=_) rfl (cQ (pv 5)) (cM [(_,_)] rfl ⟨22222,True.intro⟩ rfl) (λC s H ex=>(tR kF (pv 1) (pv 0) (λ_ _=>rfl)))])}),a9 (pv 4)}]
  rwa[mX ?_];intro mv kD iV eR eZ;rwa[⟨12,r,_,a.dx,112,hR.ins,aK T,T.sU,wz^_,S.L,2,oJ,3,λsl H1 s1 hs1=>?_⟩];rwa[⟨Za4 1,λu V6=>?_⟩];generalize e_:upd H1 u _=H2;obtain⟨s2,F9⟩:_/\_\(.lst (au (nI [0]))):=du e_ V6;intro d hd;erw[aj,[(Sum.inl 0,.int 0)],2,by show 1<=15;decide];generalize BV:upd (upd H2 d (.dK [])) d _=H3;let hd3:H3 d\(.dK [(Sum.inl 0,.int 0)]):=by rw[<-BV,aj];rfl
  let s3:av H2 H3:=λb o e=>by rw[<-BV,ao (aw e hd),ao (aw e hd)];rwa[e]
  clear BV;rwa[⟨aj8 _,λp V7=>?_⟩];generalize e_:upd H3 p _=H4;obtain⟨s4,hr4⟩:_/\_\(.lst (([]:Zn).map V.ref)):=du e_ V7
  let B4:NS H1 H4 u d p [] [(Sum.inl 0,.int 0)] (M24.cq (cF S) (2* S.L) 0 0) (M24.oO (cF S) (2* S.L) 0 0):=by
   let KL:H2 p=none:=s3.free V7;let e:u≠p:=λz=>by cbv
   rwa[⟨(s2.trans s3).trans s4,(s3.trans s4) _ _ F9,s4^hd3,vP.one,hr4,⟨2,λi r ns h1=>by simp at h1⟩,by simp[e],λx hx=>?_,s2.free hd⟩];simp only[ajS,akn,alJ]at hx;rcases hx with e|e
   ·rw[e];rwa[V6]
   ·rw[e];rwa[s2.free KL]
  clear s2 s3 s4 F9 hd3 hr4 V6 hd V7
  let pA:∀y i,Z y->i<2* S.L->Z (cF S i y):=λy i hy B=>by let⟨d,e1,e2⟩:=(hZ y hy).2 i B;unfold cF;rw[e1];rwa[e2]
  let oZ:∀n,∀z∈M24.cq (cF S) (2* S.L) 0 n,Z z:=M24.ub hZ0 pA;let Y:∀n,⇑(M24.cq (cF S) (2* S.L) 0 n)<=300:=λn=>ajO (M11.lM S.q _ (M24.pC _ _ _ n) λz R=>(hZ z (oZ n z R)).1) hm
  erw[λ fV H'=>∃(N:Nat)(G:Zn)(f:List (Key×V))(v5 M:Zc),fV=#v[↑r,↑sl,↑u,↑d,↑p,v5,M]/\NS H1 H' u d p G f (M24.cq (cF S) (2* S.L) 0 N) (M24.oO (cF S) (2* S.L) 0 N)/\⇑(M24.cq (cF S) (2* S.L) 0 N)=N,5]
  ·erw[λm σ H'=>∃(n:Nat)(G:Zn)(f:List (Key×V))(v5 M:Zc),m=300 - n/\σ=#v[↑r,↑sl,↑u,↑d,↑p,v5,M]/\NS H1 H' u d p G f (M24.cq (cF S) (2* S.L) 0 n) (M24.oO (cF S) (2* S.L) 0 n)/\n<=⇑(M24.cq (cF S) (2* S.L) 0 n),⟨_,(0),[],_,none,none,22,B4,aj8 _⟩];rintro m σ H5 ⟨n,G,f,v5,M,rfl,rfl,O,hn⟩;let hop:=Y n
   let U:⇑G=n:=by rw[O.r2.1];unfold M24.oO;rw[ajD,ake];ext
   erw[12,p,12,.inl (aF.of O.r1),12,u,12,.inl (aF.of O.f1),112212];rwa[bK (λh=>?_) (λh=>?_)]
   ·let o6:n<⇑(M24.cq (cF S) (2* S.L) 0 n):=by let h':(⇑(G.map V.ref):Int)<(⇑(au (nI (M24.cq (cF S) (2* S.L) 0 n))):Int):=ajQ h;rw[aJ,bO,ajD,U]at h';ext
    clear h;let F:=ajz o6;change (M24.cq (cF S) (2* S.L) 0 n)[n]=c at F;let V8:=oZ n c (ajA F);let hcm:=(hZ c V8).1;erw[_,λ fV H' h=>h];let R5:ay A.aB H5 r S a:=hR.same (s1.trans O.same);let D:=O.same^hs1;erw[12,sl,2,⟨_,aF.of D⟩];rwa[jN (au ((~~~(2* S.L)).map M12.st)) (λv=>match v with|.int z=>.int (((S.by c z).getD 0:Nat):Int)|v=>v) (ka (aF.of D)) (i7 (aF.of D)) (hU (aF.of D)) ([aJ,ajD,akG]▸ajO (show 2* S.L<=1000 by omega) ⋯) (λi v hv Rr J=>?_) (λlo V9=>?_)]
    ·let⟨z,rfl,R⟩:=cO hv
     let B:i<2* S.L:=by have:=(ajy.mp R).1;rw[ajD,akG]at this;rwa[this]
     let ez:M12.st i=z:=Za0 ((tf B).symm.trans R);let⟨dd,e1,e2⟩:=(hZ c V8).2 i B;rw[ez]at e1;erw[12,r,a.dx,12,R5.ins,da _ _ _ ⋯,1212,p,12,.inl (aF.of O.r1),u,11122,aF.of O.f1,([ajD,U]▸b6 (bQ (eU F))),12,r,S,a,c,z,2,R5,[hw]▸hcm]
     cbv
    let eo:(au ((~~~(2* S.L)).map M12.st)).map (λv=>match v with|.int z=>V.int (((S.by c z).getD 0:Nat):Int)|v=>v)=au (nI ((~~~(2* S.L)).map λi=>cF S i c)):=by unfold au nI;rw[aki,aki,aki,aki];rfl
    rw[eo];clear eo;generalize e_:upd H5 lo _=H6;let⟨s6,ho6⟩:=du e_ V9;let n1:lo≠u:=λz=>by rw[z,O.f1]at V9;ext V9
    let Us:∀i,i<2* S.L->((~~~(2* S.L)).map λi=>cF S i c)[i]?\(cF S i c):=λi B=>by rw[aj0,amv B];rfl
    erw[12,lo,2,⟨_,aF.of ho6⟩];rwa[dJ (xs:=au (nI ((~~~(2* S.L)).map λi=>cF S i c))) (λi σ X=>∃(f:List (Key×V))(M:Zc),σ=#v[↑r,↑sl,↑u,↑d,↑p,↑lo,M]/\NS H1 X u d p G f (M24.kT (cF S) c (M24.cq (cF S) (2* S.L) 0 n) i) (M24.oO (cF S) (2* S.L) 0 n)/\X lo\.lst (au (nI ((~~~(2* S.L)).map λi=>cF S i c)))) ⟨f,M,2,O.more s6,ho6⟩ (λi σ X _ ζ=>by let⟨_,_,_,_,h⟩:=ζ;rwa[aF.of h]) ?_ ?_]
    ·rintro i y σ X B ⟨f,M,rfl,g,l⟩
     let Wa:i<2* S.L:=by have:=(ajy.mp B).1;rw[aJ,bO,ajD,akG]at this;rwa[this]
     rw[bQ (eU (Us i Wa))]at B;let ey:=Za0 B;subst ey
     let PB:⇑(M24.kT (cF S) c (M24.cq (cF S) (2* S.L) 0 n) i)<=300:=ajO (M11.lM S.q _ (M24.ua (M24.pC _ _ _ n) i) λz R=>by
      rcases M24.kU.mp R with q|⟨j,hj,rfl⟩
      ·rwa[(hZ z (oZ n z q)).1]
      ·rwa[(hZ _ (pA c j V8 (by omega))).1]) hm
     let hnd:(M24.kT (cF S) c (M24.cq (cF S) (2* S.L) 0 n) i).Nodup:=M24.ua (M24.pC _ _ _ n) i;let Wb:=M24.oq (cF S) c (M24.cq (cF S) (2* S.L) 0 n) i;change M24.kT (cF S) c (M24.cq (cF S) (2* S.L) 0 n) i=come at Wb g PB hnd;rw[Wb];clear Wb;change cF S i c=o;rwa[⟨15,λ_ _ h=>h⟩];erw[1212,d,12,dv.k (k:=Sum.inl (o:Int)) g.d1,12];rw[g.nm.2 o];cases L:o∈come
     ·rw[aj3 L];rwa[b8 ⟨f,125,l⟩];unfold M24.add;rw[aj3 L];rwa[g]
     ·rw[ajY L];rwa[dg ?_];let B8:=g.add hnd L;let acK:(⇑(au (nI come)):Int)=(⇑come:Int):=by rw[aJ,bO]
      erw[12,u,12,.inl (aF.of g.f1),1212,d,12,kb.k (k:=Sum.inl (o:Int)) g.d1 (ajJ (show ⇑f<=300 by have:=g.nm.1;omega) ⋯)];let hfd:upd X d (.dK (putK f (Sum.inl (o:Int)) (.int (⇑(au (nI come)):Int)))) u\(.lst (au (nI come))):=by rw[ao (cz g.f1 g.d1 (by cbv))];rwa[g.f1]
      erw[12,.inl ⟨21,aF.of hfd⟩,12,u,1122,hfd,5]
      ·rw[aJ,bO];rwa[ajJ PB ⋯]
      rw[acK];erw[putK f (Sum.inl (o:Int)) (.int (⇑come:Int)),125]
      ·unfold M24.add;rw[ajY L];rwa[B8]
      ·rw[ao n1,ao (cz l g.d1 (by cbv))];rwa[l]
    ·rintro σ X ⟨f,M,rfl,g,l⟩;rw[aJ,bO,ajD,akG,<-M24.iS F]at g;let ah9:=Y (n+ 1);let⟨t,ht⟩:=M24.Ca (cF S) (2* S.L) 0 n;let zN:n+ 1<=⇑(M24.cq (cF S) (2* S.L) 0 (n+ 1)):=by rw[ht,ajC];ext
     let hin:∀i,i<2* S.L->cF S i c∈M24.cq (cF S) (2* S.L) 0 (n+ 1):=λi B=>by rw[M24.iS F];rwa[M24.kU.mpr (.inr ⟨i,B,2⟩)]
     erw[12,.inl ⟨21,aF.of g.r1⟩,12,lo,2,⟨_,aF.of l⟩];rwa[jN (au (nI ((~~~(2* S.L)).map λi=>cF S i c))) (λv=>match v with|.int z=>.int ((M24.ix (M24.cq (cF S) (2* S.L) 0 (n+ 1)) z.toNat:Nat):Int)|v=>v) (ka (aF.of l)) (i7 (aF.of l)) (hU (aF.of l)) ([aJ,bO,ajD,akG]▸ajO (show 2* S.L<=1000 by omega) ⋯) (λi v hv Rr J=>?_) (λlq I=>?_)]
     ·let⟨z,rfl,R⟩:=cO hv
      let B:i<2* S.L:=by have:=(ajy.mp R).1;rw[bO,ajD,akG]at this;rwa[this]
      let ez:((cF S i c:Nat):Int)=z:=Za0 ((eU (Us i B)).symm.trans R);subst ez;let J:Rr (.int ((M24.ix (M24.cq (cF S) (2* S.L) 0 (n+ 1)) (((cF S i c:Nat):Int)).toNat:Nat):Int)) X:=J;rw[aka]at J;rwa[⟨1212,d,125,J⟩];have:=dv.k (k:=Sum.inl ((cF S i c:Nat):Int)) g.d1;rw[g.nm.2,aj3 (hin i B)]at this;rwa[this]
     let eo:(au (nI ((~~~(2* S.L)).map λi=>cF S i c))).map (λv=>match v with|.int z=>V.int ((M24.ix (M24.cq (cF S) (2* S.L) 0 (n+ 1)) z.toNat:Nat):Int)|v=>v)=au ((~~~(2* S.L)).map λi=>((M24.ix (M24.cq (cF S) (2* S.L) 0 (n+ 1)) (cF S i c):Nat):Int)):=by unfold au nI;rw[aki,aki,aki,aki];rfl
     rw[eo];clear eo;generalize e_:upd X lq _=H8;let⟨s8,hq8⟩:=du e_ I
     let nq:lq∉u::p::G:=by
      simp only[ajS,not_or];rwa[⟨λz=>?_,λz=>?_,λz=>?_⟩]
      ·rw[z,g.f1]at I;ext I
      ·rw[z,g.r1]at I;ext I
      ·let⟨ns,e⟩:=Ny g.r2 z
       cbv
     let B8:=(g.more s8).row hq8 (g.same.free I) nq;rw[<-M24.JH F]at B8;erw[p,1122,s8^g.r1,5]
     ·rw[ajD,U];rwa[ajJ (show n<=300 by omega) ⋯]
     rw[akd]at B8;rwa[300 - (n+ 1),3,n+ 1,G++[lq],f,1122,B8,zN]
   ·erw[n,G,f,112,O];let h':¬(⇑(G.map V.ref):Int)<(⇑(au (nI (M24.cq (cF S) (2* S.L) 0 n))):Int):=λq=>h (ajZ q)
    rw[aJ,bO,ajD,U]at h';ext
  rintro fV H' ⟨N,G,f,v5,M,rfl,B',hN⟩;rwa[⟨12,k p N H' (s1.trans B'.same) (s1.free (B'.new p (akc _ ajU))) ⟨G,B'.r1,5⟩ hN⟩];rw[<-M24.MF hN];rwa[B'.r2]
inductive KP (K:Za1)(vs:Zb)(H:Hp)(Q:VK)(E_:XK):Prop
 |mk (a:Zs)(ns:Zg)(k:Nat):vs=[↑a,.int k]->aF K H a (au ns)->k<=1000->(∀z,Q (.int z) H)->KP K vs H Q E_
def bA:T.bH.Ok P w base 1 (KP K):=by
 rwa[T.bH.on xt (λe o b s H j Q E l h=>?_)]
 ·let⟨a,c,n,rfl,d,m,k⟩:=h
  refine⟨_,{bD (aM j7 (pv 1) (0<<<0) (aO _))
   {a9 (0|||1)}
   bj,a9 ak},?_⟩
  rwa[iP ?_];intro i;erw[1212,a,12,.inl d,112212];rwa[bK (λh=>?_) (λh=>?_)]
  ·let g:(n:Int)<(⇑(au c):Int):=ajQ h;rw[aJ]at g;let f:c[n]?=some c[n]:=ajz ∅
   rwa[1212,a,11122,d,b6 (bQ f),k _]
  ·rwa[k _]
def RC:Sp:=λa H Q _=>∃n:Int,a=[.int n]/\Q (.bl true) H
def fi:T.fw.Ok P w base 1 RC:=by
 rwa[T.fw.on Ay (λb e a s H c Q E d h=>?_) (len:=by rintro _ _ _ _ ⟨n,rfl,_⟩;rfl)]
 ·let⟨n,rfl,k⟩:=h;erw[_,{a9 (j5 (bx jE rfl T.fG akC #[0,kJ (v:=.ty "int") rfl T.OL PyProof.Rows.boot_int rfl]) (rQ (Sf (bx jE rfl T.fG akC #[0,kJ (v:=.ty "bool") rfl T.UY PyProof.Rows.boot_bool rfl]))))}];rwa[⟨1211112,.int n,kM K "int",12,dg ?_⟩];rwa[1211112,.int n,Bd K,12,k]
structure CS (CR CG CC:Zs)(H:Hp)(x r:Zs)(q:KA)(S:RS)(a:RA)(R:Za2)(ks:Zg)(B:Nat)(rs ps:Za3)(fp:List (Zg×Nat))(bs:List (Nat×Zg×Nat))(gs:Zf)(ag:Zh)(W:bN)(O:Zs->Prop):Prop where
 c:cJ CG CC H x r q gs ag W ⇑S.bz fp O
 q:H q.aQ\(.dT (jj fp))
 rm:jl CR H r S a R ks B
 dj:∀b,a.own r b->¬O b
 ci:CI S bs gs ag W gy none
 bo:Du (rs++ps) ⇑rs ks bs
 pl:yQ rs fp
 br:∀b∈bs,b.2.2<S.q
 ra:∀w∈rs,w≠[]->∀c,c<S.q->S.ax c=c->∃n,(n,w,c)∈bs
 pa:∀w∈ps,w≠[]->∃n,(n,w,0)∈bs
 ln:⇑bs<=S.q* ⇑fp+ ⇑ps
 wb:∀u∈rs++ps,⇑u<=1000/\∀z∈u,(-1000<=z/\z<=1000)/\z∈ks/\-z∈ks
def CS.Wc {CR x:Zs}{q:KA}{rs o:Za3}{p:List (Zg×Nat)}{bs:List (Nat×Zg×Nat)}{gs:Zf}{W:bN}{d:Zs->Prop}(h:CS CR a b H x c q S O R l n rs o p bs gs [] W d)(r:0<S.q):vn rs o S:=by
 rwa[⟨λw j g hc m=>?_,λw j=>?_⟩]
 ·cases i:w=[]
  ·rw[i];rwa[.inl rfl]
  ·let⟨e,k⟩:=h.ra w j i g hc m;rwa[ends (b:=(e,w,g)) h.ci h.rm.g k m]
 ·cases i:w=[]
  ·rw[i];rwa[.inl rfl]
  ·let⟨e,k⟩:=h.pa w j i;rwa[ends (b:=(e,w,0)) h.ci h.rm.g k (by have:=(h.rm.g.el 0 r).1;rwa[Nat.le_zero.mp this])]
inductive Ga (CR CG CC:Zs)(vs:Zb)(H:Hp)(Q:VK)(E_:XK):Prop
 |mk (x r:Zs)(q:KA)(S:RS)(a:RA)(R:Za2)(B:Nat)(rs ps:Za3)(fp:List (Zg×Nat))(bs:List (Nat×Zg×Nat))(gs:Zf)(W:bN)(O:Zs->Prop)(c:Nat)(z:Int):vs=[↑x,.int c,.int z]->CS CR CG CC H x r q S a R (bL (2* S.L)) B rs ps fp bs gs [] W O->1<=S.L->S.L<=200->c<S.q->S.ax c=c->S.by c z=none->z∈bL (2* S.L)-> -z∈bL (2* S.L)->S.q<1000->(S.q+ 1)* ⇑fp+ ⇑ps<=700->B<800000->⇑S.bz+ S.stand<=800000->(∀S' a' R' bs' jr W' O' B' H',(∀b o,¬O b->¬a.own r b->H b\o->H' b\o)->CS CR CG CC H' x r q S' a' R' (bL (2* S.L)) B' rs ps fp bs' jr [] W' O'->(∀b,a'.own r b\/O' b->a.own r b\/O b\/H b=none)->Tr (rs++ps) ⇑rs (S.make c z (bL (2* S.L))) S'->S'.q=S.q+ 1->S'.L=S.L->B'<=B+ 702->Q .non H')->Ga CR CG CC vs H Q E_
def xQ:T.nk.Ok mg P w base 9 (Ga A.aB A.aY A.aI):=by
 rwa[T.nk.on xA (λcy AA outer s H vs Q E hr h=>?_)]
 ·let⟨x,r,q,S,a,R,B,rs,ps,i,bs,gs,W,O,c,z,rfl,h,oJ,nL,hc,ec,d,hz,D,hm,Dy,hB,hwn,k⟩:=h
  refine⟨_,{bp (pm (pv 0) (aS T) T.fK (jt T) hr #[pm (0<<<1) (aK T) T.qH (AF T) hr #[1,2]]),bp (pm (pv 0) (aS T) T.fF (gn T) hr #[1,2]),bp (wM (pv 0) (aS T) T.jc (mw T) hr)},?_⟩
  rwa[dE ?_];intro eR eZ;let l:=h.rm.g;let rb:=h.rm.rb;let ok:=zQ l h.rm.k ∅ (by have:=h.rm.l;omega) ∅ ∅;rwa[⟨12,x,q.dx,12,h.c.ins,fN ⋯,12,x,_,q.dx,112,h.c.ins,aS T,T.fI,gC^_,r,a.dx,12,h.rm.at_.ins,da _ _ _ ⋯,1212,r,S,a,c,z,2,h.rm.at_,l.wf,oJ,nL,hc,33,ok.sm.w,λa1 H1 V mn X=>?_⟩];let oth:∀b,O b->∃o,H b\o:=λb y=>by let⟨o,e,_⟩:=h.c.th b y;rwa[o,e]
  let tno:∀b Z,H b\.tup Z->H1 b\(.tup Z):=λb Z e=>V b _ (λy=>Rz h.rm.at_ e y) e
  let c1:=h.c.keep (λb o y e=>V b o (λw=>h.dj b w y) e) tno;let q1:H1 q.aQ=_:=V _ _ (yR h.rm.at_ h.q) h.q;let ci1:=h.ci.make l hc ec d h.br (bL (2* S.L))
  let Y:∀b,a1.own r b->¬O b:=λb y w=>by
   rcases X b y with v|v
   ·rwa[h.dj b v w]
   cbv
  let Px:⇑bs+ ⇑i<=700:=by have:=h.ln;rw[amY,Nat.one_mul]at Dy;ext
  rwa[⟨x,r,q,S.make c z (bL (2* S.L)),bs,gs,[],W,⇑S.bz,i,O,_,S.q,2,c1,q1,ci1,λp hp=>?_,akZ _,3,aj8 _,λf j L H2 u Py G c2 J KD=>?_⟩]
  ·have:=h.wb p.1 (aj4 _ (ajA (h.pl.a p hp)));rwa[this.1,λy hy=>(this.2 y hy).1]
  let bl:=qO S.q i;let l2:⇑(bs++gX i S.q)<=700:=by rw[ajC];ext
  let bo2:Du (rs++ps) ⇑rs (bL (2* S.L)) (bs++gX i S.q):=by
   let nw:∀b∈gX i S.q,(rs++ps)[b.1]?\b.2.1/\b.1<⇑rs:=λb d=>by
    let⟨p,hp,d⟩:=alb.mp d;let⟨rfl,_⟩:=xO d;let h1:=h.pl.a p hp
    cbv
   rwa[⟨λb d=>?_,λb d=>?_,λb d=>?_,λb d=>?_,3⟩]
   ·rwa[(ajK.mp d).elim (h.bo.w b) λy=>(nw b y).1]
   ·rwa[(ajK.mp d).elim (h.bo.n b) λy=>.inl (nw b y).2]
   ·rwa[(ajK.mp d).elim (h.bo.l b) λy=>(h.wb _ (ajA (nw b y).1)).1]
   ·rwa[(ajK.mp d).elim (h.bo.k b) λy z' D=>((h.wb _ (ajA (nw b y).1)).2 z' D).2]
  let g2:⇑f<=700:=by rw[J.len];rwa[l2]
  let Kt:lW A.aY A.aI (S.make c z (bL (2* S.L))) (bs++gX i S.q) f W (λr s=>r=c/\s=z) (⇑j+ 2* ⇑f) x r q ⇑S.bz i L H2 j W:=⟨c2,J,λ_ _ _ z=>z,by have:=J.two;ext⟩;rwa[⟨12,x,q.dx,12,c2.ins,fN ⋯,1212,x,r,q,f,j,W,⇑S.bz,i,L,c,z,2,c2,Kt.fits ∅,λns H3 t nd3 Wd c3=>?_⟩];let N:=Kt.wake nd3 Wd c3;let VA:CI (S.make c z (bL (2* S.L))) (bs++gX i S.q) f (j++ns) (gP W c z) gy none:=N.i.ex λr' s' n' w' _ e=>absurd ⟨akK Nat.cast e.1,e.2⟩ (dF.mp w').2
  let dj2:∀b,a1.own r b->¬L b:=λb y w=>by
   rcases G b w with v|v
   ·rwa[Y b y v]
   ·let⟨o,e⟩:=mn.there y;cbv
  let rm1:jl A.aB H1 r (S.make c z (bL (2* S.L))) a1 (fb R c z S.q) (bL (2* S.L)) (B+ 2):=by
   let es:=G8 (c:=c) (z:=z) (g:=bL (2* S.L)) l.wf;let M:(S.make c z (bL (2* S.L))).bz=S.bz:=rfl;rwa[⟨mn,l.make hc ec d _,zI h.rm.w l.wf _ _ _,λa y b e=>?_,by show S.q+ 1<=_;ext,h.rm.l,5,by rw[M];ext⟩]
   ·rcases e with e|⟨_,e,_⟩|⟨_,e,_⟩
    ·rwa[h.rm.k _ _ _ e]
    ·rw[e];rwa[hz]
    ·rw[e];rwa[D]
   ·show ⇑(S.rows++[_])+ _<=_;rw[ajC,es];show ⇑S.rows+ 1+ _<=_;ext
  let rm3:=(rm1.keep (λb o y e=>u b o (Y b y) e) (λb Z e=>u b _ (c1.jB e) e)).keep (λb o y e=>t b o (dj2 b y) e) (λb Z e=>t b _ (c2.jB e) e);let lv:live f<=700:=ajO List.countP_le_length g2;let hmul:live f* (2* ⇑(bs++gX i S.q)+ 1)<=700* 1401:=amr lv ∅;let hag:⇑(j++ns)<=2100:=by have:=N.b;ext
  rwa[⟨12,x,q.dx,12,c3.ins,fN ⋯,x,r,q,S.make c z (bL (2* S.L)),a1,fb R c z S.q,bL (2* S.L),B+ 2,rs++ps,⇑rs,bs++gX i S.q,f,j++ns,gP W c z,i,L,2,c3,rm3,3,dj2,VA,bo2,3,λS' a' R' jr W' O' B' H' f' c' r' ow oo dj' ci' rr em eL tr BQ=>?_⟩];let I:S'.q=S.q+ 1:=em
  let out:∀{b o},¬O b->¬a.own r b->H b\o->H' b\o:=λ{b o} C F e=>by
   let U:=V b o F e;let e2:=u b o C U;let n3:¬L b:=λy=>(G b y).elim C λv=>by cbv
   rwa[f' b o n3 (λy=>(X b y).elim F λv=>by cbv) (t b o n3 e2)]
  let non:∀b,a1.own r b\/L b\/H3 b=none->a.own r b\/O b\/H b=none:=λb y=>by
   cases F:a.own r b
   ·rwa[.inl F]
   cases C:O b
   ·rwa[.inr (.inl C)]
   rwa[.inr (.inr ?_)]
   cases e:H b with
   |none=>rfl
   |some o=>
    exfalso
    let U:=V b o F e;let n3:¬L b:=λy=>(G b y).elim C λv=>by cbv
    rcases y with y|y|y
    ·cbv
    ·rwa[n3 y]
    ·rw[t b o n3 (u b o C U)]at y;ext y
  let lt:=Later.of l (l.make hc ec d (bL (2* S.L))) jH (amT _);let lt2:=Later.of rm1.g r'.g rr (amy em.symm);let el1:∀b,b<S.q->(S.make c z (bL (2* S.L))).ax b=S.ax b:=λb o6=>(fZ l.wf c z (bL (2* S.L)) b).trans (ajY ∅)
  rwa[k S' a' R' (bs++gX i S.q) jr W' O' B' H' (λb o C F e=>out C F e) ⟨c',out (h.c.Kl h.q) (yR h.rm.at_ h.q) h.q,r',dj',ci',bo2,h.pl,λb d=>?_,λw M m b d eb=>?_,λw M m=>?_,5,h.wb⟩ (λb y=>?_) tr I (eL.trans rfl) ∅]
  ·rw[I];rcases ajK.mp d with y|y
   ·have:=h.br b y;ext
   ·let⟨p,_,d⟩:=alb.mp y;let⟨rfl,_⟩:=xO d;rwa[akZ _]
  ·cases e:b<S.q
   ·let U:=lt2.el b (by show b<S.q+ 1;omega);rw[el1 b e,eb]at U;let l1:=(l.el b e).1;let l2:=(r'.g.el (S.ax b) ∅).1;let⟨n,hn⟩:=h.ra w M m b e ∅
    cbv
   ·let e:b=S.q:=∅
    subst e;let⟨n,hn⟩:=h.pl.b w M;rwa[n,ajI _ (alb.mpr ⟨(w,n),hn,HJ m⟩)]
  ·let⟨n,hn⟩:=h.pa w M m
   cbv
  ·have:=h.ln;rw[ajC,I,amY,Nat.one_mul];ext
  cbv
def AX:yr K A.bI:=⟨T.Hz,T.HB,T.HC,T.HD,T.HF,T.HG⟩
def DC (n:Nat)(l:Zs):List (Str×V):=[("made",.int n),("rows",↑l)]
inductive PL (C:Zs)(vs:Zb)(H:Hp)(Q:VK)(E_:XK):Prop
 |mk (x l:Zs)(n:Nat)(xs:Zb):vs=[↑x,.int n,↑l]->H x\XO x C none true->n<100000->H l\.lst xs->⇑xs<=1000000->(∀d l2 H',H d=none->H l2=none->d≠x->(∀b o,b≠x->H b\o->H' b\o)->H' x\XO x C (some d) true->H' d\XD d (DC n l2)->H' l2\.lst xs->l2≠x->Q .non H')->PL C vs H Q E_
def rO:T.eJ.Ok mg P w base 1 (PL A.bI):=by
 rwa[T.eJ.on rL (λL Y C s H X Q E Z h=>?_)]
 ·let⟨x,l,n,N,rfl,u,hn,F,I,k⟩:=h
  refine⟨_,{bp (MD (FK T.xr T.eJ.m.at_) ⟨T.ach,T.aci,T.acj⟩ rfl T.EA #[0,IL (Fo (QB (pv 1)) (Fo (dA (l:=[32,114,111,111,109,115,32,119,101,114,101,32,109,97,100,101,44,32,97,110,100,32,116,104,101,114,101,32,97,114,101,32,103,97,112,115,32,108,101,102,116]) rfl) Tz)) rfl] (by decide) rfl rfl rfl),FE (pv 0) (pv 1) rfl,FE (pv 0) (fX (Ba) rfl T.km ald #[2]) rfl},?_⟩
  rwa[dE ?_];intro S J;let U:=LR (n:=(n:Int)) ∅ ∅;erw[1212,(n:Int),2312,by show 0+ _<=1000000;ext,1255,x,none,12,u]
  ·rw[amc];let e:∀m:Nat,m<=100->⇑(Bg (n:Int))+ m<=1000000:=λm O=>∅
   rwa[e _ ⋯]
  ·rw[amc,ajC];let e:∀m:Nat,m<=100->⇑(Bg (n:Int))+ m<=1000000:=λm O=>∅
   rwa[e _ ⋯]
  rwa[⟨1212,x,A.bI,none,true,2,u,AX T,T.FP,λd p=>?_⟩];let a:d≠x:=(aw u p).symm;let c:upd (upd H d (XD d [("made",V.int n)])) x (XO x A.bI (some d) true) x\(XO x A.bI (some d) true):=aj;let g:upd (upd H d (XD d [("made",V.int n)])) x (XO x A.bI (some d) true) d\(XD d [("made",V.int n)]):=by rw[ao a,aj]
  let B:∀b o,b≠x->H b\o->upd (upd H d (XD d [("made",V.int n)])) x (XO x A.bI (some d) true) b\o:=λb o v e=>by rw[ao v,ao (aw e p)];rwa[e]
  let v:∀b,upd (upd H d (XD d [("made",V.int n)])) x (XO x A.bI (some d) true) b=none->H b=none:=λb e=>by
   cases q:b=x
   ·cbv
   ·rw[ao q]at e;cases G:b=d
    ·rw[G];rwa[p]
    ·rw[ao G]at e;rwa[e]
  change upd (upd H d (XD d [("made",V.int n)])) x (XO x A.bI (some d) true)=M at c g B v ⊢;let D:l≠x:=cz F u f!"";rwa[⟨12,l,N,2,.inl (aF.of (B _ _ D F)),λi f=>?_⟩];generalize R:upd M i _=H2;let⟨t,y⟩:=du R f;let j:i≠x:=(aw c f).symm;let r:i≠d:=(aw g f).symm;erw[12,x,A.bI,some d,true,2,t^c,AX T,T.FQ,_,a,t^g,by show 1<1000;decide];rw[show bT "rows" (V.ref i) [("made",V.int n)]=DC n i from eI (by kernel_rfl)];rwa[k d i _ p (v _ f) a (λb o q e=>?_) ?_ aj ?_ j]
  ·rw[ao (aw e p)];rwa[t^B b o q e]
  ·rw[ao a.symm];rwa[t^c]
  ·rw[ao r];rwa[y]
inductive Fl (rs ps:Za3)(L w lim:Nat):RS->Prop
 |start {S:RS}:Tr (rs++ps) ⇑rs (RS.new L (bL (2* L))) S->vn rs ps S->Fl rs ps L w lim S
 |next {S S':RS} {c:Nat} {z:Int}:Fl rs ps L w lim S->S.q<lim->ib w S L c z->Tr (rs++ps) ⇑rs (S.make c z (bL (2* L))) S'->vn rs ps S'->Fl rs ps L w lim S'
def KQ (L:Nat)(u:Zg):Prop:=⇑u<=1000/\∀z∈u,z≠0/\z.natAbs<=L
def tG (d:n<=200){u:Zg}(h:KQ n u):⇑u<=1000/\∀z∈u,(-1000<=z/\z<=1000)/\z∈bL (2* n)/\-z∈bL (2* n):=by rwa[⟨h.1,λz c=>?_⟩];let⟨b,a⟩:=h.2 z c;rwa[3,iD.mpr ⟨b,a⟩,iD.mpr ⟨33⟩]
def pY (h:S.aV[n]?\n):S.ax n=n:=by unfold RS.ax;rw[ajH,h];rfl
def Fl.ys {rs a:Za3}{w:Nat}(h:Fl rs a n w m S)(b:∀u∈rs++a,∀z∈u,z∈bL (2* n)/\-z∈bL (2* n)):∃R,YS S n (bL (2* n)) R:=by
 induction h with
 |start t _=>let⟨R,y,_⟩:=YS.new.tr t b;rwa[R,y]
 |next _ _ l t _ i=>let⟨R,y⟩:=i;let⟨f,d,c,e⟩:=l.1;let⟨k,o⟩:=iD.mp c;let⟨j,g,_⟩:=(y.make f (pY d) e c (iD.mpr ⟨33⟩)).tr t b;rwa[j,g]
def _root_.Lake.L2.YS.gl (y:YS S n (bL (2* n)) R)(a:S.q<=100000)(d:n<=200):GL S n:=⟨y.g.wf,a,d,λc hc b=>y.gi.fin y.g (J0 _) hc (pY b)⟩
def Kp.at {pos:Pos}(k:Kp a H I)(t:dG a pos x H){b:Zs}{u:HO}(e:H b\u)(n:∀c,u≠.fU c):I b\u:=k b u (λz=>by
 rcases t with w|⟨_,_,_,_,w,_⟩
 ·cbv
 cbv) e
def PN (S:RS)(L w:Nat)(H:Hp)(v:V):Prop:=(v=.non/\∀c z,¬dO S L c z)\/∃(c:Nat)(z:Int)(t:Zs),v=↑t/\ib w S L c z/\H t\(.tup [.int (c:Int),.int z])
def xR (b c a:Zs)(H:Hp)(o:Zs)(w:Nat):Prop:=∃d,(w=0/\H o\.ins b d [])\/(w=1/\H o\.ins c d [])\/(w=2/\H o\.ins a d [])
def xR.keep {w:Nat}(h:xR a b c H d w)(k:∀C e,H d\.ins C e []->I d\.ins C e []):xR a b c I d w:=by
 obtain⟨e,h|h|h⟩:=h
 ·rwa[e,.inl ⟨h.1,k^h.2⟩]
 ·rwa[e,.inr (.inl ⟨h.1,k^h.2⟩)]
 ·rwa[e,.inr (.inr ⟨h.1,k^h.2⟩)]
def DE {e r:Zs}{w:Nat}{Q:VK}{E:XK}(p:H d\.ins c e [])(h:ay a H r S O)(g:GL S n)(o:dG b eX iY H)(k:∀v i,Kp b H i->dG b eX iY i->PN S n w i v->Q v i):kx a b c w [↑d,↑r] H Q E:=⟨d,e,r,S,O,n,2,p,h,g,o,λs i j l=>k _ i j l (.inl ⟨2,s⟩),λf z q t i j l m=>k _ i j l (.inr ⟨f,z,t,2,q,m⟩)⟩
def RD {w:Nat}{Q:VK}{E:XK}(f:D[5]?\some ↑a)(i:D[6]?\some ↑b)(l:xR A.di A.bS A.cU H a w)(h:ay A.aB H b S O)(g:GL S n)(j:dG A.fe eX iY H)(k:∀v c,Kp A.fe H c->dG A.fe eX iY c->PN S n w c v->Q v c):
 BR (lj A.di "gap" (kx A.aB A.fe A.di 0) [] E (jD 5) (ju (jD 6) j9)) (BR (lj A.bS "gap" (kx A.aB A.fe A.bS 1) [] E (jD 5) (ju (jD 6) j9)) (lj A.cU "gap" (kx A.aB A.fe A.cU 2) [] E (jD 5) (ju (jD 6) j9))) D H Q:=by
 obtain⟨d,⟨rfl,e⟩|⟨rfl,e⟩|⟨rfl,e⟩⟩:=l
 ·rwa[.inl ⟨_,f,a,d,12,e,21,i,DE e h g j k⟩]
 ·rwa[.inr (.inl ⟨_,f,a,d,12,e,21,i,DE e h g j k⟩)]
 ·rwa[.inr (.inr ⟨_,f,a,d,12,e,21,i,DE e h g j k⟩)]
def ky (w:Nat):Zh:=if w=0 then V4 else if w=1 then NF else V5
def lE (H:Hp)(l:Zs)(S:RS):Prop:=∃a:Zn,H l\.lst (a.map V.ref)/\Each (λp d=>bW H 4 ↑p d) a S.rows/\⇑S.rows<=1000000
inductive KR (Pt cN cT:Zs)(vs:Zb)(H:Hp)(Q:VK)(E:XK):Prop
 |mk (ru pa:Zs)(L lim w:Nat)(rs ps:Za3):vs=[.int L,↑ru,↑pa,.int lim,.str (tx (ky w))]->w<3->1<=L->L<=40->1<=lim->lim<=300->bR H ru rs->bR H pa ps->(∀u∈rs++ps,KQ L u)->lim* ⇑rs+ ⇑ps<=700->⇑rs<=400->⇑ps<=400->dG Pt eX iY H->(∀t tb pp S N H',Kp Pt H H'->dG Pt eX iY H'->Fl rs ps L w lim S->(∀c z,¬dO S L c z)->H' t\.tup [↑tb,↑pp]->TabAt H' tb (M24.yu (cF S) (2* S.L) (M24.cq (cF S) (2* S.L) 0 N))->⇑(M24.cq (cF S) (2* S.L) 0 N)=N->lE H' pp S->Q ↑t H')->(∀d pp S H',Kp Pt H H'->dG Pt eX iY H'->Fl rs ps L w lim S->S.q=lim->(∃c z,ib w S L c z)->H' d\XD d (DC S.q pp)->lE H' pp S->E ↑cT (some d) H')->KR Pt cN cT vs H Q E
section
variable {CR CG CC:Zs}{H H':Hp}{x r:Zs}{q:KA}{S:RS}{a:RA}{R:Za2}{ks:Zg}{B:Nat}{rs ps:Za3}{fp:List (Zg×Nat)}{bs:List (Nat×Zg×Nat)}{gs:Zf}{ag:Zh}{W:bN}{O:Zs->Prop}
def CS.keep (h:CS CR CG CC H x r q S a R ks B rs ps fp bs gs ag W O)(f:∀b o,H b\o->(∀ps,o≠.fU ps)->H' b\o):CS CR CG CC H' x r q S a R ks B rs ps fp bs gs ag W O:=⟨h.c.keep (λb o c e=>f b o e (by let⟨i,g,n⟩:=h.c.th b c;cbv)) (λb d e=>f b _ e (by cbv)),f _ _ h.q (by cbv),h.rm.keep (λb o c e=>f b o e (by intro ps z;rw[z]at e;rwa[qP h.rm.at_ e (by cbv) (by cbv) (by cbv) c])) (λb d e=>f b _ e (by cbv)),h.dj,h.ci,h.bo,h.pl,h.br,h.ra,h.pa,h.ln,h.wb⟩
def CS.tab (h:CS CR CG CC H x r q S a R ks B rs ps fp bs gs ag W O){d:Zs}{pos:Pos}{c:Str}(t:dG d pos c H)(f:∀b o,¬O b->¬a.own r b->H b\o->H' b\o):dG d pos c H':=by
 rwa[t.keep λb u e k=>f b u (λz=>?_) (λz=>?_) e]
 ·let⟨o,g,n⟩:=h.c.th b z
  cbv
 ·rcases k with ⟨ps,rfl⟩|⟨o,v,rfl⟩
  ·rwa[qP h.rm.at_ e (by cbv) (by cbv) (by cbv) z]
  ·rwa[qP h.rm.at_ e (by cbv) (by cbv) (by cbv) z]
end
structure xS (A:rA)(H0 H:Hp)(x r:Zs)(L lim w:Nat)(rs ps:Za3)(S:RS):Prop where
 k:Kp A.fe H0 H
 t:dG A.fe eX iY H
 cs:∃q a R B fp bs gs W O,CS A.aB A.aY A.aI H x r q S a R (bL (2* L)) B rs ps fp bs gs [] W O/\(∀b,a.own r b\/O b->H0 b=none)/\B<=702* S.q
 f:Fl rs ps L w lim S
 m:S.q<=lim
 l:S.L=L
def xS.kp {H0:Hp}{x:Zs}{w:Nat}{rs f:Za3}(h:xS A H0 H x a n m w rs f S)(k:Kp A.fe H I)(t:dG A.fe eX iY I):xS A H0 I x a n m w rs f S:=by let⟨q,c,R,B,g,bs,gs,W,O,cs,i,j⟩:=h.cs;rwa[h.k.trans k,t,⟨q,c,R,B,g,bs,gs,W,O,cs.keep λb o e d=>k.at h.t e d,i,j⟩,h.f,h.m,h.l]
theorem Gb(T:Txt K mg A)(X:kS mg base):dP P w K mg base (dz P w) 11 A.JL A.JM ["letters","rules","part","limit","order"] (KR A.fe A.oE A.bI):=by
 rwa[T.fill.UE mI (λvs H Q E h=>?_) (λcy AA outer s H vs Q E M h=>?_)]
 ·let⟨ru,pa,L,i,I,rs,f,rfl,_⟩:=h;rfl
 ·let⟨ru,pa,L,i,I,rs,f,rfl,hw3,oJ,nL,xK,BP,xN,zR,aU,Dy,ti,lL,hT,kq,ke⟩:=h
  erw[_,{bF 5 mI.nd (x8 (EK T) (M.mono ⋯) rfl T.qA.m T.qA.F.kp T.qA.b .nil X5 #[4]),bF 6 mI.nd (x9 (vD T) (uv T) (M.mono ⋯) rfl T.Rm T.gS.b .nil gQ #[0]),bF 7 mI.nd (x9 (qJ T) (rN T) (M.mono ⋯) rfl T.JR T.fE.b .nil gQ #[6,1,2]),bp (wM (pv 7) (aS T) T.jc (mw T) M),bF 8 mI.nd (wF (kK (pv 5) (C0 T) T.jZ.m (tF T) (M.mono ⋯) T.jZ.b .nil gQ #[6]) (wF (kK (pv 5) (sY T) T.ip.m (nT T X) (M.mono ⋯) T.ip.b .nil gQ #[6]) (kK (pv 5) (zL T) T.jd.m (rF T) (M.mono ⋯) T.jd.b .nil gQ #[6]))),bE (fA PassesOwn.leaving (aM oX (pv 8) b9 (aO _))
    {bD (aM tM (6<<<1) (pv 3) (aO _))
     {JB (E:=E) (rO T) (M.mono ⋯) T.eJ.b rfl rfl T.zK (FK T.xr T.eJ.m.at_) T.eJ.m.fn T.Hy #[6<<<1,wM (pv 6) (aK T) T.lD (pT T) M] lvD rfl (by decide) (by decide) rfl rfl}
     bj,bp (pm (pv 7) (aS T) T.nk (xQ T) M #[8&&&ak,8&&&ak]),bF 8 mI.nd (wF (kK (pv 5) (C0 T) T.jZ.m (tF T) (M.mono ⋯) T.jZ.b .nil gQ #[6]) (wF (kK (pv 5) (sY T) T.ip.m (nT T X) (M.mono ⋯) T.ip.b .nil gQ #[6]) (kK (pv 5) (zL T) T.jd.m (rF T) (M.mono ⋯) T.jd.b .nil gQ #[6])))}),a9 (bG #[pc T.numbered (EL T) M #[6],wM (pv 6) (aK T) T.lD (pT T) M])}]
  rwa[qi ?_];intro rE mv kD iV eR eZ;let PQ:∀u∈rs++f,∀z∈u,z∈bL (2* L)/\-z∈bL (2* L):=λu hu z hz=>((tG ∅ (aU u hu)).2 z hz).2
  suffices main:∀o J,av H J->xR A.di A.bS A.cU J o I->eZ { nx:=λ_ H'=>Q .non H',rt:=Q } #v[.int L,↑ru,↑pa,.int i,.str (tx (ky I)),↑o,none,none,none] J by
   let sm:∀{C x d:Zs},H x=none->H d=none->d≠x->av H (upd (upd H d (.own x)) x (.ins C d [])):=λ{C x d} nx nd G=>(av.upd nd).trans (av.upd ([ao G.symm]▸nx))
   rwa[⟨12,ky I,25,λe x d nx nd G=>main x _ (sm nx nd G) ⟨d,.inl ⟨5,aj⟩⟩,λe x d nx nd G=>main x _ (sm nx nd G) ⟨d,.inr (.inl ⟨5,aj⟩)⟩,λe x d nx nd G=>main x _ (sm nx nd G) ⟨d,.inr (.inr ⟨5,aj⟩)⟩⟩]
   all_goals rcases (show I=0\/I=1\/I=2 by omega) with rfl|rfl|rfl
   all_goals first|rfl|decide|rwa[absurd e (by decide)]
  intro o J s1 ho;let hT1:=hT.same s1;replace xN:=xN.same s1;replace zR:=zR.same s1;rwa[⟨12,λr dx nx Y G=>⟨r,dx,L,2,aj,oJ,3,λra H2 k2 h2 Wg=>⟨25⟩⟩⟩];let⟨s2,acL⟩:=RB (C:=A.aB) nx Y G k2 Wg;clear k2 Wg nx Y G;rwa[⟨121212,λx dx nx Y G=>?_⟩];let s0:av H2 (upd (upd H2 dx (.own x)) x (.ins A.aI dx [])):=(av.upd Y).trans (av.upd ([ao G.symm]▸nx));let PR:upd (upd H2 dx (.own x)) x (.ins A.aI dx []) x\(.ins A.aI dx []):=aj;let F4:¬ra.own r x:=λz=>by let⟨o,e⟩:=h2.there z;cbv
  let n0:∀b,upd (upd H2 dx (.own x)) x (.ins A.aI dx []) b=none->H2 b=none:=λb z=>same_none s0 z
  change upd (upd H2 dx (.own x)) x (.ins A.aI dx [])=H3 at s0 PR n0 ⊢;let gd:=BF L (bL (2* L))
  let fit:∀D,yQ rs D->1* ⇑D+ ⇑f<=700:=λD h=>by have:=alM ⇑rs xK;have:=Dz h;ext
  let sl:0+ (RS.new L (bL (2* L))).stand<=1:=by rw[Nat.zero_add];rwa[Dq (RS.new L (bL (2* L)))]
  let y0:=YS.new (L:=L) (ks:=bL (2* L));let xT:jl A.aB H2 r (RS.new L (bL (2* L))) ra (λ_ _ _=>False) (bL (2* L)) 1:=⟨h2,gd,y0.w,y0.k,by show 1<=2000;decide,by rw[uf];ext,sl,ajO sl ⋯⟩;rwa[⟨x,dx,r,ru,pa,RS.new L (bL (2* L)),ra,λ_ _ _=>False,rs,f,2,PR,h2.same s0,gd,Nat.one_pos,by show 1<=2000;decide,F4,(xN.same s2).same s0,(zR.same s2).same s0,ti,lL,λu hu=>⟨(tG ∅ (aU u hu)).1,λz hz=>((tG ∅ (aU u hu)).2 z hz).1⟩,λD h=>by have:=fit D h;show 1* ⇑D+ ⇑f<50000;ext,λq gs ag D O H4 f4 c4 q4 o4 F1 al4 hp=>⟨25⟩⟩];let hf:=fit D hp;let sd:⇑(dH (RS.new L (bL (2* L))))<=1:=ajO (alI _ _) ([akG]▸ajE _);let hmf:⇑(dH (RS.new L (bL (2* L))))* ⇑D<=1* ⇑D:=alM _ sd;let l1:=mF D (dH (RS.new L (bL (2* L))));let l2:=tu f ⇑rs ⇑f;let X:⇑(eh D (dH (RS.new L (bL (2* L))))++gq f ⇑rs ⇑f)<=1* ⇑D+ ⇑f:=by rw[ajC];ext
  let hlv:live gs<=⇑(eh D (dH (RS.new L (bL (2* L))))++gq f ⇑rs ⇑f):=by rw[<-F1.len];rwa[List.countP_le_length]
  let r4:jl A.aB H4 r (RS.new L (bL (2* L))) ra (λ_ _ _=>False) (bL (2* L)) 1:=(xT.same s0).keep (λb o Z e=>f4 b o e (λz=>F4 (by cbv))) (λb xs e=>f4 b _ e (cz e PR (by cbv)))
  let dj:∀b,ra.own r b->¬O b:=λb z y=>by
   let⟨o,e⟩:=(h2.same s0).there z
   cbv
  let bin:∀b∈eh D (dH (RS.new L (bL (2* L))))++gq f ⇑rs ⇑f,((rs++f)[b.1]?\b.2.1/\(b.1<⇑rs\/b.2.2=0))/\b.2.2<1:=λb Z=>by
   rcases Ru Z with ⟨p,Jv,e1,e2,e3⟩|⟨j,u,hj,rfl⟩
   ·let h1:=hp.a p Jv;let h2:=(ajy.mp h1).1;rw[e1,e2,ajM h2];rwa[⟨h1,.inl h2⟩,akt.mp (alk.mp e3).1]
   cbv
  let U:Du (rs++f) ⇑rs (bL (2* L)) (eh D (dH (RS.new L (bL (2* L))))++gq f ⇑rs ⇑f):=⟨λb Z=>(bin b Z).1.1,λb Z=>(bin b Z).1.2,λb Z=>(aU _ (ajA (bin b Z).1.1)).1,λb Z z hz=>PQ _ (ajA (bin b Z).1.1) z hz,3⟩
  let Wh:∀w∈rs,w≠[]->∃n,(n,w,0)∈eh D (dH (RS.new L (bL (2* L))))++gq f ⇑rs ⇑f:=λw hw o8=>by let⟨n,hn⟩:=hp.b w hw;let hcs:0∈dH (RS.new L (bL (2* L))):=alk.mpr ⟨akt.mpr Nat.one_pos,ajZ rfl⟩;rwa[n,aj4 _ (alb.mpr ⟨(0),hcs,alb.mpr ⟨(w,n),hn,HJ o8⟩⟩)]
  let Wi:∀w∈f,w≠[]->∃n,(n,w,0)∈eh D (dH (RS.new L (bL (2* L))))++gq f ⇑rs ⇑f:=λw hw o8=>by let⟨j,hj⟩:=akr hw;rwa[⟨⇑rs+ j,ajI _ (alb.mpr ⟨j,akt.mpr (ajy.mp hj).1,5⟩)⟩];rw[ajH,hj];rwa[HJ o8]
  change eh D (dH (RS.new L (bL (2* L))))++gq f ⇑rs ⇑f=bs at F1 al4 X hlv bin U Wh Wi;let hmul:live gs* (2* ⇑bs+ 1)<=700* 1401:=amr ∅ ∅;clear l1 l2 hmf sd;rwa[⟨12,x,q.dx,12,c4.ins,fN ⋯,x,r,q,RS.new L (bL (2* L)),ra,λ_ _ _=>False,bL (2* L),(1),rs++f,⇑rs,bs,gs,ag,tD,D,O,2,c4,r4,3,dj,F1,U,3,λS' a' R' jr W' O' B' H5 f5 c5 r5 ow oo dj5 KG rr em eL tr hb5=>?_⟩];let PV:S'.q=1:=em
  let Jx:∀b o,J b\o->H5 b\o:=λb o e=>by
   let e2:=s2^e
   let nO:¬O b:=λy=>by cbv
   rwa[f5 b o nO (λy=>by cbv) (f4 b o (s0^e2) (aw e2 nx))]
  let U5:∀b,a'.own r b\/O' b->J b=none:=λb y=>by
   let nn:ra.own r b\/O b\/H4 b=none->J b=none:=λy=>by
    rcases y with y|y|y
    ·rwa[acL b y]
    ·cases e:J b with
     |none=>rfl
     |some u=>
      let e2:=s2^e
      cbv
    ·cases e:J b with
     |none=>rfl
     |some u=>let e2:=s2^e;rw[f4 b u (s0^e2) (aw e2 nx)]at y;ext y
   cbv
  let Wj:CS A.aB A.aY A.aI H5 x r q S' a' R' (bL (2* L)) B' rs f D bs jr [] W' O':=by
   rwa[⟨c5,f5 _ _ (c4.Kl q4) (yR r4.at_ q4) q4,r5,dj5,KG,U,hp,λb Z=>[PV]▸(bin b Z).2,λw hw o8 c hc _=>?_,Wi,[PV]▸X,λu hu=>tG ∅ (aU u hu)⟩];have:c=0:=∅
   subst this;rwa[Wh w hw o8]
  let fl5:xS A J H5 x r L i I rs f S':=⟨λb u _ e=>Jx b u e,hT1.same Jx,⟨q,a',R',B',D,bs,jr,W',O',Wj,U5,by rw[PV];ext⟩,.start tr (Wj.Wc ∅),3,eL.trans rfl⟩;clear Wj U5 Jx hmul Wi Wh U bin dj r4 hlv X hf xT y0 sl c5 r5 ow oo dj5 KG rr f5 hb5 PV em eL tr c4 q4 o4 F1 al4 hp f4 PR F4 n0 s0 gd fit
  let look:∀{H5:Hp}{S:RS}{σ:St}{Qv:VK},xS A J H5 x r L i I rs f S->σ[5]?\some ↑o->σ[6]?\some ↑r->(∀v H6,xS A J H6 x r L i I rs f S->PN S L I H6 v->Qv v H6)->(BR (lj A.di "gap" (kx A.aB A.fe A.di 0) [] (λ_ _ _=>False) (jD 5) (ju (jD 6) j9)) (BR (lj A.bS "gap" (kx A.aB A.fe A.bS 1) [] (λ_ _ _=>False) (jD 5) (ju (jD 6) j9)) (lj A.cU "gap" (kx A.aB A.fe A.cU 2) [] (λ_ _ _=>False) (jD 5) (ju (jD 6) j9)))) σ H5 Qv:=λ{H5 S σ Qv} F e5 e6 kk=>by let⟨Ry,y⟩:=F.f.ys PQ;let⟨q,a,R,B,D,bs,gs,W,O,cs,_⟩:=F.cs;rwa[RD e5 e6 (ho.keep λC d e=>F.k.at hT1 e (by cbv)) cs.rm.at_ (y.gl (by have:=F.m;omega) ∅) F.t λv H6 k6 t6 an=>kk v H6 (F.kp k6 t6) an]
  rwa[look fl5 rfl rfl λv H6 fl6 an=>?_]
  clear fl5
  let' qQ:St->Hp->Prop:=λ fV H'=>∃S,fV=#v[.int L,↑ru,↑pa,.int i,.str (tx (ky I)),↑o,↑r,↑x,some .non]/\xS A J H' x r L i I rs f S/\∀c z,¬dO S L c z
  erw[qQ,5]
  ·rwa[bB ?_];intro g9;erw[λm σ H'=>∃S v,m=i+ 1 - S.q/\σ=#v[.int L,↑ru,↑pa,.int i,.str (tx (ky I)),↑o,↑r,↑x,some v]/\xS A J H' x r L i I rs f S/\PN S L I H' v,⟨_,S',v,22,fl6,an⟩];clear fl6 an;intro m σ H7 tm;rwa[aZ ?_];intro q_;let⟨S,v,rfl,rfl,F,an⟩:=tm;dsimp only[q_];clear q_;erw[12212];rcases an with ⟨rfl,hn⟩|⟨c,z,t,rfl,hl,ht⟩
   ·rwa[i6 rfl ⟨S,rfl,F,hn⟩]
   rwa[bK (λ_=>?_) (λh=>absurd rfl h)];erw[_,λ fV H' h=>h];let⟨Ry,y⟩:=F.f.ys PQ;let⟨q,a,R,B,D,bs,gs,W,O,cs,n0,hB⟩:=F.cs;let hm:=F.m;let eL:=F.l;let rb:=cs.rm.rb;let wr:=y.wr;let hBm:B<=702* 300:=ajO hB (Nat.mul_le_mul_left _ ∅);erw[12,r,_,a.dx,112,cs.rm.at_.ins,aK T,T.pQ,tU^_,12112212];rwa[bK (λh=>?_) (λh=>?_)]
   ·let h:(i:Int)<=(S.q:Int):=ajQ h;rwa[⟨12,r,_,a.dx,112,cs.rm.at_.ins,aK T,T.pQ,tU^_,12,r,a.dx,12,cs.rm.at_.ins,da _ _ _ ⋯,r,S,a,2,cs.rm.at_,3,λp d hd e=>(y.d d hd).low e,λl qs H8 s8 nl hl8 B1=>?_⟩];intro xx nxx;let s9:=av.upd (o:=XO xx A.bI none true) nxx;let eln:⇑(qs.map V.ref)<=1000000:=by rw[ajD,B1.1];ext
    rwa[⟨xx,l,S.q,qs.map V.ref,2,aj,3,s9^hl8,eln,λd l2 H9 nd FX Y f9 hx9 Wk PX nlx=>⟨2,some d,hx9,5⟩⟩]
    let Wm:av H8 (del H9 xx):=λb u e=>by let nb:=aw e nxx;rw[sk nb];rwa[f9 b u nb (s9^e)]
    rwa[ke d l2 S _ (λb u nb e=>Wm^(s8^(F.k b u nb (s1^e)))) ((F.t.same s8).same Wm) F.f ∅ ⟨c,z,hl⟩ ([sk Y]▸Wk) ⟨qs,[sk nlx]▸PX,B1.imp (λp d _ _ e=>e.same Wm),3⟩]
   let h:S.q<i:=Nat.lt_of_not_le λw=>h (ajZ ∅)
   let⟨g1,g2,g3,g4⟩:=hl.1;let⟨z1,z2⟩:=iD.mp g3;let Px:⇑D<=⇑rs:=Dz cs.pl;let Pl:(S.q+ 1)* ⇑D<=i* ⇑rs:=amr h Px;rw[<-eL]at cs;rwa[⟨12,x,q.dx,12,cs.c.ins,fN ⋯,12,t,11122,bu.of ht,212,t,11122,bu.of ht,2,x,r,q,S,a,R,B,rs,f,D,bs,gs,W,O,c,z,2,cs,33,g1,pY g2,g4,[eL]▸g3,iD.mpr ⟨33⟩,3333,λS2 a2 R2 bs2 gs2 W2 O2 B2 H8 f8 Wn ow8 tr8 em8 el8 hb8=>?_⟩]
   let fl8:xS A J H8 x r L i I rs f S2:=by
    rw[eL]at Wn tr8;rwa[⟨λb u nb e=>f8 b u (λw=>by cbv) (λw=>by cbv) (F.k b u nb e),cs.tab F.t f8,⟨q,a2,R2,B2,D,bs2,gs2,W2,O2,Wn,λb w=>?_,by rw[em8];ext⟩,.next F.f h hl tr8 (Wn.Wc ∅),3,el8.trans eL⟩];rcases ow8 b w with v|v|v
    ·rwa[n0 b (.inl v)]
    ·rwa[n0 b (.inr v)]
    ·cases e:J b with
     |none=>rfl
     |some u=>
      let nP:b≠A.fe:=λw=>by
       rcases F.t with p|⟨_,_,_,_,p,_⟩
       ·cbv
       cbv
      rw[F.k b u nP e]at v;ext v
   rwa[look fl8 rfl rfl λv H9 fl9 an=>⟨i+ 1 - S2.q,3,S2,v,22,fl9,an⟩]
  rintro σ H7 ⟨S,rfl,F,hn⟩;let⟨Ry,y⟩:=F.f.ys PQ;let⟨q,a,R,B,D,bs,gs,W,O,cs,n0,hB⟩:=F.cs;let hm:=F.m;let eL:=F.l;let rb:=cs.rm.rb;let g:=y.g;let hBm:B<=702* 300:=ajO hB (Nat.mul_le_mul_left _ ∅);rwa[⟨12,r,S,a,λc=>c<S.q/\S.ax c=c,2,cs.rm.at_,333,g.wf.w,⟨y.m,by have:=(g.el 0 y.m).1;ext⟩,λc hc=>⟨hc.1,λk hk=>?_⟩,λtb N H8 s8 nt h8 hN=>?_⟩]
  ·cases e:S.by c (M12.st k) with
   |some d=>let⟨_,d2,_,d4⟩:=g.st _ _ _ e;rwa[d,2,d2,d4]
   |none=>rw[eL]at hk;rwa[absurd ⟨hc.1,5,ajA (tf hk),e⟩ (hn c _)];rw[tj ([g.wf.e]▸hc.1),hc.2]
  rwa[⟨12,r,a.dx,12,(cs.rm.at_.same s8).ins,da _ _ _ ⋯,r,S,a,2,cs.rm.at_.same s8,3,λp d hd e=>(y.d d hd).low e,λpp qs H9 s9 np hp9 B1=>?_⟩];rwa[⟨Za4 2,λt nt=>?_⟩];let sA:=av.upd (o:=.tup [↑tb,↑pp]) nt;rwa[kq t tb pp S N _ (λb u nb e=>sA^(s9^(s8^(F.k b u nb (s1^e))))) (((F.t.same s8).same s9).same sA) F.f hn aj ((h8.same s9).same sA) hN ⟨qs,sA^hp9,B1.imp (λp d _ _ e=>e.same sA),3⟩]
theorem words_of {H:Hp}{P:Zg->Prop}:∀{ps:Zn},(∀(i:Nat)(p:Zs),ps[i]?\p->∃w,H p\.tup (au w)/\P w)->∃a,ck H ps a/\∀w∈a,P w
 |[],_=>⟨[],⟨2,(λi p w e=>by simp at e)⟩,(λw f=>by ext f)⟩
 |p::ps,h=>by
  let⟨a,d,j⟩:=words_of (ps:=ps) λi q e=>h (i+ 1) q (by simpa using e)
  let⟨w,g,l⟩:=h 0 p rfl;rwa[⟨w::a,⟨by rw[aj1,aj1,d.1],λi q u b c=>?_⟩,λu k=>?_⟩]
  ·cases i with
   |zero=>ext b;ext c;rwa[g]
   |succ i=>exact d.2 i q u (by simpa using b) (by simpa using c)
  cbv
def Wo:Sp:=λa H Q _=>∃(z:Int)(L:Nat),a=[.int z,.int L]/\1<=L/\L<=200/\∀s:Int,s≠0->s.natAbs<=L->Q (.int s) H
def tH:T.oF.Ok P w base 1 Wo:=by
 rwa[T.oF.on C1 (λb l a s H g Q E i h=>?_) (len:=by rintro _ _ _ _ ⟨z,L,rfl,_⟩;rfl)]
 ·let⟨z,L,rfl,e,f,k⟩:=h
  erw[_,{bD (aM cV (aL bX (pv 0) ak) ak (aO _))
   {a9 (eF dy (aL cw ak (aL bX (aL dh (pv 0) ak) (pv 1))))}
   bj,a9 (aL cw ak (aL bX (aL dh (pv 0) ak) (pv 1)))}]
  rwa[iP ?_];intro d;let c:∀y:Int,0<=y % (L:Int)/\y % (L:Int)<L:=λy=>⟨ak7 _ ∅,akU _ ∅⟩
  let j:=c (z / 2);rwa[⟨121122,(by show (0:Int)<2;decide),212,bK (λh=>?_) (λh=>?_)⟩]
  ·refine⟨121122,⟨44⟩,121122,(by show (0:Int)<(L:Int);omega),112212,k _ ?_ ?_⟩ <;> ext
  ·refine⟨121122,⟨44⟩,12112231122,k _ ?_ ?_⟩ <;> ext
def tI (n:Nat):Zb:=(~~~n).map λi:Nat=>V.int (i:Int)
def nU (n:Nat):⇑(tI n)=n:=by unfold tI;cbv
def Ge (h:i<n):(tI n)[i]?\(V.int (i:Int)):=by unfold tI;rw[aj0,amv h];rfl
def RG {x:V}(h:(tI n)[i]?\x):i<n/\x=V.int (i:Int):=by
 let a:i<n:=by have:=(ajy.mp h).1;rw[nU]at this;rwa[this]
 rw[Ge a]at h;rwa[a,(Za0 h).symm]
def xU {Q:VK}(g:Nat->Int)(h:n<=1000)(j:∀i:Nat,i<n->∀R:VK,R (.int (g i)) H->r (some (.int (i:Int))::D) H R)(c:∀a,H a=none->Q ↑a (upd H a (.lst (au ((~~~n).map g))))):rV r D Q (y7 0 n) H:=by
 rwa[jN (tI n) (λv=>match v with|.int z=>.int (g z.toNat)|v=>v) (λi b=>by rw[nU]at b;rwa[b]) (λi x l b y=>?_) ([nU]▸ajE _) ([nU]▸ajO h ⋯) (λi x f R k=>?_) (λa d=>?_)]
 ·rw[nU]at b;let⟨o,m⟩:=y;erw[3];rw[Ge b]
  cbv
 ·let⟨b,rfl⟩:=RG f;rwa[j i b R ?_];have:R (V.int (g ((i:Int)).toNat)) H:=k;rw[aka]at this;rwa[this]
 ·let e:((tI n).map λv=>match v with|.int z=>V.int (g z.toNat)|v=>v)=au ((~~~n).map g):=by unfold tI au;rw[aki,aki];rfl
  rw[e];rwa[c a d]
def vQ {a:Za3}(h:ck H F a){w:Zs}{c:Zb}{o:HO}(b:H w\.lst c):ck (upd H w o) F a:=h.keep λp d e=>by rw[ao (cz e b (by cbv))];rwa[e]
def sf (rows:Za3)(x:Nat)(s:Int):Nat:=if 0<s then ((rows.getD (s.natAbs - 1) []).getD x 0).toNat else (rows.getD (s.natAbs - 1) []).findIdx (λz=>z==(x:Int))
inductive yW (vs:Zb)(H:Hp)(Q:VK)(E_:XK):Prop
 |mk (a wa:Zs)(rows:Za3)(p x:Nat)(w:Zg):vs=[↑a,.int x,↑wa]->TabAt H a rows->(∀r∈rows,M11.Pm p r)->x<p->p<=1000->H wa\.tup (au w)->M11.iH ⇑rows w->⇑rows<=1000->Q (.int ((w.foldl (sf rows) x:Nat):Int)) H->yW vs H Q E_
theorem Gf:∀{r:Zg}{i:Nat}{x:Int},r.Nodup->r[i]?\x->r.findIdx (λz=>z==x)=i
 |[],i,x,_,h=>by simp at h
 |a::r,0,x,_,h=>by cbv
 |a::r,i+ 1,x,c,h=>by
  let b:a≠x:=λz=>(akf.mp c).1 ([z]▸ajA (l:=r) (i:=i) h)
  rw[List.findIdx_cons,show (a==x)=false from aj2.mpr b,Gf (akf.mp c).2 h];rfl
def DF {rows:Za3}{x:Nat}(h:0<z)(b:rows[z.natAbs - 1]?\l)(a:l[x]?\(n:Int)):sf rows x z=n:=by unfold sf;rw[aj3 h,ajH,ajH,b,Option.getD_some,a,Option.getD_some];rfl
def DG {rows:Za3}{x:Nat}(h:¬ 0<z)(b:rows[z.natAbs - 1]?\l)(c:l.Nodup)(a:l[n]?\(x:Int)):sf rows x z=n:=by unfold sf;rw[ajY h,ajH,b,Option.getD_some];rwa[Gf c a]
def rH:T.mB.Ok P w base 1 yW:=by
 rwa[T.mB.on jz (λZ AA J s H vs Q E hr h=>?_)]
 ·let⟨a,X,rows,p,x,w,rfl,N,M,hx,hp,o,G,ti,k⟩:=h
  erw[_,{cf ajV rfl (vY (pv 2)) (cS 3 jz.nd)
   {bE (bD (aM qd (pv 3) ak (aO _))
    {bF 1 jz.nd ((0|||(aL ig (pv 3) ak))|||1)}
    {bF 1 jz.nd (df ajL PySem.F.slot_list_index PySem.F.type_list_index Ab (0|||(aL ig (eF dy (pv 3)) ak)) #[1])})},a9 (pv 1)}]
  rwa[iP ?_];intro Y;let⟨rs,m,g⟩:=id N;erw[12,X,2,⟨_,bu.of o⟩];rwa[dJ (xs:=au w) (λn u B=>∃v:Zc,u=#v[↑a,.int (((w.take n).foldl (sf rows) x:Nat):Int),↑X,v]/\B=H/\(w.take n).foldl (sf rows) x<p) ⟨none,22,hx⟩ (λn u B _ ζ=>by let⟨_,_,e,_⟩:=ζ;rwa[[e]▸bu.of o]) ?_ ?_]
  ·rintro n y u B hn ⟨v,rfl,rfl,b⟩;let⟨z,rfl,S⟩:=cO hn;let hs:=G z (ajA S)
   let d:(w.take (n+ 1)).foldl (sf rows) x=sf rows ((w.take n).foldl (sf rows) x) z:=by rw[aly,S,amj];rfl
   rw[d];change (w.take n).foldl (sf rows) x=pt at b ⊢;let U:z.natAbs - 1<⇑rows:=∅
   let l:rows[z.natAbs - 1]?=some rows[z.natAbs - 1]:=ajz U
   let L:z.natAbs - 1<⇑rs:=by rw[g.1];rwa[U]
   let t:rs[z.natAbs - 1]?=some rs[z.natAbs - 1]:=ajz L
   change rows[z.natAbs - 1]=row at l;change rs[z.natAbs - 1]=f at t;let c:=g.2 _ _ _ t l;let D:=M row (ajA l);rwa[⟨15,λ_ _ h=>h⟩];erw[12112212];rwa[bK (λh=>?_) (λh=>?_)]
   ·let I:(0:Int)<z:=ajQ h;let⟨j,C,r⟩:=D.at b
    let O:fY (rs.map V.ref) (z - 1)\↑f:=by rw[show z - 1=((z.natAbs - 1:Nat):Int) by ext];rwa[eH t]
    erw[12121122,a,11,↑f,22,aF.of m,O,12,f,11122,aF.of c,b6 (bQ C)];rw[DF I l C];rwa[122,r]
   ·let I:¬(0:Int)<z:=λq=>h (ajZ q)
    let⟨j,C,r⟩:=D.UR b
    let O:fY (rs.map V.ref) (-z - 1)\↑f:=by rw[show -z - 1=((z.natAbs - 1:Nat):Int) by ext];rwa[eH t]
    rwa[⟨1212121122,a,11,↑f,22,aF.of m,O,.inl ⟨21,aF.of c⟩,12,f,row,(pt:Int),22,c,ajA C,λi R _=>?_⟩];rw[DG I l D.nd R]
    let F:i<p:=by have:=(ajy.mp R).1;rw[D.len]at this;rwa[this]
    rwa[122,F]
  ·rintro u B ⟨v,rfl,rfl,b⟩;rw[aJ,akR];rwa[12,k]
def HL {rows:Za3}{x:Nat}(d:∀r∈rows,M11.Pm n r)(e:x<n)(i:z≠0)(f:z.natAbs<=⇑rows):sf rows x z<n/\sf rows (sf rows x z) (-z)=x:=by
 let g:rows[z.natAbs - 1]?\(rows[z.natAbs - 1]'∅):=ajz ∅
 change rows[z.natAbs - 1]'∅=r at g;let c:=d r (ajA g);cases h:0<z
 ·let⟨j,a,b⟩:=c.at e;rw[DF h g a];rwa[b,DG ∅ ([Int.natAbs_neg]▸g) c.nd a]
 ·let⟨j,a,b⟩:=c.UR e;rw[DG h g c.nd a];rwa[b,DF ∅ ([Int.natAbs_neg]▸g) a]
def xV {w:Zg}(h:M11.iH n (z::w)):(z≠0/\z.natAbs<=n)/\M11.iH n w:=⟨h z (ajU ..),λx a=>h x (akc _ a)⟩
theorem HM {rows:Za3}{p:Nat}(a:∀r∈rows,M11.Pm p r):∀{w:Zg}{x:Nat},M11.iH ⇑rows w->x<p->w.foldl (sf rows) x<p
 |[],x,_,c=>c
 |s::w,x,e,c=>by let⟨d,b⟩:=xV e;rwa[HM a (w:=w) b (HL a c d.1 d.2).1]
theorem DH {rows:Za3}{p:Nat}(a:∀r∈rows,M11.Pm p r):∀{w:Zg}{x y:Nat},M11.iH ⇑rows w->x<p->y<p->w.foldl (sf rows) x=w.foldl (sf rows) y->x=y
 |[],x,y,_,_,_,e=>e
 |s::w,x,y,d,g,f,e=>by let⟨b,c⟩:=xV d;let a1:=HL a g b.1 b.2;let a2:=HL a f b.1 b.2;have:=DH a (w:=w) c a1.1 a2.1 e;rw[<-a1.2,<-a2.2,this]
def Wq:M11.Pm n (fT 0 n):=by
 rwa[⟨pe 0 n,5,λz d=>?_⟩]
 ·unfold fT;rwa[List.Pairwise.map _ (λa b (c:a≠b) (z:(0:Int)+ (a:Int)=0+ (b:Int))=>c ∅) am3]
 ·unfold fT at d;let⟨i,e,rfl⟩:=akp.mp d;have:=akt.mp e;ext
def Wr {f:Nat->Nat}{xs:Zh}(h:∀x∈xs,x<n)(a:∀x,x<n->M17.it f 60 x=x):xs.map (M17.it f 60)=xs.map (M17.it f 0):=akB λx b=>a x (h x b)
def hH (xs:Zh):Zg:=xs.map λx:Nat=>(x:Int)
def RH (xs:Zh):⇑(hH xs)=⇑xs:=by unfold hH;cbv
theorem Gh:∀{a ys:Zh},hH a=hH ys->a=ys
 |[],[],_=>rfl
 |[],_::_,h=>by ext h
 |_::_,[],h=>by ext h
 |x::a,y::ys,h=>by
  let b:(x:Int)::hH a=(y:Int)::hH ys:=h;injection b with d c
  rw[show x=y by ext,Gh c]
def Wt (h:(hH B)[i]?\z):∃x,B[i]?\x/\z=(x:Int):=by
 unfold hH at h
 cbv
def AY (f:Nat->Nat):V->V
 |.int z=>.int ((f z.toNat:Nat):Int)
 |v=>v
def zS (f:Nat->Nat)(xs:Zh):(au (hH xs)).map (AY f)=au (hH (xs.map f)):=by
 unfold au hH;rw[aki,aki,aki,aki];rwa[akB λx _=>?_]
 show V.int ((f ((x:Int)).toNat:Nat):Int)=V.int ((f x:Nat):Int);rw[aka]
def zT {rows:Za3}(h:fk H F rows)(b:H a\.lst (au l)):fk H (F++[a]) (rows++[l]):=h.snoc b
inductive Gi (vs:Zb)(H:Hp)(Q:VK)(E_:XK):Prop
 |mk (z:Int)(m:Nat)(b:Bool):vs=[.int z,.int m,.bl b]->1<=m->m<=100->0<=z->(∀l r H',av H H'->H' l\.lst (au r)->M11.Pm m r->Q ↑l H')->Gi vs H Q E_
def DJ (d:n<m)(f:i<m)(h:(z+ (n:Int)) % (m:Int)=(z+ (i:Int)) % (m:Int)):n=i:=by
 let e:=Int.emod_emod_of_dvd (z+ (n:Int)) (Int.dvd_refl (m:Int));let b:(m:Int)∣(z+ (n:Int)) - (z+ (i:Int)):=Int.dvd_of_emod_eq_zero (by rw[Int.sub_emod,h,Int.sub_self];rfl);let⟨q,c⟩:=b
 let a:q=0:=by
  rwa[amo λg=>?_]
  have:(m:Int)<=((m:Int)* q).natAbs:=by
   rw[Int.natAbs_mul];have:1<=q.natAbs:=∅
   have:=Nat.mul_le_mul_left m this;rw[Nat.mul_one]at this;show (m:Int)<=((m* q.natAbs:Nat):Int);ext
  ext
 rw[a,Int.mul_zero]at c;ext
def PY {g:Nat->Int}(b:∀i,i<m->0<=g i/\g i<(m:Int))(d:∀i j,i<m->j<m->g i=g j->i=j):M11.Pm m ((~~~m).map g):=by
 rwa[⟨by cbv,5,λz c=>?_⟩]
 ·rwa[alh.mpr (amD ?_ am3)]
  cbv
 ·let⟨i,a,rfl⟩:=akp.mp c;rwa[b i (akt.mp a)]
def RJ (h:l.Perm (fT 0 m)):M11.Pm m l:=by let a:M11.Pm m (fT 0 m):=Wq;rwa[by rw[h.length_eq,a.len],h.nodup_iff.mpr a.nd,λz b=>a.rg z (h.mem_iff.mp b)]
theorem erase_cons:∀{s:Zg}{k:Nat}{x:Int},s[k]?\x->(x::s.eraseIdx k).Perm s
 |[],k,x,h=>by simp at h
 |a::s,0,x,h=>by cbv
 |a::s,k+ 1,x,h=>(List.Perm.swap a x (s.eraseIdx k)).trans ((erase_cons (s:=s) h).cons a)
def HN {t:Zg}{k:Nat}{x:Int}(h:l[k]?\x):((t++[x])++l.eraseIdx k).Perm (t++l):=by rw[akl];rwa[List.Perm.append_left t (erase_cons h)]
def Yu {k:Nat}(h:k<n):seqIndex? (k:Int) n\k:=(ye (pU h)).1
theorem xW:∀(ns:Zg)(k:Nat),(au ns).eraseIdx k=au (ns.eraseIdx k)
 |[],_=>rfl
 |a::ns,0=>rfl
 |a::ns,k+ 1=>by show V.int a::(au ns).eraseIdx k=V.int a::au (ns.eraseIdx k);rw[xW ns k]
def xX:T.nj.Ok P w base 1 Gi:=by
 rwa[T.nj.on gk (λcy AA outer s H vs Q E hr h=>?_)]
 ·let⟨z,m,b,rfl,PZ,Dd,hz,k⟩:=h;let hu:=alU (eG hr)
  erw[_,{bF 3 gk.nd (aL bX (aL dh (pv 0) ak) (pv 1)),bE (bD (PW.pt (iL (cX (pv 2)) (gL (aM cV (aL bX (pv 0) ak) ak (aO _)))))
    {a9 (iR (fns:=["_law_many","_law_by"]) (ixs:=[1,3]) (cl:=_) rfl (fy rfl T.eA #[1]) (cM [(_,_),(_,_)] rfl ⟨2222222222,True.intro⟩ rfl) (λC s H ex=>(aL bX (aL ig (pv 2) (pv 0)) (pv 1))))}
    bj),bD (cX (pv 2))
    {a9 (iR (fns:=["_law_many","_law_by"]) (ixs:=[1,3]) (cl:=_) rfl (fy rfl T.eA #[1]) (cM [(_,_),(_,_)] rfl ⟨2222222222,True.intro⟩ rfl) (λC s H ex=>(aL bX (aL cw (pv 2) (pv 0)) (pv 1))))}
    bj,bF 4 gk.nd (qT rfl rfl T.km rfl T.eA #[1]),bF 5 gk.nd (bY ah),bE (fA ajV (aM (Fs hu) (pv 4) (bY ah) (aO _))
    {bp (df ajL ajW ajX bV (pv 5) #[df ajL PySem.F.slot_list_pop PySem.F.type_list_pop LK (pv 4) #[aL bX (pv 0) (4<<<0)]]),bF 0 gk.nd (aL dh (pv 0) (aL cw (4<<<0) ak))}),a9 (pv 5)}]
  rwa[qi ?_];intro rE mv kD iV eR eZ;let b1:=ak7 (z / 2) (show (m:Int)≠0 by omega);let b2:=akU (z / 2) (show (0:Int)<(m:Int) by omega);erw[121122,⟨44⟩,1211223];obtain⟨y,hy⟩:∃y,z / 2 % (m:Int)=y:=⟨12⟩;rw[hy]at b1 b2;simp only[hy]
  let' U:St->Hp->Prop:=λ p q=>p=#v[.int z,.int m,.bl b,.int y,none,none]/\q=H
  erw[U,5]
  ·rwa[bB ?_];intro g9;erw[1212];rwa[bK (λ_=>?_) (λ_=>b8 ⟨22⟩)];erw[121122,(by show (0:Int)<2;decide),212];rwa[bK (λ_=>?_) (λ_=>⟨22⟩)];erw[12,(m:Int),233];rw[aka];rwa[xU (λi=>(y - (i:Int)) % (m:Int)) ∅ (λi G R hR=>?_) (λD hD=>?_)]
   ·rwa[12121122121122,(by show (0:Int)<(m:Int);omega),hR]
   ·rwa[k D _ _ (av.upd hD) aj (PY (λi G=>⟨ak7 _ ∅,akU _ ∅⟩) λi j G hj e=>?_)]
    let e2:((y - (m:Int)+ 1)+ (((m - 1 - i:Nat)):Int)) % (m:Int)=((y - (m:Int)+ 1)+ (((m - 1 - j:Nat)):Int)) % (m:Int):=by rw[show (y - (m:Int)+ 1)+ (((m - 1 - i:Nat)):Int)=y - (i:Int) by ext,show (y - (m:Int)+ 1)+ (((m - 1 - j:Nat)):Int)=y - (j:Int) by ext];rwa[e]
    have:=DJ ∅ ∅ e2;ext
  rintro p q ⟨rfl,rfl⟩;erw[1212];rwa[bK (λ_=>?_) (λ_=>?_)]
  ·erw[12,(m:Int),233];rw[aka];rwa[xU (λi=>(y+ (i:Int)) % (m:Int)) ∅ (λi G R hR=>?_) (λD hD=>?_)]
   ·rwa[12121122121122,(by show (0:Int)<(m:Int);omega),hR]
   ·rwa[k D _ _ (av.upd hD) aj (PY (λi G=>⟨ak7 _ ∅,akU _ ∅⟩) λi j G hj e=>DJ G hj e)]
  rwa[⟨12,m,23,λd hls=>?_⟩];let s1:av q (upd q d (.lst (au (fT 0 m)))):=av.upd hls;let h1:upd q d (.lst (au (fT 0 m))) d\(.lst (au (fT 0 m))):=aj;change upd q d _=H1 at s1 h1 ⊢;rwa[⟨aj8 _,λlt X=>?_⟩];let s2:av H1 (upd H1 lt (.lst [])):=av.upd X;let h2:upd H1 lt (.lst []) lt\(.lst (au [])):=aj;let L:d≠lt:=λe=>by cbv
  let Wu:q lt=none:=s1.free X;change upd H1 lt _=H2 at s2 h2 ⊢
  let' M:St->Hp->Prop:=λ p l=>∃(g:Zg)(v0:Zc),p=#v[v0,.int m,.bl b,.int y,↑d,↑lt]/\av q l/\l lt\.lst (au g)/\g.Perm (fT 0 m)
  erw[M,5]
  ·rwa[bB ?_];intro g9;erw[λn σ l=>∃(g a:Zg)(x:Int),n=⇑a/\σ=#v[.int x,.int m,.bl b,.int y,↑d,↑lt]/\av q l/\l lt\.lst (au g)/\l d\.lst (au a)/\(g++a).Perm (fT 0 m),⟨_,[],fT 0 m,z,22,s1.trans s2,h2,s2^h1,List.Perm.refl _⟩];intro n σ l u;rwa[aZ ?_];intro S;let⟨g,a,x,rfl,rfl,s3,v,Wv,I⟩:=u;dsimp only[S];clear S;let hlen:=I.length_eq;rw[ajC,pe]at hlen;rwa[⟨12,aj8 _,λJ he0=>?_⟩];let s4:av l (upd l J (.lst [])):=av.upd he0;let h4:upd l J (.lst []) J\(.lst (au [])):=aj;change upd l J _=H4 at s4 h4 ⊢;let F:=s4^v;let r:=s4^Wv;erw[d,J,a,[],22,r,h4,12];cases t:a=[]
   ·rwa[i6 t ?_];rw[t,akb]at I;rwa[g,12,s3.trans s4,F,I]
   ·let Z:0<⇑a:=List.length_pos_iff.mpr t;rwa[bK (λ_=>?_) (λh=>?_)]
    ·erw[_,λ p q h=>h];let⟨f,hkk,B⟩:=gu x (n:=⇑a) Z;let hx:a[f]?=some a[f]:=ajz B
     change a[f]=c at hx;let ekk:x % (⇑(au a):Int)=(f:Int):=by rw[aJ];rwa[hkk]
     erw[12,.inl ⟨21,aF.of F⟩,12,.inl ⟨21,aF.of r⟩,1212,d,12,.inl (aF.of r),1122,(by show (0:Int)<(⇑(au a):Int);rw[aJ];omega)];simp only[ekk];erw[d,_,(f:Int),f,.int c,22,r,33,Yu ([aJ]▸B),bQ hx];rw[xW];let N:upd H4 d (.lst (au (a.eraseIdx f))) lt\(.lst (au g)):=by rw[ao (akI L)];rwa[F]
     let Y:upd H4 d (.lst (au (a.eraseIdx f))) d\(.lst (au (a.eraseIdx f))):=aj;let nls:q d=none:=hls;let s5:av q (upd H4 d (.lst (au (a.eraseIdx f)))):=λb o e=>by rw[ao (aw e nls)];rwa[s4^s3^e]
     change upd H4 d _=H5 at N Y s5 ⊢;erw[lt,1122,N,5]
     ·rw[aJ];rwa[ajJ (show ⇑g<=100 by omega) ⋯]
     let hel:⇑(a.eraseIdx f)=⇑a - 1:=List.length_eraseIdx_of_lt B;let O:upd H5 lt (.lst (au g++[.int c])) d\(.lst (au (a.eraseIdx f))):=by rw[ao L];rwa[Y]
     erw[1212,d,12,.inl (aF.of O),11221122,⟨by show (0:Int)<(⇑(au (a.eraseIdx f)):Int)+ 1;ext,by show (⇑(au (a.eraseIdx f)):Int)+ 1<1073741824;rw[aJ];ext⟩];rwa[⟨⇑(a.eraseIdx f),3,g++[c],a.eraseIdx f,122,λb o e=>?_,by rw[aj,ints_app];rfl,O,(HN hx).trans I⟩];rw[ao (aw e Wu)];rwa[s5^e]
    cbv
  intro p l u;rwa[aZ ?_];intro S;let⟨g,v0,rfl,s3,v,I⟩:=u;dsimp only[S];clear S;rwa[12,k lt g l s3 v (RJ I)]
def KS {lt:Zs}{rs:Zn}(h:H a\.lst (au l))(c:l≠[])(b:H lt\.lst (rs.map V.ref)):a≠lt:=λe=>by
 rw[e,b]at h;injection h with h
 injection h with h
 cases l with
 |nil=>exact c rfl
 |cons z l=>
  cases rs with
  |nil=>ext h
  |cons q rs=>ext h
def RK (p:Nat):fT 0 p=hH (~~~p):=by
 unfold fT hH
 cbv
inductive DK (vs:Zb)(H:Hp)(Q:VK)(E_:XK):Prop
 |mk (ta pa wa:Zs)(rows:Za3)(p:Nat)(xs:Zh)(w:Zg):vs=[↑ta,↑pa,↑wa]->TabAt H ta rows->(∀r∈rows,M11.Pm p r)->p<=6->H pa\.lst (au (hH xs))->(∀x∈xs,x<p)->⇑xs<=6->H wa\.tup (au w)->M11.iH ⇑rows w->⇑rows<=40->(∀(n:Nat) H',1<=n->n<=60->(∀x∈xs,M17.it (λx=>w.foldl (sf rows) x) n x=x)->(∀c,1<=c->c<n->¬ ∀x∈xs,M17.it (λx=>w.foldl (sf rows) x) c x=x)->av H H'->Q (.int (n:Int)) H')->DK vs H Q E_
def pZ:T.lA.Ok P w base 2 DK:=by
 rwa[T.lA.on gT (λcy AA outer s H vs Q E hr h=>?_)]
 ·let⟨X,U,Y,rows,p,xs,w,rfl,P0,B,Gj,M,G,P1,tE,v,ti,k⟩:=h;let hu:=alU (eG hr)
  erw[_,{bF 3 gT.nd ak,lu (iy:=4) gT.nd rfl (Or.inl rfl) (fns:=["_law_word","_law_turns"]) (ixs:=[2,0]) (cl:=_) rfl (cQ (pv 1)) (cM [(_,_),(_,_)] rfl ⟨2222222222,True.intro⟩ rfl) (λC s H ex=>(pc T.mB (rH T) hr #[2,0,1])),bE (fA ajV (aM (Fs hu) (pv 4) (pv 1) (aO _))
    {lu (iy:=4) gT.nd rfl (Or.inl rfl) (fns:=["_law_word","_law_turns"]) (ixs:=[2,0]) (cl:=_) rfl (cQ (pv 4)) (cM [(_,_),(_,_)] rfl ⟨2222222222,True.intro⟩ rfl) (λC s H ex=>(pc T.mB (rH T) hr #[2,0,1])),bF 3 gT.nd (aL cw (pv 3) ak)}),a9 (pv 3)}]
  rwa[iQ ?_];intro iV eR eZ;obtain⟨f,hf⟩:∃f:Nat->Nat,f=λx=>w.foldl (sf rows) x:=⟨12⟩
  rw[<-hf]at k;let o:∀x,w.foldl (sf rows) x=f x:=λx=>by rw[hf]
  let O:∀x,x<p->f x<p:=λx a=>by rw[<-o];rwa[HM B v a]
  let F9:∀x y,x<p->y<p->f x=f y->x=y:=λx y a I e=>by rw[<-o,<-o]at e;rwa[DH B v a I e]
  let Z:=Wr G (M17.Yi Gj O F9);let hit:=λ(n x:Nat)(a:x<p)=>M17.t9 O n x a
  let e0:xs.map (M17.it f 0)=xs:=(akB λx _=>rfl).trans (List.map_id xs);let step:∀c,(xs.map (M17.it f c)).map f=xs.map (M17.it f (c+ 1)):=λc=>by rw[aki];rwa[akB λx _=>rfl]
  let lt:∀c,∀x∈xs.map (M17.it f c),x<p:=λc x a=>by let⟨y,I,rfl⟩:=akp.mp a;rwa[hit c y (G y I)]
  let body:∀{j:Hp}{R:VK}{i c:Nat}{x:V},av H j->(au (hH (xs.map (M17.it f c))))[i]?\x->R (AY f x) j->yW [↑X,x,↑Y] j R E0:=λ{j R i c x} s2 a S=>by let⟨z,rfl,hz⟩:=cO a;let⟨y,I,rfl⟩:=Wt hz;let hyp:=lt c y (ajA I);erw[X,Y,rows,p,y,w,2,P0.same s2,B,hyp,3,s2^tE,v,3];let r:R (V.int ((f ((y:Nat):Int).toNat:Nat):Int)) j:=S;rw[aka]at r;rw[o];rwa[r]
  let ln:∀c,⇑(au (hH (xs.map (M17.it f c))))<=sizeLine:=λc=>by rw[aJ,RH,ajD];rwa[ajO P1 ⋯]
  let g:H U\(.lst (au (hH (xs.map (M17.it f 0))))):=by rw[e0];rwa[M]
  erw[12,U,2,⟨_,aF.of g⟩];rwa[jN (au (hH (xs.map (M17.it f 0)))) (AY f) (ka (aF.of g)) (i7 (aF.of g)) (hU (aF.of g)) (ln 0) (λi x a R S=>⟨121212,body (av.refl H) a S⟩) (λb KH=>?_)];rw[zS,step];let s1:av H (upd H b (.lst (au (hH (xs.map (M17.it f 1)))))):=av.upd KH;let r:upd H b (.lst (au (hH (xs.map (M17.it f 1))))) b\(.lst (au (hH (xs.map (M17.it f 1))))):=aj;change upd H b _=H1 at s1 r ⊢
  let' N:St->Hp->Prop:=λ L j=>∃(b:Zs)(c:Nat),L=#v[↑X,↑U,↑Y,.int (c:Int),↑b]/\av H j/\1<=c/\c<=60/\xs.map (M17.it f c)=xs/\(∀d,1<=d->d<c->xs.map (M17.it f d)≠xs)
  erw[N,5]
  ·rwa[bB ?_];intro g9;erw[λm σ j=>∃(b:Zs)(c:Nat),m=60 - c/\σ=#v[↑X,↑U,↑Y,.int (c:Int),↑b]/\av H j/\j b\.lst (au (hH (xs.map (M17.it f c))))/\1<=c/\c<=60/\(∀d,1<=d->d<c->xs.map (M17.it f d)≠xs),⟨_,b,(1),22,s1,r,ajE _,3,λd r l=>∅⟩];intro m σ j t;rwa[aZ ?_];intro J;let⟨b,c,rfl,rfl,s2,l,F,D,u⟩:=t;dsimp only[J];clear J;erw[1212,b,U,1122,l,s2^M,12];cases e:hH (xs.map (M17.it f c))=hH xs
   ·rwa[i6 e ⟨b,c,2,s2,F,D,Gh e,u⟩]
   ·rwa[bK (λ_=>?_) (λh=>absurd (by cbv) h)]
    let hc3:c<60:=by
     rcases alY c 60 with q|q
     ·rwa[q]
     ·rwa[absurd (by rw[show c=60 by ext,Z,e0]) e]
    rwa[⟨_,λ_ _ h=>h,?_⟩];erw[12,b,2,⟨_,aF.of l⟩];rwa[jN (au (hH (xs.map (M17.it f c)))) (AY f) (ka (aF.of l)) (i7 (aF.of l)) (hU (aF.of l)) (ln c) (λi x a R S=>⟨121212,body s2 a S⟩) (λs3 Wv=>?_)];rw[zS,step];rwa[⟨121122,60 - (c+ 1),3,s3,c+ 1,25,s2.trans (av.upd Wv),aj,33,λd r l=>?_⟩]
    ·rw[show ((c+ 1:Nat):Int)=(c:Int)+ 1 by ext];rfl
    cbv
  intro L j t;rwa[aZ ?_];intro J;let⟨b,c,rfl,s2,F,D,hxc,u⟩:=t;dsimp only[J];clear J;rwa[⟨12,k c j F D (λx a=>?_) (λd r l z=>u d r l ((akB λx a=>z x a).trans (List.map_id xs))) s2⟩];let⟨i,hi,rfl⟩:=alu.mp a
  cbv
def KW {Q:VK}(lo:Int)(y:n<=1000)(t:∀(i:Nat) (c:Hp) (R:VK),i<n->(∀q,c q=none->R ↑q (upd c q (.tup (au [lo+ (i:Int)]))))->r (some (.int (lo+ (i:Int)))::D) c R)(k:∀b c d,av H c->c b=none->ck c d ((~~~n).map λi:Nat=>[lo+ (i:Int)])->Q ↑b (upd c b (.lst (d.map V.ref)))):rV r D Q (y7 lo n) H:=by
 erw[λi m ys c=>m=n - i/\i<=n/\∃d:Zn,ys=d.map V.ref/\av H c/\ck c d ((~~~i).map λi:Nat=>[lo+ (i:Int)]),⟨n,by simp,aj8 _,[],2,λ_ _ e=>e,⟨2,λi a u p=>by simp at p⟩⟩];rintro i m ys c ⟨rfl,v,d,rfl,s2,g⟩;let h:⇑d=i:=by have:=g.1;rw[ajD,akG]at this;rwa[this]
 cases f:i<n
 ·rwa[.inr ⟨f,[ajD,h]▸ajJ (show i<=1000 by omega) ⋯,λx o s=>?_⟩];let⟨rfl,rfl⟩:=s;rwa[t i o _ f λq j=>?_]
  erw[n - (i+ 1),32,f,d++[q],by cbv,s2.trans (av.upd j)];rw[ak8,akd];rwa[(g.same (av.upd j)).snoc aj]
 ·let e:i=n:=∅
  subst e;rwa[.inl ⟨ajE _,[ajD,h]▸ajO (show i<=1000 by omega) ⋯,λb l=>k b c d s2 l g⟩]
def vR {f:Zn}{d e:Za3}(h:ck H F d)(c:ck H f e):ck H (F++f) (d++e):=by
 rwa[⟨by rw[ajC,ajC,h.1,c.1],λi p w b a=>?_⟩];cases g:i<⇑F
 ·rw[ajM g]at b;rw[ajM (by rw[<-h.1];rwa[g])]at a;rwa[h.2 i p w b a]
 ·rw[ajN ∅]at b;rw[ajN (by rw[<-h.1];omega),<-h.1]at a;rwa[c.2 _ p w b a]
def DL (w:Zg)(n:Nat):(List.replicate n (au w)).flatten=au ((List.replicate n w).flatten):=by
 induction n with
 |zero=>rfl
 |succ n a=>rw[alZ,amU,a,alZ,amU,ints_app]
def DM {w:Zg}(h:z∈(List.replicate n w).flatten):z∈w:=by
 let⟨u,a,b⟩:=List.mem_flatten.mp h
 cbv
def zU (w:Zg)(n:Nat):(List.replicate n w).flatten.length=⇑w* n:=by
 induction n with
 |zero=>rfl
 |succ n a=>cbv
theorem DN {a:Type}(g:Nat->a->Nat)(w:List a):∀(n x:Nat),((List.replicate n w).flatten).foldl g x=M17.it (λx=>w.foldl g x) n x
 |0,x=>rfl
 |n+ 1,x=>by let e:=M17.wO (λx=>w.foldl g x) 1 n x;rw[show n+ 1=1+ n by ext,e,show 1+ n=n+ 1 by ext,alZ,amU,amj,DN g w n];rfl
def KY (rows:Za3)(p:Nat)(u:Zg):Prop:=M11.iH ⇑rows u/\⇑u<=60/\∀x,x<p->u.foldl (sf rows) x=x
inductive Gk (vs:Zb)(H:Hp)(Q:VK)(E_:XK):Prop
 |mk (ta:Zs)(rows:Za3)(p:Nat)(z xT:Int):vs=[↑ta,.int ⇑rows,.int z,.int xT]->xT<=60->TabAt H ta rows->1<=⇑rows->⇑rows<=3->(∀r∈rows,M11.Pm p r)->p<=6->(∀l R H',av H H'->bR H' l R->(∀u∈R,KY rows p u)->⇑R<=21->H l=none->Q ↑l H')->Gk vs H Q E_
def AG:T.qC.Ok P w base 3 Gk:=by
 rwa[T.qC.on dq (λcy AA outer s H vs Q E hr h=>?_)]
 ·let⟨ta,rows,p,z0,xT,rfl,aik,P0,oJ,Ww,hpm,Gj,k⟩:=h
  refine⟨_,{lu (iy:=4) dq.nd rfl (Or.inl rfl) (fns:=[]) (ixs:=[]) (cl:=[]) rfl (nY rfl T.eA #[ak,aL cw (pv 1) ak]) (cM [] rfl True.intro rfl) (λC s H ex=>(bG #[0])),cf ajV rfl (nY rfl T.eA #[ak,aL cw (pv 1) ak]) (cS 5 dq.nd)
    {cf ajV rfl (nY rfl T.eA #[ak,5]) (cS 6 dq.nd)
     {bF 4 dq.nd (aL oY (pv 4) (bY #[bG #[6,5],bG #[6,eF dy (pv 5)],bG #[6,5,eF dy (pv 6),eF dy (pv 5)]]))}},bF 7 dq.nd (bY ah),cf ajV rfl (cQ (pv 4)) (cS 8 dq.nd)
    {bF 9 dq.nd (pc T.lA (pZ T) hr #[0,qT rfl rfl T.km rfl T.eA #[(0|||ak)<<<0],8]),bE (bD (PW.pt (iL (aM qd (aL bX (pv 2) ak) ak (aO _)) (gL (aM Gy (aL j6 (8<<<0) (pv 9)) (pv 3) (aO _)))))
     {bp (df ajL ajW ajX bV (pv 7) #[aL Fh (pv 8) (pv 9)]),bF 3 dq.nd (aL ig (pv 3) (aL j6 (8<<<0) (pv 9)))}
     bj),bF 2 dq.nd (aL dh (pv 2) ak)},a9 (pv 7)},?_⟩
  rwa[vk ?_];intro kD iV eR eZ;let⟨Wx,acM,m⟩:=id P0;let N:0<⇑rows:=∅
  let c0:rows[0]?=some rows[0]:=ajz N
  let S:=hpm _ (ajA c0);change rows[0]=acN at c0 S;let d0:Wx[0]?\(Wx[0]'(by rw[m.1];omega)):=ajz (by rw[m.1];omega)
  change Wx[0]'([m.1]▸N)=Z at d0;let acO:=m.2 0 Z acN d0 c0;erw[121122,(1),(⇑rows:Int)+ 1,2,⟨3333⟩];rwa[KW 1 (n:=((⇑rows:Int)+ 1 - 1).toNat) ∅ (λi H2 R hi hR=>⟨12,Za4 1,λq hq=>hR q hq⟩) (λd H1 a s1 hlw B1=>?_)];let Wy:av H1 (upd H1 d (.lst (a.map V.ref))):=av.upd hlw;let h2:upd H1 d (.lst (a.map V.ref)) d\(.lst (a.map V.ref)):=aj;change upd H1 d _=H2 at Wy h2 ⊢;let O:=B1.same Wy
  let hW0:∀u∈(List.range ((⇑rows:Int)+ 1 - 1).toNat).map (λi:Nat=>[(1:Int)+ (i:Int)]),M11.iH ⇑rows u/\⇑u<=4:=λu j=>by let⟨i,hi,rfl⟩:=akp.mp j;have:=akt.mp hi;rwa[λs l=>[ajF.mp l]▸⟨33⟩,by show 1<=4;decide]
  let Y6:⇑((List.range ((⇑rows:Int)+ 1 - 1).toNat).map (λi:Nat=>[(1:Int)+ (i:Int)]))<=3:=by rw[ajD,akG];ext
  change (List.range ((⇑rows:Int)+ 1 - 1).toNat).map (λi:Nat=>[(1:Int)+ (i:Int)])=W0 at O hW0 Y6;let s02:=s1.trans Wy;erw[121122,(2),(⇑rows:Int)+ 1,2,⟨3333⟩]
  let' kZ:Nat->St->Hp->Prop:=λi z F=>∃(d:Zs)(a:Zn)(g:Za3)(v5 J:Zc),z=#v[↑ta,.int (⇑rows:Int),.int z0,.int xT,↑d,v5,J,none,none,none]/\av H F/\F d\.lst (a.map V.ref)/\ck F a g/\(∀u∈g,M11.iH ⇑rows u/\⇑u<=4)/\⇑g<=3+ 9* i
  rwa[gY (lo:=2) (n:=((⇑rows:Int)+ 1 - 2).toNat) kZ ⟨d,a,W0,none,none,2,s02,h2,O,hW0,3⟩ ?_ ?_]
  ·intro i z F hi c;rwa[aZ ?_];intro f;let⟨d,a,g,v5,J,rfl,s3,h3,t3,Wz,hl3⟩:=c;dsimp only[f];clear f;dsimp only[cZ];rwa[bB ?_];intro g9;erw[12,(1),2+ (i:Int),2,⟨3333⟩]
   let' qN:Nat->St->Hp->Prop:=λn z X=>∃(d:Zs)(a:Zn)(g:Za3)(J:Zc),z=#v[↑ta,.int (⇑rows:Int),.int z0,.int xT,↑d,.int (2+ (i:Int)),J,none,none,none]/\av H X/\X d\.lst (a.map V.ref)/\ck X a g/\(∀u∈g,M11.iH ⇑rows u/\⇑u<=4)/\⇑g<=3+ 9* i+ 3* n
   rwa[gY (lo:=1) (n:=(2+ (i:Int) - 1).toNat) qN ⟨d,a,g,J,2,s3,h3,t3,Wz,3⟩ ?_ ?_]
   ·intro n z X hn c;rwa[aZ ?_];intro f;let⟨d,a,g,J,rfl,s4,h4,t4,WB,KZ⟩:=c;dsimp only[f];clear f;dsimp only[cZ];rwa[bB ?_];intro g9;rwa[⟨121212,Za4 2,λq1 Kg=>?_⟩];generalize e_:upd X q1 _=v;obtain⟨s5,a5⟩:_/\_\(.tup (au [1+ (n:Int),2+ (i:Int)])):=du e_ Kg;rwa[⟨121212,Za4 2,λq2 Pk=>?_⟩];generalize e_:upd v q2 _=H6;obtain⟨s6,a6⟩:_/\_\(.tup (au [1+ (n:Int),-(2+ (i:Int))])):=du e_ Pk;rwa[⟨121212121212,Za4 4,λq3 hq3=>?_⟩];generalize e_:upd H6 q3 _=H7;obtain⟨s7,a7⟩:_/\_\(.tup (au [1+ (n:Int),2+ (i:Int),-(1+ (n:Int)),-(2+ (i:Int))])):=du e_ hq3;rwa[⟨Za4 3,λql De=>?_⟩];generalize e_:upd H7 ql _=H8;obtain⟨s8,a8⟩:_/\_\(.lst ([q1,q2,q3].map V.ref)):=du e_ De;let WC:=((s5.trans s6).trans s7).trans s8
    let t8:ck H8 [q1,q2,q3] [[1+ (n:Int),2+ (i:Int)],[1+ (n:Int),-(2+ (i:Int))],[1+ (n:Int),2+ (i:Int),-(1+ (n:Int)),-(2+ (i:Int))]]:=by let b0:ck H8 [] []:=⟨2,λi p w h1=>by simp at h1⟩;rwa[((b0.snoc (s8^s7^s6^a5)).snoc (s8^s7^a6)).snoc (s8^a7)]
    let lL:⇑a=⇑g:=t4.1;rwa[⟨d,ql,1122,WC^h4,a8,5,λl9 PX=>?_⟩]
    ·rw[ajD,ajD];rwa[ajO (show ⇑a+ 3<=1000 by omega) ⋯]
    erw[l9,a++[q1,q2,q3],112,(s4.trans WC).trans (av.upd PX),by rw[aj,akd],(vR (t4.same WC) t8).same (av.upd PX),λu j=>?_]
    ·rcases ajK.mp j with j|j
     ·rwa[WB u j]
     ·let ok:∀s:Int,s=1+ (n:Int)\/s=2+ (i:Int)\/s= -(1+ (n:Int))\/s= -(2+ (i:Int))->s≠0/\s.natAbs<=⇑rows:=λs l=>by
       rcases l with rfl|rfl|rfl|rfl
       ·rwa[⟨by ext,by ext⟩]
       ·rwa[⟨by ext,by ext⟩]
       ·rwa[⟨by ext,by ext⟩]
       ·rwa[⟨by ext,by ext⟩]
      simp only[ajS,akn,alJ]at j;rcases j with rfl|rfl|rfl
      ·rwa[⟨λs l=>ok s ?_,by show 2<=4;decide⟩];simp only[ajS,akn,alJ]at l;rcases l with h|h
       ·rwa[.inl h]
       ·rwa[.inr (.inl h)]
      ·rwa[⟨λs l=>ok s ?_,by show 2<=4;decide⟩];simp only[ajS,akn,alJ]at l;rcases l with h|h
       ·rwa[.inl h]
       ·rwa[.inr (.inr (.inr h))]
      ·rwa[⟨λs l=>ok s ?_,by show 4<=4;decide⟩];simp only[ajS,akn,alJ]at l;rwa[l]
    ·rw[ajC];simp only[aj1,akL];ext
   ·intro z X c;rwa[aZ ?_];intro f;let⟨d,a,g,J,rfl,s4,h4,t4,WB,KZ⟩:=c;dsimp only[f];clear f;rwa[d,a,g,112,s4,h4,t4,WB,3]
  intro z F c;rwa[aZ ?_];intro f;let⟨d,a,g,v5,J,rfl,s3,h3,t3,Wz,hl3⟩:=c;dsimp only[f];clear f;rwa[⟨aj8 _,λG Y=>?_⟩];let WG:av F (upd F G (.lst [])):=av.upd Y;let h4:upd F G (.lst []) G\(.lst (([]:Zn).map V.ref)):=aj;change upd F G _=X at WG h4 ⊢;erw[12,d,2,⟨_,aF.of (WG^h3)⟩]
  let' Nz:Nat->St->Hp->Prop:=λn z v=>∃(fs:Zn)(R:Za3)(zm B:Int)(v8 v9:Zc),z=#v[↑ta,.int (⇑rows:Int),.int zm,.int B,↑d,v5,J,↑G,v8,v9]/\av F v/\v G\.lst (fs.map V.ref)/\ck v fs R/\(∀u∈R,KY rows p u)/\⇑R<=n/\B<=60
  rwa[dJ (xs:=a.map V.ref) Nz ⟨[],[],z0,xT,none,none,2,WG,h4,⟨2,λi p w h1=>by simp at h1⟩,(λu j=>by ext j),aj8 _,3⟩ (λn z v _ ζ=>by let⟨_,_,_,_,_,_,_,s,_⟩:=ζ;rwa[aF.of (s^h3)]) ?_ ?_]
  ·intro n y z v hn c;rwa[aZ ?_];intro f;let⟨fs,R,zm,B,v8,v9,rfl,s5,h5,t5,I,P8,K0⟩:=c;dsimp only[f];clear f;dsimp only[cZ];rwa[qh ?_];intro g9 Ph Pj;rw[aj0]at hn
   let zN:n<⇑a:=by
    cases e:a[n]? with
    |none=>rw[e]at hn;ext hn
    |some r=>cbv
   let g1:a[n]?=some a[n]:=ajz zN
   rw[g1]at hn;let ey:V.ref a[n]=y:=Za0 hn;subst ey;change a[n]=wa at g1;let lL:⇑a=⇑g:=t3.1;let g2:g[n]?\(g[n]'∅):=ajz ∅
   change g[n]'∅=w at g2;let tE:=t3.2 n wa w g1 g2;let⟨Pu,hw4⟩:=Wz w (ajA g2);let Gm:=s3.trans s5;let Yv:=Gm^acM;rwa[⟨1212,ta,11,↑Z,22,aF.of Yv,eH (i:=0) d0,Z,12,.inl (aF.of (Gm^acO)),p,by rw[aJ,S.1],3,λlp P9=>?_⟩];let L:av v (upd v lp (.lst (au (fT 0 p)))):=av.upd P9;let h6:upd v lp (.lst (au (fT 0 p))) lp\(.lst (au (fT 0 p))):=aj;change upd v lp _=H6 at L h6 ⊢;rw[RK]at h6;rwa[⟨12,ta,lp,wa,rows,p,List.range p,w,2,P0.same (Gm.trans L),hpm,Gj,h6,λx hx=>akt.mp hx,[akG]▸Gj,L^s5^tE,Pu,3,λon H7 ho1 Wg ho3 _ s67=>?_⟩];let M:=L.trans s67;let t:=M^s5^tE;let h7:=M^h5;let t7:=t5.same M;let U:=s5.trans M
   let' DP:St->Hp->Prop:=λ fV H'=>∃(fs:Zn)(R:Za3)(B:Int),fV=#v[↑ta,.int (⇑rows:Int),.int zm,.int B,↑d,v5,J,↑G,↑wa,.int (on:Int)]/\av F H'/\H' G\.lst (fs.map V.ref)/\ck H' fs R/\(∀u∈R,KY rows p u)/\⇑R<=n+ 1/\B<=60
   erw[DP,5]
   ·rwa[bB ?_];intro g9;rwa[⟨121122,(by show (0:Int)<3;decide),112212,bK (λ_=>?_) (λ_=>b8 ⟨fs,R,B,2,U,h7,t7,I,3,K0⟩)⟩];rwa[⟨12,wa,12,.inr (bu.of t),121122,.inr ⟨33⟩,12112212,bK (λh=>?_) (λ_=>⟨fs,R,B,2,U,h7,t7,I,3,K0⟩)⟩];let hle:(⇑(au w):Int)* (on:Int)<=B:=ajQ h;rw[aJ]at hle
    let hmul:⇑w* on<=60:=by have:((⇑w* on:Nat):Int)=(⇑w:Int)* (on:Int):=Int.natCast_mul ..;ext
    rwa[⟨12,.inl ⟨21,aF.of h7⟩,1212,wa,1122,t,335,λq8 H8 D h8=>?_⟩]
    ·rw[aJ,aka];rwa[ajO hmul ⋯]
    rw[aka,DL]at h8;let WH:=D^h7;let Px:⇑fs=⇑R:=t5.1;erw[G,1122,WH,5]
    ·rw[ajD];rwa[ajJ (show ⇑fs<=1000 by omega) ⋯]
    let acP:upd H8 G (.lst (fs.map V.ref++[V.ref q8])) wa\(.tup (au w)):=by rw[ao (cz (D^t) WH (by cbv))];rwa[D^t]
    erw[1212,wa,12,.inr (bu.of acP),121122,.inr ⟨33⟩,1122];erw[fs++[q8],R++[(List.replicate on w).flatten],12,λb o e=>[ao (aw e Y)]▸D^U^e,by rw[aj,akd];rfl,vQ ((t7.same D).snoc h8) WH,λu j=>?_,by rw[ajC];simp only[aj1,akL];ext]
    ·rcases ajK.mp j with j|j
     ·rwa[I u j]
     ·rw[ajF.mp j];rwa[λs l=>Pu s (DM l),by rw[zU];ext,λx hx=>[DN]▸ho3 x (akt.mpr hx)]
    cbv
   intro fV H8 c;rwa[aZ ?_];intro f;let⟨fs,R,B,rfl,s8,h8,t8,hR8,acQ,acR⟩:=c;dsimp only[f];clear f;rwa[121122,⟨44⟩,fs,R,_,B,112,s8,h8,t8,hR8,acQ,acR]
  ·intro z v c;rwa[aZ ?_];intro f;let⟨fs,R,zm,B,v8,v9,rfl,s5,h5,t5,I,P8,K0⟩:=c;dsimp only[f];clear f;let lL:⇑a=⇑g:=t3.1;rw[ajD]at P8;rwa[12,k G R v (s3.trans s5) ⟨fs,h5,t5⟩ I ∅ (same_none s3 Y)]
def WL (rows:Za3)(x:Nat)(u:Zg):Prop:=M11.iH ⇑rows u/\⇑u<=1000/\u.foldl (sf rows) x=x
inductive K1 (K:Za1)(vs:Zb)(H:Hp)(Q:VK)(E_:XK):Prop
 |mk (a ta:Zs)(ns:Zg)(rows:Za3)(p x:Nat):vs=[↑a,↑ta,.int ⇑rows,.int x]->aF K H a (au ns)->⇑ns<=63->TabAt H ta rows->1<=⇑rows->⇑rows<=3->(∀r∈rows,M11.Pm p r)->p<=6->x<p->(∀l P H',av H H'->bR H' l P->(∀u∈P,WL rows x u)->⇑P<=3->Q ↑l H')->K1 K vs H Q E_
structure j4 (H H':Hp)(l:Zs)(L n m:Nat)(Ws:Za3):Prop where
 s:av H H'
 f:H l=none
 h:bR H' l Ws
 w:∀u∈Ws,M11.iH L u/\⇑u<=m
 c:⇑Ws<=n
def j4.same {b:Za3}(h:j4 H I a n m i b)(s:av I J):j4 H J a n m i b:=⟨h.s.trans s,h.f,h.h.same s,h.w,h.c⟩
def j4.le {n' m':Nat}{b:Za3}(h:j4 H I a n m i b)(e:m<=n')(d:i<=m'):j4 H I a n n' m' b:=⟨h.s,h.f,h.h,λu c=>⟨(h.w u c).1,ajO (h.w u c).2 d⟩,ajO h.c e⟩
def j4.add {q:Zs}{f:Za3}{u:Zg}(h:j4 H I a n m i f)(j:I q\.tup (au u))(l:M11.iH n u/\⇑u<=i):∃c:Zn,I a\.lst (c.map V.ref)/\⇑c<=m/\j4 H (upd I a (.lst (c.map V.ref++[↑q]))) a n (m+ 1) i (f++[u]):=by
 let⟨c,g,d⟩:=h.h;rwa[⟨c,g,[d.1]▸h.c,λb o e=>[ao (aw e h.f)]▸h.s^e,h.f,⟨c++[q],by rw[aj,akd];rfl,vQ (d.snoc j) g⟩,λv k=>?_,by rw[ajC];have:=h.c;show _+ 1<=_;ext⟩];rcases ajK.mp k with y|y
 ·rwa[h.w v y]
 ·rw[ajF.mp y];rwa[l]
def j4.ins {K:Za1}{b:Za3}(h:j4 H I a n m i b):N2 K "list" ↑a I:=by let⟨d,c,_⟩:=h.h;rwa[.inl ⟨21,aF.of c⟩]
def DQ:T.sP.Ok P w base 3 (K1 K):=by
 rwa[T.sP.on gU (λcy AA outer s H vs Q E M h=>?_)]
 ·let⟨a,Z,ns,rows,p,x,rfl,ha,hns,hT,oJ,Ww,N,Gj,J,k⟩:=h;let S:=alU (eG M)
  erw[_,{bF 4 gU.nd (aL bX (pc T.bH (bA T) M #[0,ak]) ak),bF 5 gU.nd (bY ah),bE (bD (PW.pt (dN (aM cV (pv 4) ak (aO _)) (ic (aM cV (pv 4) ak (aO _)))))
    {bp (df ajL ajW ajX bV (pv 5) #[bG #[aL cw ak (aL bX (aL dh (pc T.bH (bA T) M #[0,ak]) ak) (pv 2))]])}
    bj),bE (bD (aM cV (pv 4) ak (aO _))
    {bp (df ajL ajW ajX bV (pv 5) #[bG #[(5|||ak)&&&ak,aL ig (eF dy ak) (aL bX (aL dh (pc T.bH (bA T) M #[0,ak]) ak) (pv 2))]])}
    bj),bE (bD (aM cV (pv 4) ak (aO _))
    {bF 6 gU.nd (bG ah),cf ajV rfl (cQ (mO Fd (pv 0) (kL ak) (kL ak))) (cS 7 gU.nd)
     {bF 6 gU.nd (aL Be (pv 6) (bG #[pc T.oF (tH T) M #[aL bX (aL j6 (pv 7) ak) ak,2]]))},bE (bD (aM (Fg S) (pv 6) (bG ah) (aO _))
     {bp (df ajL ajW ajX bV (pv 5) #[6])}
     bj)}
    bj),a9 (iR (fns:=["_law_turns","_law_first_here"]) (ixs:=[1,3]) (cl:=_) rfl (cQ (pv 5)) (cM [(_,_),(_,_)] rfl ⟨2222222222,True.intro⟩ rfl) (λC s H ex=>(aL Fh (pv 0) (pc T.lA (pZ T) M #[1,bY #[2],0]))))}]
  rwa[mX ?_];intro mv kD iV eR eZ;rwa[⟨12,a,ns,(6),2,ha,4,λz=>⟨1122,(by show (0:Int)<4;decide),5⟩⟩];obtain⟨y,m⟩:∃y,z % 4=y:=⟨12⟩;rw[show V.int (z % 4)=V.int y from akK V.int m];clear m;rwa[⟨aj8 _,λl nl=>?_⟩];let w0:j4 H (upd H l (.lst [])) l ⇑rows 0 1 []:=⟨av.upd nl,nl,⟨[],aj,2,λi p w h=>by simp at h⟩,(λu S=>by ext S),ajE _⟩;change upd H l _=H1 at w0 ⊢;let md:∀z:Int,0<=z % (⇑rows:Int)/\z % (⇑rows:Int)<⇑rows:=λz=>⟨ak7 _ ∅,akU _ ∅⟩
  let' qQ:St->Hp->Prop:=λ d r=>∃g,d=#v[↑a,↑Z,.int ⇑rows,.int x,.int y,↑l,none,none]/\j4 H r l ⇑rows 1 2 g/\(y=2->∃s,g=[[s]])
  erw[qQ,5]
  ·rwa[bB ?_];intro O;erw[12212];rwa[bK (λL=>dg ?_) (λL=>⟨12212,bK (λh2=>?_) (λh2=>⟨[],2,w0.le ⋯ ⋯,λe=>absurd (by rw[e];rfl) h2⟩)⟩)]
   all_goals
    rwa[⟨12,w0.ins,12,a,ns,(6),2,w0.s.seq ha,4,λz1=>⟨1122,⟨44⟩,12112231122,(Za4 1),λq hq=>?_⟩⟩];let sq:=av.upd (o:=.tup [.int (1+ z1 / 24 % (⇑rows:Int))]) hq;have:=md (z1 / 24);let⟨f,j,g2,g3⟩:=(w0.same sq).add (q:=q) (u:=[1+ z1 / 24 % (⇑rows:Int)]) aj ⟨λs B=>[ajF.mp B]▸⟨33⟩,ajE _⟩;rwa[l,1122,j,[ajD]▸ajJ (show ⇑f<=100 by omega) ⋯,12,g3.le ⋯ ⋯,λ_=>⟨12⟩]
  rintro d U ⟨g,rfl,Y,m⟩
  let' qL:St->Hp->Prop:=λ d r=>∃g,d=#v[↑a,↑Z,.int ⇑rows,.int x,.int y,↑l,none,none]/\j4 H r l ⇑rows 2 2 g
  erw[qL,5]
  ·rwa[bB ?_];intro O;erw[12212];rwa[bK (λL=>?_) (λL=>⟨g,2,Y.le ⋯ ⋯⟩)];let h1':V.int y=V.int 2:=ajQ L;let⟨s0,rfl⟩:=m (by injection h1');let⟨f,j,g2⟩:=id Y.h
   obtain⟨q0,rfl⟩:∃q0,f=[q0]:=by
    have:=g2.1
    match f,this with
    |[q0],_=>cbv
   let g3:U q0\(.tup (au [s0])):=g2.2 0 q0 _ rfl rfl;let hs0:=(Y.w _ (ajF.mpr rfl)).1 s0 (ajF.mpr rfl);rwa[⟨12,Y.ins,12,l,11122,aF.of j,2,q0,11122,bu.of g3,21212,a,ns,(7),2,Y.s.seq ha,4,λz1=>⟨1122,⟨44⟩,121122,(by show (0:Int)<(⇑rows:Int);omega),1122,(Za4 2),λq hq=>?_⟩⟩];let sq:=av.upd (o:=.tup [.int s0,.int (-1 - z1 / 192 % (⇑rows:Int))]) hq;have:=md (z1 / 192)
   let⟨f,j,g2,g3⟩:=(Y.same sq).add (q:=q) (u:=[s0,-1 - z1 / 192 % (⇑rows:Int)]) aj ⟨λs B=>by
    rcases ajS.mp B with rfl|B
    ·rwa[hs0]
    ·rw[ajF.mp B];rwa[33],ajE _⟩
   rwa[l,1122,j,[ajD]▸ajJ (show ⇑f<=100 by omega) ⋯,12,g3]
  rintro d H3 ⟨Ws3,rfl,w3⟩;clear Y m w0 g
  let' vS:St->Hp->Prop:=λ d r=>∃g v6 I,d=#v[↑a,↑Z,.int ⇑rows,.int x,.int y,↑l,v6,I]/\j4 H r l ⇑rows 3 63 g
  erw[vS,5]
  ·rwa[bB ?_];intro O;erw[12212];rwa[bK (λL=>?_) (λL=>⟨Ws3,112,w3.le ⋯ ⋯⟩)];rwa[⟨aj8 _,λt nt=>?_⟩];generalize e_:upd H3 t _=H4;obtain⟨st,qt⟩:_/\_\(.tup (au [])):=du e_ nt;rwa[⟨121212,a,12,(w3.s.trans st).seq ha,λb nb=>?_⟩]
   obtain⟨ms,em,hm⟩:∃ms:Zg,iE (au ns) (some 8) (some 63)=au ms/\⇑ms<=63:=by erw[(ns.drop (HT.cD ⇑(au ns) 0 (some 8))).take (HT.cD ⇑(au ns) ⇑(au ns) (some 63) - HT.cD ⇑(au ns) 0 (some 8)),by unfold iE au;rw[List.map_take,List.map_drop]];rw[ake,akx];ext
   rw[em];generalize e_:upd H4 b _=H5;let⟨sb,qb⟩:=du e_ nb;erw[b,2,⟨_,aF.of qb⟩]
   let' acS:Nat->St->Hp->Prop:=λi σ r=>∃(t:Zs)(u:Zg)(I:Zc),σ=#v[↑a,↑Z,.int ⇑rows,.int x,.int y,↑l,↑t,I]/\av H5 r/\r t\.tup (au u)/\⇑u=i/\M11.iH ⇑rows u
   rwa[dJ (xs:=au ms) acS ⟨t,[],none,2,av.refl _,sb^qt,2,(λs B=>by ext B)⟩ (λi σ r _ ζ=>by let⟨_,_,_,_,s,_⟩:=ζ;rwa[aF.of (s^qb)]) ?_ ?_]
   ·intro i v σ H6 F R;rwa[aZ ?_];intro q_;let⟨t,u,I,rfl,s6,q6,hl,S⟩:=R;dsimp only[q_];clear q_;dsimp only[cZ];rwa[bB ?_];intro O;let⟨z1,rfl,hz⟩:=cO F;let Wa:=(ajy.mp hz).1;rwa[⟨12121122,.inr ⟨44⟩,1122,(by show (0:Int)<2147483647;decide),121,⇑rows,2,oJ,3,λs L h2=>⟨(Za4 1),λu' nu=>?_⟩⟩];rwa[⟨t,u',1122,av.upd nu _ _ q6,aj,5,λp' H7 s7 e7=>?_⟩]
    ·rw[aJ];rwa[ajO (show ⇑u+ 1<=100 by omega) ⋯]
    rwa[⟨p',u++[s],12,s6.trans ((av.upd nu).trans s7),[ints_app]▸e7,by rw[ajC,hl];rfl,λx J=>?_⟩];rcases ajK.mp J with q|q
    ·rwa[S x q]
    ·rw[ajF.mp q];rwa[L,h2]
   intro σ H6 R;rwa[aZ ?_];intro q_;let⟨t,u,I,rfl,s6,q6,hl,S⟩:=R;dsimp only[q_];clear q_;rw[aJ]at hl;let w6:=w3.same ((st.trans sb).trans s6);rwa[⟨λ d r=>∃g v6 I,d=#v[↑a,↑Z,.int ⇑rows,.int x,.int y,↑l,v6,I]/\j4 H r l ⇑rows 3 63 g,5,λ_ _ z=>z⟩];rwa[⟨12,aj8 _,λe0 F6=>?_⟩];let se:=av.upd (o:=.tup []) F6;let w7:=(w6.same se).le (n':=2) (m':=63) ⋯ ⋯;erw[t,e0,u,[],22,bu.of (se^q6),bu.of aj,12];rwa[bK (λ_=>?_) (λ_=>⟨1112,w7.le ⋯ ⋯⟩)];let⟨f,j,g2,g3⟩:=w7.add (q:=t) (u:=u) (se^q6) ⟨S,3⟩;rwa[12,w7.ins,12,l,1122,j,[ajD]▸ajJ (show ⇑f<=100 by omega) ⋯,1112,g3]
  rintro d H4 ⟨g,v6,I,rfl,w4⟩;let⟨f,j,g2⟩:=id w4.h;let De:⇑f<=3:=by rw[g2.1];rwa[w4.c]
  erw[12,l,2,⟨_,aF.of j⟩];rwa[oh ⇑f (λi=>(f.map V.ref).getD i .non) (λU v i=>∃p,v=↑p/\∃w,U p\.tup (au w)/\WL rows x w) (λH1 U v i s ζ=>by let⟨p,e,w,q,o⟩:=ζ;rwa[⟨p,e,w,s^q,o⟩]) (ajO De ⋯) (λi U s2 F=>ka (aF.of (s2^j)) i ([ajD]▸F)) (λi v U H3 s2 F y=>?_) (λU s2=>?_) (λi H5 Rr F s5 kk=>?_) (λD H5 ys s5 hD V3 M=>?_)]
  ·let⟨e1,e2⟩:=i7 (aF.of (s2^j)) i v H3 ([ajD]▸F) y;rwa[e1,by rw[ajH,e2];rfl]
  ·have:=hU (K:=K) (aF.of (K:=K) (s2^j));rw[ajD]at this;rwa[this]
  ·let e1:f[i]?=some f[i]:=ajz F
   let e2:g[i]?\(g[i]'(by rw[<-g2.1];rwa[F])):=ajz (by rw[<-g2.1];rwa[F])
   change f[i]=wa at e1;change g[i]'(by cbv)=u at e2;let tE:=g2.2 i wa u e1 e2;let⟨G,kF⟩:=w4.w u (ajA e2);rw[show (f.map V.ref).getD i .non=V.ref wa by cbv];rwa[⟨121212,(Za4 1),λl1 n1=>?_⟩];generalize e_:upd H5 l1 _=H6;obtain⟨s1,q1⟩:_/\_\(.lst (au (hH [x]))):=du e_ n1;let X:=s5.trans s1;rwa[⟨12,Z,l1,wa,rows,p,[x],u,2,(hT.same w4.s).same X,N,Gj,q1,λy m=>[ajF.mp m]▸J,by show 1<=6;decide,X^tE,G,3,λn H7 hn1 Pw Wd hn4 s7=>?_⟩];let TF:∀x,x<p->u.foldl (sf rows) x<p:=λx J=>HM N G J
   let F9:∀x y,x<p->y<p->u.foldl (sf rows) x=u.foldl (sf rows) y->x=y:=λx y J m e=>DH N G J m e
   let⟨c,BM,Om,hc3⟩:=M17.ring TF F9 J
   let hn6:n<=6:=by
    rcases alY c n with q|q
    ·rwa[absurd (λy m=>by rw[ajF.mp m];rwa[hc3]) (hn4 c BM q)]
    ·ext
   let hmul:⇑u* n<=1000:=ajO (amr kF hn6) (by decide);rwa[⟨wa,1122,s7^X^tE,335,λq8 H8 s8 h8=>?_⟩]
   ·rw[aJ,aka];rwa[ajO hmul ⋯]
   rw[aka,DL]at h8;rwa[kk _ _ ((s1.trans s7).trans s8) ⟨q8,21,h8,λs B=>G s (DM B),by rw[zU];ext,[DN]▸Wd x (ajF.mpr rfl)⟩]
  let⟨pP,rfl,Qa⟩:=tZ (P:=λ_ p=>∃w,H5 p\.tup (au w)/\WL rows x w) ys 0 (λi v hv=>M i v hv);let⟨ps,tP,oP⟩:=words_of λi p e=>Qa i p e
  rwa[k D ps _ ((w4.s.trans s5).trans (av.upd hD)) ⟨pP,aj,tP.same (av.upd hD)⟩ oP (by rw[<-tP.1];rw[ajD]at V3;omega)]
inductive DR (Pt cT:Zs)(vs:Zb)(H:Hp)(Q:VK)(E_:XK):Prop
 |mk (ru pa:Zs)(L lim w:Nat)(ot:Zh)(rs ps:Za3):vs=[.int L,↑ru,↑pa,.int lim,.str (tx ot)]->(ot=ky w\/ot=[]/\w=0)->w<3->1<=L->L<=40->1<=lim->lim<=300->bR H ru rs->bR H pa ps->(∀u∈rs++ps,KQ L u)->lim* ⇑rs+ ⇑ps<=700->⇑rs<=400->⇑ps<=400->dG Pt eX iY H->(∀q t tb pp S N H',Kp Pt H H'->dG Pt eX iY H'->Fl rs ps L w lim S->(∀c z,¬dO S L c z)->H' q\.tup [↑t,.non]->H' t\.tup [↑tb,↑pp]->TabAt H' tb (M24.yu (cF S) (2* S.L) (M24.cq (cF S) (2* S.L) 0 N))->⇑(M24.cq (cF S) (2* S.L) 0 N)=N->lE H' pp S->Q ↑q H')->(∀q x d pp S H',Kp Pt H H'->dG Pt eX iY H'->Fl rs ps L w lim S->S.q=lim->(∃c z,ib w S L c z)->H' q\.tup [.non,↑x]->H' x\XO x cT (some d) false->H' d\XD d (DC S.q pp)->lE H' pp S->Q ↑q H')->DR Pt cT vs H Q E_
def lE.same (h:lE H a S)(s:av H I):lE I a S:=by let⟨b,f,c,g⟩:=h;rwa[b,s^f,c.imp (λp d _ _ e=>e.same s),g]
def yX(u:kS mg base):T.oQ.Ok P w base 12 (DR A.fe A.bI):=by
 rwa[T.oQ.on eM (λcy AA outer s H vs Q E hr h=>?_)]
 ·let⟨ru,pa,L,f,n,ot,rs,ps,rfl,D,y,F,nL,xK,C,Y,Z,X,r,M,v,hT,kq,ke⟩:=h;let⟨tkd,hbd⟩:=T.fill.bd
  erw[_,{bF 5 eM.nd b9,bF 6 eM.nd b9,bE (Rg rfl rfl (UJ (aM cV (pv 4) (dA (l:=[]) rfl) (aO _)) (FJ (i:=5) eM.nd rfl (Or.inl rfl) (B6 (dvs:=[V.str (tx [114,111,111,109,115])]) (Gb T u) hr.Za5 rfl T.fill.m T.fill.kp hbd (.cons ⟨12⟩ .nil) #[0,1,2,3])) (FJ (i:=5) eM.nd rfl (Or.inl rfl) (B6 (Gb T u) hr.Za5 rfl T.fill.m T.fill.kp T.fill.b .nil #[0,1,2,3,4])))
    (UK (i:=7) eM.nd rfl rfl rfl T.zK (λ_=>{bF 6 eM.nd (pv 7)})
    UL (by decide))),a9 (bG #[5,6])}]
  rwa[iQ ?_];intro iV eR eZ
  let' qQ:St->Hp->Prop:=λ U g=>Kp A.fe H g/\dG A.fe eX iY g/\∃B O,U=#v[.int L,↑ru,↑pa,.int f,.str (tx ot),some B,some O,none]/\((∃t p b S N,B=↑t/\O=.non/\Fl rs ps L n f S/\(∀c z,¬dO S L c z)/\g t\.tup [↑p,↑b]/\TabAt g p (M24.yu (cF S) (2* S.L) (M24.cq (cF S) (2* S.L) 0 N))/\⇑(M24.cq (cF S) (2* S.L) 0 N)=N/\lE g b S)\/∃x d b S,B=.non/\O=↑x/\Fl rs ps L n f S/\S.q=f/\(∃c z,ib n S L c z)/\g x\XO x A.bI (some d) false/\g d\XD d (DC S.q b)/\lE g b S)
  erw[qQ,5]
  ·rwa[bB ?_];intro g9;erw[12212];rwa[bK (λh=>?_) (λh=>?_)]
   ·let e:ot=[]:=j3.mp (ajQ h)
    let ew:n=0:=by
     rcases D with q|q
     ·rw[e]at q;rcases (show n=0\/n=1\/n=2 by omega) with rfl|rfl|rfl
      ·rfl
      ·rwa[absurd q (by decide)]
      ·rwa[absurd q (by decide)]
     ·rwa[q.2]
    subst ew;rwa[⟨12121212,ru,pa,L,f,(0),rs,ps,2,y,F,nL,xK,C,Y,Z,X,r,M,v,hT,λt p b S N g m t1 j J k a2 G I=>?_,λd b S g m t1 j R l1 k a2=>?_⟩]
    ·rwa[m,t1,↑t,.non,2,.inl ⟨t,p,b,S,N,22,j,J,k,a2,G,I⟩]
    ·rwa[⟨12,true,T.YY,dg λx nx=>⟨125⟩⟩];let a:=av.upd (o:=XO x A.bI (some d) false) nx;rwa[m.trans (.same a),t1.same a,.non,↑x,2,.inr ⟨x,d,b,S,22,j,R,l1,aj,a^k,a2.same a⟩]
   ·let e:ot=ky n:=D.elim id λq=>absurd (ajZ (j3.mpr q.1)) h
    subst e;rwa[⟨1212121212,ru,pa,L,f,n,rs,ps,2,y,F,nL,xK,C,Y,Z,X,r,M,v,hT,λt p b S N g m t1 j J k a2 G I=>?_,λd b S g m t1 j R l1 k a2=>?_⟩]
    ·rwa[m,t1,↑t,.non,2,.inl ⟨t,p,b,S,N,22,j,J,k,a2,G,I⟩]
    ·rwa[⟨12,true,T.YY,dg λx nx=>⟨125⟩⟩];let a:=av.upd (o:=XO x A.bI (some d) false) nx;rwa[m.trans (.same a),t1.same a,.non,↑x,2,.inr ⟨x,d,b,S,22,j,R,l1,aj,a^k,a2.same a⟩]
  intro U H1 tm;rwa[aZ ?_];intro q_;let⟨m,t1,B,O,rfl,cs⟩:=tm;dsimp only[q_];clear q_;rwa[⟨1212,Za4 2,λq nq=>?_⟩];let a:=av.upd (o:=.tup [B,O]) nq;rcases cs with ⟨t,p,b,S,N,rfl,rfl,j,J,k,a2,G,I⟩|⟨x,d,b,S,rfl,rfl,j,R,l1,a0,k,a2⟩
  ·rwa[kq q t p b S N _ (m.trans (.same a)) (t1.same a) j J aj (a^k) (a2.same a) G (I.same a)]
  ·rwa[ke q x d b S _ (m.trans (.same a)) (t1.same a) j R l1 aj (a^a0) (a^k) (a2.same a)]
def Gn (K:Za1):Sp:=λe H Q _=>∃(a:Zs)(ns:Zg),e=[↑a]/\aF K H a (au ns)/\⇑ns<=63/\∀(l f c d:Zs)(L x:Nat)(R P:Za3) b,av H b->b l\.tup [.int L,↑f,↑c,↑d,.int x]->1<=L->L<=3->bR b c R->bR b d P->(∀u∈R++P,KQ L u)->⇑R<=23->⇑P<=3->Q ↑l b
inductive DS (vs:Zb)(H:Hp)(Q:VK)(E_:XK):Prop
 |mk (z:Int)(L m:Nat):vs=[.int z,.int L,.int m]->1<=L->L<=3->m<=12->(∀l w H',av H H'->H' l\.tup (au w)->KQ L w->Q ↑l H')->DS vs H Q E_
def WM (K:Za1):Sp:=Gn K
def WN (b:Bool):∃a:Int,fY [V.int 36,V.int 60] (if b=true then 1 else 0)\.int a/\a<=60:=by
 ext b
 ·rwa[⟨(36),rfl,by decide⟩]
 ·rwa[⟨(60),rfl,by decide⟩]
def gu (z:Int){n:Nat}(h:0<n):∃x:Nat,z % (n:Int)=(x:Int)/\x<n:=by let a:=ak7 z (show (n:Int)≠0 by omega);let b:=akU z (show (0:Int)<(n:Int) by omega);rwa[(z % (n:Int)).toNat,33]
def p5:T.lB.Ok P w base 2 DS:=by
 rwa[T.lB.on eK (λF AA o s H vs Q E M h=>?_)]
 ·let⟨z,L,m,rfl,p,nL,hm,k⟩:=h
  erw[_,{bF 3 eK.nd (aL bX (pv 0) (aL cw (pv 2) ak)),bF 0 eK.nd (aL dh (pv 0) (aL cw (pv 2) ak)),bF 4 eK.nd (bG ah),cf ajV rfl (fy rfl T.eA #[3]) (cS 5 eK.nd)
    {bF 4 eK.nd (aL Be (pv 4) (bG #[pc T.oF (tH T) M #[aL bX (pv 0) (aL j6 ak (pv 1)),1]])),bF 0 eK.nd (aL dh (pv 0) (aL j6 ak (pv 1)))},a9 (pv 4)}]
  rwa[vk ?_];intro I G Y D;let⟨n,N,J⟩:=gu z (n:=m+ 1) ∅;let U:z % ((m:Int)+ 1)=(n:Int):=N;erw[121211221122,(by show (0:Int)<(m:Int)+ 1;omega)];rw[U];erw[121211221122,⟨33⟩];rwa[⟨aj8 _,λl R=>?_⟩];erw[12,(n:Int),233];rw[aka]
  let' d:Nat->St->Hp->Prop:=λi v f=>∃(l:Zs)(y:Int)(w:Zg)(x:Zc),v=#v[.int y,.int L,.int m,.int n,↑l,x]/\av H f/\f l\.tup (au w)/\⇑w=i/\∀s∈w,s≠0/\s.natAbs<=L
  rwa[gY (lo:=0) (n:=n) d ⟨l,_,[],none,2,av.upd R,aj,2,λs u=>by ext u⟩ ?_ ?_]
  ·intro i v f hi a;rwa[aZ ?_];intro e;let⟨l,y,w,x,rfl,s2,g,b,r⟩:=a;dsimp only[e];clear e;dsimp only[cZ];rwa[vj ?_];intro Z O;rwa[⟨1212121122,.inl ⟨44⟩,1122,(by show (0:Int)<2* (L:Int);omega),121,L,2,p,3,λs j u=>⟨Za4 1,λq B=>?_⟩⟩];rwa[⟨l,q,1122,(av.upd B) _ _ g,aj,ajO (show ⇑(au w)+ 1<=100 by rw[aJ];omega) ⋯,λX H3 S C=>?_⟩];rw[show [V.int s]=au [s] from rfl,<-ints_app]at C;erw[12121122,.inl ⟨44⟩,1122,⟨by show (0:Int)<2* (L:Int);ext,3⟩];rwa[⟨X,_,w++[s],12,s2.trans ((av.upd B).trans S),C,by rw[ajC,b];rfl,λt c=>?_⟩];rcases ajK.mp c with c|c
   ·rwa[r t c]
   ·rw[ajF.mp c];rwa[j,u]
  ·intro v f a;rwa[aZ ?_];intro e;let⟨l,y,w,x,rfl,s2,g,b,r⟩:=a;dsimp only[e];clear e;rwa[12,k l w f s2 g ⟨3,r⟩]
def ux:T.kX.Ok P w base 3 (WM K):=by
 rwa[T.kX.on eB (λcy AA U s H vs Q E j h=>?_) (len:=by rintro _ _ _ _ ⟨a,B,rfl,_⟩;rfl)]
 ·let⟨a,B,rfl,G,hlen,k⟩:=h
  erw[_,{bF 1 eB.nd (aL cw ak (aL bX (aL dh (pc T.bH (bA T) j #[0,ak]) ak) ak)),bF 2 eB.nd (bY ah),cf ajV rfl (fy rfl T.eA #[aL bX (aL dh (pc T.bH (bA T) j #[0,ak]) ak) ak]) (cS 3 eB.nd)
    {bp (df ajL ajW ajX bV (pv 2) #[pc T.lB (p5 T) j #[pc T.bH (bA T) j #[0,aL cw ak (pv 3)],1,ak]])},bF 4 eB.nd (bY ah),cf ajV rfl (fy rfl T.eA #[aL bX (pc T.bH (bA T) j #[0,ak]) ak]) (cS 3 eB.nd)
    {bp (df ajL ajW ajX bV (pv 4) #[pc T.lB (p5 T) j #[pc T.bH (bA T) j #[0,aL cw ak (pv 3)],1,ak]])},a9 (bG #[1,bY ah,2,4,ak])}]
  rwa[mX ?_];intro mv kD iV eR eZ;rwa[⟨12,a,B,(0),2,G,3,λz=>⟨1122,⟨44⟩,1122,(by show (0:Int)<3;decide),11225⟩⟩]
  obtain⟨L,hz,g,t⟩:∃L:Nat,1+ z / 12 % 3=(L:Int)/\1<=L/\L<=3:=by let⟨x,hx,P1⟩:=gu (z / 12) (n:=3) ⋯;rwa[1+ x,by rw[show z / 12 % 3=(x:Int) from hx];ext,33]
  rw[hz];rwa[⟨aj8 _,λd F=>?_⟩];let Z:j4 H (upd H d (.lst [])) d L 0 1000 []:=⟨av.upd F,F,⟨[],aj,2,λi p w h=>by simp at h⟩,(λu D=>by ext D),ajE _⟩;change upd H d _=H1 at Z ⊢;rwa[⟨12,a,B,(1),2,Z.s.seq G,3,λz1=>?_⟩];let⟨n,hn,zN⟩:=gu (z1 / 8) (n:=5) ⋯;erw[1122,⟨44⟩,1122,(by show (0:Int)<5;decide),(n:Int),akK (λv=>[V.int v]) hn,33];rw[aka]
  let' C:Nat->St->Hp->Prop:=λi m r=>∃J e,m=#v[↑a,.int L,↑d,e,none]/\j4 H r d L i 1000 J
  rwa[gY (lo:=0) (n:=n) C ⟨[],none,2,Z⟩ ?_ ?_]
  ·rintro i m r hi ⟨J,e,rfl,c⟩;dsimp only[cZ];rwa[bB ?_];intro g9;rwa[⟨12,c.ins,12121122,a,B,2+ i,5,c.s.seq G,3,λy=>⟨12,y,L,(12),2,g,t,4,λq w H3 s3 h3 hw=>?_⟩⟩]
   ·cbv
   let⟨X,Y,g2,g3⟩:=(c.same s3).add h3 ⟨hw.2,hw.1⟩;rwa[d,1122,Y,[ajD]▸ajJ (show ⇑X<=100 by omega) ⋯,112,g3]
  rintro m r ⟨R,e,rfl,c⟩;rwa[⟨aj8 _,λf M=>?_⟩];let b:j4 r (upd r f (.lst [])) f L 0 1000 []:=⟨av.upd M,M,⟨[],aj,2,λi p w h=>by simp at h⟩,(λu D=>by ext D),ajE _⟩;change upd r f _=H3 at b ⊢;rwa[⟨12,a,B,(6),2,(c.s.trans b.s).seq G,3,λz6=>?_⟩];let⟨n2,Pw,ail⟩:=gu z6 (n:=3) ⋯;erw[1122,(by show (0:Int)<3;decide),(n2:Int),akK (λv=>[V.int v]) Pw,33];rw[aka]
  let' I:Nat->St->Hp->Prop:=λi m O=>∃J e,m=#v[↑a,.int L,↑d,e,↑f]/\j4 r O f L i 1000 J
  rwa[gY (lo:=0) (n:=n2) I ⟨[],e,2,b⟩ ?_ ?_]
  ·clear b;rintro i m O hi ⟨J,e,rfl,b⟩;rwa[⟨12,b.ins,12121122,a,B,8+ i,5,(c.s.trans b.s).seq G,3,λy=>⟨12,y,L,(8),2,g,t,4,λq w H5 N h5 hw=>?_⟩⟩]
   ·cbv
   let⟨X,Y,g2,g3⟩:=(b.same N).add h5 ⟨hw.2,hw.1⟩;rwa[f,1122,Y,[ajD]▸ajJ (show ⇑X<=100 by omega) ⋯,112,g3]
  clear b;rintro m O ⟨P,e,rfl,b⟩;rwa[⟨12,aj8 _,λlt S=>⟨1212,Za4 5,λl nl=>?_⟩⟩];let N:=(av.upd (o:=.lst []) S).trans (av.upd (o:=.tup [.int L,↑lt,↑d,↑f,.int 0]) nl);let c2:=c.c;let c3:=b.c;rwa[k l lt d f L 0 R P _ ((c.s.trans b.s).trans N) aj g t ((c.h.same b.s).same N) (b.h.same N) (λu D=>(ajK.mp D).elim (λh=>⟨(c.w u h).2,(c.w u h).1⟩) λh=>⟨(b.w u h).2,(b.w u h).1⟩) ∅ ∅]
theorem RL:∀j:Nat,j<4->∃L:Nat,([V.int 2,V.int 1,V.int 2,V.int 3])[j]?\V.int (L:Int)/\1<=L/\L<=3
 |0,_=>⟨(2),244⟩
 |1,_=>⟨(1),244⟩
 |2,_=>⟨(2),244⟩
 |3,_=>⟨(3),244⟩
theorem vT {ws:Za3}(h:ck H F ws)(k n:Nat):ck H ((F.drop k).take n) ((ws.drop k).take n):=by
 rwa[⟨by rw[ake,ake,akx,akx,h.1],λi p w a c=>?_⟩];rw[List.getElem?_take]at a c;split at a
 ·rename_i b;rw[aj3 b,List.getElem?_drop]at c;rw[List.getElem?_drop]at a;rwa[h.2 _ p w a c]
 ·ext a
theorem K2 {R:Za3}(f:H a\.lst (F.map V.ref))(c:ck H F R)(e:H b\.tup (au []))(i:Nat)(g:i<=⇑F):bR (upd H a (.lst ((F.map V.ref).take i++[↑b]++(F.map V.ref).drop i))) a (R.take i++[[]]++R.drop i):=by
 let t1:ck H (F.take i) (R.take i):=by have:=vT c 0 i;rwa [List.drop_zero,List.drop_zero]at this
 let d:ck H (F.drop i) (R.drop i):=by
  have:=vT c i (⇑F - i)
  rwa [alE ([akx]▸ajE _),alE ([akx,c.1]▸ajE _)]at this
 rwa[⟨F.take i++[b]++F.drop i,by rw[aj,akd,akd,List.map_take,List.map_drop];rfl,vQ (vR (t1.snoc e) d) f⟩]
def AH:T.qD.Ok P w base 4 (Gn K):=by
 rwa[T.qD.on cP (λcy AA outer s H vs Q E p h=>?_) (len:=by rintro _ _ _ _ ⟨a,g,rfl,_⟩;rfl)]
 ·let⟨a,g,rfl,C,hlen,k⟩:=h
  erw[_,{bD (aM cV (aL bX (aL dh (pc T.bH (bA T) p #[0,ak]) ak) ak) ak (aO _))
   {a9 (pc T.kX (ux T) p #[0])}
   bj,bF 1 cP.nd (gM cV (aL bX (pc T.bH (bA T) p #[0,ak]) ak) ak (aO _)),bF 2 cP.nd (aL cw ak (aL bX (aL dh (pc T.bH (bA T) p #[0,ak]) ak) ak)),bE (bD (cX (pv 1))
    {bF 2 cP.nd (aL cw ak (aL bX (aL dh (pc T.bH (bA T) p #[0,ak]) ak) ak))}
    bj),bF 3 cP.nd ((bY (ae ak (ae ak (ae ak (ae ak ah iw) iw) iw) iw))|||(aL bX (pc T.bH (bA T) p #[0,ak]) ak)),bF 4 cP.nd (bY ah),cf ajV rfl (fy rfl T.eA #[3]) (cS 5 cP.nd)
    {bp (df ajL ajW ajX bV (pv 4) #[pc T.nj (xX T) p #[aL bX (pc T.bH (bA T) p #[0,aL cw ak (pv 5)]) ak,2,1]])},bF 6 cP.nd (aL bX (pc T.bH (bA T) p #[0,ak]) ak),bE (bD (cX (pv 1))
    {bF 6 cP.nd ak}
    bj),bF 7 cP.nd (aL bX (aL dh (pc T.bH (bA T) p #[0,ak]) ak) (pv 2)),bF 8 cP.nd (pc T.qC (AG T) p #[4,3,6,(bY #[ak,ak])|||(fX IW rfl T.OL PyProof.Rows.boot_int #[gM cV (aL bX (pc T.bH (bA T) p #[0,ak]) ak) ak (aO _)])]),bE (bD (aM cV (aL bX (pc T.bH (bA T) p #[0,ak]) ak) ak (aO _))
    {bp (df ajL PySem.F.slot_list_insert PySem.F.type_list_insert yl (pv 8) #[aL bX (aL dh (pc T.bH (bA T) p #[0,ak]) ak) (aL cw (8<<<0) ak),bG ah])}
    bj),bE (bD (PW.pt (iL (aM cV (aL bX (pc T.bH (bA T) p #[0,ak]) ak) ak (aO _)) (gL (aM i5 (aL bX (pc T.bH (bA T) p #[0,ak]) ak) ak (aO _)))))
    {bF 8 cP.nd (aL oY (pv 8) (mO Fd (pv 8) yd (kL ak)))}
    bj),a9 (bG #[3,4,8,pc T.sP (DQ T) p #[0,4,3,7],7])}]
  rwa[Jh ?_];intro aim ain aio aip u_9 Vg C5 rE mv kD iV eR eZ;rwa[⟨12,a,g,(1),2,C,3,λz=>⟨1122,⟨44⟩,1122,(by show (0:Int)<2;decide),212,bK (λ_=>⟨12,a,g,2,C,hlen,k⟩) λ_=>?_⟩⟩];rwa[⟨12,a,g,(0),2,C,3,λz0=>?_⟩];erw[1122,(by show (0:Int)<2;decide),2];rwa[⟨12,a,g,(0),2,C,3,λz1=>?_⟩];erw[1122,⟨44⟩,1122,(by show (0:Int)<4;decide),1122];let a1:=ak7 (z1 / 2) (show (4:Int)≠0 by decide);let a2:=akU (z1 / 2) (show (0:Int)<4 by decide)
  let' qQ:St->Hp->Prop:=λ c v=>∃(m:Nat)(pl:Bool),c=#v[↑a,.bl pl,.int m,none,none,none,none,none,none]/\v=H/\1<=m/\m<=6
  erw[qQ,5]
  ·rwa[bB ?_];intro U;erw[1212];rwa[bK (λ_=>?_) (λ_=>?_)]
   ·rwa[⟨12,a,g,(0),2,C,3,λz2=>?_⟩];erw[1122,⟨44⟩,1122,(by show (0:Int)<6;decide),1122];let c1:=ak7 (z2 / 2) (show (6:Int)≠0 by decide);let c2:=akU (z2 / 2) (show (0:Int)<6 by decide);rwa[⟨(1+ z2 / 2 % 6).toNat,decide (V.int (z0 % 2)=V.int 0),5233⟩];rw[show (((1+ z2 / 2 % 6).toNat:Nat):Int)=1+ z2 / 2 % 6 by ext];rfl
   ·rwa[⟨(2+ z1 / 2 % 4).toNat,decide (V.int (z0 % 2)=V.int 0),5233⟩];rw[show (((2+ z1 / 2 % 4).toNat:Nat):Int)=2+ z1 / 2 % 4 by ext];rfl
  intro c v d;rwa[aZ ?_];intro D;let⟨m,pl,rfl,rfl,PZ,Dd⟩:=d;dsimp only[D];clear D;rwa[⟨Za4 4,λq hq=>?_⟩];let sq:av v (upd v q (.lst [V.int 2,V.int 1,V.int 2,V.int 3])):=av.upd hq;let hqq:upd v q (.lst [V.int 2,V.int 1,V.int 2,V.int 3]) q\(.lst [V.int 2,V.int 1,V.int 2,V.int 3]):=aj;change upd v q _=H1 at sq hqq ⊢;rwa[⟨12,a,g,(1),2,sq.seq C,3,λz2=>?_⟩];let⟨j,hj,WO⟩:=gu z2 (n:=4) ⋯;let⟨L,hL,Z,nL⟩:=RL j WO;erw[1122,(by show (0:Int)<4;decide),q,11,.int (L:Int),22,aF.of hqq,(by show fY _ (z2 % 4)=_;rw[show z2 % 4=(j:Int) from hj];rwa[b6 hL])];rwa[⟨aj8 _,λlt o6=>?_⟩];let s2:av H1 (upd H1 lt (.lst [])):=av.upd o6;let h2:upd H1 lt (.lst []) lt\(.lst (([]:Zn).map V.ref)):=aj;let Wu:v lt=none:=sq.free o6;change upd H1 lt _=H2 at s2 h2 ⊢;erw[12,(L:Int),233]
  let' qN:Nat->St->Hp->Prop:=λi σ N=>∃(rs:Zn)(rows:Za3)(v5:Zc),σ=#v[↑a,.bl pl,.int m,.int L,↑lt,v5,none,none,none]/\av v N/\N lt\.lst (rs.map V.ref)/\fk N rs rows/\⇑rows=i/\(∀r∈rows,M11.Pm m r)
  rwa[gY (lo:=0) (n:=((L:Int)).toNat) qN ⟨[],[],none,2,sq.trans s2,h2,⟨2,λi r g h1=>by simp at h1⟩,2,by simp⟩ ?_ ?_]
  ·intro i σ N hi d;rwa[aZ ?_];intro D;let⟨rs,rows,v5,rfl,s3,h3,G,I,S⟩:=d;dsimp only[D];clear D;dsimp only[cZ];rwa[bB ?_];intro U;let Wa:i<L:=∅
   rwa[⟨12,.inl ⟨21,aF.of h3⟩,12121122,a,g,2+ i,5,s3.seq C,3,λz3=>?_⟩]
   ·cbv
   let c1:=ak7 z3 (show (720:Int)≠0 by decide);rwa[⟨1122,(by show (0:Int)<720;decide),1212,z3 % 720,m,pl,2,PZ,3,c1,λr row H4 M h4 hP=>?_⟩];let KZ:=M^h3;let o8:r≠lt:=KS h4 (λz=>by have:=hP.len;rw[z]at this;simp at this;omega) KZ;erw[lt,1122,KZ,5]
   ·rw[ajD,G.1,I];rwa[ajJ (show i<=3 by omega) ⋯]
   rwa[⟨rs++[r],rows++[row],12,λb o e=>[ao (aw e Wu)]▸M^s3^e,by rw[aj,akd];rfl,⟨(zT (G.same M) h4).1,λi' q' ms e1 e2=>?_⟩,by rw[ajC,I];rfl,λr' hr'=>?_⟩]
   ·let hq':=(zT (G.same M) h4).2 i' q' ms e1 e2
    let hnm:ms≠[]:=λz=>by
     let hmm:ms∈rows++[row]:=ajA e2
     let hPm:M11.Pm m ms:=by
      rcases ajK.mp hmm with y|y
      ·rwa[S ms y]
      ·cbv
     have:=hPm.len
     cbv
    rw[ao (KS hq' hnm KZ)];rwa[hq']
   cbv
  intro σ N d;rwa[aZ ?_];intro D;let⟨rs,rows,v5,rfl,s3,h3,G,I,S⟩:=d;dsimp only[D];clear D;rw[aka]at I;subst I;let hT:TabAt N lt rows:=⟨rs,h3,G⟩;rwa[⟨12,a,g,(5),2,s3.seq C,3,λz5=>⟨1122,(by show (0:Int)<531441;decide),5⟩⟩]
  let' vS:St->Hp->Prop:=λ c v=>∃mk:Int,c=#v[↑a,.bl pl,.int m,.int ⇑rows,↑lt,v5,.int mk,none,none]/\v=N
  erw[vS,5]
  ·rwa[bB ?_];intro U;erw[1212];rwa[bK (λ_=>⟨122⟩) (λ_=>⟨122⟩)]
  rintro c H3' ⟨mk,rfl,e3⟩;replace e3:=e3.symm;subst e3;rwa[⟨12,a,g,(6),2,s3.seq C,3,λz6=>?_⟩];let⟨x,hx,P1⟩:=gu (z6 / 4) (n:=m) ∅;erw[1122,⟨44⟩,121122,(by show (0:Int)<(m:Int);omega)];rw[show V.int ((z6 / 4) % (m:Int))=V.int (x:Int) from akK V.int hx];rwa[⟨121212,Za4 2,λq2 O=>⟨12,a,g,(7),2,(s3.trans (av.upd O)).seq C,3,λz9=>⟨1122,(by show (0:Int)<8;decide),2125⟩⟩⟩];let⟨rm,DT,K0⟩:=WN (decide (V.int (z9 % 8)=V.int 6));rwa[⟨q2,11122,aF.of aj,DT,lt,rows,m,mk,rm,2,K0,hT.same (av.upd O),Z,nL,S,Dd,λF R H4 M Y B J KL=>?_⟩];replace KL:N F=none:=(av.upd O).free KL;replace M:=(av.upd O).trans M
  let' DP:St->Hp->Prop:=λ c v=>∃R,c=#v[↑a,.bl pl,.int m,.int ⇑rows,↑lt,v5,.int mk,.int x,↑F]/\av N v/\bR v F R/\(∀u∈R,KY rows m u)/\⇑R<=22
  erw[DP,5]
  ·rwa[bB ?_];intro U;rwa[⟨12,a,g,(5),2,(s3.trans M).seq C,3,λz7=>⟨1122,(by show (0:Int)<4;decide),212,bK (λ_=>?_) (λ_=>⟨R,2,M,Y,B,3⟩)⟩⟩];let⟨f,g1,g2⟩:=Y;let De:⇑f<=21:=by rw[g2.1];rwa[J]
   rwa[⟨12,.inl ⟨21,aF.of g1⟩,12,a,g,(6),2,(s3.trans M).seq C,3,λz8=>⟨1122,⟨44⟩,12,F,12,.inl (aF.of g1),11221122,(by show (0:Int)<(⇑(f.map V.ref):Int)+ 1;omega),aj8 _,λe0 F6=>?_⟩⟩];let⟨i,hi,Oh⟩:=gu (z8 / 24) (n:=⇑f+ 1) ∅;let se:=av.upd (o:=.tup []) F6;erw[F,_,i,↑e0,25,se^g1,[ajD]▸ajJ (show ⇑f<=100 by omega) ⋯,by rw[ajD];ext,3]
   ·cbv
   rwa[⟨R.take i++[[]]++R.drop i,2,λb o e=>[ao (aw e KL)]▸se^M^e,K2 (se^g1) (g2.same se) aj i ∅,λu t=>?_,by rw[ajC,ajC,ake,akx];show _+ 1+ _<=_;ext⟩];rcases ajK.mp t with t|t
   ·rcases ajK.mp t with t|t
    ·cbv
    ·rw[ajF.mp t];rwa[(λs hs=>by ext hs),by show 0<=60;decide,λx _=>rfl]
   cbv
  intro c H5 d;rwa[aZ ?_];intro D;let⟨R,rfl,s5,Y,B,J⟩:=d;dsimp only[D];clear D
  let' acT:St->Hp->Prop:=λ c v=>∃F R,c=#v[↑a,.bl pl,.int m,.int ⇑rows,↑lt,v5,.int mk,.int x,↑F]/\av N v/\bR v F R/\(∀u∈R,KY rows m u)/\⇑R<=23
  erw[acT,5]
  ·rwa[bB ?_];intro U;rwa[⟨12,a,g,(5),2,(s3.trans s5).seq C,3,λz7=>⟨1122,(by show (0:Int)<4;decide),212,bK (λ_=>?_) (λ_=>b8 ⟨F,R,2,s5,Y,B,3⟩)⟩⟩];rwa[⟨12,a,g,(7),2,(s3.trans s5).seq C,3,λz7=>⟨1122,(by show (0:Int)<8;decide),212,bK (λ_=>?_) (λ_=>⟨F,R,2,s5,Y,B,3⟩)⟩⟩];let⟨f,g1,g2⟩:=Y;rwa[⟨121212,F,12,aF.of g1,λb nb=>?_⟩];let sb:=av.upd (o:=.lst (iE (f.map V.ref) none (some 1))) nb
   obtain⟨i,n,e,hn⟩:∃i n:Nat,iE (f.map V.ref) none (some 1)=((f.drop i).take n).map V.ref/\n<=1:=by erw[11,by unfold iE;rw[List.map_take,List.map_drop]];have:=HT.yc ⇑(f.map V.ref) ⇑(f.map V.ref) 1;rw[show ((1:Nat):Int)=1 from rfl]at this;rw[this];ext
   let eb:upd H5 b (.lst (iE (f.map V.ref) none (some 1))) b\(.lst (((f.drop i).take n).map V.ref)):=by rw[aj,e]
   change upd H5 b _=H6 at sb eb ⊢;let g3:=g2.same sb;let De:⇑f<=22:=by rw[g2.1];rwa[J]
   rwa[⟨F,b,1122,sb^g1,eb,5,λl9 n9=>?_⟩]
   ·rw[ajD,ajD,ake];rwa[ajO (show ⇑f+ min n _<=100 by omega) ⋯]
   let s9:=av.upd (o:=.lst (f.map V.ref++((f.drop i).take n).map V.ref)) n9;rwa[⟨l9,R++(R.drop i).take n,2,(s5.trans sb).trans s9,⟨f++(f.drop i).take n,by rw[aj,akd],(vR g3 (vT g3 i n)).same s9⟩,λu t=>?_,by rw[ajC,ake];ext⟩]
   cbv
  intro c H6 d;rwa[aZ ?_];intro D;let⟨lr',R,rfl,s6,Y,B,J⟩:=d;dsimp only[D];clear D;rwa[⟨12121212121212,a,lt,g,rows,m,x,2,(s3.trans s6).seq C,hlen,hT.same s6,Z,nL,S,Dd,P1,λpa P H7 s7 hP X hPl=>?_⟩];rwa[⟨12,Za4 5,λl nl=>?_⟩];rwa[k l lt lr' pa ⇑rows x R P _ (((s3.trans s6).trans s7).trans (av.upd nl)) aj Z nL ((Y.same s7).same (av.upd nl)) (hP.same (av.upd nl)) (λu t=>?_) J hPl];rcases ajK.mp t with t|t
  ·rwa[⟨ajO (B u t).2.1 (by decide),(B u t).1⟩]
  ·rwa[⟨(X u t).2.1,(X u t).1⟩]
def RM (K:Za1):Sp:=λe H Q _=>∃(a:Zs)(f:Zg),e=[↑a]/\aF K H a (au f)/\∀l c o b d,av H d->d l\.tup [.int ((b:Nat):Int),.str (tx c)]->(c=ky o\/c=[]/\o=0)->o<3->1<=b->b<=24->Q ↑l d
def AI:T.qE.Ok P w base 2 (RM K):=by
 rwa[T.qE.on jA (λD S t s H R Q E I h=>?_) (len:=by rintro _ _ _ _ ⟨a,v,rfl,_⟩;rfl)]
 ·let⟨a,v,rfl,M,k⟩:=h
  erw[_,{bF 1 jA.nd (pc T.bH (bA T) I #[0,ak]),bF 2 jA.nd ((bY (ae ak (ae ak (ae ak (ae ak ah iw) iw) iw) iw))|||(aL bX (aL dh (pv 1) ak) ak)),bE (bD (aM cV (aL bX (pv 1) ak) ak (aO _))
    {bF 2 jA.nd (aL cw ak (aL bX (aL dh (pv 1) ak) ak))}
    bj),a9 (bG #[2,(bY (ae (dA (l:=[114,111,111,109,115]) rfl) (ae (dA (l:=[108,101,116,116,101,114,115]) rfl) (ae (dA (l:=[110,101,119,101,115,116]) rfl) (ae (dA (l:=[]) rfl) ah iw) iw) iw) iw))|||(aL bX (aL dh (pv 1) ak) ak)])}]
  rwa[iQ ?_];intro F N C;rwa[⟨12,a,v,(7),2,M,4,λz=>?_⟩];rwa[⟨Za4 4,λq u=>⟨121122,⟨44⟩,1122,(by show (0:Int)<4;decide),5⟩⟩]
  obtain⟨b,c,m,d⟩:∃b:Nat,fY [V.int 12,V.int 12,V.int 12,V.int 24] (z / 2 % 4)\.int (b:Int)/\1<=b/\b<=24:=by
   rcases (show z / 2 % 4=0\/z / 2 % 4=1\/z / 2 % 4=2\/z / 2 % 4=3 by omega) with e|e|e|e
   ·rwa[⟨(12),by rw[e];rfl,by decide,by decide⟩]
   ·rwa[⟨(12),by rw[e];rfl,by decide,by decide⟩]
   ·rwa[⟨(12),by rw[e];rfl,by decide,by decide⟩]
   ·rwa[⟨(24),by rw[e];rfl,by decide,by decide⟩]
  rwa[⟨q,_,_,_,rfl,rfl,aF.of aj,c,?_⟩];let s1:=av.upd (o:=.lst [V.int 12,V.int 12,V.int 12,V.int 24]) u;change upd H q _=G at s1 ⊢
  let' i:St->Hp->Prop:=λ g y=>∃b:Nat,g=#v[↑a,.int z,.int b]/\y=G/\1<=b/\b<=24
  erw[i,5]
  ·rwa[bB ?_];intro O;rwa[⟨121122,(by show (0:Int)<2;decide),212,bK (λ_=>?_) (λ_=>⟨b,22,m,d⟩)⟩];erw[121122,⟨44⟩,1122,(by show (0:Int)<12;decide),1122];let⟨x,J,B⟩:=gu (z / 2) (n:=12) ⋯;rw[show z / 2 % 12=(x:Int) from J,show (1:Int)+ (x:Int)=((1+ x:Nat):Int) by ext];rwa[1+ x,2233]
  clear m d c;rintro g y ⟨b,rfl,rfl,m,d⟩;rwa[⟨12,Za4 4,λq u=>⟨121122,⟨44⟩,1122,(by show (0:Int)<4;decide),5⟩⟩]
  obtain⟨j,f,c,r,p⟩:∃(j:Zh)(f:Nat),fY [V.str (tx [114,111,111,109,115]),V.str (tx [108,101,116,116,101,114,115]),V.str (tx [110,101,119,101,115,116]),V.str (tx [])] (z / 48 % 4)\.str (tx j)/\(j=ky f\/j=[]/\f=0)/\f<3:=by
   rcases (show z / 48 % 4=0\/z / 48 % 4=1\/z / 48 % 4=2\/z / 48 % 4=3 by omega) with e|e|e|e
   ·rwa[⟨_,(0),by rw[e];rfl,.inl rfl,by decide⟩]
   ·rwa[⟨_,(1),by rw[e];rfl,.inl rfl,by decide⟩]
   ·rwa[⟨_,(2),by rw[e];rfl,.inl rfl,by decide⟩]
   ·rwa[⟨_,(0),by rw[e];rfl,.inr ⟨rfl,rfl⟩,by decide⟩]
  rwa[⟨q,_,_,_,rfl,rfl,aF.of aj,c,Za4 2,λl L=>?_⟩];rwa[k l j f b _ (s1.trans ((av.upd u).trans (av.upd L))) aj r p m d]
def K3 (h:z∈bL (2* n)): -z∈bL (2* n):=by let⟨b,a⟩:=iD.mp h;rwa[iD.mpr ⟨33⟩]
def Fl.mL {rs d:Za3}(h:Fl rs d n m i S)(b:∀u∈rs++d,∀z∈u,z∈bL (2* n)/\-z∈bL (2* n))(q:1<=i):S.q<=i/\S.L=n:=by
 rwa[⟨5,by let⟨R,y⟩:=h.ys b;rwa[y.l]⟩]
 cases h with
 |start t _=>let⟨_,_,a,_⟩:=YS.new.tr t b;let a:S.q=1:=a;ext
 | @next g _ c z f p l t _=>let⟨R,y⟩:=f.ys b;let⟨o,j,e,k⟩:=l.1;let⟨_,_,a,_⟩:=(y.make o (pY j) k e (K3 e)).tr t b;let a:S.q=g.q+ 1:=a;ext
def fx (c:Nat)(z:Int):Zd:=[Sum.inl (c:Int),Sum.inl z]
def k3 (a:Nat)(z:Int)(b:Nat):Zd:=[Sum.inl (a:Int),Sum.inl z,Sum.inl (b:Int)]
def DU:fx n z=fx m y↔n=m/\z=y:=by
 unfold fx
 cbv
def nV:k3 n z i=k3 m y j↔n=m/\z=y/\i=j:=by
 unfold k3
 cbv
structure WD (kvs:List (Zd×V))(W:Za2):Prop where
 k:∀p∈kvs,∃a z b,p.1=k3 a z b/\W a z b
 v:∀a z b,W a z b->(bC kvs (k3 a z b)).isSome=true
 n:(kvs.map (·.1)).Nodup
def yZ {b:List (Zd×V)}{k:Zd}(h:bC b k\q):∃p∈b,p.1=k:=by
 unfold bC at h;let⟨a,c,rfl⟩:=akE.mp h
 cbv
def WD.iff {c:List (Zd×V)}{W:Za2}(h:WD c W)(a:Nat)(z:Int)(b:Nat):(bC c (k3 a z b)).isSome=true↔W a z b:=by
 constructor
 ·intro e;let⟨v,i⟩:=ak3.mp e;let⟨p,d,f⟩:=yZ i;let⟨j,l,k,g,w⟩:=h.k p d;let⟨rfl,rfl,rfl⟩:=nV.mp (f.symm.trans g);rwa[w]
 ·rwa[h.v a z b]
def qm {a:List (Zd×V)}{k:Zd}{v:V}(b:(a.map (·.1)).Nodup):((putK a k v).map (·.1)).Nodup/\∀p∈putK a k v,p.1=k\/∃q∈a,q.1=p.1:=by
 unfold putK
 cbv
def WD.put {c:List (Zd×V)}{W:Za2}(h:WD c W)(a:Nat)(z:Int)(b:Nat)(v:V):WD (putK c (k3 a z b) v) (λx s y=>W x s y\/(x=a/\s=z/\y=b)):=by
 let⟨n,g⟩:=qm (k:=k3 a z b) (v:=v) h.n;rwa[⟨λp o=>?_,λx s y f=>?_,n⟩]
 ·rcases g p o with e|⟨q,l,e⟩
  ·rwa[⟨a,z,b,e,.inr ⟨rfl,rfl,rfl⟩⟩]
  ·let⟨m,j,i,r,w⟩:=h.k q l;rwa[m,j,i,by rw[<-e,r],.inl w]
 ·rw[jF];split
  ·rfl
  ·rename_i d;rcases f with f|⟨rfl,rfl,rfl⟩
   ·rwa[h.v x s y f]
   ·rwa[absurd rfl d]
def WD.congr {c:List (Zd×V)}{W:Za2}(h:WD c W)(e:∀a z b,W a z b↔R a z b):WD c R:=⟨λp d=>by let⟨a,z,b,f,w⟩:=h.k p d;rwa[⟨a,z,b,f,(e a z b).mp w⟩],λa z b w=>h.v a z b ((e a z b).mpr w),h.n⟩
inductive zV (vs:Zb)(H:Hp)(Q:VK)(E_:XK):Prop
 |mk (a x y:Nat):vs=[.int a,.int x,.int y]->Q (.int ((if a=y then x else a:Nat):Int)) H->zV vs H Q E_
def RN (m n:Nat):decide (V.int (m:Int)=V.int (n:Int))=decide (m=n):=by cbv
def kz:T.iT.Ok P w base 1 zV:=by
 rwa[T.iT.on xu (λc g b s H e Q E f h=>?_)]
 ·let⟨a,x,y,rfl,k⟩:=h
  refine⟨_,{bD (aM cV (pv 0) (pv 2) (aO _))
   {a9 (pv 1)}
   bj,a9 (pv 0)},?_⟩
  rwa[iP ?_];intro d;erw[1212212];rw[RN];cases h:a=y
  ·rw[aj3 h]at k;rw[ajZ h];rwa[dg ⟨12,k⟩]
  ·rw[ajY h]at k;rw[akj h];rwa[b8 ⟨12,k⟩]
def atB:Dt->Bool
 |.i _=>true
 |.s _=>true
 |_=>false
def dV:Dt->V
 |.i n=>.int n
 |.s l=>.str (tx l)
 |_=>.non
def K4 {ds:List Dt}(h:bW H 4 ↑a (.t ds))(g:ds.all atB=true):H a\(.tup (ds.map dV)):=by
 cases h with
 | @t _ _ c _ k j l=>
   rw[k]
   congr 2
   rwa[alf λi=>?_]
   rw[aj0]
   cases e:ds[i]? with
   |none=>rw[amq]at e;rw[akg ∅];rfl
   |some d=>
    let f:i<⇑c:=by rw[j];rwa[(ajy.mp e).1]
    let b:=List.all_eq_true.mp g d (ajA e);let q:=l i _ d (ajz f) e;rw[ajz f];change c[i]=v at q
    cases q with
    |i=>rfl
    |s=>rfl
    |_=>ext b
def Qb (h:bW H 4 ↑a (fS n z m i)):H a\(.tup [.str (tx [109,101,101,116]),.int n,.int z,.int m,.int i]):=K4 h rfl
def WQ (h:bW H 4 ↑a (il n z m)):H a\(.tup [.str (tx [110,101,119]),.int n,.int z,.int m]):=K4 h rfl
def Kp.words {pos:Pos}(k:Kp a H I)(t:dG a pos x H){l:Zs}{ws:Za3}(h:bR H l ws):bR I l ws:=by let⟨b,c,d⟩:=h;rwa[b,k.at t c (by cbv),d.keep λp f e=>k.at t e (by cbv)]
def qR {rs:Zn}(h:(rs.map V.ref)[i]?\q):∃r,rs[i]?\r/\q=↑r:=by cbv
inductive DV (vs:Zb)(H:Hp)(Q:VK)(E_:XK):Prop
 |mk (e:Zs)(E:Zh)(c:Nat):vs=[↑e,.int c]->H e\.lst (au (nI E))->E[c]?\c->Q (.bl true) H->DV vs H Q E_
def jh:T.iz.Ok P w base 2 DV:=by
 rwa[T.iz.on yN (λf l a s H j Q E g h=>?_)]
 ·let⟨e,E,c,rfl,b,d,k⟩:=h;erw[_,{a9 (j5 (pc T.fw (fi T) g #[1]) (j5 (Lj Gy j7 ak (pv 1) (0<<<0) (by with_unfolding_all rfl)) (rQ (gM cV (0|||1) (pv 1) (aO _)))))}];let i:c<⇑E:=(ajy.mp d).1;rwa[⟨12,c,2,true,2,dg ?_⟩];rwa[⟨121122,true,akK V.bl (ajZ ∅),dg ?_⟩];rwa[⟨12,e,12,.inl (aF.of b),1122,true,akK V.bl (ajZ (by rw[aJ,bO];omega)),dg ?_⟩];erw[1212,e,11122,aF.of b,b6 (bQ (eU d)),122];rw[ajZ rfl];rwa[k]
inductive K5 (vs:Zb)(H:Hp)(Q:VK)(E_:XK):Prop
 |mk (d e p:Zs)(kvs:List (Zd×V))(E:Zh)(W:Za2)(c u v:Nat)(z:Int):vs=[↑d,↑e,↑p]->H d\.dT kvs->H e\.lst (au (nI E))->H p\.tup [.str (tx [109,101,101,116]),.int c,.int z,.int u,.int v]->WD kvs W->u<v->E[u]?\u->E[v]?\v->W c z u->W c z v->(∀H',av H H'->Q (.bl true) H')->K5 vs H Q E_
def DW:T.sR.Ok P w base 3 K5:=by
 rwa[T.sR.on C2 (λL V j s H U Q E g h=>?_)]
 ·let⟨d,e,p,C,E,W,c,u,v,z,rfl,q,B,y,x,N,M,O,J,S,k⟩:=h;let f:=eG g
  erw[_,{bE (bD (PW.pt (dN (aM i5 (2<<<0) ak (aO _)) (dN (fj (cX (pc T.iz (jh T) g #[1,2&&&ak]))) (dN (fj (cX (pc T.iz (jh T) g #[1,2&&&ak]))) (ic (aM tM (2&&&ak) (2&&&ak) (aO _)))))))
   {a9 eD}
   bj),bE (bD (PW.pt (dN (fj (cX (pc T.fw (fi T) g #[2&&&ak]))) (ic (fj (cX (pc T.fw (fi T) g #[2&&&ak]))))))
    {a9 eD}
    bj),a9 (j5 (HV (o5 f (bG #[2&&&ak,2&&&ak,2&&&ak]) (pv 0))) (rQ (HV (o5 f (bG #[2&&&ak,2&&&ak,2&&&ak]) (pv 0)))))}]
  rwa[dE ?_];intro R F;let a:bu K H p [.str (tx [109,101,101,116]),.int (c:Int),.int z,.int (u:Int),.int (v:Int)]:=bu.of y;rwa[⟨15,λ_ _ h=>h⟩];rwa[⟨12,p,12,.inr a,212,i6 rfl ?_⟩];rwa[⟨1212,p,11122,a,2,e,E,u,2,B,M,true,2,b8 ?_⟩];rwa[⟨1212,p,11122,a,2,e,E,v,2,B,O,true,2,b8 ?_⟩];erw[12,p,11122,a,212,p,11122,a,2112212];rw[akj (show ¬((u:Int)>=(v:Int)) by omega)];rwa[b8 ?_];rwa[⟨15,λ_ _ h=>h⟩];rwa[⟨12,p,11122,a,2,c,2,true,2,b8 ?_⟩];rwa[⟨12,p,11122,a,2,z,2,true,2,b8 ?_⟩];rwa[⟨12,p,11122,a,212,p,11122,a,212,p,11122,a,2,(Za4 3),λD m=>?_⟩];generalize n:upd H D _=t;let⟨s3,o⟩:=du n m;let b:bu K t p [.str (tx [109,101,101,116]),.int (c:Int),.int z,.int (u:Int),.int (v:Int)]:=bu.of (s3^y);erw[12,d,12,dv.t (k:=k3 c z u) (s3^q) o,12];rw[x.v c z u J];rwa[dg ?_];rwa[⟨12,p,11122,b,212,p,11122,b,212,p,11122,b,2,(Za4 3),λG i=>?_⟩];generalize n:upd t G _=I;let⟨r,l⟩:=du n i;erw[12,d,12,dv.t (k:=k3 c z v) (r^s3^q) l];rw[x.v c z v S];rwa[k I (s3.trans r)]
def RP {xs:Zb}{x:V}(a:⇑xs=n+ 1)(h:xs[n]?\x):fY xs (-1)\x:=by
 unfold fY uE;rw[ajY ⋯,aj3 ∅];show xs[((-1:Int)+ (⇑xs:Int)).toNat]?=_
 rw[show ((-1:Int)+ (⇑xs:Int)).toNat=n by ext];rwa[h]
inductive K6 (vs:Zb)(H:Hp)(Q:VK)(E_:XK):Prop
 |mk (wl d e p q:Zs)(ws:Za3)(nr:Nat)(kvs:List (Zd×V))(E:Zh)(W:Za2)(which m:Nat)(word:Zg)(tJ:Zh):vs=[↑wl,.int nr,↑d,↑e,↑p]->bR H wl ws->H d\.dT kvs->H e\.lst (au (nI E))->H p\.tup [.str (tx [114,117,108,101]),.int which,↑q,.int m]->H q\.tup (au (nI tJ))->WD kvs W->ws[which]?\word->⇑tJ=⇑word+ 1->tJ[0]?=tJ[⇑word]?->(which<nr\/tJ[0]?\0)->(∀x∈tJ,E[x]?\x)->m<⇑word->(∀(i a b:Nat)(y:Int),i≠m->word[i]?\y->tJ[i]?\a->tJ[i+ 1]?\b->W a y b)->(∀H',av H H'->Q (.bl true) H')->K6 vs H Q E_
def DX:T.sQ.Ok P w base 3 K6:=by
 rwa[T.sQ.on gW (λcy AA outer s H vs Q E hr h=>?_)]
 ·let⟨D,d,e,p,q,ws,nr,kvs,E,W,f,m,word,g,rfl,⟨Y,u,G⟩,hd,he,hp,hq,hW,X,O,hp0,Ks,R,hm,IK,k⟩:=h;let kF:=eG hr
  erw[_,{bE (bD (PW.pt (dN (aM i5 (4<<<0) ak (aO _)) (dN (fj (cX (pc T.fw (fi T) hr #[4&&&ak]))) (dN (fj (cX (pc T.fw (fi T) hr #[4&&&ak]))) (ic (fj (cX (bx jE rfl T.fG akC #[4&&&ak,kJ (v:=.ty "tuple") rfl T.pO alx rfl]))))))))
   {a9 eD}
   bj),bF 5 gW.nd (4&&&ak),bF 6 gW.nd (4&&&ak),bE (bD (PW.pt (dN (aM j7 (pv 5) ak (aO _)) (dN (aM tM (pv 5) (0<<<0) (aO _)) (dN (aM j7 (4&&&ak) ak (aO _)) (ic (aM tM (4&&&ak) ((0|||5)<<<0) (aO _)))))))
    {a9 eD}
    bj),bE (bD (PW.pt (dN (aM i5 (6<<<0) (aL cw ((0|||5)<<<0) ak) (aO _)) (dN (aM i5 (6&&&ak) (6&&&(eF dy ak)) (aO _)) (ic (PW.pt (iL (aM tM (pv 5) (pv 1) (aO _)) (gL (aM i5 (6&&&ak) ak (aO _)))))))))
    {a9 eD}
    bj),cf ajV rfl (vY (pv 6)) (cS 7 gW.nd)
    {bD (fj (cX (pc T.iz (jh T) hr #[3,7])))
     {a9 eD}
     bj},cf ajV rfl (Mi rfl T.oT (0|||5) rfl) (ie rfl (bP (cS 8 gW.nd) (bP (cS 9 gW.nd) fQ)))
    {bE (bD (PW.pt (iL (aM i5 (pv 8) (4&&&ak) (aO _)) (gL (mJ (rY kF (bG #[6&&&8,9,6&&&(aL cw (pv 8) ak)]) (pv 2))))))
     {a9 eD}
     bj)},a9 eD}]
  rwa[qj ?_];intro C5 rE mv kD iV eR eZ;let B:bu K H p [.str (tx [114,117,108,101]),.int (f:Int),↑q,.int (m:Int)]:=bu.of hp;let o:bu K H q (au (nI g)):=bu.of hq;let acU:f<⇑ws:=(ajy.mp X).1;obtain⟨wp,K7⟩:∃wp,Y[f]?\wp:=⟨_,ajz (by rw[G.1];omega)⟩
  let M:=G.2 _ _ _ K7 X;let F:bu K H wp (au word):=bu.of M;let P9:⇑(au (nI g))=⇑g:=by rw[aJ,bO]
  obtain⟨c0,hc0⟩:∃c0,g[0]?\c0:=⟨_,ajz ∅⟩
  let L:fY (au (nI g)) (0:Int)\(.int (c0:Int)):=b6 (j:=0) (bQ (eU hc0));let atL:fY (au (nI g)) (-1)\(.int (c0:Int)):=RP (n:=⇑word) (by rw[P9,O]) (bQ (eU (by cbv)));let C:fY (Y.map V.ref) (f:Int)\↑wp:=eH K7;rwa[⟨15,λ_ _ h=>h⟩];rwa[⟨12,p,12,.inr B,212,i6 rfl ?_⟩];rwa[⟨12,p,11122,B,2,f,2,true,2,b8 ?_⟩];rwa[⟨12,p,11122,B,2,m,2,true,2,b8 ?_⟩];rwa[⟨12,p,11122,B,211112,.tup hq,kM K "tuple",true,2,b8 ?_⟩];erw[12,p,11122,B,2];erw[12,p,11122,B,2];rwa[⟨15,λ_ _ h=>h⟩];rwa[⟨12112212,bK (λh=>absurd (ajQ h) ∅) λ_=>?_⟩];rwa[⟨1212,D,12,.inl (aF.of u),112212,bK (λh=>absurd (ajQ h) (by rw[ajD,G.1];omega)) λ_=>?_⟩];rwa[⟨12,p,11122,B,2112212,bK (λh=>absurd (ajQ h) ∅) λ_=>?_⟩];rwa[⟨12,p,11122,B,21212,D,11122,aF.of u,C,wp,12,.inr F,112212,bK (λh=>absurd (ajQ h) (by rw[aJ];omega)) λ_=>?_⟩]
  let' J:St->Hp->Prop:=λ Z H'=>Z=#v[↑D,.int (nr:Int),↑d,↑e,↑p,.int (f:Int),↑q,none,none,none]/\H'=H
  erw[J,5]
  ·rwa[bB ?_];intro g9;rwa[⟨12,q,12,.inr o,1212,D,11122,aF.of u,C,wp,12,.inr F,1122212,i6 (by rw[P9,O,aJ];rfl) ?_⟩];rwa[⟨12,q,11122,o,L,1212,q,11122,o,atL,212,i6 rfl ?_⟩];rwa[⟨1212112212,bK (λh=>?_) λ_=>⟨22⟩⟩];let h:(f:Int)>=(nr:Int):=ajQ h;rwa[⟨12,q,11122,o,L,212,i6 ?_ ⟨22⟩⟩];rcases Ks with h'|h'
   ·ext
   ·cbv
  rintro Z H0 ⟨rfl,rfl⟩;erw[12,q,2,⟨_,o⟩]
  let' N:Nat->St->Hp->Prop:=λi r U=>∃v7,r=#v[↑D,.int (nr:Int),↑d,↑e,↑p,.int (f:Int),↑q,v7,none,none]/\U=H0
  rwa[dJ (xs:=au (nI g)) N ⟨none,22⟩ (λi r U _ ζ=>by let⟨_,_,e⟩:=ζ;rwa[[e]▸o]) ?_ ?_]
  ·rintro i x r U hx ⟨v7,rfl,rfl⟩;dsimp only[cZ];rwa[bB ?_];intro g9;let⟨y,rfl,hy⟩:=cO hx;let⟨c,hc,rfl⟩:=akp.mp (ajA hy);rwa[1212,e,E,c,2,he,R c hc,true,2,b8 ⟨122⟩]
  rintro r U ⟨v7,rfl,rfl⟩;erw[1212,D,11122,aF.of u,C,wp,2,⟨_,F⟩]
  let' Nz:Nat->St->Hp->Prop:=λi r I=>∃v8 v9,r=#v[↑D,.int (nr:Int),↑d,↑e,↑p,.int (f:Int),↑q,v7,v8,v9]/\av U I
  rwa[Bq (xs:=au word) Nz ⟨none,none,2,λ_ _ e=>e⟩ (λi r I _ ζ=>by let⟨_,_,_,s⟩:=ζ;rwa[bu.of (s^M)]) ?_ ?_]
  ·rintro i x r I t hx nt ⟨v8,v9,rfl,s3⟩;let⟨y,rfl,hy⟩:=cO hx;generalize e_:upd I t _=H4;let⟨s4,ht4⟩:=du e_ nt;let l:=s3.trans s4;let hiw:i<⇑word:=(ajy.mp hy).1;obtain⟨a,ha⟩:∃a,g[i]?\a:=⟨_,ajz ∅⟩
   obtain⟨b,hb⟩:∃b,g[i+ 1]?\b:=⟨_,ajz ∅⟩
   let sq4:bu K H4 p _:=bu.of (l^hp);let z:bu K H4 q _:=bu.of (l^hq);erw[t,12,bu.of ht4,21121122];rwa[⟨15,λ_ _ h=>h⟩];erw[1212,p,11122,sq4,2212];cases S:i=m
   ·subst S;rwa[i6 rfl ⟨112,l⟩]
   ·rwa[bK (λ_=>?_) λ_=>⟨112,l⟩]
    rwa[⟨1212,q,11122,z,b6 (bQ (eU ha)),1212121122,q,11122,z,(b6 (j:=i+ 1) (bQ (eU hb)):fY _ ((i:Int)+ 1)=_),(Za4 3),λt3 WR=>?_⟩];generalize e_:upd H4 t3 _=H5;let⟨s5,ht5⟩:=du e_ WR;erw[12,d,12,dv.t (k:=k3 a y b) (s5^l^hd) ht5,12];rw[hW.v a y b (IK i a b y S hy ha hb)];rwa[b8 ⟨112,l.trans s5⟩]
  rintro r I ⟨v8,v9,rfl,s3⟩;rwa[k I s3]
inductive K8 (vs:Zb)(H:Hp)(Q:VK)(E_:XK):Prop
 |mk (L:Nat)(d e p:Zs)(kvs:List (Zd×V))(E:Zh)(W:Za2)(c:Nat)(z:Int):vs=[.int L,↑d,↑e,↑p]->H d\.dT kvs->H e\.lst (au (nI E))->H p\.tup [.str (tx [110,101,119]),.int c,.int z,.int ⇑E]->WD kvs W->E[c]?\c->z≠0->z.natAbs<=L->(∀b,¬W c z b)->⇑E<=1000->(∀H',av H H'->Q (.bl true) H')->K8 vs H Q E_
def ER:T.vC.Ok P w base 3 K8:=by
 rwa[T.vC.on EF (λZ AA y s H vs Q E g h=>?_)]
 ·let⟨L,d,e,p,n,E,W,c,z,rfl,M,B,F,X,hc,r,Y,j,R,k⟩:=h;let u:=eG g;let hu:=alU (eG g)
  erw[_,{bE (bD (PW.pt (dN (aM i5 (3<<<0) ak (aO _)) (dN (fj (cX (pc T.iz (jh T) g #[2,3&&&ak]))) (dN (fj (cX (pc T.fw (fi T) g #[3&&&ak]))) (ic (aM i5 (3&&&ak) (2<<<0) (aO _)))))))
   {a9 eD}
   bj),bE (bD (PW.pt (dN (aM cV (3&&&ak) ak (aO _)) (dN (aM qd (bx Lk rfl T.Ym PyProof.Rows.boot_abs #[3&&&ak]) (pv 0) (aO _)) (ic (fj (cX (pc T.fw (fi T) g #[3&&&ak])))))))
    {a9 eD}
    bj),a9 (gM (QD hu) (wI (fns:=["_law_ways","_law_row"]) (ixs:=[1,3]) (cl:=_) rfl (fy rfl T.eA #[2<<<0]) (cM [(_,_),(_,_)] rfl ⟨2222222222,True.intro⟩ rfl) (λC s H ex=>(mJ (o5 u (bG #[aH (mH (K:=K) rfl) (pv 2) ak (λ_ _=>rfl),aH (mH (K:=K) rfl) (pv 2) ak (λ_ _=>rfl),0]) (pv 1)))) (λC s H ex=>(pv 0))) (bY ah) (aO _))}]
  rwa[dE ?_];intro eR O;let a:bu K H p [.str (tx [110,101,119]),.int (c:Int),.int z,.int (⇑E:Int)]:=bu.of F;rwa[⟨15,λ_ _ h=>h⟩];rwa[⟨12,p,12,.inr a,212,i6 rfl ?_⟩];rwa[⟨1212,p,11122,a,2,e,E,c,2,B,hc,true,2,b8 ?_⟩];rwa[⟨12,p,11122,a,2,z,2,true,2,b8 ?_⟩];rwa[⟨12,p,11122,a,212,e,12,.inl (aF.of B),212,i6 (by rw[aJ,bO]) ?_⟩];rwa[⟨15,λ_ _ h=>h⟩];rwa[⟨12,p,11122,a,2212,bK (λh=>absurd (V.int.inj (ajQ h)) r) λ_=>?_⟩];rwa[⟨12,p,11122,a,2,z,212112212,bK (λh=>absurd (ajQ h) ∅) λ_=>?_⟩];rwa[⟨12,p,11122,a,212,true,2,b8 ?_⟩];erw[12,e,12,.inl (aF.of B),(⇑E:Int),by rw[aJ,bO],33];rw[aka];erw[λi m ys I=>m=⇑E - i/\i<=⇑E/\ys=[]/\av H I,⟨⇑E,by simp,aj8 _,2,λ_ _ e=>e⟩];rintro i m ys I ⟨rfl,hi,rfl,s2⟩;cases b:i<⇑E
  ·rwa[.inr ⟨b,4,λx U v=>?_⟩];let⟨rfl,rfl⟩:=v;let f:bu K U p [.str (tx [110,101,119]),.int (c:Int),.int z,.int (⇑E:Int)]:=bu.of (s2^F);rwa[⟨12,p,11122,f,212,p,11122,f,212,Za4 3,λt nt=>?_⟩];let J:=av.upd (o:=.tup [.int (c:Int),.int z,.int (0+ (i:Int))]) nt;erw[12,d,12,dv.t (k:=k3 c z i) (J^s2^M) (by rw[aj,Int.zero_add];rfl)];rw[show (bC n (k3 c z i)).isSome=false from Bool.eq_false_iff.mpr λq=>j i ((X.iff c z i).mp q)];rwa[false,2,⇑E - (i+ 1),32,b,2,s2.trans J]
  ·let e:i=⇑E:=∅
   subst e;rwa[.inl ⟨ajE _,aj8 _,λD S=>⟨aj8 _,λl hl=>?_⟩⟩];let N:=av.upd (o:=.lst []) S;let G:=av.upd (o:=.lst []) hl;rwa[⟨D,l,[],[],22,G^aj,aj,k _ ((s2.trans N).trans G)⟩]
inductive K9 (ws:Za3)(nr L:Nat):Zh->(Za2)->Dt->Zh->(Za2)->Prop
 |old {E E1:Zh} {W W1:Za2} {row:Dt}:One ws nr E W row E1 W1->K9 ws nr L E W row E1 W1
 |new {E:Zh} {W:Za2} {c:Nat} {z:Int}:E[c]?\c->z≠0->z.natAbs<=L->(∀b,¬W c z b)->K9 ws nr L E W (il c z ⇑E) (E++[⇑E]) (fb W c z ⇑E)
def Qc (h:bW H 4 ↑a (jX n B m)):∃q,H a\.tup [.str (tx [114,117,108,101]),.int n,↑q,.int m]/\H q\(.tup (au (nI B))):=by
 cases h with
 | @t _ _ o _ r g b=>
   let⟨C,s,y,k,rfl⟩:=args_is4 (show ⇑o=4 from g);let f:=b 0 C _ rfl rfl;let p:=b 1 s _ rfl rfl;let D:=b 2 y _ rfl rfl;let u:=b 3 k _ rfl rfl;ext f;ext p;ext u
   cases D with
   | @t _ j us _ v l E=>
     erw[j,r];rw[v]
     congr 2
     rwa[alf λi=>?_]
     unfold au nI;rw[aj0,aj0];rw[ajD]at l
     cases d:B[i]? with
     |none=>rw[akg (by have:=amq.mp d;omega)];rfl
     |some c=>
      let z:i<⇑us:=by have:=(ajy.mp d).1;ext
      let e:=ajz z;have:=E i _ _ e (by rw[aj0,d];rfl);rw[e];change us[i]=x at this;ext this;rfl
theorem zW {e f:Za3}{us:Zn}(b:ck H us e)(g:ck H F f)(j:H a=none):bR (upd H a (.lst (us.map V.ref++F.map V.ref))) a (e++f):=by
 let s:=av.upd (o:=.lst (us.map V.ref++F.map V.ref)) j;rwa[⟨us++F,by rw[aj,akd],by rw[ajC,ajC,b.1,g.1],λi p w c d=>s _ _ ?_⟩];cases h:i<⇑us
 ·rw[ajM h]at c;rw[ajM (by rw[<-b.1];rwa[h])]at d;rwa[b.2 i p w c d]
 ·rw[ajN ∅]at c;rw[ajN (by rw[<-b.1];omega),<-b.1]at d;rwa[g.2 _ p w c d]
def OnQ (H:Hp)(d e:Zs)(n:Nat)(i:Zh)(j:Za2)(Q:VK):Prop:=∀f g h a c,(∀b u,b≠d->H b\u->c b\u)->(∃u,c d\u)->c f\.tup [↑g,↑h]->c g\.dT a->c h\.lst (au (nI i))->(g=d\/H g=none)->(h=e\/H h=none)->WD a j->⇑a<=n+ 2->Q ↑f c
inductive WT (vs:Zb)(H:Hp)(Q:VK)(E_:XK):Prop
 |mk (L:Nat)(ru pa st p d e:Zs)(rs ps:Za3)(kvs:List (Zd×V))(E E':Zh)(W W':Za2)(row:Dt):vs=[.int L,↑ru,↑pa,↑st,↑p]->bR H ru rs->bR H pa ps->⇑rs+ ⇑ps<=1000->H st\.tup [↑d,↑e]->H d\.dT kvs->H e\.lst (au (nI E))->WD kvs W->bW H 4 ↑p row->K9 (rs++ps) ⇑rs L E W row E' W'->⇑kvs<=10000000->⇑E<=1000->OnQ H d e ⇑kvs E' W' Q->WT vs H Q E_
def xY {b:Zh}(h:B≠b):¬(V.str (tx B)=V.str (tx b)):=λz=>h (IC (V.str.inj z))
theorem HP:T.yM.Ok P w base 4 WT:=by
 rwa[T.yM.on dY (λcy AA outer s H vs Q E hr h=>?_)]
 ·let⟨L,ru,pa,st,p,d,e,rs,ps,f,E,E',W,W',row,rfl,⟨us,xN,Qd⟩,⟨vs,zR,Js⟩,ti,IK,hd,he,hW,Y,S,hkl,WU,k⟩:=h;let kF:=eG hr
  erw[_,{jn (pv 3) (ie rfl (bP (cS 5 dY.nd) (bP (cS 6 dY.nd) fQ))),bE (bD (PW.pt (dN (fj (cX (bx jE rfl T.fG akC #[4,kJ (v:=.ty "tuple") rfl T.pO alx rfl]))) (ic (aM j7 (4<<<0) ak (aO _)))))
    {a9 b9}
    bj),bE (bD (PW.pt (iL (aM cV (4&&&ak) (dA (l:=[109,101,101,116]) rfl) (aO _)) (gL (cX (pc T.sR (DW T) hr #[5,6,4])))))
    {bF 7 dY.nd qf,tT (cf ajV rfl (Oj (pv 5)) (ie rfl (bP (cS 8 dY.nd) (bP (cS 9 dY.nd) (bP (cS 10 dY.nd) fQ))))
     {jO kF (pv 7) (bG #[pc T.iT (kz T) hr #[8,4&&&ak,4&&&ak],9,pc T.iT (kz T) hr #[10,4&&&ak,4&&&ak]]) eD rfl}),a9 (bG #[7,iR (fns:=["_law_row"]) (ixs:=[4]) (cl:=_) rfl (cQ (pv 6)) (cM [(_,_)] rfl ⟨22222,True.intro⟩ rfl) (λC s H ex=>(pc T.iT (kz T) hr #[0,aH (mH (K:=K) rfl) (pv 1) ak (λ_ _=>rfl),aH (mH (K:=K) rfl) (pv 1) ak (λ_ _=>rfl)]))])}
    bj),bF 11 dY.nd b9,bE (bD (PW.pt (iL (aM cV (4&&&ak) (dA (l:=[110,101,119]) rfl) (aO _)) (gL (cX (pc T.vC (ER T) hr #[0,5,6,4])))))
    {bF 6 dY.nd (aL oY (pv 6) (bY #[4&&&ak])),bF 11 dY.nd (bG #[4&&&ak,4&&&ak,4&&&ak])}
    bj),bE (bD (PW.pt (iL (aM cV (4&&&ak) (dA (l:=[114,117,108,101]) rfl) (aO _)) (gL (cX (pc T.sQ (DX T) hr #[aL oY (pv 1) (pv 2),1<<<0,5,6,4])))))
    {bF 11 dY.nd (bG #[(4&&&ak)&&&(4&&&ak),((aL oY (pv 1) (pv 2))|||(4&&&ak))&&&(4&&&ak),(4&&&ak)&&&(aL cw (4&&&ak) ak)])}
    bj),bD (aM ik (pv 11) b9 (aO _))
    {a9 b9}
    bj,jO kF (pv 5) (pv 11) eD rfl,jO kF (pv 5) (bG #[11&&&ak,eF dy (11&&&ak),11&&&ak]) eD rfl,a9 (bG #[5,6])}]
  rwa[Mb ?_];intro u_9 Vg C5 rE mv kD iV eR eZ;erw[12,st,12,bu.of IK,21121122]
  let tail:∀(t G:Zs)(c B:Nat)(z:Int)(E1:Zh)(N:Hp),av H N->N t\.tup ((k3 c z B).map kV)->N G\.lst (au (nI E1))->(G=e\/H G=none)->OnQ H d e ⇑f E1 (fb W c z B) Q->rE { nx:=λ_ I=>Q .non I,rt:=Q } #v[.int L,↑ru,↑pa,↑st,↑p,↑d,↑G,none,none,none,none,↑t] N:=λt G c B z E1 N s1 ht WV oe kk=>by
   rwa[⟨12212,bK (λh=>by have:=ajQ h;ext this) λ_=>?_⟩];let Vj:=s1^hd;let td:t≠d:=λe=>by cbv
   let xK:=dR f (k3 c z B) (.bl true);erw[1212,d,12,kb.t (k:=k3 c z B) Vj ht (ajJ hkl ⋯)];let k1:∀b u,b≠d->N b\u->upd N d (.dT (putK f (k3 c z B) (.bl true))) b\u:=λb u n e=>by rw[ao n];rwa[e]
   let hd2:upd N d (.dT (putK f (k3 c z B) (.bl true))) d\(.dT (putK f (k3 c z B) (.bl true))):=aj;change upd N d _=H2 at k1 hd2 ⊢;let WW:bu K H2 t [.int (c:Int),.int z,.int (B:Int)]:=bu.of (k1 _ _ td ht);rwa[⟨1212,t,11122,WW,212,t,11122,WW,21212,t,11122,WW,2,Za4 3,λt2 nt2=>?_⟩];generalize e_:upd H2 t2 _=H3;let⟨s3,Vl⟩:=du e_ nt2;let BP:=dR (putK f (k3 c z B) (.bl true)) (k3 B (-z) c) (.bl true);erw[d,12,kb.t (k:=k3 B (-z) c) (s3^hd2) Vl (ajJ (show _<=10000001 by omega) ⋯)];let WX:∀b u,b≠d->N b\u->upd H3 d (.dT (putK (putK f (k3 c z B) (.bl true)) (k3 B (-z) c) (.bl true))) b\u:=λb u n e=>by rw[ao n];rwa[s3^k1 _ _ n e]
   let R:upd H3 d (.dT (putK (putK f (k3 c z B) (.bl true)) (k3 B (-z) c) (.bl true))) d\(.dT (putK (putK f (k3 c z B) (.bl true)) (k3 B (-z) c) (.bl true))):=aj;change upd H3 d _=H4 at WX R ⊢;let ed:G≠d:=λz=>by cbv
   rwa[⟨1212,Za4 2,λs5 ns5=>?_⟩];let s6:=av.upd (o:=.tup [↑d,↑G]) ns5;rwa[kk s5 d G _ _ (λb u n e=>s6^(WX b u n (s1^e))) ⟨_,s6^R⟩ aj (s6^R) (s6^WX _ _ ed WV) (.inl rfl) oe (((hW.put c z B (.bl true)).put B (-z) c (.bl true)).congr λa y b=>?_) ∅];unfold fb
   cbv
  rcases S with S | @⟨_,c,z,hc,hz0,hzL,hno⟩
  ·cases S with
   | @meet c u v z huv hu hv iu iv=>
     let J:=Qb Y;let g:∀{I:Hp},I p\.tup [.str (tx [109,101,101,116]),.int (c:Int),.int z,.int (u:Int),.int (v:Int)]->bu K I p [.str (tx [109,101,101,116]),.int (c:Int),.int z,.int (u:Int),.int (v:Int)]:=λh=>bu.of h
     rwa[⟨15,λ_ _ h=>h⟩];rwa[⟨1211112,.tup J,kM K "tuple",true,2,b8 ?_⟩];rwa[⟨12,p,12,.inr (g J),112212,bK (λh=>absurd (ajQ h) (by show ¬((5:Nat):Int)<4;decide)) λ_=>?_⟩];rwa[⟨15,λ_ _ h=>h⟩];rwa[⟨12,p,11122,g J,2212,bK (λ_=>?_) λh=>absurd (ajZ rfl) h⟩];rwa[⟨121212,d,e,p,f,E,W,c,u,v,z,2,hd,he,J,hW,huv,hu,hv,iu,iv,λH3 F=>⟨true,2,dg ?_⟩⟩];intro td WY;generalize e_:upd H3 td _=H4;let⟨s4,acV⟩:=du e_ WY;let Qe:d≠td:=aw (F^hd) WY;let acW:H td=none:=F.free WY;let WZ:=F.trans s4;let R:=WZ^hd;rwa[⟨d,.dT f,R,True.intro,12,d,f,2,R,λo=>?_⟩];let kf:∀b x,b≠d->H4 b\x->upd H4 d (.cL o (.dT f)) b\x:=λb x n e=>by rw[ao n];rwa[e]
     let hf:upd H4 d (.cL o (.dT f)) d\(.cL o (.dT f)):=aj;change upd H4 d _=H5 at kf hf ⊢;let acX:=kf _ _ (akI Qe) acV;let pd:p≠d:=λz=>by rw[z,hd]at J;ext J
     let hp5:=kf _ _ pd (WZ^J);let ptd:p≠td:=λz=>by cbv
     let' kZ:Nat->St->Hp->Prop:=λi σ H6=>∃v6 v7 v8 tk,σ=#v[.int L,↑ru,↑pa,↑st,↑p,↑d,↑e,↑td,v6,v7,v8,none]/\(∀b x,b≠td->H5 b\x->H6 b\x)/\H6 td\.dT tk/\⇑tk<=i/\WD tk (λa s b=>∃j p a1 b1,j<i/\f[j]?\p/\p.1=k3 a1 s b1/\a=gE u v a1/\b=gE u v b1)
     rwa[I9 (o:=o) (kvs:=f) kZ ⟨none,none,none,[],2,λ_ _ _ e=>e,acX,ajE _,⟨(λp J=>by ext J),(λa z b h=>by let⟨j,_,_,_,hj,_⟩:=h;omega),akW⟩⟩ (λi σ H6 _ ζ=>by let⟨_,_,_,_,_,kk,_⟩:=ζ;rwa[kk _ _ Qe hf]) ?_ ?_]
     ·intro i kv σ H6 pk F3 hpk X;rwa[aZ ?_];intro q_;let⟨v6,v7,v8,tk,rfl,kk,E7,F8,W6⟩:=X;dsimp only[q_];clear q_;let⟨a,s,b,ek,hw⟩:=hW.k kv (ajA F3);let hi:i<⇑f:=(ajy.mp F3).1;let Jv:H6 pk\(.tup [.int (a:Int),.int s,.int (b:Int)]):=by rw[ek]at hpk;rwa[hpk]
      let Qf:=g (kk _ _ ptd hp5);erw[pk,12,bu.of Jv,21121121122];rwa[⟨121212,p,11122,Qf,212,p,11122,Qf,2,a,u,v,2121212,p,11122,Qf,212,p,11122,Qf,2,b,u,v,2,(Za4 3),λt nt=>?_⟩];let s7:=av.upd (o:=.tup [.int ((gE u v a:Nat):Int),.int s,.int ((gE u v b:Nat):Int)]) nt;let W7:upd H6 t (.tup [.int ((gE u v a:Nat):Int),.int s,.int ((gE u v b:Nat):Int)]) t\(.tup ((k3 (gE u v a) s (gE u v b)).map kV)):=aj;erw[td,12,kb.t (k:=k3 (gE u v a) s (gE u v b)) (s7^E7) W7 (ajJ (show ⇑tk<=10000000 by omega) ⋯)];let lL:=dR tk (k3 (gE u v a) s (gE u v b)) (.bl true);rwa[⟨11112,λx o nx e=>?_,aj,3,(W6.put (gE u v a) s (gE u v b) (.bl true)).congr λa' s' b'=>?_⟩]
      ·rw[ao nx];rwa[s7^kk x o nx e]
      ·constructor
       ·rintro (⟨j,p,a1,b1,hj,q⟩|⟨rfl,rfl,rfl⟩)
        ·rwa[j,p,a1,b1,3,q]
        ·rwa[i,kv,a,b,3,F3,ek,22]
       ·rintro ⟨j,p,a1,b1,hj,q1,q2,q3,q4⟩;cases Vh:j=i
        ·subst Vh;rw[F3]at q1;obtain rfl:=Za0 q1;let⟨rfl,rfl,rfl⟩:=nV.mp (ek.symm.trans q2);rwa[.inr ⟨q3,2,q4⟩]
        ·rwa[.inl ⟨j,p,a1,b1,3,q1,q2,q3,q4⟩]
     ·intro σ H6 X;rwa[aZ ?_];intro q_;let⟨v6,v7,v8,tk,rfl,kk,E7,F8,W6⟩:=X;dsimp only[q_];clear q_;erw[o,kk _ _ Qe hf]
      let same:av H (upd H6 d (.dT f)):=λb x e=>by
       cases hb:b=d
       ·subst hb;rw[aj];rw[hd]at e;rwa[e]
       ·rw[ao hb];rwa[kk b x (λz=>by cbv) (kf b x hb (WZ^e))]
      let W8:upd H6 d (.dT f) td\(.dT tk):=by rw[ao (akI Qe)];rwa[E7]
      change upd H6 d _=H7 at same W8 ⊢;let Qg:=same^he;let sq7:=g (same^J);erw[12];erw[12,e,2,⟨_,aF.of Qg⟩];rwa[jN (au (nI E)) (λw=>match w with|.int q=>.int ((gE u v q.toNat:Nat):Int)|w=>w) (ka (aF.of Qg)) (i7 (aF.of Qg)) (hU (aF.of Qg)) ([aJ,bO]▸ajO WU ⋯) (λi w hw Rr hR=>?_) (λD nD=>?_)]
      ·let⟨q,rfl,hq⟩:=cO hw;unfold nI at hq;rw[aj0]at hq
       cases hE:E[i]? with
       |none=>rw[hE]at hq;ext hq
       |some a=>rw[hE]at hq;obtain rfl:(a:Int)=q:=Za0 hq;erw[1212,p,11122,sq7,212,p,11122,sq7,2,a,u,v,2];rwa[hR]
      let eE:((au (nI E)).map λw=>match w with|.int q=>V.int ((gE u v q.toNat:Nat):Int)|w=>w)=au (nI (E.map (gE u v))):=by
       unfold au nI;rw[aki,aki,aki,aki];rwa[akB λa _=>?_]
       show V.int ((gE u v (a:Int).toNat:Nat):Int)=V.int ((gE u v a:Nat):Int);rw[aka]
      rw[eE];generalize e_:upd H7 D _=H8;let⟨s8,hD8⟩:=du e_ nD;let nDH:H D=none:=same.free nD
      let hWn:WD tk (Ms u v W):=W6.congr λa s b=>by
       constructor
       ·rintro ⟨j,p,a1,b1,hj,q1,q2,rfl,rfl⟩;let⟨a2,s2,b2,e2,w2⟩:=hW.k p (ajA q1);let⟨rfl,rfl,rfl⟩:=nV.mp (q2.symm.trans e2);rwa[11,w2,22]
       ·rintro ⟨a3,b3,r,e3,e4⟩;let⟨w,hw⟩:=ak3.mp (hW.v _ s _ r);let⟨p,J,ep⟩:=yZ hw;let⟨j,hj⟩:=akr J;rwa[j,p,11,(ajy.mp hj).1,hj,ep,e3.symm,e4.symm]
      rwa[⟨(Za4 2),λt nt=>?_⟩];let s9:=av.upd (o:=.tup [↑td,↑D]) nt;rwa[k t td D tk _ (λb u _ e=>s9^s8^same^e) ⟨_,s9^s8^same^hd⟩ aj (s9^s8^W8) (s9^hD8) (.inr acW) (.inr nDH) hWn ∅]
   | @rule M m c B word tJ z W9 lL hp0 Ks acY hmz Ky Vk acZ=>
     let⟨q,J,hq⟩:=Qc Y;let g:∀{I:Hp},av H I->bu K I p [.str (tx [114,117,108,101]),.int (M:Int),↑q,.int (m:Int)]:=λs=>bu.of (s^J)
     let sqq:∀{I:Hp},av H I->bu K I q (au (nI tJ)):=λs=>bu.of (s^hq)
     let s0:av H H:=λ_ _ e=>e
     let acU:M<⇑(rs++ps):=(ajy.mp W9).1;let TL:m<⇑word:=(ajy.mp hmz).1
     let fits:⇑(us.map V.ref)+ ⇑(vs.map V.ref)<=sizeLine:=by rw[ajD,ajD,Qd.1,Js.1];rwa[ajO ti ⋯]
     rwa[⟨15,λ_ _ h=>h⟩];rwa[⟨1211112,.tup J,kM K "tuple",true,2,b8 ?_⟩];rwa[⟨12,p,12,.inr (g s0),112212,bK (λh=>absurd (ajQ h) (by show ¬((4:Nat):Int)<4;decide)) λ_=>?_⟩];rwa[⟨15,λ_ _ h=>h⟩];rwa[⟨12,p,11122,g s0,2212,bK (λh=>absurd (ajQ h) (xY ⋯)) λ_=>?_⟩];rwa[⟨15,λ_ _ h=>h⟩];rwa[⟨12,p,11122,g s0,2212,bK (λh=>absurd (ajQ h) (xY ⋯)) λ_=>?_⟩]
     let' qL:St->Hp->Prop:=λ Z I=>∃t,Z=#v[.int L,↑ru,↑pa,↑st,↑p,↑d,↑e,none,none,none,none,↑t]/\av H I/\I t\(.tup ((k3 c z B).map kV))
     erw[qL,5]
     ·rwa[bB ?_];intro g9;rwa[⟨12,p,11122,g s0,2212,bK (λ_=>?_) λh=>absurd (ajZ rfl) h⟩];rwa[⟨1212,ru,pa,1122,xN,zR,fits,λwl nwl=>?_⟩];let hwc:=zW Qd Js nwl;let s1:=av.upd (o:=.lst (us.map V.ref++vs.map V.ref)) nwl;change upd H wl _=N at hwc s1 ⊢;rwa[⟨12,ru,12,.inl (aF.of (s1^xN)),121212,wl,d,e,p,q,rs++ps,⇑rs,f,E,W,M,m,word,tJ,(by rw[ajD,Qd.1];rfl),hwc,s1^hd,s1^he,s1^J,s1^hq,hW,W9,lL,hp0,Ks,acY,TL,acZ,λH2 s2=>⟨true,2,dg ?_⟩⟩];let O:=s1.trans s2;erw[12,p,11122,g O,212,p,11122,g O,2,q,11122,sqq O,b6 (bQ (eU Ky))];rwa[⟨1212,ru,pa,1122,O^xN,O^zR,fits,λw2 uS=>?_⟩];let⟨wps,La,Xa⟩:=zW (Qd.same O) (Js.same O) uS;let s3:=av.upd (o:=.lst (us.map V.ref++vs.map V.ref)) uS;change upd H2 w2 _=H3 at La Xa s3 ⊢;let F:=O.trans s3;obtain⟨wp,K7⟩:∃wp,wps[M]?\wp:=⟨_,ajz (by rw[Xa.1];omega)⟩
      erw[12,p,11122,g F,2,w2,11122,aF.of La,eH K7,12,p,11122,g F,2,wp,11122,bu.of (Xa.2 _ _ _ K7 W9),b6 (bQ hmz)];rwa[⟨12,p,11122,g F,212,p,11122,g F,21122,q,11122,sqq F,(b6 (j:=m+ 1) (bQ (eU Vk)):fY _ ((m:Int)+ 1)=_),Za4 3,λt nt=>⟨t,25,aj⟩⟩];rwa[F.trans (av.upd nt)]
     rintro Z N ⟨t,rfl,s1,ht⟩;rwa[tail t e c B z _ N s1 ht (s1^he) (.inl rfl) k]
  ·let J:=WQ Y;let g:∀{I:Hp},av H I->bu K I p [.str (tx [110,101,119]),.int (c:Int),.int z,.int (⇑E:Int)]:=λs=>bu.of (s^J)
   let s0:av H H:=λ_ _ e=>e
   rwa[⟨15,λ_ _ h=>h⟩];rwa[⟨1211112,.tup J,kM K "tuple",true,2,b8 ?_⟩];rwa[⟨12,p,12,.inr (g s0),112212,bK (λh=>absurd (ajQ h) (by show ¬((4:Nat):Int)<4;decide)) λ_=>?_⟩];rwa[⟨15,λ_ _ h=>h⟩];rwa[⟨12,p,11122,g s0,2212,bK (λh=>absurd (ajQ h) (xY ⋯)) λ_=>?_⟩]
   let' vS:St->Hp->Prop:=λ Z I=>∃t G,Z=#v[.int L,↑ru,↑pa,↑st,↑p,↑d,↑G,none,none,none,none,↑t]/\av H I/\I t\.tup ((k3 c z ⇑E).map kV)/\I G\.lst (au (nI (E++[⇑E])))/\H G=none
   erw[vS,5]
   ·rwa[bB ?_];intro g9;rwa[⟨12,p,11122,g s0,2212,bK (λ_=>?_) λh=>absurd (ajZ rfl) h⟩];rwa[⟨12121212,L,d,e,p,f,E,W,c,z,2,hd,he,J,hW,hc,hz0,hzL,hno,WU,λN s1=>⟨true,2,dg ?_⟩⟩];rwa[⟨1212,p,11122,g s1,2,(Za4 1),λl nl=>?_⟩];let s2:=av.upd (o:=.lst [.int (⇑E:Int)]) nl;rwa[⟨e,l,1122,s2^s1^he,aj,([aJ,bO]▸ajO (Nat.add_le_add_right WU 1) ⋯),λG n1=>?_⟩];let s3:=av.upd (o:=.lst (au (nI E)++[.int (⇑E:Int)])) n1;let U:=(s1.trans s2).trans s3;let he3:upd (upd N l (.lst [.int (⇑E:Int)])) G (.lst (au (nI E)++[.int (⇑E:Int)])) G\(.lst (au (nI (E++[⇑E])))):=by rw[aj,iN,ints_app];rfl
    let nn:H G=none:=(s1.trans s2).free n1;change upd (upd N l (.lst [.int (⇑E:Int)])) G (.lst (au (nI E)++[.int (⇑E:Int)]))=H3 at U he3 ⊢;rwa[⟨12,p,11122,g U,212,p,11122,g U,212,p,11122,g U,2,Za4 3,λt nt=>⟨t,G,2,U.trans (av.upd nt),aj,av.upd nt _ _ he3,nn⟩⟩]
   intro Z N X;rwa[aZ ?_];intro q_;let⟨t,G,rfl,s1,ht,WV,n1⟩:=X;dsimp only[q_];clear q_;rwa[⟨15,λ_ _ h=>h⟩];rwa[⟨12,p,11122,g s1,2212,bK (λh=>absurd (ajQ h) (xY ⋯)) λ_=>?_⟩];rwa[tail t G c _ z _ N s1 ht WV (.inr n1) k]
structure Xb (rs ps:Za3)(L:Nat)(S:RS)(E:Zh)(W:Za2):Prop where
 e:E=S.aV
 w:∀a z b,W a z b↔S.by a z=some b
 c:vn rs ps S
 y:∃R,YS S L (bL (2* L)) R
inductive uW (rs ps:Za3)(L o lim:Nat):Zh->(Za2)->List Dt->Zh->(Za2)->Prop
 |nil {E:Zh} {W W':Za2}:(∀a z b,W a z b↔W' a z b)->uW rs ps L o lim E W [] E W'
 |cons {E E1 E2:Zh} {W0 W W1 W2:Za2} {row:Dt} {ms:List Dt}:(∀a z b,W0 a z b↔W a z b)->K9 (rs++ps) ⇑rs L E W row E1 W1->(∀c z n,row=il c z n->∃S,Xb rs ps L S E W0/\ib o S L c z/\S.q<lim)->uW rs ps L o lim E1 W1 ms E2 W2->uW rs ps L o lim E W0 (row::ms) E2 W2
def RT {d:Za3}{b:Zh}{W:Za2}{row:Dt}(h:One d n B W row b R)(c:Nat)(z:Int)(a:Nat):row≠il c z a:=by cases h <;> (intro e;unfold il at e;first|(unfold fS at e;cbv)|(unfold jX at e;cbv))
def goP {rs g:Za3}{r p:Zh}{W q:Za2}{j o:List Dt}(h:Go (rs++g) ⇑rs B W j r R):∀{l:Za2},(∀a z b,l a z b↔W a z b)->(∀s,(∀a z b,s a z b↔R a z b)->uW rs g n m i r s o p q)->uW rs g n m i B l (j++o) p q:=by
 induction h with
 |nil e=>exact λf k=>k _ λa z b=>(f a z b).trans (e a z b)
 |cons m _ t=>exact λf k=>.cons f (.old m) (λc z d e=>absurd e (RT m c z d)) (t (λ_ _ _=>Iff.rfl) k)
def Xc (g:Good S [] R){c:Nat}{z:Int}{f:Zg}(h:c<S.q)(j:S.by c z=none){W:Za2}(d:∀a z b,W a z b↔S.by a z=some b)(a:Nat)(y:Int)(b:Nat):fb W c z S.q a y b↔(S.make c z f).by a y=some b:=by
 rw[B7 g.wf h];unfold fb;rw[d];let i:S.by a y=some b->a<S.q:=λe=>(g.st _ _ _ e).1
 cbv
def Fl.cl {rs a:Za3}{w:Nat}(h:Fl rs a n w m S):vn rs a S:=by cases h <;> ext
def Fl.pap {rs l:Za3}{w:Nat}(h:Fl rs l n w m S)(p:∀u∈rs++l,∀z∈u,z∈bL (2* n)/\-z∈bL (2* n)):∀{E2:Zh}{W2:Za2}{ns:List Dt},(∀f,(∀a z b,f a z b↔S.by a z=some b)->uW rs l n w m S.aV f ns E2 W2)->uW rs l n w m [0] (λ_ _ _=>False) (S.rows++ns) E2 W2:=by
 induction h with
 |start t _=>intro E2 W2 ns k;let y:=YS.new (L:=n) (ks:=bL (2* n));let⟨H,g,_,_,C,e,go⟩:=AU t p y.g y.w y.k;rw[e];rwa[goP go (λa z b=>⟨False.elim,λζ=>?_⟩) λf i=>k f λa z b=>(i a z b).trans g.mW.symm];let⟨_,_,r,_⟩:=ζ;rwa[r]
 | @next S M c z hf o B t _ E=>
   intro E2 W2 ns k;let⟨R,y⟩:=hf.ys p;let⟨x,s,q,v⟩:=B.1;let⟨F,G⟩:=iD.mp q;let j:=y.make x (pY s) v q (K3 q);let⟨H,g,_,_,C,e,go⟩:=AU t p j.g j.w j.k;rw[e,show (S.make c z (bL (2* n))).rows=S.rows++[il c z S.q] from rfl,akl,akl];rwa[E λf i=>?_]
   let el:⇑S.aV=S.q:=y.g.wf.e;rw[<-el];rwa[.cons (λ_ _ _=>Iff.rfl) (.new s F G λb J=>by cbv) (λD L d e=>⟨S,⟨2,i,hf.cl,R,y⟩,5,o⟩) ?_]
   ·unfold il at e;injection e with e
    simp at e;obtain rfl:c=D:=∅
    rw[<-e.2.1];rwa[B]
   rw[el];rwa[goP go (λa z b=>(Xc y.g x v i a z b).trans j.g.mW) λf i=>k f λa z b=>(i a z b).trans g.mW.symm]
def Xd {a:Za3}{E:Zh}{W:Za2}{row:Dt}(h:K9 a n m E W row B R):⇑E<=⇑B:=by
 rcases h with h|_
 ·cases h <;> simp
 ·simp
def uW.len {rs b:Za3}{E:Zh}{W:Za2}{a:List Dt}(h:uW rs b n m i E W a B R):⇑E<=⇑B:=by
 induction h with
 |nil=>exact ajE _
 |cons _ m _ _ c=>exact ajO (Xd m) c
def Lb (h:ib n S m i z)(e:ib n S m j y)(f:n<3):i=j/\z=y:=by
 let a:=h.2^e.1;let b:=e.2^h.1;unfold rk at a b;rcases (show n=0\/n=1\/n=2 by omega) with rfl|rfl|rfl
 ·let⟨d,c⟩:=yU a b;rwa[3,ug c.symm]
 ·let⟨d,c⟩:=yU a b;rwa[3,ug d.symm]
 ·let⟨d,c⟩:=yU a b;rwa[3,ug c.symm]
structure WK (kv:List (Zd×V))(by_:Nat->Int->Zi):Prop where
 v:∀a z,bC kv (fx a z)=(by_ a z).map λb:Nat=>V.int (b:Int)
def Gp {a:Nat->Int->Zi}{w:Zg}{k:Nat}(h:wk a n (w.take k)\m)(c:w[k]?\y):wk a n (w.take (k+ 1))=a m y:=by
 rw[take_snoc c,sh h]
 cases q:a m y with
 |none=>unfold wk;rw[q]
 |some b=>exact Jj q
def uh {a:Nat->Int->Zi}{w:Zg}{k x:Nat}(h:wk a n (w.take i)\m)(f:w[i]?\y)(g:a m y=none)(b:wk a n (w.take k)\x):k<=i:=by
 rcases alY i k with q|q
 ·exfalso
  let e:w.take k=w.take (i+ 1)++(w.take k).drop (i+ 1):=by
   conv=>lhs;rw[<-amh (i+ 1) (w.take k)]
   rw[List.take_take,alD q]
  rw[e]at b;let⟨d,c,_⟩:=BJ b;rw[Gp h f,g]at c;ext c
 ext
def RV (g:Good S [] R){w:Zg}{x a c b:Nat}{z:Int}(h:wk S.by x (w.drop (b+ 1))=some c)(f:w[b]?\z)(j:S.by x (-z)=some a):wk S.by a (w.drop b)=some c:=by let i:b<⇑w:=(ajy.mp f).1;let e:w[b]=z:=(ajy.mp f).2;rw[alj i,e];let q:=g.sy _ _ _ j;rw[alg]at q;show (match S.by a z with|none=>none|some d=>wk S.by d (w.drop (b+ 1)))=_;rw[q];rwa[h]
def RW {x:Nat}{word:Zg}(h:Fy S n word)(a:wk S.by n (word.take ⇑word)=some x):x=n:=by
 rcases h with h|⟨i,j,f,r,y,z,g,e,c,b,d,m,o⟩
 ·cbv
 ·let l:=uh b e d a;let k:=(ajy.mp c).1;ext
def RX {x:Nat}{word:Zg}(h:Fy S n word)(b:wk S.by n (word.take m)=some x)(c:word[m]?\z)(e:S.by x z=none):∃j r a,m<j/\word[j]?\a/\wk S.by r (word.drop (j+ 1))=some n/\S.by r (-a)=none:=by
 rcases h with h|⟨i,j,f,r,y,a,l,p,q,d,s,t,u⟩
 ·let o:=uh b c e (k:=⇑word) (by rw[akR];rwa[h]);let g:=(ajy.mp c).1;ext
 ·let o:=uh d p s b;let g:=uh b c e d;rwa[j,r,a,3,q,t,u]
inductive Gq (vs:Zb)(H:Hp)(Q:VK)(E_:XK):Prop
 |mk (kd t:Zs)(kv:List (Zd×V))(S:RS)(R:Za2)(word:Zg)(c:Nat):vs=[↑kd,↑t,.int c]->H kd\.dT kv->WK kv S.by->H t\.tup (au word)->Good S [] R->Fy S c word->(∀H',av H H'->Q (.bl true) H')->Gq vs H Q E_
theorem rJ:T.mC.Ok P w base 1 Gq:=by
 rwa[T.mC.on dC (λcy AA outer s H vs Q E hr h=>?_)]
 ·let⟨p,t,kv,S,R,word,c,rfl,B,D,J,g,hr0,k⟩:=h;let u:=eG hr
  erw[_,{bF 3 dC.nd ak,bF 4 dC.nd (pv 2),bE (fA ajV (PW.pt (iL (aM j7 (pv 3) (1<<<0) (aO _)) (gL (mJ (o5 u (bG #[4,1&&&3]) (pv 0))))))
    {bF 4 dC.nd (tR u (pv 0) (bG #[4,1&&&3]) (λ_ _=>rfl)),bF 3 dC.nd (aL cw (pv 3) ak)}),bD (aM cV (pv 3) (1<<<0) (aO _))
    {a9 (gM cV (pv 4) (pv 2) (aO _))}
    bj,bF 5 dC.nd (1<<<0),bF 4 dC.nd (pv 2),bE (fA ajV (PW.pt (iL (aM qd (pv 5) (aL cw (pv 3) ak) (aO _)) (gL (mJ (o5 u (bG #[4,eF dy (1&&&(aL ig (pv 5) ak))]) (pv 0))))))
    {bF 4 dC.nd (tR u (pv 0) (bG #[4,eF dy (1&&&(aL ig (pv 5) ak))]) (λ_ _=>rfl)),bF 5 dC.nd (aL ig (pv 5) ak)}),a9 (gM qd (pv 5) (aL cw (pv 3) ak) (aO _))}]
  rwa[qj ?_];intro C5 rE mv kD iV eR eZ;let lw:⇑(au word)=⇑word:=aJ _;erw[12]
  let' qQ:St->Hp->Prop:=λ Y C=>∃n x:Nat,Y=#v[↑p,↑t,.int (c:Int),.int (n:Int),.int (x:Int),none]/\av H C/\n<=⇑word/\wk S.by c (word.take n)=some x/\∀y,word[n]?\y->S.by x y=none
  erw[qQ,5]
  ·rwa[bB ?_];intro g9;erw[λm f H2=>∃n x:Nat,m=⇑word - n/\f=#v[↑p,↑t,.int (c:Int),.int (n:Int),.int (x:Int),none]/\av H H2/\n<=⇑word/\wk S.by c (word.take n)=some x,⟨_,(0),c,22,λ_ _ e=>e,aj8 _,2⟩];intro m f H2 o;rwa[aZ ?_];intro G;let⟨n,x,rfl,rfl,s2,hn,Z⟩:=o;dsimp only[G];clear G;erw[1212,t,12,.inr (bu.of (s2^J)),112212];rwa[bK (λa=>?_) λU=>b8 ?_]
   ·let a:=ajQ a;let a:n<⇑word:=∅
    let l:word[n]?=some word[n]:=ajz a
    change word[n]=y at l;rwa[⟨121212,t,11122,bu.of (s2^J),b6 (bQ l),(Za4 2),λt3 L=>?_⟩];generalize M:upd H2 t3 _=H3;let⟨s3,O⟩:=du M L;let F:=s2.trans s3;erw[12,p,12,dv.t (k:=fx x y) (F^B) O,12];rw[D.v x y]
    cases q:S.by x y with
    |none=>exact b8 ⟨n,x,2,F,hn,Z,λy' h'=>by cbv⟩
    |some b=>
     rwa[dg ⟨λ f C=>f=#v[↑p,↑t,.int (c:Int),.int ((n+ 1:Nat):Int),.int (b:Int),none]/\av H C,55⟩]
     ·rintro f C ⟨rfl,s'⟩;rwa[13,n+ 1,b,22,s',a,by rw[Gp Z l,q]]
     ·rwa[⟨12121212,t,11122,bu.of (F^J),b6 (bQ l),(Za4 2),λt4 N=>?_⟩];generalize M:upd H3 t4 _=H4;let⟨s4,X⟩:=du M N;let d:=F.trans s4;let hv:bC kv (fx x y)\(.int (b:Int)):=by rw[D.v x y,q];rfl
      erw[p,12,hv ▸ dv.t (k:=fx x y) (d^B) X];rwa[1211222,d]
   ·let U:¬(n<⇑word):=λh=>U (ajZ ∅)
    rwa[n,x,2,s2,hn,Z,λy h=>absurd (ajy.mp h).1 U]
  intro f H2 o;rwa[aZ ?_];intro G;let⟨n,x,rfl,s2,hn,Z,ac0⟩:=o;dsimp only[G];clear G;erw[1212,t,12,.inr (bu.of (s2^J)),212];rwa[bK (λhe=>?_) λo8=>?_]
  ·let he:=ajQ he
   let zN:n=⇑word:=by have:=akK (λv=>match v with|V.int i=>i|_=>0) he;dsimp only at this;ext
   subst zN;have:=RW hr0 Z;subst this;erw[12122];rw[ajZ rfl];rwa[k _ s2]
  ·let a:n<⇑word:=by
    rcases alY n ⇑word with q|q
    ·rwa[q]
    ·cbv
   let⟨j,r,z,hj,hjz,w2,n2⟩:=RX hr0 Z (ajz a) (ac0 _ (ajz a));let WO:=(ajy.mp hjz).1;erw[12,t,12,.inr (bu.of (s2^J)),12]
   let' qL:St->Hp->Prop:=λ Y C=>∃b x:Nat,Y=#v[↑p,↑t,.int (c:Int),.int (n:Int),.int (x:Int),.int (b:Int)]/\av H C/\j+ 1<=b
   erw[qL,5]
   ·rwa[bB ?_];intro g9;erw[λm f H2=>∃b x:Nat,m=b/\f=#v[↑p,↑t,.int (c:Int),.int (n:Int),.int (x:Int),.int (b:Int)]/\av H H2/\j+ 1<=b/\b<=⇑word/\wk S.by x (word.drop b)=some c,⟨_,⇑word,c,2,(by rw[<-lw];rfl),s2,WO,ajE _,by rw[am4];rfl⟩];intro m f H3 o;rwa[aZ ?_];intro G;let⟨b,I,rfl,rfl,s3,hjb,Dx,La⟩:=o;dsimp only[G];clear G;erw[12121122112212];rw[ajZ (show ((n:Int)+ 1<(m:Int)) by omega)];rwa[dg ?_];let PZ:m - 1<⇑word:=∅
    let l:word[m - 1]?=some word[m - 1]:=ajz PZ
    change word[m - 1]=y at l
    let DT:fY (au word) ((m:Int) - 1)\(.int y):=by rw[show ((m:Int) - 1)=((m - 1:Nat):Int) by ext];rwa[b6 (bQ l)]
    rwa[⟨1212121122,t,11122,bu.of (s3^J),DT,12,(Za4 2),λt3 L=>?_⟩];generalize M:upd H3 t3 _=H4;let⟨s4,O⟩:=du M L;let d:=s3.trans s4;erw[12,p,12,dv.t (k:=fx I (-y)) (d^B) O,12];rw[D.v I (-y)]
    cases q:S.by I (-y) with
    |none=>exact b8 ⟨m,I,2,d,hjb⟩
    |some b=>
     let hmj:m - 1≠j:=λe=>by
      rw[e]at l;rw[hjz]at l;ext l;let e2:m=j+ 1:=∅
      subst e2;have:=Jq g La w2
      cbv
     rwa[dg ⟨λ f C=>f=#v[↑p,↑t,.int (c:Int),.int (n:Int),.int (b:Int),.int ((m - 1:Nat):Int)]/\av H C,55⟩]
     ·rintro f C ⟨rfl,s'⟩;rwa[_,show m - 1<m by ext,m - 1,b,22,s',33,RV g ([show m - 1+ 1=m by ext]▸La) l q]
     ·rwa[⟨121212121122,t,11122,bu.of (d^J),DT,12,(Za4 2),λt4 N=>?_⟩];generalize M:upd H4 t4 _=H5;let⟨s5,X⟩:=du M N;let Gm:=d.trans s5;let hv:bC kv (fx I (-y))\(.int (b:Int)):=by rw[D.v I (-y),q];rfl
      erw[p,12,hv ▸ dv.t (k:=fx I (-y)) (Gm^B) X];rwa[121122,(by rw[show ((m - 1:Nat):Int)=(m:Int) - 1 by ext];rfl),Gm]
   ·rintro f H3 ⟨b,I,rfl,s3,hjb⟩;erw[121211221122]
    cbv
structure KN (tk kvs:List (Zd×V))(i:Nat):Prop where
 a:∀c z v,bC tk (fx c z)\v->∃j p b,j<i/\kvs[j]?\p/\p.1=k3 c z b/\v=V.int ((b:Nat):Int)
 b:∀j p c z b,j<i->kvs[j]?\p->p.1=k3 c z b->bC tk (fx c z)\(.int ((b:Nat):Int))
def NB {b:Type}:∀{l:List b}{i j:Nat}{x:b},l.Nodup->l[i]?\x->l[j]?\x->i=j:=λ{l i j x} h a c=>(amX (ajy.mp a).1 h).mp (a.trans c.symm)
def KN.none {tk d:List (Zd×V)}{by_:Nat->Int->Zi}(hW:WD d (λa z b=>by_ a z\b)){i c b:Nat}{z:Int}{p:Zd×V}(h:KN tk d i)(s:d[i]?\p)(e:p.1=k3 c z b)(k:by_ c z\b):bC tk (fx c z)=none:=by
 cases q:bC tk (fx c z) with
 |none=>rfl
 |some v=>
  exfalso
  let⟨j,n,r,t,f,l,_⟩:=h.a _ _ _ q;let⟨u,z1,o,m,g⟩:=hW.k n (ajA f);let⟨rfl,rfl,rfl⟩:=nV.mp (l.symm.trans m);rw[k]at g;obtain rfl:=Za0 g;have:=NB hW.n (i:=i) (j:=j) (x:=k3 c z b) (by cbv) (by cbv);ext
def KN.put {tk d:List (Zd×V)}{by_:Nat->Int->Zi}(hW:WD d (λa z b=>by_ a z\b)){i c b:Nat}{z:Int}{p:Zd×V}(h:KN tk d i)(t:d[i]?\p)(e:p.1=k3 c z b)(C:by_ c z\b):KN (putK tk (fx c z) (.int (b:Int))) d (i+ 1):=by
 rwa[⟨λk l v g=>?_,λj m k l n x f s=>?_⟩]
 ·rw[jF]at g;cases q:fx k l=fx c z
  ·rw[aj3 q]at g;let⟨rfl,rfl⟩:=DU.mp q;rwa[i,p,b,3,t,e,(Za0 g).symm]
  ·rw[ajY q]at g;let⟨j,m,n,x,r⟩:=h.a _ _ _ g;rwa[j,m,n,3,r]
 ·rw[jF];cases q:fx k l=fx c z
  ·rw[aj3 q];let⟨rfl,rfl⟩:=DU.mp q;let⟨D,z1,B,u,y⟩:=hW.k m (ajA f);let⟨rfl,rfl,rfl⟩:=nV.mp (s.symm.trans u)
   cbv
  ·rw[ajY q];cases o:j=i
   ·subst o;rw[t]at f;obtain rfl:=Za0 f;let⟨rfl,rfl,rfl⟩:=nV.mp (e.symm.trans s);rwa[absurd rfl q]
   ·rwa[h.b j m k l n ∅ f s]
def KN.done {tk c:List (Zd×V)}{by_:Nat->Int->Zi}(hW:WD c (λa z b=>by_ a z\b))(h:KN tk c ⇑c):WK tk by_:=by
 rwa[⟨λa z=>?_⟩]
 cases q:by_ a z with
 |some b=>let⟨v,g⟩:=ak3.mp (hW.v a z b q);let⟨p,d,e⟩:=yZ g;let⟨j,f,k⟩:=List.getElem_of_mem d;rwa[h.b j p a z b f (by rw[ajz f,k]) e]
 |none=>
  cases r:bC tk (fx a z) with
  |none=>rfl
  |some v=>
   let⟨j,p,b,f,d,e,_⟩:=h.a _ _ _ r;let⟨n,z1,m,i,l⟩:=hW.k p (ajA d);let⟨rfl,rfl,rfl⟩:=nV.mp (e.symm.trans i)
   cbv
def lex_trans {b a:Int}(h:HT.lexLt [y,a] [z,b]=true)(d:∃x c,l=[x,c])(e:HT.lexLt l [z,b]=false):HT.lexLt l [y,a]=false:=by
 let⟨x,c,rfl⟩:=d;rw[HT.hO,HT.hO,HT.jv]at h e;rwa[vO ?_]
 cbv
def xZ (w c:Nat)(z:Int):∃x y,rk w c z=[x,y]:=by
 unfold rk;split
 ·cbv
 ·split <;> cbv
def Xe (w c:Nat)(z:Int):HT.lexLt (rk w c z) (rk w c z)=false:=by let⟨x,y,e⟩:=xZ w c z;rw[e];rwa[vO (.inr ⟨2,Int.le_refl _⟩)]
def Qh {x:V}(h:(au (nI B))[i]?\x):∃c:Nat,B[i]?\c/\x=.int (c:Int):=by
 unfold au nI at h
 cbv
inductive DY (vs:Zb)(H:Hp)(Q:VK)(E_:XK):Prop
 |mk (d:Zs)(kvs:List (Zd×V))(by_:Nat->Int->Zi):vs=[↑d]->H d\.dT kvs->(WD kvs (λa z b=>by_ a z\b))->⇑kvs<=10000000->(∀td tk H',av H H'->H' td\.dT tk->WK tk by_->Q ↑td H')->DY vs H Q E_
def AJ:T.qF.Ok P w base 1 DY:=by
 rwa[T.qF.on iq (λcy AA outer s H vs Q E hr h=>?_)]
 ·let⟨d,f,by_,rfl,hd,V,hkl,k⟩:=h;let D:=eG hr
  erw[_,{bF 1 iq.nd qf,tT (cf ajV rfl (Oj (pv 0)) (ie rfl (bP (cS 2 iq.nd) (bP (cS 3 iq.nd) (bP (cS 4 iq.nd) fQ))))
    {bD (mJ (o5 D (bG #[2,3]) (pv 1)))
     {a9 b9}
     bj,jO D (pv 1) (bG #[2,3]) (pv 4) rfl}),a9 (pv 1)}]
  rwa[dE ?_];intro eR eZ;intro td M;generalize J:upd H td _=S;let⟨s4,L⟩:=du J M;let q:d≠td:=aw hd M;let N:=s4^hd;rwa[⟨d,.dT f,N,True.intro,12,d,f,2,N,λo=>?_⟩];let kf:∀b x,b≠d->S b\x->upd S d (.cL o (.dT f)) b\x:=λb x n e=>by rw[ao n];rwa[e]
  let hf:upd S d (.cL o (.dT f)) d\(.cL o (.dT f)):=aj;change upd S d _=H5 at kf hf ⊢;let G:=kf _ _ (akI q) L
  let' I:Nat->St->Hp->Prop:=λi U g=>∃v5 v6 v7 l,U=#v[↑d,↑td,v5,v6,v7]/\(∀b x,b≠td->H5 b\x->g b\x)/\g td\.dT l/\⇑l<=i/\KN l f i
  rwa[I9 (o:=o) (kvs:=f) I ⟨none,none,none,[],2,λ_ _ _ e=>e,G,ajE _,⟨λc z v h=>(by ext h),λj p c z b hj=>∅⟩⟩ (λi U g _ ζ=>by let⟨_,_,_,_,_,C,_⟩:=ζ;rwa[C _ _ q hf]) ?_ ?_]
  ·intro i kv U g pk m O B;rwa[aZ ?_];intro F;let⟨v5,v6,v7,l,rfl,C,r,F8,u⟩:=B;dsimp only[F];clear F;let⟨a,s,b,ek,hw⟩:=V.k kv (ajA m);let hi:i<⇑f:=(ajy.mp m).1;let Y:g pk\(.tup [.int (a:Int),.int s,.int (b:Int)]):=by rw[ek]at O;rwa[O]
   erw[pk,12,bu.of Y,21121121122];rwa[⟨1212,(Za4 2),λt nt=>?_⟩];generalize J:upd g t _=H7;let⟨s7,W7⟩:=du J nt;erw[12,td,12,dv.t (k:=fx a s) (s7^r) W7,12];rw[u.none V m ek hw];rwa[b8 ?_];rwa[⟨12121212,(Za4 2),λt8 Z=>?_⟩];generalize J:upd H7 t8 _=H8;let⟨s8,ht8⟩:=du J Z;let R:=s7.trans s8;erw[td,12,kb.t (k:=fx a s) (R^r) ht8 (ajJ (show ⇑l<=10000000 by omega) ⋯)];let lL:=dR l (fx a s) (.int (b:Int));rwa[⟨11112,λx o nx e=>?_,aj,3,u.put V m ek hw⟩];rw[ao nx];rwa[R^C x o nx e]
  intro U g B;rwa[aZ ?_];intro F;let⟨v3,v4,v5,l,rfl,C,r,F8,u⟩:=B;dsimp only[F];clear F;erw[o,C _ _ q hf]
  let same:av H (upd g d (.dT f)):=λb x e=>by
   cases X:b=d
   ·subst X;rw[aj];rw[hd]at e;rwa[e]
   ·rw[ao X];rwa[C b x (λz=>by cbv) (kf b x X (s4^e))]
  let y:upd g d (.dT f) td\(.dT l):=by rw[ao (akI q)];rwa[r]
  change upd g d _=H0 at same y ⊢;let Xf:=u.done V;rwa[12,k td l _ same y Xf]
inductive zX (vs:Zb)(H:Hp)(Q:VK)(E_:XK):Prop
 |mk (td sl ru pa:Zs)(tk:List (Zd×V))(S:RS)(R:Za2)(cs:Zh)(rs ps:Za3):vs=[↑td,↑sl,↑ru,↑pa]->H td\.dT tk->WK tk S.by->H sl\.lst (au (nI cs))->(∀c∈cs,c<S.q/\S.ax c=c)->bR H ru rs->bR H pa ps->Good S [] R->vn rs ps S->(∀H',av H H'->Q (.bl true) H')->zX vs H Q E_
def y3:T.oR.Ok P w base 2 zX:=by
 rwa[T.oR.on jf (λcy AA M s H Z Q E hr h=>?_)]
 ·let⟨td,F,J,L,tk,S,R,cs,rs,ps,rfl,f,D,m,O,⟨us,r,o⟩,⟨Z,t,v⟩,g,Y,k⟩:=h
  refine⟨_,{cf ajV rfl (cQ (pv 1)) (cS 4 jf.nd)
   {cf ajV rfl (cQ (pv 2)) (cS 5 jf.nd)
    {bD (fj (cX (pc T.mC (rJ T) hr #[0,5,4])))
     {a9 eD}
     bj}},cf ajV rfl (cQ (pv 3)) (cS 5 jf.nd)
    {bD (fj (cX (pc T.mC (rJ T) hr #[0,5,ak])))
     {a9 eD}
     bj},a9 eD},?_⟩
  rwa[dE ?_];intro eR eZ;erw[12,F,2,⟨_,aF.of m⟩]
  let' n:Nat->St->Hp->Prop:=λi a G=>∃I b,a=#v[↑td,↑F,↑J,↑L,I,b]/\av H G
  rwa[dJ (xs:=au (nI cs)) n ⟨112,λ_ _ e=>e⟩ (λi a G _ ζ=>by let⟨_,_,_,s⟩:=ζ;rwa[aF.of (s^m)]) ?_ ?_]
  ·rintro i x a G hi ⟨I,b,rfl,q⟩;dsimp only[cZ];rwa[bB ?_];intro C;let⟨c,hc,rfl⟩:=Qh hi;let⟨c1,c2⟩:=O c (ajA hc);erw[12,J,2,⟨_,aF.of (q^r)⟩]
   let' B:Nat->St->Hp->Prop:=λj a d=>∃b,a=#v[↑td,↑F,↑J,↑L,.int (c:Int),b]/\av H d
   rwa[dJ (xs:=us.map V.ref) B ⟨12,q⟩ (λi a d _ ζ=>by let⟨_,_,s⟩:=ζ;rwa[aF.of (s^r)]) ?_ ?_]
   ·rintro j y a d X ⟨b,rfl,s2⟩;dsimp only[cZ];rwa[bB ?_];intro C;let⟨u,N,rfl⟩:=qR X;let p:=ajz (l:=rs) (i:=j) (by rw[<-o.1];cbv);rwa[121212,td,u,tk,S,R,_,c,2,s2^f,D,s2^o.2 _ _ _ N p,g,Y.r _ (ajA p) c c1 c2,λH3 U=>⟨true,2,b8 ⟨12,s2.trans U⟩⟩]
   ·rintro a d ⟨b,rfl,s2⟩;rwa[112,s2]
  rintro a G ⟨I,b,rfl,q⟩;erw[12,L,2,⟨_,aF.of (q^t)⟩]
  let' z:Nat->St->Hp->Prop:=λj a d=>∃b,a=#v[↑td,↑F,↑J,↑L,I,b]/\av H d
  rwa[dJ (xs:=Z.map V.ref) z ⟨12,q⟩ (λi a d _ ζ=>by let⟨_,_,s⟩:=ζ;rwa[aF.of (s^t)]) ?_ ?_]
  ·rintro j y a d X ⟨b,rfl,s2⟩;dsimp only[cZ];rwa[bB ?_];intro C;let⟨u,N,rfl⟩:=qR X;let p:=ajz (l:=ps) (i:=j) (by rw[<-v.1];cbv);rwa[1212,td,u,tk,S,R,_,(0),2,s2^f,D,s2^v.2 _ _ _ N p,g,Y.p _ (ajA p),λH3 U=>⟨true,2,b8 ⟨12,s2.trans U⟩⟩]
  ·rintro a d ⟨b,rfl,s2⟩;rwa[k _ s2]
inductive DZ (vs:Zb)(H:Hp)(Q:VK)(E_:XK):Prop
 |mk (td sl:Zs)(tk:List (Zd×V))(S:RS)(L o:Nat)(ot:Zh):vs=[↑td,↑sl,.int L,.str (tx ot)]->H td\.dT tk->WK tk S.by->H sl\.lst (au (nI (bU S)))->(ot=ky o\/ot=[]/\o=0)->o<3->L<=3->((∀c z,¬dO S L c z)->∀H',av H H'->Q .non H')->(∀c z,ib o S L c z->∀f ra H',av H H'->H' f\.tup [↑ra,.int ((c:Nat):Int),.int z]->Q ↑f H')->DZ vs H Q E_
def FI (S:RS)(L o:Nat)(P:Nat->Int->Prop)(d:V)(H:Hp):Prop:=(d=.non/\∀c z,dO S L c z->¬P c z)\/∃(c:Nat)(z:Int)(f e:Zs),d=↑f/\H f\.tup [↑e,.int (c:Int),.int z]/\H e\.tup (au (rk o c z))/\dO S L c z/\∀a b,dO S L a b->P a b->HT.lexLt (rk o a b) (rk o c z)=false
def FI.same {P:Nat->Int->Prop}(h:FI S n m P q H)(s:av H I):FI S n m P q I:=by
 rcases h with h|⟨c,z,f,ra,e,b,a,d⟩
 ·rwa[.inl h]
 ·rwa[.inr ⟨c,z,f,ra,e,s^b,s^a,d⟩]
def FI.congr {P j:Nat->Int->Prop}(h:FI S n m P q H)(e:∀c z,dO S n c z->j c z->P c z):FI S n m j q H:=by
 rcases h with ⟨b,a⟩|⟨c,z,f,ra,k,b,a,o,l⟩
 ·rwa[.inl ⟨b,λc z g p=>a c z g (e c z g p)⟩]
 ·rwa[.inr ⟨c,z,f,ra,k,b,a,o,λd i g p=>l d i g (e d i g p)⟩]
def AK:T.qG.Ok P w base 1 DZ:=by
 rwa[T.qG.on dD (λcy AA outer s H vs Q E hr h=>?_)]
 ·let⟨td,N,tk,S,L,o,J,rfl,E7,Xf,KH,D0,ho3,Ww,kn,ks⟩:=h;let kF:=eG hr;let hu:=alU (eG hr)
  erw[_,{bF 4 dD.nd b9,cf ajV rfl (cQ (pv 1)) (cS 5 dD.nd)
    {cf ajV rfl (fy rfl T.eA #[aL j6 ak (pv 2)]) (cS 6 dD.nd)
     {bF 7 dD.nd (aL j6 (aL cw ak (aL dh (pv 6) ak)) ((bY #[ak,eF dy ak])|||(aL bX (pv 6) ak))),bF 8 dD.nd (bG #[5,6]),bE (bD (aM cV (pv 3) (dA (l:=[108,101,116,116,101,114,115]) rfl) (aO _))
      {bF 8 dD.nd (bG #[6,5])}
      bj),bE (bD (aM cV (pv 3) (dA (l:=[110,101,119,101,115,116]) rfl) (aO _))
      {bF 8 dD.nd (bG #[eF dy (pv 5),6])}
      bj),bE (bD (PW.pt (iL (mJ (rY kF (bG #[5,7]) (pv 0))) (gL (PW.pt (dN (aM ik (pv 4) b9 (aO _)) (ic (aM (SR hu) (pv 8) (4&&&ak) (aO _))))))))
      {bF 4 dD.nd (bG #[8,5,7])}
      bj)}},a9 (pv 4)}]
  rwa[dE ?_];intro eR eZ
  let hle:decide (V.str (tx J)=V.str (tx [108,101,116,116,101,114,115]))=decide (o=1):=by
   rcases D0 with rfl|⟨rfl,rfl⟩
   ·rcases (show o=0\/o=1\/o=2 by omega) with rfl|rfl|rfl <;> decide
   ·decide
  let o8:decide (V.str (tx J)=V.str (tx [110,101,119,101,115,116]))=decide (o=2):=by
   rcases D0 with rfl|⟨rfl,rfl⟩
   ·rcases (show o=0\/o=1\/o=2 by omega) with rfl|rfl|rfl <;> decide
   ·decide
  rwa[⟨_,rfl,N,rfl,⟨_,aF.of KH⟩,?_⟩]
  let' Z:Nat->St->Hp->Prop:=λi I X=>∃u v5 G D F,I=#v[↑td,↑N,.int L,.str (tx J),some u,v5,G,D,F]/\av H X/\FI S L o (λc _=>c∈(bU S).take i) u X
  rwa[dJ (xs:=au (nI (bU S))) Z ⟨111112,λ_ _ e=>e,.inl ⟨2,λ_ _ _ h=>by ext h⟩⟩ (λi I X _ ζ=>by let⟨_,_,_,_,_,_,s,_⟩:=ζ;rwa[aF.of (s^KH)]) ?_ ?_]
  ·intro i x I X hi t;rwa[aZ ?_];intro v;let⟨u,v5,G,D,F,rfl,s1,r⟩:=t;dsimp only[v];clear v;dsimp only[cZ];rwa[bB ?_];intro M;let⟨c,hc,rfl⟩:=Qh hi;let Ou:=fh.mp (ajA hc);let Dc:(bU S).take (i+ 1)=(bU S).take i++[c]:=by rw[List.take_add_one,hc];rfl
   erw[121122,.inl ⟨44⟩,1233];rw[show ((2:Int)* (L:Int)).toNat=2* L by ext]
   let' qN:Nat->St->Hp->Prop:=λj I R=>∃u G D F,I=#v[↑td,↑N,.int L,.str (tx J),some u,.int (c:Int),G,D,F]/\av H R/\FI S L o (λa y=>a∈(bU S).take i\/a=c/\dM y<j) u R
   rwa[gY (lo:=0) (n:=2* L) qN ⟨11112,s1,r.congr λa y g h=>h.elim id λh=>absurd h.2 (by have:=(iD.mp g.2.2.1).1;unfold dM;split <;> omega)⟩ ?_ ?_]
   ·intro j I R hj t;rwa[aZ ?_];intro v;let⟨u,G,D,F,rfl,s2,r⟩:=t;dsimp only[v];clear v;dsimp only[cZ];rwa[Ma ?_];intro M w_4 w_3 Ph Pj;rw[Int.zero_add];rwa[⟨121122,⟨44⟩,112212,Za4 2,λq nq=>?_⟩];obtain⟨s3,hq⟩:av R _/\_:=⟨av.upd (o:=.lst [.int 1,.int (-1)]) nq,aj⟩;change upd R q _=H3 at s3 hq ⊢
    let Y:(1+ (j:Int) / 2)* (if (j:Int) % 2=0 then 1 else -1)=M12.st j:=by unfold M12.st;split <;> split <;> ext
    let DT:fY [V.int 1,V.int (-1)] ((j:Int) % 2)\(.int (if (j:Int) % 2=0 then 1 else -1)):=by
     rcases Nat.mod_two_eq_zero_or_one j with h|h
     ·rw[show (j:Int) % 2=((0:Nat):Int) by ext];rfl
     ·rw[show (j:Int) % 2=((1:Nat):Int) by ext];rfl
    erw[1211224,q,11122,aF.of hq,DT,1122,.inr (by split <;> decide)];rw[Y];let d:=s2.trans s3;replace r:=r.same s3;clear s2 s3 hq Y DT nq;rwa[⟨1212,Za4 2,λr1 n1=>?_⟩]
    let' vS:St->Hp->Prop:=λ C H'=>∃B,C=#v[↑td,↑N,.int L,.str (tx J),some u,.int (c:Int),.int (j:Int),.int (M12.st j),↑B]/\av H3 H'/\H' B\(.tup (au (rk (if o=1 then 1 else 0) c (M12.st j))))
    erw[vS,5]
    ·rwa[bB ?_];intro M;erw[12212];rw[hle];cases h:o=1
     ·rw[ajZ h];rwa[dg ⟨1212,Za4 2,λr2 n2=>⟨r2,2,(av.upd n1).trans (av.upd n2),5⟩⟩];rw[aj3 h,aj];unfold rk;rw[nS];rfl
     ·rw[akj h];rwa[b8 ⟨r1,2,av.upd n1,5⟩];rw[ajY h];rw[aj];unfold rk;rw[nS];rfl
    rintro C H4 ⟨r2,rfl,s4,h4⟩
    let' DP:St->Hp->Prop:=λ C H'=>∃B,C=#v[↑td,↑N,.int L,.str (tx J),some u,.int (c:Int),.int (j:Int),.int (M12.st j),↑B]/\av H3 H'/\H' B\(.tup (au (rk o c (M12.st j))))
    erw[DP,5]
    ·rwa[bB ?_];intro M;erw[12212];rw[o8];cases h:o=2
     ·rw[ajZ h];rwa[dg ⟨121212,Za4 2,λr3 n3=>⟨r3,2,s4.trans (av.upd n3),5⟩⟩];rw[aj,h];unfold rk;rw[nS];rfl
     ·rw[akj h];rwa[b8 ⟨r2,2,s4,5⟩]
      cbv
    rintro C H5 ⟨B,rfl,s5,h5⟩;replace d:=d.trans s5;replace r:=r.same s5;clear s4 h4 s5 n1;rwa[⟨15,λ_ _ h=>h⟩];rwa[⟨1212,Za4 2,λt3 WR=>?_⟩];obtain⟨s6,U⟩:av H5 _/\_:=⟨av.upd (o:=.tup [.int (c:Int),.int (M12.st j)]) WR,aj⟩;change upd H5 t3 _=H6 at s6 U ⊢;replace d:=d.trans s6;replace r:=r.same s6;replace h5:=s6^h5;erw[12,td,12,dv.t (k:=fx c (M12.st j)) (d^E7) U,12];rw[Xf.v c (M12.st j)]
    let new:∀a y,dO S L a y->(a∈(bU S).take i\/a=c/\dM y<((j+ 1:Nat):Int))->(a∈(bU S).take i\/a=c/\dM y<(j:Int))\/a=c/\y=M12.st j:=λa y _ h=>by
     rcases h with h|⟨h,h'⟩
     ·rwa[.inl (.inl h)]
     ·rcases (show dM y<j\/dM y=j by omega) with e|e
      ·rwa[.inl (.inr ⟨h,e⟩)]
      ·rwa[.inr ⟨h,ug (e.trans (nS j).symm)⟩]
    cases q:S.by c (M12.st j) with
    |some b=>exact b8 ⟨u,1112,d,r.congr λa y g h=>(new a y g h).elim id λh=>by let⟨rfl,rfl⟩:=h;rw[g.2.2.2]at q;ext q⟩
    |none=>
    let g0:dO S L c (M12.st j):=⟨Ou.1,Ou.2,ajA (tf hj),q⟩
    let put:(∀a y,dO S L a y->(a∈(bU S).take i\/a=c/\dM y<(j:Int))->HT.lexLt (rk o a y) (rk o c (M12.st j))=false)->∀f,H6 f=none->∃u G D F,#v[↑td,↑N,.int L,.str (tx J),some (V.ref f),.int (c:Int),.int (j:Int),.int (M12.st j),↑B]=#v[↑td,↑N,.int L,.str (tx J),some u,.int (c:Int),G,D,F]/\av H (upd H6 f (.tup [↑B,.int (c:Int),.int (M12.st j)]))/\FI S L o (λa y=>a∈(bU S).take i\/a=c/\dM y<((j+ 1:Nat):Int)) u (upd H6 f (.tup [↑B,.int (c:Int),.int (M12.st j)])):=λhb f O=>by
     rwa[⟨11112,d.trans (av.upd O),.inr ⟨c,_,f,B,2,aj,av.upd O _ _ h5,g0,λa y g h=>?_⟩⟩];rcases new a y g h with h|⟨rfl,rfl⟩
     ·rwa[hb a y g h]
     ·rwa[Xe^_]
    rwa[dg ⟨_,rfl,rfl,_,rfl,?_⟩];rcases r with ⟨rfl,h⟩|⟨c0,z0,f,ra,rfl,h1,h2,h3,h4⟩
    ·rwa[bK (λ_=>?_) λh=>absurd (ajZ rfl) h]
     rwa[dg ⟨121212,Za4 3,λf O=>put (λa y g p=>absurd p (h a y g)) f O⟩]
    ·rwa[bK (λh=>by have:=ajQ h;ext this) λ_=>?_]
     erw[1212,f,11122,bu.of h1,2,B,ra,1122,bu.of h5,bu.of h2,12];let⟨x0,y0,e0⟩:=xZ o c0 z0;let⟨x1,y1,e1⟩:=xZ o c (M12.st j)
     cases e:HT.lexLt (rk o c (M12.st j)) (rk o c0 z0) with
     |true=>rwa[dg ⟨121212,Za4 3,λf O=>put (λa y g p=>?_) f O⟩];have:=h4 a y g p;rw[e0]at this e;rw[e1]at e ⊢;rwa[lex_trans e (xZ^_) this]
     |false=>
      rwa[b8 ⟨11112,d,.inr ⟨c0,z0,f,ra,2,h1,h2,h3,λa y g h=>?_⟩⟩]
      cbv
   ·intro I R t;rwa[aZ ?_];intro v;let⟨u,G,D,F,rfl,s2,r⟩:=t;dsimp only[v];clear v;rwa[⟨111112,s2,r.congr λa y g h=>?_⟩];rw[Dc]at h;rcases ajK.mp h with h|h
    ·rwa[.inl h]
    ·rwa[.inr ⟨ajF.mp h,?_⟩];let⟨_,_,m,_⟩:=g;unfold bL at m;let⟨k,hk,rfl⟩:=akp.mp m;rw[nS];have:=akt.mp hk;ext
  intro I X t;rwa[aZ ?_];intro v;let⟨u,v5,G,D,F,rfl,s1,r⟩:=t;dsimp only[v];clear v;rw[aJ,bO,akR]at r;let al:∀a y,dO S L a y->a∈bU S:=λa y g=>fh.mpr ⟨g.1,g.2.1⟩
  erw[12];rcases r with ⟨rfl,h⟩|⟨c,z,f,ra,rfl,h1,h2,h3,h4⟩
  ·rwa[kn (λa y g=>h a y g (al a y g)) _ s1]
  ·rwa[ks c z ⟨h3,λa y g=>h4 a y g (al a y g)⟩ f ra _ s1 h1]
inductive Ea (vs:Zb)(H:Hp)(Q:VK)(E_:XK):Prop
 |mk (st d e ru pa:Zs)(kvs:List (Zd×V))(S:RS)(E:Zh)(W:Za2)(L o:Nat)(ot:Zh)(rs ps:Za3):vs=[↑st,.int L,↑ru,↑pa,.str (tx ot)]->H st\.tup [↑d,↑e]->H d\.dT kvs->WD kvs W->⇑kvs<=10000000->H e\.lst (au (nI E))->bR H ru rs->bR H pa ps->Xb rs ps L S E W->S.q<=1000->(ot=ky o\/ot=[]/\o=0)->o<3->L<=3->((∀c z,¬dO S L c z)->∀q H',av H H'->H' q\.tup [.bl true,.non]->Q ↑q H')->(∀c z,ib o S L c z->∀q f ra H',av H H'->H' q\.tup [.bl true,↑f]->H' f\.tup [↑ra,.int ((c:Nat):Int),.int z]->Q ↑q H')->Ea vs H Q E_
def p6:T.lC.Ok P w base 3 Ea:=by
 rwa[T.lC.on kY (λcy AA F s H vs Q E I h=>?_)]
 ·let⟨st,d,e,ru,pa,t,S,E,W,L,o,ot,rs,ps,rfl,b,X,hW,x,V,Z,wP,at_,hm,B,y,G,kn,ks⟩:=h
  refine⟨_,{bF 5 kY.nd (pc T.qF (AJ T) I #[0&&&ak]),qW (iy:=6) kY.nd rfl (Or.inl rfl) (fns:=["_law_state"]) (ixs:=[0]) (cl:=_) rfl (fy rfl T.eA #[(0&&&ak)<<<0]) (cM [(_,_)] rfl ⟨rfl,rfl,rfl,rfl,rfl,True.intro⟩ rfl) (λC s H ex=>(aM cV (aH (vi (K:=K) rfl) (aH (mH (K:=K) rfl) (pv 1) ak (λ_ _=>rfl)) (pv 0) (λ_ _=>rfl)) (pv 0) (aO _))) (λC s H ex=>(pv 0)),bE (bD (PW.pt (dN (aM ik (pv 5) b9 (aO _)) (ic (fj (cX (pc T.oR (y3 T) I #[5,6,2,3]))))))
    {a9 (bG #[eD,b9])}
    bj),a9 (bG #[eD,pc T.qG (AK T) I #[5,6,1,4]])},?_⟩
  rwa[iQ ?_];intro iV eR eZ;let⟨rfl,hw,Y,Rr,ys⟩:=at_;rwa[⟨12,st,11122,bu.of b,2,d,t,S.by,2,X,hW.congr hw,x,λtd O U s1 l n=>?_⟩];let k:⇑S.aV=S.q:=ys.g.wf.e;erw[12,st,11122,bu.of (s1^b),2,e,12,.inl (aF.of (s1^V)),(S.q:Int),by rw[aJ,bO,k],33];rw[aka];rwa[C7 k ∅ (λi e' R h N=>?_) (λv R N=>⟨12,N⟩) λD M=>?_]
  ·rwa[12,st,11122,bu.of (s1^b),212,e,11122,aF.of (s1^V),b6 (bQ (eU h)),12212,N]
  obtain⟨p,j⟩:av U _/\_:=⟨av.upd (o:=.lst (au (nI ((~~~S.q).filter λc=>decide (S.aV[c]?\c))))) M,aj⟩;change upd U D _=H2 at p j ⊢;let a:=s1.trans p;let g:=ys.g;rwa[⟨15,λ_ _ h=>h⟩];rwa[⟨12212,bK (λh=>by have:=ajQ h;ext this) λ_=>?_⟩];rwa[⟨12121212,td,D,ru,pa,O,S,Rr,bU S,rs,ps,2,p^l,n,j,λc hc=>?_,Z.same a,wP.same a,g,Y,λH3 J=>?_⟩]
  ·let⟨c1,c2⟩:=fh.mp hc;rwa[c1,pY c2]
  rwa[⟨true,2,b8 ?_⟩];let m:=a.trans J;rwa[⟨12121212,td,D,O,S,L,o,ot,2,J^p^l,n,J^j,B,y,G,λhn H4 u=>?_,λc z hl f ra H4 u hf=>?_⟩]
  ·rwa[Za4 2,λq r=>kn hn q _ ((m.trans u).trans (av.upd r)) aj]
  ·rwa[Za4 2,λq r=>ks c z hl q f ra _ ((m.trans u).trans (av.upd r)) aj (av.upd r _ _ hf)]
def Xg(Dx:kS mg base):T.law.Ok P w base 13 (AW K A.fe):=by
 rwa[T.law.on dZ (λcy AA outer s H vs Q E hr h=>?_) (len:=by rintro _ _ _ _ ⟨a,ns,rfl,_⟩;rfl)]
 ·let⟨a,ns,rfl,ha,hns,hP,k⟩:=h;let hu:=alU (eG hr)
  erw[_,{jn (pc T.qD (AH T) hr #[0]) (ie rfl (bP (cS 1 dZ.nd) (bP (cS 2 dZ.nd) (bP (cS 3 dZ.nd) (bP (cS 4 dZ.nd) (bP (cS 5 dZ.nd) fQ)))))),jn (pc T.qE (AI T) hr #[0]) (ie rfl (bP (cS 6 dZ.nd) (bP (cS 7 dZ.nd) fQ))),jn (pc T.oQ (yX T Dx) hr #[1,3,4,6,7]) (ie rfl (bP (cS 8 dZ.nd) (bP (cS 9 dZ.nd) fQ))),bE (bD (aM ik (pv 9) b9 (aO _))
    {bF 10 dZ.nd (8&&&ak)}
    {bF 10 dZ.nd (FG (pv 9) rfl)}),bF 11 dZ.nd (bG #[qf,bY #[ak]]),cf ajV rfl (cQ (pv 10)) (cS 12 dZ.nd)
    {bE (bD (aM cV (12&&&ak) (dA (l:=[110,101,119]) rfl) (aO _))
     {jn (pc T.lC (p6 T) hr #[11,1,3,4,7]) (ie rfl (bP (cS 13 dZ.nd) (bP (cS 5 dZ.nd) fQ))),bE (bD (PW.pt (dN (fj (cX (pv 13))) (dN (aM ik (pv 5) b9 (aO _)) (dN (aM (Fg hu) (mO vg (pv 12) (kL ak) (kL ak)) (bG #[5&&&ak,5&&&ak]) (aO _)) (ic (aM tM ((11&&&ak)<<<0) (pv 6) (aO _)))))))
      {a9 eD}
      bj)}
     bj),bF 11 dZ.nd (pc T.yM (HP T) hr #[1,3,4,11,12]),bD (aM ik (pv 11) b9 (aO _))
     {a9 eD}
     bj},jn (pc T.lC (p6 T) hr #[11,1,3,4,7]) (ie rfl (bP (cS 13 dZ.nd) (bP (cS 5 dZ.nd) fQ))),bD (aM ik (pv 9) b9 (aO _))
    {a9 (j5 (pv 13) (j5 (gM ik (pv 5) b9 (aO _)) (rQ (gM Gy ((11&&&ak)<<<0) (pv 6) (aO _)))))}
    bj,a9 (j5 (pv 13) (j5 (gM oX (pv 5) b9 (aO _)) (j5 (gM cV ((11&&&ak)<<<0) (pv 6) (aO _)) (rQ (gM cV (FG (pv 9) rfl) (pv 6) (aO _))))))}]
  rwa[BG ?_];intro Vg C5 rE mv kD iV eR eZ;let ha:aF K H a (au ns):=ha;rwa[⟨12,a,ns,2,ha,hns,λq ta ra pa L x R Y H1 s1 hq oJ Ww wR wP ok P8 hPl=>?_⟩];erw[q,12,bu.of hq,21121121121121122];rwa[⟨12,a,ns,2,s1.seq ha,λq2 ot o n H2 s2 D D0 O xK ac1=>?_⟩];erw[q2,12,bu.of D,21121122];replace wR:=wR.same s2;replace wP:=wP.same s2;let hT:dG A.fe eX iY H2:=.inl ((s1.trans s2) _ _ hP);clear s1 s2 hq D H1 ha;let fit:n* ⇑R+ ⇑Y<=700:=by have:=amr ac1 P8;ext
  let J:∀u∈R++Y,∀z∈u,z∈bL (2* L)/\-z∈bL (2* L):=λu hu z hz=>((tG ∅ (ok u hu)).2 z hz).2
  let go:∀vf vr C S H3,Kp A.fe H2 H3->lE H3 C S->Fl R Y L o n S->S.q<=24->⇑S.aV=S.q->(∀st d e g U v m W H4,av H3 H4->H4 st\.tup [↑d,↑e]->H4 d\.dT g->H4 e\.lst (au (nI S.aV))->WD g W->Xb R Y L S S.aV W->⇑g<=10000000->rE { nx:=λ_ H'=>Q .non H',rt:=Q } #v[↑a,.int L,↑ta,↑ra,↑pa,some U,.int n,.str (tx ot),some vf,some vr,↑C,↑st,v,m] H4)->kD { nx:=λ_ H'=>Q .non H',rt:=Q } #v[↑a,.int L,↑ta,↑ra,↑pa,.int x,.int n,.str (tx ot),some vf,some vr,↑C,none,none,none] H3:=λvf vr C S H3 Z hpp f1 hm he kk=>by
   let⟨qs,hl,Qa,ti⟩:=hpp;replace wR:=Z.words hT wR;replace wP:=Z.words hT wP;let hgo:=f1.pap J (E2:=S.aV) (W2:=λa z b=>S.by a z=some b) (ns:=[]) λW' h'=>.nil h'
   rw[akb]at hgo;intro d nd;generalize e_:upd H3 d _=H4;let⟨s4,F⟩:=du e_ nd;rwa[⟨Za4 1,λe ne=>?_⟩];generalize e_:upd H4 e _=H5;obtain⟨M,Qi⟩:_/\_\(.lst (au (nI [0]))):=du e_ ne;replace F:=M^F;rwa[⟨Za4 2,λst nst=>?_⟩];let s6:=av.upd (o:=.tup [↑d,↑e]) nst;let j:upd H5 st (.tup [↑d,↑e]) st\(.tup [↑d,↑e]):=aj;replace F:=s6^F;replace Qi:=s6^Qi;let Xh:=(s4.trans M).trans s6;change upd H5 st _=H6 at Xh F Qi j ⊢;clear s4 M s6 ne nst;let ll:⇑(qs.map V.ref)=⇑S.rows:=by rw[ajD,Qa.1]
   erw[12,C,2,⟨_,aF.of (Xh^hl)⟩]
   let' kZ:Nat->St->Hp->Prop:=λi σ X=>∃st d e g E W U v m,σ=#v[↑a,.int L,↑ta,↑ra,↑pa,some U,.int n,.str (tx ot),some vf,some vr,↑C,↑st,v,m]/\av H3 X/\H3 d=none/\X st\.tup [↑d,↑e]/\X d\.dT g/\X e\.lst (au (nI E))/\WD g W/\uW R Y L o n E W (S.rows.drop i) S.aV (λa z b=>S.by a z=some b)/\⇑g<=2* i
   rwa[dJ (xs:=qs.map V.ref) kZ ⟨st,d,e,[],[0],λ_ _ _=>False,_,none,none,2,Xh,nd,j,F,Qi,⟨λp hp=>(by ext hp),λa z b h=>h.elim,akW⟩,hgo,ajE _⟩ (λi σ X _ ζ=>by let⟨_,_,_,_,_,_,_,_,_,_,s,_⟩:=ζ;rwa[aF.of (s^hl)]) ?_ ?_]
   ·intro i y σ X hi tm;rwa[aZ ?_];intro q_;let⟨st,d,e,g,E,W,U,v,m,rfl,s7,nd,j,hd,G,hW,hg,hk⟩:=tm;dsimp only[q_];clear q_;dsimp only[cZ];rwa[qh ?_];intro g9 Ph Pj;let⟨p,hp,rfl⟩:=qR hi;let Oh:i<⇑S.rows:=by rw[<-ll];rwa[(ajy.mp hi).1]
    let r:=(Qa.2 i p _ hp (ajz Oh)).same s7;rw[alj Oh]at hg;change S.rows[i]=row at r hg;let hlen:=hg.len
    cases hg with
    | @cons _ E1 _ _ W0 W1 _ _ _ ac2 B ac3 hg'=>
    let' qL:St->Hp->Prop:=λ fV H'=>∃U m,fV=#v[↑a,.int L,↑ta,↑ra,↑pa,some U,.int n,.str (tx ot),some vf,some vr,↑C,↑st,↑p,m]/\av X H'
    erw[qL,5]
    ·rwa[bB ?_];intro g9
     cases B with
     |old B=>
      let no:∃l us,X p\.tup (.str (tx l)::us)/\decide (V.str (tx l)=V.str (tx [110,101,119]))=false:=by
       cases B with
       |meet=>rwa[11,Qb r,4]
       |rule=>let⟨q,h1,_⟩:=Qc r;rwa[11,h1,4]
      let⟨l,us,h1,h2⟩:=no;erw[12,p,11122,bu.of h1,(b6 rfl:fY (V.str (tx l)::us) ((0:Nat):Int)\V.str (tx l)),212];rw[h2];rwa[b8 ⟨112,λ_ _ e=>e⟩]
     | @new _ c z g1 g2 g3 g4=>
       let h1:=WQ r;let⟨S1,mn,l1,m1⟩:=ac3 c z _ rfl;let eE:⇑E=S1.q:=by let⟨R1,y1⟩:=mn.y;rw[mn.e];rwa[y1.g.wf.e]
       erw[12,p,11122,bu.of h1,(rfl:fY _ (0:Int)=_),212];rw[ajZ rfl];rwa[dg ⟨1212121212,st,d,e,ra,pa,g,S1,E,W,L,o,ot,R,Y,2,j,hd,hW,3,G,wR.same s7,wP.same s7,mn,3,D0,O,3,λhn=>absurd l1.1 (hn c z),λc' z' l2 q f rr H8 s8 hq hf=>?_⟩];let⟨rfl,rfl⟩:=Lb l2 l1 O;erw[q,12,bu.of hq,21121122];rwa[⟨15,λ_ _ h=>h⟩];rwa[⟨12,true,2,b8 ?_⟩];rwa[⟨12212,bK (λh=>by have:=ajQ h;ext this) λ_=>?_⟩];rwa[⟨121212,p,12,s8^h1,λt2 H9 s9 h9=>?_⟩];let hf9:=s9^hf;rwa[⟨12,f,11122,bu.of hf9,212,f,11122,bu.of hf9,2,Za4 2,λt3 n3=>?_⟩];let s10:=av.upd (o:=.tup [.int (c':Int),.int z']) n3;let I:=(s8.trans s9).trans s10;erw[t2,t3,[(c':Int),z'],[(c':Int),z'],22,bu.of (s10^h9),bu.of aj,12];rw[ajZ rfl];rwa[b8 ⟨12,st,11122,bu.of (I^j),2,e,12,.inl (aF.of (I^G)),5⟩];erw[12112212];rw[aJ,bO,akj (show ¬((n:Int)<=(⇑E:Int)) by omega)];rwa[b8 ⟨112,I⟩]
    ·rintro fV H8 ⟨U,m,rfl,s8⟩;let Qj:=s7.trans s8;rwa[⟨1212121212,L,ra,pa,st,p,d,e,R,Y,g,E,E1,W0,W1,row,2,wR.same Qj,wP.same Qj,3,s8^j,s8^hd,s8^G,hW.congr ac2,r.same s8,B,33,λBO d2 e2 Nu H9 k9 _ ac4 Wk he9 od _ hW9 hk9=>?_⟩];rwa[⟨12212,bK (λh=>by have:=ajQ h;ext this) λ_=>?_⟩];rwa[⟨BO,d2,e2,Nu,E1,W1,1112,λb u eb=>k9 b u (aw eb nd) (Qj^eb),5,ac4,Wk,he9,hW9,hg',3⟩];rcases od with rfl|q
     ·rwa[nd]
     ·rwa[Qj.free q]
   intro σ X tm;rwa[aZ ?_];intro q_;let⟨st,d,e,g,E,W,U,v,m,rfl,s7,nd,j,hd,G,hW,hg,hk⟩:=tm;dsimp only[q_];clear q_;rw[ll,am4]at hg;rw[ll]at hk
   cases hg with
   |nil h=>exact kk st d e g U v m W X s7 j hd G hW ⟨2,h,f1.cl,f1.ys J⟩ ∅
  rwa[⟨1212121212,ra,pa,L,n,o,ot,R,Y,2,D0,O,oJ,3,xK,3,wR,wP,ok,fit,33,hT,λq t tb C S N H' Z t1 f1 g1 a0 a1 a2 a3 a4=>?_,λq y dd C S H' Z t1 f1 m1 l1 a0 a1 a2 a3=>?_⟩]
  ·let⟨hm,eL⟩:=f1.mL J xK;let⟨Rr,ys⟩:=f1.ys J;erw[q,12,bu.of a0,21121122];rwa[⟨15,λ_ _ h=>h⟩];rwa[⟨12212,bK (λ_=>?_) λh=>absurd rfl h⟩];erw[12,t,11122,bu.of a1,2];rwa[go _ _ C S H' Z a4 f1 ∅ ys.g.wf.e λst d e g U v m W H4 s4 j hd he hW Xi hk=>?_]
   rwa[⟨1212121212,st,d,e,ra,pa,g,S,S.aV,W,L,o,ot,R,Y,2,j,hd,hW,hk,he,(Z.words hT wR).same s4,(Z.words hT wP).same s4,Xi,3,D0,O,3,λ_ q2 H5 M D=>?_,λc z hl=>absurd hl.1 (g1 c z)⟩];erw[q2,12,bu.of D,21121122];rwa[⟨12212,bK (λ_=>?_) λh=>absurd rfl h⟩];rwa[⟨12,true,2,dg ?_⟩];rwa[⟨122,true,2,dg ?_⟩];erw[12,st,11122,bu.of (M^j),2,e,12,.inl (aF.of (M^he)),121122];have:⇑S.aV=S.q:=ys.g.wf.e;show Q (.bl (decide _)) _;rw[aJ,bO,ajZ ∅];rwa[k _]
  ·let⟨Rr,ys⟩:=f1.ys J;erw[q,12,bu.of a0,21121122];rwa[⟨15,λ_ _ h=>h⟩];rwa[⟨12212,bK (λh=>by have:=ajQ h;ext this) λ_=>?_⟩];erw[12,y,A.bI,dd,false,DC S.q C,↑C,2,a1,a2,AX T,T.FQ,2];rwa[go _ _ C S H' Z a3 f1 ∅ ys.g.wf.e λst d e g U v m W H4 s4 j hd he hW Xi hk=>?_]
   let⟨c,z,hl⟩:=l1;rwa[⟨1212121212,st,d,e,ra,pa,g,S,S.aV,W,L,o,ot,R,Y,2,j,hd,hW,hk,he,(Z.words hT wR).same s4,(Z.words hT wP).same s4,Xi,3,D0,O,3,λhn=>absurd hl.1 (hn c z),λc' z' _ q2 f ra2 H5 M D hf=>?_⟩];erw[q2,12,bu.of D,21121122];rwa[⟨12212,bK (λh=>by have:=ajQ h;ext this) λ_=>?_⟩];let b1:=M^s4^a1;let b2:=M^s4^a2;rwa[⟨12,true,2,dg ?_⟩];rwa[⟨122,true,2,dg ?_⟩];erw[12,st,11122,bu.of (M^j),2,e,12,.inl (aF.of (M^he)),122];rw[aJ,bO,ys.g.wf.e,m1,ajZ rfl];rwa[⟨true,2,dg ?_⟩];erw[12,y,A.bI,dd,false,DC S.q C,12,b1,b2,AX T,T.FP,2122]
   cbv
end
def all_mk {l:PySem.W.OpenLaw}(p:M "law"=some ↑a){b g f m d i j n h o k f1 f2 f3 f4 f5 f6 f7 f8 f9 Kd S F f13 f14 O9 y O f18 f19 f20 r f22 Y W f25 f26 G f28 X f30 f31 f32 f33 f34 f35 f36 C f38 H f40 f41 f42 f43 f44 f45 f46 f47 f48 I f50 L f52 f53 f54 B f56 P f58 f59 f60 f61 f62 f63 f64 f65:Zs}{d1 d2 d3 d4 d5 d6 d7 d8 d9 d10 E d12 u d14 d15 Q d17 x z d20 d21 d22 d23 d24 d25 d26 d27 d28 d29 d30 d31 Z d33 d34 N A d37 d38 D d40 d41 V d43 d44 d45 d46 d47 d48 R d50 d51 d52 t d54 d55 d56 d57 d58 d59 J q d62 d63 d64 U:FuncData}(T:Txt K M ⟨f1,d1,f2,d2,f3,d3,f4,d4,f5,d5,f6,d6,f7,d7,f8,d8,f9,d9,Kd,d10,S,E,F,d12,f13,u,f14,d14,O9,d15,y,Q,O,d17,f18,x,f19,z,f20,d20,r,d21,f22,d22,Y,d23,W,d24,f25,d25,f26,d26,G,d27,f28,d28,X,d29,f30,d30,f31,d31,f32,Z,f33,d33,f34,d34,f35,N,f36,A,C,d37,f38,d38,H,D,f40,d40,f41,d41,f42,V,f43,d43,f44,d44,f45,d45,f46,d46,f47,d47,f48,d48,I,R,f50,d50,L,d51,f52,d52,f53,t,f54,d54,B,d55,f56,d56,P,d57,f58,d58,f59,d59,f60,J,f61,q,f62,d62,f63,d63,f64,d64,f65,U,b,g,f,m,d,i,j,n,h,o,k⟩)
 :∃fd:FuncData,(∃fd2 c,LamAt K fd2 c k)/\(∀(s:Zu)(v:Zt),BindsTo s fd ⟨[v],[]⟩ [("_law_script",v)])/\∀base:Heap,K.In base->base.Ns mainGlobals M->kS M base->dP l.prog w K M base (dz l.prog w) 13 a fd ["_law_script"] (AW K k):=by let e:=p.symm.trans T.law.m;ext e;let⟨kV,doc,pm,an,cy,ct,e⟩:=T.law.fd;rwa[_,⟨11,T.lam⟩,λs v=>[e]▸.of_eq rfl,λbase _ _ Dx=>Xg T Dx]
def walk {l:PySem.W.OpenLaw}{loose:Zp}{XP:(Str->Zl)->Heap->Prop}{j:World->Heap->Prop}{d:DefRec}{K:Params->Za1}(r:l.most\63)(g:d.params.defaults=[])(p:∀(w:World) (h:Heap),j w h->(K w.params).In h/\h.get? a\(tabObj #[]))(F:∀(w:World) (e:Str->Zl) (i:Zs) (h:Heap),(K w.params).In h->h.Ns mainGlobals e->e d.name\↑i->∃fd:FuncData,(∃fd2 c,LamAt (K w.params) fd2 c a)/\(∀(s:Zu) (u:Zt),BindsTo s fd ⟨[u],[]⟩ [("_law_script",u)])/\∀base:Heap,(K w.params).In base->base.Ns mainGlobals e->kS e base->dP l.prog w (K w.params) e base (dz l.prog w) 13 i fd ["_law_script"] (AW (K w.params) a)):
 PySem.W.WalkO P loose XP j l.row.toRowW d [] (λf o=>PySem.call f o):=L2.Mp (n:=63) (k:=13) (x:="_law_script") (CX:=λw=>(dz l.prog w)) (sp:=λw=>AW (K w.params) a) r ⋯ g ⟨244⟩ p F (λ_ _ b m q t v=>⟨b,m,2,v,q,t,λ_=>rfl⟩) λ_ _ _ _ _ z=>Oy z
end K35
end Lake
open PySem PySem.W PyProof.Rows
namespace PySem.W.Fast
universe tw6902892363477151023 tw17511190659134001259 tw14883494654931595329 tw18143905661333657715 tw10974294767570813455 tw961705354461945919 tw3320753385894170271 tw8268471084897166310 tw7771536224913314330 tw15555657200107090342 tw3292604332425549946 tw5009965090201342817 tw1073603698452422166 tw5011355745046112779 tw14657100696757465589 tw16880324789309685797 tw7262802136933880513 tw2850492874140071946 tw2391644383508900438 tw11537526020712479762 tw13091857385463244016 tw8289222191575200183 tw10532594948690225026 tw13288330240383929038 tw9227164168639456837 tw8597693112783330004 tw2951448956371040529 tw6961700985939586788 tw3636835893053494358 tw18050306033391410631 tw16522709635114564521 tw39629267735442090 tw7943010659491158367 tw8511184986756819768 tw12851693002353207940 tw7464219980874099530 tw7139073280444245643 tw15070640645524046348 tw11982223774447653851 tw14505618657863926214 tw16653981246485215125 tw4804944420177146054 tw18111405381298844382 tw5841379515273134699 tw18174049400530415099 tw4270629107477895080 tw9962114922017738699 tw18259668027560267799 tw11152215929843413373 tw12150713314723716342 tw9971823663447102813 tw18301055692364538718 tw12397126530949344911 tw6342815210610326436 tw17650600909230837279 tw11116744050488311281 tw302807139705909487 tw2791465612663096704 tw9907798953151146239 tw11678585107240150151 tw7150623016765619836 tw17749824676062415386 tw18173492682412946103 tw6681300733773564707 tw9634374631190856657 tw1071845024269187924 tw12339693036465098034 tw14142949684604578503 tw15978012075867414589 tw2665146230998179714 tw7676957727039793549 tw9842202995342805944 tw14489634071766265214 tw8796507189222648353 tw5082416078431093631 tw15063630756320042161 tw7837525799751168486 tw2057486088614080211 tw3994209778503344494 tw18285625958215760530 tw10706951185925119412 tw2988608699531493749 tw15631367130623103089 tw12353144094243001030 tw56321947883614705 tw14369322557553086131 tw4336091359980904334 tw10439610236590937017 tw14593077717494488487 tw2515546781841393663 tw3023912357982802884 tw395525977684961365 tw15899910321977687853 tw13612558362836311616 tw2137460629531885876 tw13085220486660978114 tw15007755374220458907 tw14479714911387385782 tw6073805479515994713 tw5286673265415626731 tw11722871961242348526 tw13338500572494122409 tw1247466440300699352 tw18213881599851894850 tw5392247963733170544 tw4122875439221691216 tw11960351135408853852 tw17200019491317751275 tw11770865581940777010 tw15691401918533385630 tw11116067770139585373 tw5230979482287415026 tw15811306805875881690 tw4390842989960431234 tw15709093940827733813 tw3531815780183734175 tw2453854054439097922 tw16906469913016868860 tw1188296921110148898 tw15292154070122705810 tw1660016694013144941 tw11958056394634705410 tw4478789338527184178 tw8062613587467653184 tw208865365665619672 tw9372930482226786487 tw13889836358058715422 tw3035175648530489427 tw7621018053715899719 tw11472989433112171902 tw10340353645521585910 tw18318851064179286951 tw10644174497596617471 tw8761983741373976963 tw9505071493294940591 tw10221126852461597549 tw17135824364381307797 tw4972600875384884491 tw14355642068235446088 tw18328391858355432110 tw450067943877097367 tw3458287027899657953 tw2257139007165745296 tw5414763366626180361 tw9028253865775286190 tw16983813389468206897 tw12921685852985628857 tw11686820592787291126 tw18063865381445781431 tw4306074638729430101 tw817635623121811118 tw16308056000956774143 tw15578000969051615633 tw7244986338917738118 tw4798975778895697252 tw10640236010856271444 tw16317997526092103166 tw5473296958712527905 tw14035140684334435624 tw3643364132438607636 tw13013989120612846771 tw540742342738601657 tw1042209140627263349 tw15852280312495818962 tw1233631529276781481 tw2066543059040353563 tw3852888865473737014 tw11550895732971274503 tw17283322766216786569 tw3757397029374984887 tw56603422121609357 tw1093609564811992579 tw18250213525742429002 tw3235426176404011581 tw13753347341399525972 tw13624615215117517560 tw16503231807833383067 tw8893216184401783097 tw17490862198889782184 tw5524868300765777789 tw9897781740171584567 tw11104209943310758342 tw9949717309688929939 tw11586867554138658676 tw14399119196187749198 tw13037336342181597985 tw10466040125116777329 tw7121456169136798669 tw15405922403362027862 tw5067512417298788886 tw1542417982477782240 tw14994287734094674976 tw4609180020758873996 tw18250188654075070324 tw5373956396883952116 tw11206413394372416398 tw677874441465501825 tw3342238048547170851 tw7000455473330461427 tw944770310092771071 tw10643886433782250306 tw6791630648910145421 tw6255600469826661270 tw4052861635784812471 tw15198174358968544110 tw14580131139112617520 tw8843351167405007518 tw17819385070064538316 tw2442669458607243409 tw2961109330264365128 tw112950304711942594 tw5727600645640961796 tw18421639495783219160 tw13629814763490057806 tw9066413772215348927 tw8404780487892609067 tw6001047351556827979 tw16314445244939321495 tw9557822549067200441 tw937441472271914558 tw6299017618060662195 tw13259150268116266589 tw10148023198549637759 tw12404482618227075250 tw11544089625422443768 tw7191102658546487436 tw13986662443616883259 tw11701348516469972945 tw2777052902179280979 tw14697444590783310573 tw18129362825736421243 tw14997656147407326203 tw8490966190605732365 tw2125594381925677058 tw207882464684168537 tw9040039527765285689 tw3243208245399864669 tw2637158708747512926 tw17397419182352995342 tw977650372820412421 tw9354005080612383788 tw9299886520766815230 tw7117749197648905091 tw4602606724715923094 tw18271275091521178786 tw12474603461938950424 tw17233972218012249038 tw16634571552300250225 tw12733787386329182646 tw6705068991186610995 tw8978511296977137871 tw12197197393760879624 tw11578358808134826471 tw3494623262126778661 tw10098726070775304177 tw4000399997319464282 tw13149103147365958816 tw7210577326186181731 tw17889857478081251905 tw964583634157422284 tw9328742713793925320 tw8839422267192863401 tw8406696977952071222 tw826127935134783683 tw645183846482949159 tw6149689026015412143 tw58156164117662429 tw4941262864291065647 tw4196669455261126886 tw17588128284493366806 tw15845342739983115714 tw15490680092839671101 tw14517856889616575211 tw14399065738717669462 tw14281190929782718841 tw14205335259886883350 tw11546303339212048131 tw4186061885317524628 tw15755557614911644209 tw9939441958641356009 tw7473390185712899476 tw6824826914899539107 tw3462986384632037479 tw2575297916490689827 tw2442140867300330058 tw14364032527881490544 tw1247567214852745685 tw11071140885251280124 tw10734750100802328761
end PySem.W.Fast
end
open Lake
set_option maxRecDepth 100000 in
set_option maxHeartbeats 0 in
theorem PySem.Challenge.cw_cosetyard_k35_only_where_nothing_follows_holds : PySem.Challenge.rw_cosetyard_k35_only_where_nothing_follows.Holds := by
  w_on; o_law; k_head;(case hw => w_witness2)
  k_fill
  refine K35.walk (l := PySem.Challenge.rw_cosetyard_k35_only_where_nothing_follows) rfl rfl (fun w h Y => ⟨PySem.W.km_in_of Y, PySem.W.km_tabs_of Y _ (List.Mem.head _)⟩) ?F
  case F =>
    intro w mg fa h KX G hmg
    refine' K35.all_mk hmg ⟨?D1,?D2,?D3,?D4,?D5,?D6,?D7,?D8,?D9,?D10,?D11,?D12,?D13,?D14,?D15,?D16,?D17,?D18,?D19,?D20,?D21,?D22,?D23,?D24,?D25,?D26,?D27,?D28,?D29,?D30,?D31,?D32,?D33,?D34,?D35,?D36,?D37,?D38,?D39,?D40,?D41,?D42,?D43,?D44,?D45,?D46,?D47,?D48,?D49,?D50,?D51,?D52,?D53,?D54,?D55,?D56,?D57,?D58,?D59,?D60,?D61,?D62,?D63,?D64,?D65,?z1,?z2,?z3,?z4,?z5,?z6,?z7,?z8,?z9,?z10,?z11,?z12,?z13,?y_YardError,?y_NoOrder,?y_TooMany,?y_Order,?y_ByLetters,?y_Newest,?y_Rooms,?y_Going,?y_Closing,_,_,_,_,_,_,_,_,_,_,_,_,_,_,_,_,_,_,_,_,_,_,_,_,_,_,_,_,_,_,_,_,_,_,_,_,_,_,_,_,_,_,_,_,_,_,_,_,_,_,_,_,_,_,_,_,_,_,_,_,_,_,_,_,_,_,_,_,_,_,_,_,_,_,_,_,_,_,_,_,_,?w_lam⟩
    all_goals try dsimp only
    (case y_YardError|y_NoOrder|y_TooMany|y_Order|y_ByLetters|y_Newest|y_Rooms|y_Going|y_Closing => refine' PySem.W.mg_of KX G ?a;(case a => k_is))
    (case D1|D14|D15|D16|D19|D24|D28|D30 => refine' L2.Def.of KX G ?_ ?_ ?_ ?_ (fun _ _ _ _ _ _ _ hl => by obtain ⟨_, _, _, rfl⟩ := L2.args_is3 hl; rfl);all_goals try k_is)
    (case D2|D3|D4|D5|D6|D8|D9|D12|D20|D21|D23|D31|D35 => refine' L2.Def.of KX G ?_ ?_ ?_ ?_ (fun _ _ _ _ _ _ _ hl => by obtain ⟨_, rfl⟩ := L2.args_is1 hl; rfl);all_goals try k_is)
    (case D7|D11|D13|D25 => refine' L2.Def.of KX G ?_ ?_ ?_ ?_ (fun _ _ _ _ _ _ _ hl => by obtain ⟨_, _, rfl⟩ := L2.args_is2 hl; rfl);all_goals try k_is)
    (case D10 => refine' L2.DDef.of KX G ?_ ?_ ?_ ?_ ?_ (fun _ _ _ _ _ _ _ hl => by obtain ⟨_, _, _, _, _, rfl⟩ := L2.args_is5 hl; exact ⟨_, rfl, rfl⟩) (fun _ _ _ _ _ _ _ hl => by obtain ⟨_, _, _, _, rfl⟩ := L2.args_is4 (Nat.succ.inj hl); exact ⟨_, rfl, rfl⟩);all_goals try k_is)
    (case D17|D18|D26|D32|D33 => refine' L2.Def.of KX G ?_ ?_ ?_ ?_ (fun _ _ _ _ _ _ _ hl => by obtain ⟨_, _, _, _, rfl⟩ := L2.args_is4 hl; rfl);all_goals try k_is)
    (case D22|D27|D29|D34 => refine' L2.Def.of KX G ?_ ?_ ?_ ?_ (fun _ _ _ _ _ _ _ hl => by obtain ⟨_, _, _, _, _, rfl⟩ := L2.args_is5 hl; rfl);all_goals try k_is)
    (case D36|D39|D41|D45|D62 => refine' L2.MDef.of ?_ ?_ ?_ ?_ ?_ (fun _ _ _ _ _ _ _ hl => by obtain ⟨_, _, _, _, rfl⟩ := L2.args_is4 hl; rfl);all_goals try k_is)
    (case D37|D38|D40|D44|D46|D49|D51|D52|D53|D54|D58|D61 => refine' L2.MDef.of ?_ ?_ ?_ ?_ ?_ (fun _ _ _ _ _ _ _ hl => by obtain ⟨_, _, rfl⟩ := L2.args_is2 hl; rfl);all_goals try k_is)
    (case D42|D48|D59|D60 => refine' L2.MDef.of ?_ ?_ ?_ ?_ ?_ (fun _ _ _ _ _ _ _ hl => by obtain ⟨_, rfl⟩ := L2.args_is1 hl; rfl);all_goals try k_is)
    (case D43|D47|D50|D55|D57|D63|D65 => refine' L2.MDef.of ?_ ?_ ?_ ?_ ?_ (fun _ _ _ _ _ _ _ hl => by obtain ⟨_, _, _, rfl⟩ := L2.args_is3 hl; rfl);all_goals try k_is)
    (case D56 => refine' L2.MDef.of ?_ ?_ ?_ ?_ ?_ (fun _ _ _ _ _ _ _ hl => by obtain ⟨_, _, _, _, _, rfl⟩ := L2.args_is5 hl; rfl);all_goals try k_is)
    (case D64 => refine' L2.MDef.of ?_ ?_ ?_ ?_ ?_ (fun _ _ _ _ _ _ _ hl => by obtain ⟨_, _, _, _, _, _, rfl⟩ := L2.args_is6 hl; rfl);all_goals try k_is)
    (case z1|z2|z3|z4|z5|z6|z7|z8|z9|z10|z11|z12|z13 => refine' PySem.W.mg_none_of KX G ?a;(case a => k_is))
    (case w_lam => refine' L2.LamAt.mk ?e ?h ?n;(case e => rfl);(case h => kernel_rfl);(case n => kernel_rfl))
    all_goals first|k_is|kit_is|kts_exm|kernel_rfl
