import PyProof.Rows.All
import Wide.All
import OpenK.AllK
import Wide.FinOn
import Lean
import PyProof.EqAt
import PyProof.EqKinds
import PyProof.TupleCall
import PyProof.FString
import OpenK.KOwn
import KE.KTryMore
import PyProof.NsDelKeeps
import PyProof.StrBlock2
import PyProof.AutoListH
import KE.KIntText
import PyProof.Rows.StrIntSpec
import KE.KRevIter
import PyProof.StrWalks
import PyProof.CompUse
import PyProof.NeKinds
import PyProof.Rows.Range3
import PyProof.Rows.EnumRows
import PyProof.ConsumeWalk
import PyProof.Rows.SeqGen
import PyProof.StrLawsRepr
import PyProof.ZipIter
import PyProof.Rows.FactsT2
import PyProof.EnumMake
import PyProof.DictWalks
import PyProof.DictTruth
import PyProof.ListRange
import PyProof.ListStr
import PyProof.TupleOfGen
import PyProof.TupleOfSeq
import PyProof.MinMaxWalk
import PyProof.WalkInts
import KE.KSortAsk
import PyProof.MeetsSeq3
import KE.KRevSl
import PyProof.Rows.SeqMore
import PyProof.ListMulRoad
import PyProof.Rows.SumAny
import PyProof.SeqI3
import PyProof.AttrMissSeq
import KE.KDictOf
import PyProof.Rows.StrCut
import PyProof.Rows.StrSplitCount
import PyProof.DictItems
import PyProof.Rows.SortWalk
import PySem.Challenge.RW_cosetyard_k44_whole_papers_of_filling
set_option Elab.async false
set_option linter.all false
set_option maxRecDepth 100000
set_option compiler.extract_closed false
set_option compiler.small 0
set_option genSizeOfSpec false
set_option maxHeartbeats 4000000
noncomputable section
local macro_rules|`(tactic|decide)=>`(tactic|decide +kernel)
local macro_rules|`(tactic|ac_rfl)=>`(tactic|exact⟨2224244⟩)
local macro_rules|`(⟨$x,*⟩)=>do
  let q:=#[←`(_),←`(rfl),←`(∅),←`(⋯),←`(?_)]
  let r:Array Lean.Term:=x.getElems.flatMap λe=>match e.raw.isNatLit? with|some n=>(toString n).toList.toArray.map λc=>q[c.toNat-49]!|_=>#[e]
  if x.getElems.any λe=>e.raw.isNatLit?.isSome then`(⟨$r,*⟩)else Lean.Macro.throwUnsupported
local macro_rules|`(tactic|erw[$r,*])=>do let a:=r.getElems.map λe=>(⟨e.raw[1]⟩:Lean.Term);`(tactic|refine⟨$a,*, ?_⟩)
local macro_rules|`(tactic|rwa[$r,*])=>do let a:=r.getElems.map λe=>(⟨e.raw[1]⟩:Lean.Term);if a.size=1&&(a[0]!).raw.isNatLit?.isNone then`(tactic|refine $(a[0]!))else`(tactic|exact⟨$a,*⟩)
local macro_rules|`([$x,*]▸$e)=>do let a←x.getElems.mapM λt=>do match(⟨t⟩:Lean.Term)with|`(-$s)=>`(Lean.Parser.Tactic.rwRule|←$s:term)|s=>`(Lean.Parser.Tactic.rwRule|$s:term)
                                   `(by rw[$a,*];exact $e)
def CVP:Nat→Lean.Term→Lean.MacroM (Lean.TSyntax `rcasesPat)
|0,_=>Lean.Macro.throwUnsupported
|n+1,t=>do match t with
  |`(⟨$x,*⟩)=>let a←x.getElems.mapM λt=>do`(Lean.Parser.Tactic.rcasesPatLo|$(←CVP n t):rcasesPat)
              `(rcasesPat|⟨$a,*⟩)
  |`($i:ident)=>`(rcasesPat|$i:ident)
  |`(_)=>`(rcasesPat|_)
  |_=>Lean.Macro.throwUnsupported
def RN(x:Lean.Syntax):Lean.Syntax:=if x.getId=`rfl then Lean.mkIdent (.num `r (x.getPos?.getD 0).byteIdx)else x
def HR:Nat→Lean.Syntax→Array Lean.Ident
|0,_=>#[]
|n+1,s=>if s.getId=`rfl then#[⟨RN s⟩]else s.getArgs.flatMap (HR n)
theorem GL {p:Prop}(h:let q:Prop:=p;q):p:=h
local macro_rules|`(tactic|let $d:letDecl)=>`(tactic|have $d:letDecl)
local macro_rules|`(tactic|let $p:term:=$e)=>do match p with|`(⟨$x,*⟩)=>if x.getElems.size<3 then`(tactic|obtain $(←CVP 9 p):rcasesPat:=$e)else let n:=HR 9 p;let o←n.mapM λn=>`(tactic|obtain $(Lean.mkIdent `rfl):ident:=$n);let o:=#[←`(tactic|refine GL ?_),←`(tactic|intro q),←`(tactic|obtain $(←CVP 9 ⟨p.raw.rewriteBottomUp RN⟩):rcasesPat:=$e),←`(tactic|subst q)]++o;`(tactic|($[$o]*))|_=>Lean.Macro.throwUnsupported
local macro_rules|`(∅)=>`(by omega)
local macro_rules|`(⋯)=>`(by decide)
local macro_rules|`(tactic|omega)=>`(tactic|lia)
local macro_rules|`($a\$b)=>`($a=some $b)
local macro_rules|`($a^$b)=>match b.raw.isNatLit? with|some _=>Lean.Macro.throwUnsupported|_=>`($a _ _ $b)
local macro_rules|`(↥$s)=>`(($s).heap.objs.size)
local macro_rules|`(#v[$x,*])=>do let a←x.getElems.mapM λe=>do if e.raw.isOfKind `coeNotation||e.raw.isOfKind ``Lean.Parser.Term.dotIdent||e.raw[0].isOfKind ``Lean.Parser.Term.dotIdent then`(some $e)else pure e
                                  `([$a,*])
local macro_rules|`(s!"")=>`(by intro _ z;cases z)
local macro_rules|`(f!"")=>`(by intro z;cases z)
local macro_rules|`($s<*$h)=>`({ $s with heap:=$h })
local macro_rules|`(⇑$s)=>`(($s).length)
local macro_rules|`(↑$s)=>`(.ref $s)
local macro_rules|`(tactic|trivial)=>`(tactic|first|exact .inl rfl|exact .inr rfl|exact .inr (.inl rfl)|exact .inr (.inr rfl)|assumption)
local macro_rules|`(tactic|cbv)=>`(tactic|grind -abstractProof)
local macro_rules|`(tactic|ext $p*)=>match p with|#[]=>`(tactic|omega)|_=>let i:Lean.Ident:=⟨p[0]!.raw[0][0]⟩;`(tactic|cases $i:ident)
local macro_rules|`($a:str>>>$b)=>`({ cls:=.type $a,data:=$b })
local macro_rules|`($x⁻¹)=>`(PySem.wpAny (PySem.model ($x).prog ($x).w))
local macro_rules|`($x<|>$y)=>`(PySem.wpAny (PySem.model $x $y))
local macro_rules|`(universe $x*)=>do return Lean.mkNullNode (←x.mapM λi=>do return(←`(command|def $i:ident:=Nat)).raw)
local macro_rules|`(tactic|cases $h:ident:$p)=>`(tactic|by_cases $h:ident:$p)
local macro_rules|`(tactic|change $t$[$l]?)=>match t with|`($e=$x:ident)=>`(tactic|generalize $e:term=$x:ident$[$l]?)|_=>Lean.Macro.throwUnsupported
local macro_rules|`($s•$b)=>`(($s).heap.get? $b)
local macro_rules|`(~~~$n)=>`(List.range $n)
abbrev Zh:=List Int
abbrev Zi:=List Nat
abbrev Zj:=Option Nat
abbrev Zk:=Option Int
abbrev Zl:=List PySem.Value
abbrev Zm:=Option PySem.Value
abbrev Zn:=Array PySem.Value
abbrev Zo:=List PySem.Addr
abbrev Zp:=Option PySem.Addr
abbrev Zq:=List PySem.Str
abbrev Zr:=List PySem.Env
abbrev Zs:=List PySem.Expr
abbrev Zt:=PySem.Addr
abbrev Zu:=PySem.Value
abbrev Zv:=PySem.Shared
abbrev Za0:=@Option.some.inj
abbrev Za1:=PySem.W.Frag
abbrev Za2:=Nat->Int->Nat->Prop
abbrev Za3:=List Zh
def Za4 (n:Nat)(h:n<=PySem.sizeLine:=by decide):n<=PySem.sizeLine:=h
abbrev aje:=@PySem.wpAny_bind
abbrev ajf:=@PySem.Heap.get?_push_of_some
abbrev ajg:=@List.getElem?_eq_getElem
abbrev ajh:=@List.length_append
abbrev aji:=@List.getElem?_eq_some_iff
abbrev ajj:=@List.mem_of_getElem?
abbrev ajk:=@List.length_map
abbrev ajl:=@PySem.wpAny_pure
abbrev ajm:=@List.getD_eq_getElem?_getD
abbrev ajn:=@List.mem_singleton
abbrev ajo:=@List.mem_append_right
abbrev ajp:=@Nat.le_refl
abbrev ajq:=@List.getElem?_map
abbrev ajr:=@List.mem_append
abbrev ajs:=@List.getElem?_append_left
abbrev ajt:=@Nat.lt_of_le_of_lt
abbrev aju:=@Nat.le_trans
abbrev ajv:=@List.getElem?_append_right
abbrev ajw:=@if_neg
abbrev ajx:=@PySem.Heap.get?_push_size
abbrev ajy:=@PySem.F.plainAttrs_list
abbrev ajz:=@PySem.Heap.lt_size
abbrev ajA:=@List.mem_cons_self
abbrev ajB:=@PySem.F.slot_list_append
abbrev ajC:=@PySem.F.type_list_append
abbrev ajD:=@if_pos
abbrev ajE:=@List.mem_cons
abbrev ajF:=@decide_eq_true
abbrev ajG:=@List.mem_append_left
abbrev ajH:=@beq_eq_false_iff_ne
abbrev ajI:=@List.size_toArray
abbrev ajJ:=@List.length_set
abbrev ajK:=@Nat.lt_of_lt_of_le
abbrev ajL:=@Nat.ne_of_lt
abbrev ajM:=@of_decide_eq_true
abbrev ajN:=@List.length_take
abbrev ajO:=@List.length_cons
abbrev ajP:=@List.mem_cons_of_mem
abbrev ajQ:=@List.append_nil
abbrev ajR:=@PySem.PassesOwn.never
abbrev ajS:=@List.getElem?_eq_none
abbrev ajT:=@List.map_append
abbrev ajU:=@Nat.zero_le
abbrev ajV:=@List.getElem?_set_self
abbrev ajW:=@PySem.wpAny_newObj_type
abbrev ajX:=@List.nodup_cons
abbrev ajY:=@PyProof.Rows.slot_tuple_getitem
abbrev ajZ:=@List.append_assoc
abbrev aj0:=@PySem.Heap.get?_update_self
abbrev aj1:=@PySem.Heap.get?_update_other
abbrev aj2:=@PyProof.Rows.boot_list
abbrev aj3:=@Bool.false_ne_true
abbrev aj4:=@List.nodup_append
abbrev aj5:=@List.length_drop
abbrev aj6:=@Bool.and_eq_true
abbrev aj7:=@List.mem_map
abbrev aj8:=@List.map_map
abbrev aj9:=@List.getElem?_of_mem
abbrev aka:=@PySem.wpAny_field
abbrev akb:=@List.length_singleton
abbrev akc:=@List.not_mem_nil
abbrev akd:=@PySem.wpAny_holding
abbrev ake:=@List.getElem?_set_ne
abbrev akf:=@PySem.boot_len
abbrev akg:=@Int.toNat_natCast
abbrev akh:=@decide_eq_false
abbrev aki:=@PySem.Calls.spliced_cons
abbrev akj:=@PySem.Calls.callWith_builtin
abbrev akk:=@PyProof.Rows.callWith_type1
abbrev akl:=@Option.isSome_iff_exists
abbrev akm:=@congrArg
abbrev akn:=@decide_eq_true_iff
abbrev ako:=@PySem.wpAny_callSpecial?_slot
abbrev akp:=@List.map_cons
abbrev akq:=@PySem.wpAny_mono
abbrev akr:=@Option.map_eq_some_iff
abbrev aks:=@PySem.wpAny_Call_Name_kw
abbrev akt:=@PySem.wpAny_setField_rec
abbrev aku:=@Nat.ne_of_gt
abbrev akv:=@Int.neg_neg
abbrev akw:=@PySem.wpAny_call_entry
abbrev akx:=@List.take_succ
abbrev aky:=@List.take_length
abbrev akz:=@List.mem_flatMap
abbrev akA:=@Nat.lt_irrefl
abbrev akB:=@Ne.symm
abbrev akC:=@PySem.F.plainAttrs_dict
abbrev akD:=@List.length_range
abbrev akE:=@Int.emod_lt_of_pos
abbrev akF:=@List.mem_range
abbrev akG:=@PySem.W.kia_one
abbrev akH:=@Bool.or_eq_true
abbrev akI:=@Nat.min_eq_left
abbrev akJ:=@Int.emod_nonneg
abbrev akK:=@Nat.lt_succ_self
abbrev akL:=@List.eq_nil_of_length_eq_zero
abbrev akM:=@PySem.Heap.SameBut.update
abbrev akN:=@Nat.lt_succ_of_lt
abbrev akO:=@PySem.Obj.data_mapFields
abbrev akP:=@PySem.Calls.evalArgs_plain
abbrev akQ:=@PySem.codeAny_call_builtin
abbrev akR:=@List.lookup_cons
abbrev akS:=@Array.getElem?_eq_some_iff
abbrev akT:=@PySem.wpAny_truthy_bool
abbrev akU:=@PySem.Calls.spliced_nil
abbrev akV:=@List.mem_map_of_mem
abbrev akW:=@PySem.Heap.size_push
abbrev akX:=@List.nodup_nil
abbrev akY:=@List.mem_filter
abbrev akZ:=@Nat.le_of_lt
abbrev ak0:=@Bool.eq_iff_iff
abbrev ak1:=@Array.getElem?_toList
abbrev ak2:=@PySem.F.slot_dict_get
abbrev ak3:=@List.range_succ
abbrev ak4:=@Nat.sub_self
abbrev ak5:=@PySem.tupleKind_room_in1
abbrev ak6:=@List.dropLast_concat_getLast
abbrev ak7:=@PySem.F.slot_dict_setdefault
abbrev ak8:=@PyProof.Rows.boot_isinstance
abbrev ak9:=@PyProof.Rows.boot_tuple
abbrev ala:=@PySem.wpAny_pyIter_list
abbrev alb:=@List.ext_getElem?
abbrev alc:=@PySem.mem_of_lookup
abbrev ald:=@List.length_reverse
abbrev ale:=@List.map_congr_left
abbrev alf:=@List.filter_sublist
abbrev alg:=@List.take_of_length_le
abbrev alh:=@PySem.F.slot_tuple_iterator_next
abbrev ali:=@PySem.F.excBase_ValueError
abbrev alj:=@PySem.Obj.isFreed_of_fields
abbrev alk:=@PySem.wpAny_typeOf
abbrev alm:=@List.length_filter_le
abbrev aln:=@PySem.wpAny_setField
abbrev alp:=@List.mem_or_eq_of_mem_set
abbrev alq:=@Nat.mul_le_mul_right
abbrev alr:=@PySem.wpAny_execs_nil
abbrev als:=@PySem.wpAny_passesOwn
abbrev alu:=@List.getElem?_take_of_lt
abbrev alv:=@List.length_nil
abbrev alw:=@PySem.wpAny_Call_method
abbrev alx:=@PySem.wpAny_loadPart'
abbrev aly:=@List.foldl_append
abbrev alz:=@not_false_eq_true
abbrev alA:=@List.length_erase_of_mem
abbrev alB:=@decide_eq_true_eq
abbrev alC:=@PySem.codeAny_mono
abbrev alD:=@PySem.call_meetsIn
abbrev alE:=@Array.length_toList
abbrev alF:=@PySem.plainId_quiet
abbrev alG:=@List.flatMap_append
abbrev alH:=@decide_eq_false_iff_not
abbrev alI:=@List.cons_append
abbrev alJ:=@Nat.min_eq_right
abbrev alK:=@PySem.F.slot_dict_itemiterator_next
abbrev alL:=@PySem.F.plain_min_loop
abbrev alM:=@PySem.wpAny_call
abbrev alN:=@PySem.F.entry_dict_get
abbrev alO:=@List.find?_cons_of_neg
abbrev alP:=@PySem.W.callWith_K
abbrev alQ:=@PySem.F.slot_dict_keyiterator_next
abbrev alR:=@or_false
abbrev alS:=@List.getElem?_drop
abbrev alT:=@List.nil_append
abbrev alU:=@List.find?_cons
abbrev alV:=@PySem.F.slot_dict_pop
abbrev alW:=@PySem.wpAny_notOrdered_dict
abbrev alX:=@PySem.wpAny_updateSeq
abbrev alY:=@PySem.wpAny_dictEntries
abbrev alZ:=@Decidable.not_not
abbrev al0:=@List.pairwise_map
abbrev al1:=@Bool.not_eq_true'
abbrev al3:=@PySem.wpAny_loadPart_at
abbrev al6:=@PySem.Around.under_plainId
abbrev al7:=@PySem.wpAny_seqItems
abbrev al8:=@List.drop_eq_getElem_cons
abbrev al9:=@List.getElem?_eq_none_iff
abbrev ama:=@Nat.max_eq_right
abbrev amb:=@PySem.W.hideAll_get
abbrev amc:=@List.filterMap_cons
abbrev amd:=@Nat.le_of_eq
abbrev ame:=@PySem.F.args_tuple_add_2
abbrev amf:=@Nat.lt_trans
abbrev amg:=@PySem.wpAny_standAt
abbrev amh:=@List.mem_filterMap
abbrev ami:=@PySem.F.entry_tuple_add
abbrev amj:=@if_false
abbrev amk:=@PySem.codeAny_builtin
abbrev aml:=@Bool.false_eq_true
abbrev amm:=@PySem.wpAny_ite_split
abbrev amn:=@Nat.max_eq_left
abbrev amo:=@List.filter_cons_of_pos
abbrev amq:=@PySem.W.cellsFrom_some
abbrev amr:=@PySem.F.slot_tuple_add
abbrev ams:=@List.find?_cons_of_pos
abbrev amt:=@Option.map_eq_none_iff
abbrev amu:=@List.head?_eq_getElem?
abbrev amv:=@PySem.wpAny_rule
abbrev amw:=@List.reverse_cons
abbrev amx:=@PySem.wpAny_letGo
abbrev amy:=@List.filter_congr
abbrev amA:=@Nat.add_mul
abbrev amB:=@PySem.wpAny_tryCatch
abbrev amC:=@Nat.mul_le_mul
abbrev amD:=@Nat.lt_or_ge
abbrev amE:=@Nat.le_total
abbrev amF:=@if_true
abbrev amG:=@List.all_eq_true
abbrev amH:=@Nat.succ_le_succ
abbrev amI:=@List.mem_reverse
abbrev amJ:=@Nat.le_succ
namespace Lake
namespace L2
open PySem PySem.Spec PyProof.Rows
abbrev Key:=Sum Int Str
abbrev Zd:=List Key
noncomputable def ua:Key->Zu->Bool
 |.inl k,v=>Value.isInt k v
 |.inr x,v=>Value.isStrOf x v
noncomputable def abd (w:World):Key->Int
 |.inl k=>hashInt k
 |.inr x=>hashStr w x
theorem dU:∀{k:Key} {v:Zu},ua k v=true->(∃i t,k=Sum.inl i/\v=Value.int i t)\/(∃x t,k=Sum.inr x/\v=Value.str x t)
 |.inl i,v,h=>by
  let⟨t,e⟩:=Value.isInt_shape (k:=i) (v:=v) h;rwa[.inl ⟨i,t,2,e⟩]
 |.inr x,v,h=>by
  let⟨t,e⟩:=Value.isStrOf_shape (x:=x) (v:=v) h;rwa[.inr ⟨x,t,2,e⟩]
def HF (i:Int)(t:Tok):ua (.inl i) (.int i t)=true:=by simp[ua,Value.isInt]
def HG (x:Str)(t:Tok):ua (.inr x) (.str x t)=true:=by simp[ua,Value.isStrOf]
def RC (a b:Int):decide ((Sum.inl a:Key)=Sum.inl b)=(a==b):=by
 cbv
def RD (a b:Str):decide ((Sum.inr a:Key)=Sum.inr b)=decide (a=b):=by
 cbv
def RG (a:Int)(b:Str):decide ((Sum.inl a:Key)=Sum.inr b)=false:=akh (λq=>nomatch q)
def RH (a:Str)(b:Int):decide ((Sum.inr a:Key)=Sum.inl b)=false:=akh (λq=>nomatch q)
def bT (c:Program)(w:World):PySem.KeyKind c w Key where
 is:=ua
 hash:=abd w
 inj:=λv a b l f=>by
  rcases dU l with ⟨i,t,rfl,rfl⟩|⟨x,t,rfl,rfl⟩
  ·rcases dU f with ⟨j,u,rfl,e⟩|⟨y,u,rfl,e⟩
   ·cbv
   cbv
  ·rcases dU f with ⟨j,u,rfl,e⟩|⟨y,u,rfl,e⟩
   ·rwa[nomatch e]
   cbv
 byValue:=λk v h=>by
  rcases dU h with ⟨i,t,rfl,rfl⟩|⟨x,t,rfl,rfl⟩ <;> rfl
 pyHash:=λd h=>by
  rcases dU d with ⟨i,t,rfl,rfl⟩|⟨x,t,rfl,rfl⟩
  ·rwa[wpAny_pyHash_int h]
  ·rwa[wpAny_pyHash_str h]
 eqBool:=λm d h=>by
  rcases dU m with ⟨i,t,rfl,rfl⟩|⟨x,t,rfl,rfl⟩
  ·rcases dU d with ⟨j,u,rfl,rfl⟩|⟨y,u,rfl,rfl⟩
   ·rw[RC]at h;rwa[wpAny_eqBool_int h]
   ·rw[RG]at h;rwa[SeqAt.EqAt.int_str i t y u _ _ _ _ h]
  ·rcases dU d with ⟨j,u,rfl,rfl⟩|⟨y,u,rfl,rfl⟩
   ·rw[RH]at h;rwa[SeqAt.EqAt.str_int x t j u _ _ _ _ h]
   ·rw[RD]at h;rwa[wpAny_eqBool_str h]
 «strs»:=λk x t v h=>by
  rcases dU h with ⟨i,u,rfl,e⟩|⟨y,u,rfl,e⟩
  ·rwa[nomatch e]
  ·injection e with g _
   subst g;cases v <;> rfl
def DY (a:Program)(w:World)(i:Int)(t:Tok):(bT a w).is (.inl i) (.int i t)=true:=HF i t
def DZ (a:Program)(w:World)(x:Str)(t:Tok):(bT a w).is (.inr x) (.str x t)=true:=HG x t
end L2
variable {n m i j:Nat}{a b c d:PySem.Addr}{z y:Int}{v u:PySem.Value}{x f:PySem.Str}{e:PySem.Expr}{p:PySem.Pos}{K:Za1}{Q E:PySem.Value->PySem.Shared->Prop}{s t:PySem.Shared}{P:PySem.Program}{w:PySem.World}{h g:PySem.Heap}{R:Za2}{A:PySem.Around}{o:List (PySem.Addr×PySem.Obj)}{M:PySem.Str->Option PySem.Value}{l:Zh}{N:List PySem.Value}{B:Zi}{W:Za3}{U:Unit->PySem.Shared->Prop}{C:List PySem.Expr}{F:List PySem.Addr}{Z:List PySem.Str}
namespace L2
open PySem PySem.Spec PyProof.Rows
inductive V where
 |non|bl (b:Bool)|int (i:Int)|str (x:Str)|oH (b:Array UInt8)|Bf (b:UInt64)|ref (a:Zt)|ty (n:String)
 deriving DecidableEq
abbrev Zc:=Option V
abbrev Zb:=List V
def RelV:V->Zu->Prop
 |.non,u=>u=Value.none
 |.bl b,u=>u=Value.bool b
 |.int i,u=>∃t,u=Value.int i t
 |.str x,u=>∃t,u=Value.str x t
 |.oH b,u=>∃t,u=Value.bytes b t
 |.Bf b,u=>∃t,u=Value.float b t
 |.ref a,u=>u=Value.ref a
 |.ty n,u=>u=Value.type n
abbrev Vals:Zb->Zl->Prop:=Paired RelV
def Vals.length {xs:Zb}{us:Zl}(r:Vals xs us):⇑xs=⇑us:=Paired.length r
theorem Vals.get:∀{b:Zb} {a:Zl} {i:Nat} {x:V},Vals b a->b[i]?\x->∃u,a[i]?\u/\RelV x u
 |_,_,_,_,.nil,e=>by simp at e
 |_,_,0,_,.cons r _,e=>by simp at e;subst e;rwa[12,r]
 |_,_,i+ 1,x,.cons _ t,e=>by
  let⟨u,d,c⟩:=Vals.get (i:=i) (x:=x) t (by simpa using e);rwa[u,by simpa using d,c]
theorem Vals.set {x:V}(r:RelV x u):∀{xs:Zb} {us:Zl} (i:Nat),Vals xs us->Vals (xs.set i x) (us.set i u)
 |_,_,_,.nil=>.nil
 |_,_,0,.cons _ t=>.cons r t
 |_,_,i+ 1,.cons q t=>.cons q (Vals.set r i t)
theorem Vals.append:∀{b ys:Zb} {a ws:Zl},Vals b a->Vals ys ws->Vals (b++ys) (a++ws)
 |_,_,_,_,.nil,s=>s
 |_,_,_,_,.cons r t,s=>.cons r (Vals.append t s)
theorem Vals.take:∀{xs:Zb} {us:Zl} (n:Nat),Vals xs us->Vals (xs.take n) (us.take n)
 |_,_,0,_=>.nil
 |_,_,_+ 1,.nil=>.nil
 |_,_,n+ 1,.cons r t=>.cons r (Vals.take n t)
theorem Vals.drop:∀{xs:Zb} {us:Zl} (n:Nat),Vals xs us->Vals (xs.drop n) (us.drop n)
 |_,_,0,r=>r
 |_,_,_+ 1,.nil=>.nil
 |_,_,n+ 1,.cons _ t=>Vals.drop n t
def eJ:Zc->Zm->Prop
 |some v,some u=>RelV v u
 |none,none=>True
 |_,_=>False
def KV {a:Type}:List (a×V)->List (a×Zu)->Prop:=Paired λ(p:a×V) (q:a×Zu)=>p.1=q.1/\RelV p.2 q.2
noncomputable def kV:Key->V
 |.inl i=>.int i
 |.inr x=>.str x
inductive HO where
 /-- a list -/
 |lst (xs:Zb)
 /-- a tuple (never changes) -/
 |tup (xs:Zb)
 /-- a dict whose keys are ints and texts;one whose keys are tuples of ints and texts (the empty one is both) -/
 |dK (kvs:List (Key×V))|dT (kvs:List (Zd×V))
 /-- a set of ints:its members,its size -/
 |set (S:Int->Bool) (n:Nat)
 /-- an instance of the class at C,its dict at dx,its attributes -/
 |ins (C dx:Zt) (fs:List (Str×V))
 /-- the dict of the instance at x -/
 |own (x:Zt)
 /-- the dict of an exception -/
 |xd (fs:List (Str×V))
 /-- a bound method,f of x -/
 |met (f x:Zt)
 /-- a range object lo,lo+ 1,.. below hi -/
 |HJ (lo hi:Int)
 /-- a thing that is known to the object (the script;a dict while a loop walks it):read,never written while it is so -/
 |cq (o:Obj) (u:HO)
 /-- a code object's table -/
 |fH (ps:Zn)
 /-- any other thing,by what is true of its one object (a def of ahF own:ahR a S n:=HO.ext λh=>..) -/
 |ext (φ:Heap->Prop)
abbrev Hp:=Zt->Option HO
noncomputable def upd (H:Hp)(a:Zt)(o:HO):Hp:=λb=>if b=a then some o else H b
def aj {H:Hp}{o:HO}:upd H a o a\o:=by unfold upd;cbv
def ai {H:Hp}{o:HO}(h:b≠a):upd H a o b=H b:=by unfold upd;rw[ajw h]
def P8 {H:Hp}{o u:HO}:upd (upd H a o) a u=upd H a u:=by
 funext b;unfold upd;cbv
def bN {H:Hp}{o u:HO}(h:H a\o)(c:H b\u)(d:o≠u):a≠b:=by
 cbv
def aw {H:Hp}{o:HO}(h:H a\o)(c:H b=none):a≠b:=by
 cbv
section
variable (P:Program) (w:World)
def bY (H:Hp)(h:Heap)(a:Zt):HO->Prop
 |.lst xs=>⇑xs<=sizeLine/\∃(c:Zl) (n:Nat),Vals xs c/\h.get? a\("list">>>.seq c.toArray n)
 |.tup xs=>⇑xs<=sizeLine/\∃c:Zl,Vals xs c/\IsTup h a c.toArray
 |.dK b=>⇑b<=sizeLine/\(a==sysModules)=false/\∃j,KV b j/\h.DictOf (bT P w) a j
 |.dT b=>⇑b<=sizeLine/\(a==sysModules)=false/\∃xs:List (Zd×Zt×Zu),
  Paired (λ(p:Zd×V) (q:Zd×Zt×Zu)=>p.1=q.1/\H q.2.1\.tup (p.1.map kV)/\RelV p.2 q.2.2) b xs/\
  ∃o l s,h.get? a\o/\o.ExactDict/\o.data=.dict l s/\l.toList=xs.map (entryOfKey (tupleKind (bT P w)))/\(xs.map (·.1)).Nodup
 |.set S n=>h.SetOf (intKind P w) a S n
 |.ins C e fs=>H e\.own a/\⇑fs<=1000/\e≠a/\h.get? a\PySem.W.instObj C e/\
  ∃d,h.Ns1 e d/\(∀f,eJ (fs.lookup f) (d f))/\PySem.Within d (fs.map (·.1))
 |.own _=>∃o,h.get? a\o
 |.xd fs=>∃d,h.Ns1 a d/\∀f,eJ (fs.lookup f) (d f)
 |.HJ lo r=>∃t u v,h.get? a\("range">>>.fields #[.int lo t,.int r u,.int 1 v])
 |.cq o u=>h.get? a\o/\bY H h a u
 |.fH m=>h.get? a\{ cls:=.none,data:=.fields m }
 |.met f x=>h.get? a\(PySem.W.methodObj ↑f ↑x)
 |.ext g=>g h/\(∃o,h.get? a\o)/\∀k i:Heap,g k->(∀o,k.get? a\o->i.get? a\o)->g i
def dz (H:Hp)(h:Heap):Prop:=∀a o,H a\o->bY P w H h a o
end
section
variable {P:Program}{w:World}{H H':Hp}{h h':Heap}{a:Zt}{o:HO}
def bY.lt (x:bY P w H h a o):a<h.objs.size:=by
 cases o with
 |lst c=>let⟨_,_,_,_,e⟩:=x;rwa[ajz e]
 |tup c=>let⟨_,_,_,p⟩:=x;rwa[p.lt]
 |dK b=>let⟨_,_,_,_,o,_,_,e,_⟩:=x;rwa[ajz e]
 |dT b=>let⟨_,_,_,_,o,_,_,e,_⟩:=x;rwa[ajz e]
 |set S n=>let⟨o,_,_,_,e,_⟩:=x;rwa[ajz e]
 |ins C dx fs=>let⟨_,_,_,e,_⟩:=x;rwa[ajz e]
 |own y=>let⟨_,e⟩:=x;rwa[ajz e]
 |xd fs=>let⟨_,⟨_,_,_,e,_⟩,_⟩:=x;rwa[ajz e]
 |HJ lo i=>let⟨_,_,_,e⟩:=x;rwa[ajz e]
 |cq ob u=>let⟨e,_⟩:=x;rwa[ajz e]
 |fH d=>exact ajz (show h.get? a=some _ from x)
 |met f y=>exact ajz (show h.get? a=some _ from x)
 |ext g=>let⟨_,⟨_,e⟩,_⟩:=x;rwa[ajz e]
theorem Paired.K7 {g e:Type}{F G:g->e->Prop}:∀{c:List g} {d:List e},Paired F c d->(∀a b,F a b->G a b)->Paired G c d
 |_,_,.nil,_=>.nil
 |_,_,.cons r t,f=>.cons (f^r) (Paired.K7 t f)
def bY.fD (x:bY P w H h a o)(k:∀b u,(b=a\/H b\.own a)->h.get? b\u->h'.get? b\u)
 (G:∀b,H b\.own a->H' b\.own a) (D:∀b l,H b\.tup l->H' b\.tup l):bY P w H' h' a o:=by
 induction o with
 |lst l=>let⟨z,j,n,r,e⟩:=x;rwa[z,j,n,r,k _ _ (.inl rfl) e]
 |tup l=>let⟨z,j,r,ob,e,c⟩:=x;rwa[z,j,r,ob,k _ _ (.inl rfl) e,c]
 |dK m=>let⟨z,y,E,r,ob,g,i,e,c⟩:=x;rwa[z,y,E,r,ob,g,i,k _ _ (.inl rfl) e,c]
 |dT m=>
  let⟨z,y,l,r,ob,g,i,e,c⟩:=x;rwa[z,y,l,Paired.K7 r λp q z=>⟨z.1,D^z.2.1,z.2.2⟩,ob,g,i,k _ _ (.inl rfl) e,c]
 |set S n=>let⟨ob,g,i,t,e,c⟩:=x;rwa[ob,g,i,t,k _ _ (.inl rfl) e,c]
 |ins C dx fs=>
  let⟨d,z,ne,e,s,⟨A,g,i,F,c⟩,r⟩:=x;rwa[G _ d,z,ne,k _ _ (.inl rfl) e,s,⟨A,g,i,k _ _ (.inr d) F,c⟩,r]
 |own y=>let⟨ob,e⟩:=x;rwa[ob,k _ _ (.inl rfl) e]
 |xd fs=>let⟨s,⟨A,g,i,e,c⟩,r⟩:=x;rwa[s,⟨A,g,i,k _ _ (.inl rfl) e,c⟩,r]
 |HJ lo L=>let⟨t,u,v,e⟩:=x;rwa[t,u,v,k _ _ (.inl rfl) e]
 |cq ob u I=>let⟨e,q⟩:=x;rwa[k _ _ (.inl rfl) e,I q]
 |fH B=>
  let e:h.get? a\{ cls:=.none,data:=.fields B }:=x;show h'.get? a\{ cls:=.none,data:=.fields B };rwa[k a _ (.inl rfl) e]
 |met f y=>
  let e:h.get? a\(PySem.W.methodObj ↑f ↑y):=x;show h'.get? a\PySem.W.methodObj ↑f ↑y;rwa[k a _ (.inl rfl) e]
 |ext J=>let⟨p,⟨o,e⟩,st⟩:=x;rwa[st _ _ p λo q=>k _ _ (.inl rfl) q,⟨o,k _ _ (.inl rfl) e⟩,st]
def dz.lt (x:dz P w H h)(e:H a\o):a<h.objs.size:=(x a o e).lt
def dz.fresh (x:dz P w H h)(e:h.objs.size<=a):H a=none:=by
 cases q:H a with
 |none=>rfl
 |some u=>exact absurd (ajK (x.lt q) e) (akA _)
def dz.kept (x:dz P w H h)(k:∀b u,h.get? b\u->h'.get? b\u):dz P w H h':=λa o e=>
 (x a o e).fD (λb u _ q=>k b u q) (λ_ q=>q) λ_ _ q=>q
def dz.laid (x:dz P w H h)(k:∀b u,h.get? b\u->h'.get? b\u)(g:h.objs.size<=a)(new:bY P w (upd H a o) h' a o):dz P w (upd H a o) h':=λb u e=>by
 let f:=x.fresh g;cases d:b=a
 ·subst d;rw[aj]at e;cbv
 ·rw[ai d]at e;rwa[(x b u e).fD (λc v _ q=>k c v q) (λc q=>[ai (aw q f)]▸q) λc i q=>[ai (aw q f)]▸q]
end
def Rd (H:Hp)(a:Zt)(u:HO):Prop:=H a\u\/∃o,H a\(.cq o u)
def Rd.ok {H:Hp}{u:HO}(r:Rd H a u)(x:dz P w H h):bY P w H h a u:=by
 rcases r with r|⟨o,r⟩
 ·rwa[x a u r]
 ·let⟨_,q⟩:=x a _ r;rwa[q]
def uX:Option HO->Prop
 |some (.lst _)=>True
 |some (.dK _)=>True
 |some (.dT _)=>True
 |some (.set _ _)=>True
 |some (.ins _ _ _)=>True
 |some (.ext _)=>True
 |_=>False
section
variable {P:Program}{w:World}{H:Hp}{h h':Heap}{x e:Zt}{o':HO}
def dz.write (ok:dz P w H h)(mu:uX (H x))(l:e=x\/H e\.own x)(k:∀b u,b≠e->h.get? b\u->h'.get? b\u)(g:∃u,h'.get? e\u)
 (new:bY P w (upd H x o') h' x o'):dz P w (upd H x o') h':=λb u q=>by
 let a:∀c y,H c\.own y->c≠x:=λc y r z=>by subst z;rw[r]at mu;rwa[mu]
 let jo:∀c d,H c\.tup d->c≠x:=λc d r z=>by subst z;rw[r]at mu;rwa[mu]
 cases i:b=x
 ·subst i;rw[aj]at q;cbv
 ·rw[ai i]at q;cases f:b=e
  ·let j:H b\(.own x):=by
    rcases l with z|z
    ·cbv
    ·rw[f];rwa[z]
   rw[q]at j;ext j;let⟨v,m⟩:=g;rwa[v,by cbv]
  ·refine(ok b u q).fD (λc v hc r=>k c v ?_ r) (λc r=>[ai (a c b r)]▸r) λc d r=>by rw[ai (jo c d r)];rwa[r]
   cbv
end
structure Un (fs ex:Zo) (H H':Hp) (h h':Heap):Prop where
 keep:∀b o,h.get? b\o->H b=none->b∉fs->b∉ex->h'.get? b\o
 slot:∀b o,h.get? b\o->H b=none->b∈fs->b∉ex->∃sl,h'.get? b\{ o with slots:=sl }
 free:∀b o,h.get? b\o->H b=none->b∉ex->H' b=none
 there:∀b o,h.get? b\o->b∉ex->∃o',h'.get? b\o'
 ip:∀b xs,H b\.tup xs->H' b\(.tup xs)
 gO:∀b o u,H b\.cq o u->H' b\(.cq o u)
 iq:∀b ps,H b\.fH ps->∃more,H' b\(.fH (ps++more))
section
variable {fs ex:Zo}{H H1:Hp}{h h1 h':Heap}{a x e:Zt}{o:HO}
def Un.any (u:Un fs ex H H1 h h1){b:Zt}{ob:Obj}(q:h.get? b\ob)(n:H b=none)(d:b∉ex):∃sl,h1.get? b\{ ob with slots:=sl }:=by
 cases c:b∈fs
 ·rwa[u.slot b ob q n c d]
 ·rwa[ob.slots,u.keep b ob q n c d]
def Un.kept (k:∀b u,h.get? b\u->h'.get? b\u):Un fs ex H H h h':=
 ⟨λb ob q _ _ _=>k b ob q,λb ob q _ _ _=>⟨ob.slots,k b ob q⟩,λ_ _ _ n _=>n,λb ob q _=>⟨ob,k b ob q⟩,λ_ _ q=>q,λ_ _ _ q=>q,λ_ c q=>⟨#[],by rw[q];simp⟩⟩
def Un.refl:Un fs ex H H h h:=Un.kept λ_ _ q=>q
def Un.laid (k:∀b u,h.get? b\u->h'.get? b\u)(d:h.objs.size<=a)(c:H a=none):Un fs ex H (upd H a o) h h' where
 keep:=λb u q _ _ _=>k b u q
 slot:=λb u q _ _ _=>⟨u.slots,k b u q⟩
 free:=λb u q n _=>by rw[ai (ajL (ajK (ajz q) d))];rwa[n]
 there:=λb u q _=>⟨u,k b u q⟩
 ip:=λb f q=>by rw[ai (aw q c)];rwa[q]
 gO:=λb u f q=>by rw[ai (aw q c)];rwa[q]
 iq:=λb g q=>⟨#[],by rw[ai (aw q c),q];simp⟩
def Un.write (mu:uX (H x))(l:e=x\/H e\.own x)(k:∀b u,b≠e->h.get? b\u->h'.get? b\u)(g:∃u,h'.get? e\u):Un fs ex H (upd H x o) h h':=by
 let i:∀b,H b=none->b≠x:=λb n z=>by subst z;rw[n]at mu;rwa[mu]
 let d:∀b,H b=none->b≠e:=λb n z=>by
  cbv
 let c:∀b u,H b\u->¬uX (some u)->b≠x:=λb u q nm z=>by cbv
 rwa[⟨λb u q n _ _=>k b u (d b n) q,λb u q n _ _=>⟨u.slots,k b u (d b n) q⟩,λb u q n _=>[ai (i b n)]▸n,λb u q _=>?_,λb f q=>[ai (c b _ q λz=>z)]▸q,λb u f q=>[ai (c b _ q λz=>z)]▸q,λb j q=>⟨#[],by rw[ai (c b _ q λz=>z),q];simp⟩⟩]
 cbv
end
noncomputable def ND (h:Heap)(H:Hp):Zo:=(~~~h.objs.size).filter λa=>(H a).isSome
def qv (h:Heap)(H:Hp):Heap:=PySem.W.hideAll h (ND h H)
def HK (h:Heap)(H:Hp):(qv h H).objs.size=h.objs.size:=PySem.W.hideAll_size _ _
def vz {H:Hp}{o:Obj}(e:h.get? b\o)(n:H b=none):(qv h H).get? b\o:=
 amb _ e λa=>by
  let q:(H b).isSome=true:=(akY.mp a).2
  cbv
def P9 {H:Hp}{o:Obj}(e:(qv h H).get? b\o):h.get? b\o/\H b=none:=by
 let a:h.get? b\o:=PySem.W.of_hideAll (ND h H) e;erw[a]
 cases q:H b with
 |none=>rfl
 |some x=>
  let c:b∈ND h H:=akY.mpr ⟨akF.mpr (ajz a),by simp[q]⟩;let z:(qv h H).get? b=none:=PySem.W.hideAll_none (ND h H) c
  cbv
noncomputable def Qa (g h:Heap)(L:Zt):List (Zt×Obj):=(~~~h.objs.size).filterMap λa=>if a=L\/(g.get? a).isSome=true then none else (h.get? a).map λo=>(a,o)
def rest (g h:Heap)(L d:Zt):List (Zt×Obj):=(Qa g h L).filter λp=>decide (p.1≠d)
end L2
variable {H I J:L2.Hp}{q:L2.V}{L:List L2.V}
namespace L2
open PySem PySem.Spec PyProof.Rows
structure Mod (K:Za1) (mg:Str->Zm) (base:Heap):Prop where
 wJ:K.In base
 glob:base.Ns mainGlobals mg
 blt:∃mb,base.Ns builtinsNs mb/\∀x:Str,x≠"__name__"->mb x=bootBuiltins x
 nolimit:base.NoLimit
structure Cx where
 prog:Program
 w:World
 K:Za1
 mg:Str->Zm
 base:Heap
 A:Around
 N:Zq
 ej:Zv
 vA:Hp
 env:Env
 outer:Zr
 stack:Zr
 ex:Zo
 fn:Str->Bool
 calm:Bool
 pn:List (Zt×Obj)
 xe:Zu->Zv->Prop
def cJ (l:Zr):Zo:=l.filterMap (·.frame)
abbrev Cx.fs (X:Cx):Zo:=cJ X.outer
def RJ (sc:Scope)(x:Str):Prop:=sc.names.lookup x=some .local\/sc.names.lookup x=some .cell\/sc.names.lookup x=some .free
def Loc (sc:Scope)(x:Str):Prop:=sc.names.lookup x=some .local\/sc.names.lookup x=some .cell
def Look (env:Env)(h:Heap)(m:Str->Zm)(x:Str)(u:Zu):Prop:=
 (env.kindOf x=some .local/\m x\u)\/((env.kindOf x=some .cell\/env.kindOf x=some .free)/\∃c,env.cells.lookup x\c/\h.IsCell c (some u))
structure Cx.Ok (X:Cx):Prop where
 mod:Mod X.K X.mg X.base
 kind:X.env.scope.kind=.function
 glob:X.env.globals=mainGlobals
 blt:X.env.builtins=builtinsNs
 above:X.ej.heap.objs.size<=X.env.locals
 inj:∀x y c,X.env.cells.lookup x\c->X.env.cells.lookup y\c->x=y
 has:∀x,(X.env.kindOf x=some .cell\/X.env.kindOf x=some .free)->∃c,X.env.cells.lookup x\c
 Bg:∀x c,X.fn x=true->X.env.cells.lookup x\c->X.ej.heap.objs.size<=c
 hd:X.calm=true->X.A.handled=none
 frames:X.A.frames\X.stack
 EF:X.stack=X.outer\/(X.stack=X.env::X.outer/\X.env.frame\X.env.locals)
 NF:∀b∈X.ex,b≠X.env.locals/\∀x c,X.env.cells.lookup x\c->c≠b
 bs:∀b o,X.base.get? b\o->X.ej.heap.get? b\o/\X.vA b=none
 su:X.base.objs.size<=X.ej.heap.objs.size
 vB:∀b o,X.base.get? b\o->b∉X.ex
 yy:∀b∈X.ex,b∉X.fs
 jq:X.ej.heap.FunFrames X.base X.outer
 uY:∀b∈X.fs,X.vA b=none
structure Inv (X:Cx) (pins:List (Zt×Obj)) (σ:List Zc) (H:Hp) (s:Zv):Prop where
 ok:X.Ok
 os:s.os=X.ej.os
 bare:AllBare s.gens
 base:Un X.fs X.ex X.vA H X.ej.heap s.heap
 loc:∃m,s.heap.Ns X.env.locals m/\∀(i:Nat) (x:Str) (v:V),X.N[i]?\x->σ[i]?\some v->RJ X.env.scope x->∃u,RelV v u/\Look X.env s.heap m x u
 cell:∀x c,X.env.cells.lookup x\c->∃v,s.heap.IsCell c v
 free:H X.env.locals=none
 gP:∀x c,X.env.cells.lookup x\c->H c=none
 pin:∀p∈X.pn++pins,s•p.1\p.2/\H p.1=none/\p.1≠X.env.locals/\p.1∉X.fs/\∀v,p.2.data≠.cell v
 aM:dz X.prog X.w H s.heap
 len:⇑σ=⇑X.N
section
variable {X:Cx}{pins:List (Zt×Obj)}{σ:List Zc}{H H':Hp}{s:Zv}{h':Heap}
def Cx.Ok.abe (ok:X.Ok){b:Zt}{o:Obj}(e:X.base.get? b\o):b∉X.fs:=λa=>by
 have:=(ok.jq.mem a).1
 cbv
def Inv.bs (I:Inv X pins σ H s):∀b o,X.base.get? b\o->s•b\o/\H b=none:=λb o e=>
 ⟨I.base.keep b o (I.ok.bs b o e).1 (I.ok.bs b o e).2 (I.ok.abe e) (I.ok.vB b o e),I.base.free b o (I.ok.bs b o e).1 (I.ok.bs b o e).2 (I.ok.vB b o e)⟩
def Inv.bk (I:Inv X pins σ H s):∀b o,X.base.get? b\o->s•b\o:=λb o e=>(I.bs b o e).1
def Inv.mod (I:Inv X pins σ H s):Mod X.K X.mg X.base:=I.ok.mod
def Inv.dw (I:Inv X pins σ H s):X.K.In s.heap:=I.ok.mod.wJ.keeps I.bk
def Inv.lt (I:Inv X pins σ H s):X.env.locals<↥s:=let ⟨_,a,_⟩:=I.loc;a.lt
def Inv.sz (I:Inv X pins σ H s):X.ej.heap.objs.size<=↥s:=aju I.ok.above (akZ I.lt)
def Inv.F9 (I:Inv X pins σ H s){a:Zt}(h:↥s<=a):a∉X.fs:=λc=>by
 let⟨_,o,b,_⟩:=I.ok.jq.mem c;rwa[absurd (ajK (ajz b) (aju I.sz h)) (akA _)]
def Inv.mx (I:Inv X pins σ H s):∀x c,X.env.cells.lookup x\c->c≠X.env.locals:=λx c e z=>by
 let⟨v,o,f,hd⟩:=I.cell x c e;let⟨m,⟨h,g,d,b,a,_⟩,_⟩:=I.loc
 cbv
def Inv.jq (I:Inv X pins σ H s):s.heap.FunFrames X.base X.outer:=by
 let all:∀(l:Zr),(∀b∈cJ l,b∈X.fs)->X.ej.heap.FunFrames X.base l->s.heap.FunFrames X.base l:=by
  intro l
  induction l with
  |nil=>intro _ _;trivial
  |cons env r i=>
   intro f j;let⟨g,⟨L,o,d,m,h,hd⟩,k⟩:=j;let a:L∈X.fs:=f L (by unfold cJ;cbv);let⟨sl,e⟩:=I.base.slot L o h (I.ok.uY L a) a λz=>I.ok.yy L z a
   rwa[g,⟨L,_,d,m,e,hd⟩,i (λb c=>f b (by unfold cJ;rw[amc,d];rwa[ajP _ c])) k]
 rwa[all X.outer (λ_ c=>c) I.ok.jq]
def Inv.stack (I:Inv X pins σ H s):s.heap.FunFrames X.base X.stack:=by
 rcases I.ok.EF with e|⟨e,a⟩
 ·rw[e];rwa[I.jq]
 ·rw[e];let⟨m,b,_⟩:=I.loc;rwa[.cons (by rw[I.ok.kind];decide) a b ?_ I.jq];rwa[Heap.get?_none_of_le (aju I.ok.su I.ok.above)]
def Inv.Bh (I:Inv X pins σ H s):∀b∈cJ X.stack,b∈X.env.locals::X.fs:=λb a=>by
 rcases I.ok.EF with e|⟨e,c⟩
 ·cbv
 ·rw[e]at a;unfold cJ at a;rw[amc,c]at a;rwa[a]
def Inv.pU (I:Inv X pins σ H s):∀b∈cJ X.stack,H b=none:=λb a=>by
 rcases ajE.mp (I.Bh b a) with e|a
 ·rw[e];rwa[I.free]
 ·let⟨_,o,c,_⟩:=I.ok.jq.mem a;rwa[I.base.free b o c (I.ok.uY b a) λz=>I.ok.yy b z a]
def Inv.step {g':Array GenState}{t':Nat}{d':Drawn}{ch:Zo}(I:Inv X pins σ H s)
 (g:∀b∈ch,(b∈X.ex\/X.ej.heap.objs.size<=b)/\b≠X.env.locals/\(∀x c,X.env.cells.lookup x\c->c≠b)/\∀p∈X.pn++pins,p.1≠b)
 (keep:∀b o,b≠X.env.locals->b∉X.fs->b∉ch->s•b\o->H b=none->h'.get? b\o)
 (slot:∀b o,b≠X.env.locals->b∈X.fs->b∉ch->s•b\o->H b=none->∃sl,h'.get? b\{ o with slots:=sl }) (free:∀b o,b∉ch->s•b\o->H b=none->H' b=none)
 (there:∀b o,b∉ch->s•b\o->∃B,h'.get? b\B)
 (ip:∀b j,H b\.tup j->H' b\.tup j) (gO:∀b o u,H b\.cq o u->H' b\.cq o u) (iq:∀b C,H b\.fH C->∃more,H' b\.fH (C++more))
 (ns:∀m,s.heap.Ns X.env.locals m->h'.Ns X.env.locals m) (aM:dz X.prog X.w H' h') (J:AllBare g'):
 Inv X pins σ H' { s with heap:=h',gens:=g',drawn:=d',toks:=t' }:=by
 let A:∀b o,X.ej.heap.get? b\o->b≠X.env.locals:=λb o e=>ajL (ajK (ajz e) I.ok.above)
 let h:∀b o,X.ej.heap.get? b\o->b∉X.ex->b∉ch:=λb o e a w=>by
  rcases (g b w).1 with z|z
  ·rwa[a z]
  ·rwa[absurd (ajK (ajz e) z) (akA _)]
 let cellK:∀x c,X.env.cells.lookup x\c->∀v,s.heap.IsCell c v->h'.IsCell c v:=λx c e v ζ=>by
  let⟨o,y,hd⟩:=ζ
  let f:c∉ch:=λz=>(g c z).2.2.1 x c e rfl
  cases hc:c∈X.fs
  ·let⟨sl,q⟩:=slot c o (I.mx x c e) hc f y (I.gP x c e);rwa[_,q,hd]
  ·rwa[o,keep c o (I.mx x c e) hc f y (I.gP x c e),hd]
 rwa[⟨I.ok,I.os,J,⟨λb o e n w a=>?_,λb o e n w a=>?_,λb o e n a=>?_,λb o e a=>?_,λb j e=>ip b j (I.base.ip b j e),λb o j e=>gO b o j (I.base.gO b o j e),λb C e=>?_⟩,5,λx c e=>?_,5,λx c e=>?_,λp F=>?_,aM,I.len⟩]
 ·rwa[keep b o (A b o e) w (h b o e a) (I.base.keep b o e n w a) (I.base.free b o e n a)]
 ·let⟨sl,t⟩:=I.base.slot b o e n w a;let⟨E,D⟩:=slot b _ (A b o e) w (h b o e a) t (I.base.free b o e n a);rwa[E,D]
 ·let⟨B,t⟩:=I.base.there b o e a;rwa[free b B (h b o e a) t (I.base.free b o e n a)]
 ·let⟨B,t⟩:=I.base.there b o e a;rwa[there b B (h b o e a) t]
 ·let⟨m1,t⟩:=I.base.iq b C e
  cbv
 ·let⟨m,M,L⟩:=I.loc;rwa[⟨m,ns m M,λi x v t D N=>?_⟩];let⟨u,r,l⟩:=L i x v t D N;erw[u,r];rcases l with l|⟨k,c,e,z⟩
  ·rwa[.inl l]
  ·rwa[.inr ⟨k,c,e,cellK x c e _ z⟩]
 ·let⟨v,z⟩:=I.cell x c e;rwa[v,cellK x c e v z]
 ·let⟨m,⟨o,_,_,y,_⟩,_⟩:=I.loc;rwa[free _ o (λz=>(g _ z).2.1 rfl) y I.free]
 ·let⟨v,o,y,hd⟩:=I.cell x c e;rwa[free c o (λz=>(g c z).2.2.1 x c e rfl) y (I.gP x c e)]
 ·let⟨e,n,ne,G,d⟩:=I.pin p F;let f:p.1∉ch:=λz=>(g p.1 z).2.2.2 p F rfl
  rwa[keep p.1 p.2 ne G f e n,free p.1 p.2 f e n,ne,G,d]
def Inv.un {t':Nat}(I:Inv X pins σ H s)(u:Un X.fs [] H H' s.heap h')(aM:dz X.prog X.w H' h'):Inv X pins σ H' { s with heap:=h',toks:=t' }:=by
 let⟨m,⟨o,p,v,g,r⟩,_⟩:=id I.loc;let⟨sl,i⟩:=u.any g I.free (by simp)
 exact I.step (g':=s.gens) (d':=s.drawn) (ch:=[]) (λ_ z=>nomatch z) (λb o _ c _ e n=>u.keep b o e n c (by simp)) (λb o _ c _ e n=>u.slot b o e n c (by simp)) (λb o _ e n=>u.free b o e n (by simp)) (λb o _ e=>u.there b o e (by simp)) u.ip u.gO u.iq (λt j=>by
  let⟨q,f,d,a,h⟩:=j;rw[g]at a;ext a;rwa[_,f,d,i,h]) aM I.bare
def Inv.call {g':Array GenState}{t':Nat}{d':Drawn}{ch:Zo}(I:Inv X pins σ H s)(u:Un (cJ X.stack) ch H H' s.heap h')(aM:dz X.prog X.w H' h')(l:AllBare g')
 (d:∀b∈ch,(b∈X.ex\/X.ej.heap.objs.size<=b)/\b≠X.env.locals/\(∀x c,X.env.cells.lookup x\c->c≠b)/\∀p∈X.pn++pins,p.1≠b):
 Inv X pins σ H' { s with heap:=h',gens:=g',drawn:=d',toks:=t' }:=by
 let⟨m,⟨o,t,y,i,r⟩,_⟩:=id I.loc;let⟨sl,g⟩:=u.any i I.free λz=>(d _ z).2.1 rfl
 exact I.step (ch:=ch) d (λb o g k hc e n=>u.keep b o e n (λz=>(ajE.mp (I.Bh b z)).elim g k) hc) (λb o _ _ hc e n=>u.any e n hc) (λb o hc e n=>u.free b o e n hc) (λb o hc e=>u.there b o e hc) u.ip u.gO u.iq (λw q=>by
  let⟨v,h,f,a,j⟩:=q;rw[i]at a;ext a;rwa[_,h,f,g,j]) aM l
def Inv.turned {t':Nat}{it:Zt}(I:Inv X pins σ H s)(k:∀b o,b≠it->s•b\o->h'.get? b\o)(C:H it=none)(a:it≠X.env.locals)
 (g:it∈X.ex\/X.ej.heap.objs.size<=it) (d:∀x c,X.env.cells.lookup x\c->c≠it) (j:∀p∈X.pn++pins,p.1≠it):Inv X pins σ H { s with heap:=h',toks:=t' }:=by
 let l:∀b u,H b\u->b≠it:=λb u e z=>by cbv
 refine I.step (g':=s.gens) (d':=s.drawn) (ch:=[it]) (λb f=>?_) (λb o _ _ hc e _=>k b o (λz=>hc (by simp[z])) e) (λb o _ _ hc e _=>⟨o.slots,k b o (λz=>hc (by simp[z])) e⟩) (λ_ _ _ _ n=>n)
  (λb o hc e=>⟨o,k b o (λz=>hc (by simp[z])) e⟩) (λ_ _ e=>e) (λ_ _ _ e=>e) (λb y e=>⟨#[],by rw[e];simp⟩) (λm t=>?_) (λb u e=>?_) I.bare
 ·let e:b=it:=by simpa using f
  subst e;rwa[g,a,d,j]
 ·let⟨o,i,w,h,r⟩:=t;rwa[o,i,w,k _ o (akB a) h,r]
 ·rwa[(I.aM b u e).fD (λc v hc q=>k c v ?_ q) (λ_ q=>q) λ_ _ q=>q]
  cbv
def Inv.tok (I:Inv X pins σ H s)(t:Nat):Inv X pins σ H { s with toks:=t }:=I.un (h':=s.heap) (t':=t) Un.refl I.aM
def Inv.kept {t':Nat}(I:Inv X pins σ H s)(k:∀b u,s•b\u->h'.get? b\u):Inv X pins σ H { s with heap:=h',toks:=t' }:=I.un (Un.kept k) (I.aM.kept k)
def Inv.laid {o:HO}{t':Nat}(I:Inv X pins σ H s)(k:∀b u,s•b\u->h'.get? b\u)(c:↥s<=a)(new:bY X.prog X.w (upd H a o) h' a o):
 Inv X pins σ (upd H a o) { s with heap:=h',toks:=t' }:=I.un (Un.laid k c (I.aM.fresh c)) (I.aM.laid k c new)
def Inv.write {x e:Zt}{o:HO}{t':Nat}(I:Inv X pins σ H s)(mu:uX (H x))(c:e=x\/H e\.own x)(k:∀b u,b≠e->s•b\u->h'.get? b\u)(a:∃u,h'.get? e\u)
 (new:bY X.prog X.w (upd H x o) h' x o):Inv X pins σ (upd H x o) { s with heap:=h',toks:=t' }:=I.un (Un.write mu c k a) (I.aM.write mu c k a new)
def Inv.jG (I:Inv X pins σ H s)(h:∀p∈o,s•p.1\p.2/\H p.1=none/\p.1≠X.env.locals/\p.1∉X.fs/\∀v,p.2.data≠.cell v):Inv X o σ H s:=
 ⟨I.ok,I.os,I.bare,I.base,I.loc,I.cell,I.free,I.gP,λp a=>(ajr.mp a).elim (λz=>I.pin p (ajG _ z)) (h p),I.aM,I.len⟩
def vC (d:Z.Nodup){i j:Nat}{x:Str}(a:Z[i]?\x)(b:Z[j]?\x):i=j:=by
 let⟨g,c⟩:=aji.mp a;let⟨f,e⟩:=aji.mp b;rwa[(List.getElem_inj d).mp (c.trans e.symm)]
def zm {M:Model}{v:V}(I:Inv X pins σ H s)(hN:X.N.Nodup)(L:X.N[i]?\x)(l:Loc X.env.scope x)(r:RelV v u)
 (h:∀O,Inv X pins (σ.set i (some v)) H O->(∃a,Heap.SameBut a s.heap O.heap/\(a=X.env.locals\/X.env.cells.lookup x\a))->U () O) (hf:X.fn x=true\/X.env.scope.names.lookup x=some .local:=by trivial):wpAny M A (storeName X.env x u) U E s:=by
 let⟨m,hn,hl⟩:=id I.loc;let J:(X.env.scope.kind==.class || (X.env.scope.kind==.module && X.env.locals !=X.env.globals))=false:=by rw[I.ok.kind];rfl
 let B:i < ⇑σ:=by rw[I.len];rwa[(aji.mp L).1]
 let mx:=I.mx
 let tracked:∀{a:Zt} {h':Heap},(∃o,s•a\o/\H a=none)->Heap.SameBut a s.heap h'->dz X.prog X.w H h':=λ{a h'} ha f b ob e=>by
  let⟨_,_,T⟩:=ha;rwa[(I.aM b ob e).fD (λc Q t q=>(f.2 c ?_).trans q) (λ_ q=>q) λ_ _ q=>q]
  cbv
 rcases l with G|G
 ·rwa[wpAny_storeName_local G hn (λh' hn' f=>?_) J];let⟨oL,_,_,hoL,_⟩:=id hn;rwa[h _ ⟨I.ok,I.os,I.bare,⟨λb o e n C l=>?_,λb o e n C l=>?_,I.base.free,λb o e l=>?_,I.base.ip,I.base.gO,I.base.iq⟩,⟨_,hn',λj y R g w e3=>?_⟩,λy c e=>?_,I.free,I.gP,λp hp=>?_,tracked ⟨oL,hoL,I.free⟩ f,by simpa using I.len⟩ ⟨_,f,.inl rfl⟩]
  ·rwa[(f.2 b (ajL (ajK (ajz e) I.ok.above))).trans (I.base.keep b o e n C l)]
  ·let⟨Y,g⟩:=I.base.slot b o e n C l;rwa[Y,(f.2 b (ajL (ajK (ajz e) I.ok.above))).trans g]
  ·let⟨o',g⟩:=I.base.there b o e l;rwa[o',(f.2 b (ajL (ajK (ajz e) I.ok.above))).trans g]
  ·cases D:j=i
   ·subst D;rw[L]at g;ext g;rw[ajV B]at w;ext w;rwa[u,r,.inl ⟨G,by simp⟩]
   ·rw[ake (akB D)]at w;let⟨u',S,q⟩:=hl j y R g w e3;erw[u',S];rcases q with ⟨k,e⟩|⟨k,c,e,z⟩
    ·rwa[.inl ⟨k,?_⟩];have:y≠x:=λe=>D (vC hN g (e ▸ L))
     simp[this,e]
    ·rwa[.inr ⟨k,c,e,z.sameBut f (mx y c e)⟩]
  ·let⟨Q,z⟩:=I.cell y c e;rwa[Q,z.sameBut f (mx y c e)]
  ·let⟨e,n,ne,nf,d⟩:=I.pin p hp;rwa[(f.2 p.1 ne).trans e,n,ne,nf,d]
 ·let F:X.fn x=true:=by
   rcases hf with z|z
   ·rwa[z]
   ·cbv
  let⟨c,t⟩:=I.ok.has x (.inl G);let⟨Q,z⟩:=I.cell x c t;rwa[wpAny_storeName_cell I.ok.kind G t z (λh' Z f=>?_)];let⟨oc,P,ahS⟩:=id z;rwa[h (s<*h') ⟨I.ok,I.os,I.bare,⟨λb o e n C l=>?_,λb o e n C l=>?_,I.base.free,λb o e l=>?_,I.base.ip,I.base.gO,I.base.iq⟩,⟨m,hn.sameBut f (akB (mx x c t)),λj y R g w e3=>?_⟩,λy N e=>?_,I.free,I.gP,λp hp=>?_,tracked ⟨oc,P,I.gP x c t⟩ f,by simpa using I.len⟩ ⟨c,f,.inr t⟩]
  ·rwa[(f.2 b (ajL (ajK (ajz e) (I.ok.Bg x c F t)))).trans (I.base.keep b o e n C l)]
  ·let⟨Y,g⟩:=I.base.slot b o e n C l;rwa[Y,(f.2 b (ajL (ajK (ajz e) (I.ok.Bg x c F t)))).trans g]
  ·let⟨o',g⟩:=I.base.there b o e l;rwa[o',(f.2 b (ajL (ajK (ajz e) (I.ok.Bg x c F t)))).trans g]
  ·cases D:j=i
   ·subst D;rw[L]at g;ext g;rw[ajV B]at w;ext w;rwa[u,r,.inr ⟨.inl G,c,t,Z⟩]
   ·rw[ake (akB D)]at w;let⟨u',S,q⟩:=hl j y R g w e3;erw[u',S];rcases q with q|⟨k,N,e,z'⟩
    ·rwa[.inl q]
    ·rwa[.inr ⟨k,N,e,z'.sameBut f ?_⟩];rintro rfl;rwa[D (vC hN g (I.ok.inj _ _ _ e t ▸ L))]
  ·cases W:N=c
   ·cbv
   ·let⟨w2,z2⟩:=I.cell y N e;rwa[w2,z2.sameBut f W]
  ·let⟨e,n,ne,nf,d⟩:=I.pin p hp;rwa[⟨(f.2 p.1 ?_).trans e,n,ne,nf,d⟩]
   cbv
def qx {M:Model}{v:V}(I:Inv X pins σ H s)(d:X.N.Nodup)(e:X.N[i]?\x)(f:Loc X.env.scope x)(r:RelV v u)
 (h:∀a,Inv X pins (σ.set i (some v)) H a->U () a) (b:X.fn x=true\/X.env.scope.names.lookup x=some .local:=by trivial):wpAny M A (storeName X.env x u) U E s:=
 zm I d e f r (λa c _=>h a c) b
def Inv.Ga {s':Zv}{ch:Zo}(I:Inv X pins σ H s)(h:s'.os=s.os)(u:Un (cJ X.stack) ch H H' s.heap s'.heap)(aM:dz X.prog X.w H' s'.heap)(i:AllBare s'.gens)
 (a:∀b∈ch,(b∈X.ex\/X.ej.heap.objs.size<=b)/\b≠X.env.locals/\(∀x c,X.env.cells.lookup x\c->c≠b)/\∀p∈X.pn++pins,p.1≠b):Inv X pins σ H' s':=by
 let⟨h',g,d,f,j⟩:=s';let e:j=s.os:=h;subst e;rwa[I.call (g':=g) (t':=f) (d':=d) u aM i a]
end
abbrev XK:=Zu->Zp->Hp->Prop
abbrev St:=List Zc
abbrev VK:=V->Hp->Prop
abbrev TE:=St->Hp->VK->Prop
abbrev TT:=St->Hp->(Bool->Hp->Prop)->Prop
abbrev TA:=St->Hp->(Zb->Hp->Prop)->Prop
structure Ends where
 nx:St->Hp->Prop
 rt:VK
 bk:St->Hp->Prop:=λ_ _=>False
 ct:St->Hp->Prop:=λ_ _=>False
abbrev TS:=Ends->St->Hp->Prop
def EP (X:Cx)(a:List (Zt×Obj))(d:St)(Q:VK)(u:Zu)(c:Zv):Prop:=∃v b,Inv X a d b c/\RelV v u/\Q v b
def TP (X:Cx)(a:List (Zt×Obj))(e:St)(Q:Bool->Hp->Prop)(b:Bool)(d:Zv):Prop:=∃c,Inv X a e c d/\Q b c
def AP (X:Cx)(a:List (Zt×Obj))(f:St)(Q:Zb->Hp->Prop)(e:Zl)(d:Zv):Prop:=∃b c,Inv X a f c d/\Vals b e/\Q b c
def SP (X:Cx)(b:List (Zt×Obj))(D:Ends)(f:Flow)(d:Zv):Prop:=
 match f with
 |.next=>∃ a c,Inv X b a c d/\D.nx a c
 |.brk=>∃ a c,Inv X b a c d/\D.bk a c
 |.cont=>∃ a c,Inv X b a c d/\D.ct a c
 |.ret u=>∃v a c,Inv X b a c d/\RelV v u/\D.rt v c
def PE (X:Cx)(e:Expr)(t:TE):Prop:=
 ∀(a:List (Zt×Obj)) (s:Zv) (b:St) (H:Hp) (Q:VK),Inv X a b H s->t b H Q->X⁻¹ X.A (eval e X.env) (EP X a b Q) X.xe s
def PT (X:Cx)(e:Expr)(t:TT):Prop:=
 ∀(a:List (Zt×Obj)) (s:Zv) (b:St) (H:Hp) (Q:Bool->Hp->Prop),Inv X a b H s->t b H Q->X⁻¹ X.A (isTrue e X.env (eval e X.env)) (TP X a b Q) X.xe s
def PW (X:Cx)(e:Expr)(t:TT):Prop:=
 ∀(whole:Sem Zu) (a:List (Zt×Obj)) (s:Zv) (b:St) (H:Hp) (Q:Bool->Hp->Prop),Inv X a b H s->t b H Q->X⁻¹ X.A (isTrue e X.env whole) (TP X a b Q) X.xe s
def PW.pt {X:Cx}{t:TT}(h:PW X e t):PT X e t:=h _
def PA (X:Cx)(d:Zs)(t:TA):Prop:=
 ∀(b:Pos) (a:List (Zt×Obj)) (s:Zv) (c:St) (H:Hp) (Q:Zb->Hp->Prop),Inv X a c H s->t c H Q->X⁻¹ X.A (spliced (backTo b (starEach d X.env))) (AP X a c Q) X.xe s
def PS (X:Cx)(st:Stmt)(t:TS):Prop:=
 ∀(a:List (Zt×Obj)) (s:Zv) (b:St) (H:Hp) (D:Ends),Inv X a b H s->t D b H->X⁻¹ X.A (exec st X.env) (SP X a D) X.xe s
def iY (X:Cx)(st:List Stmt)(t:TS):Prop:=
 ∀(a:List (Zt×Obj)) (s:Zv) (b:St) (H:Hp) (D:Ends),Inv X a b H s->t D b H->X⁻¹ X.A (execs st X.env) (SP X a D) X.xe s
def aZ {c:Type}{t:Sem c}{Q b:c->Zv->Prop}{M:Model}(h:wpAny M A t Q E s)(d:∀a s,Q a s->b a s):wpAny M A t b E s:=akq h d λ_ _ x=>x
end L2
variable {D:L2.St}{r:L2.TE}{G:L2.Ends}{X:L2.Cx}
namespace L2
open PySem PySem.Spec PyProof.Rows
section
variable {X:Cx}
def bin {b:Expr}{l:TE}(B:PE X e r)(o:PE X b l){a:List (Zt×Obj)}{s:Zv}{c:St}{H:Hp}{R:V->V->Hp->Prop}(I:Inv X a c H s)(h:r c H λx k=>l c k λy d=>R x y d)
 {m:Type} {Q:m->Zv->Prop} {f:Zu->Zu->Sem m}
 (w:∀v u j x y d,Inv X a c d j->RelV x v->RelV y u->R x y d->X⁻¹ X.A (f v u) Q X.xe j):
 X⁻¹ X.A (eval e X.env) (λv i=>X⁻¹ X.A (eval b X.env) (λu g=>X⁻¹ X.A (f v u) Q X.xe g) X.xe i) X.xe s:=by
 rwa[aZ (B a s c H _ I h) λv z ζ=>?_];let⟨x,k,p,n,q⟩:=ζ
 rwa[aZ (o a z c k _ p q) λu j ζ=>?_];let⟨y,d,t,A,C⟩:=ζ
 rwa[w v u j x y d t n A C]
inductive jr (i:Nat) (σ:St) (H:Hp) (Q:VK):Prop
 |mk (v:V):σ[i]?\some v->Q v H->jr i σ H Q
def tC (v:V):TE:=λ_ H Q=>Q v H
def RK (o:X.N[i]?\x)(w:RJ X.env.scope x)(f:(x==("__debug__":Str))=false:=by decide)(g:(x==("__classdict__":Str))=false:=by decide):PE X (.Name x p) (jr i):=by
 intro d s n H Q I h;let⟨v,e,h⟩:=h;let⟨m,q,k⟩:=I.loc;let⟨u,r,l⟩:=k i x v o e w;let fin:EP X d n Q u s:=⟨v,H,I,r,h⟩;rcases l with ⟨b,t⟩|⟨b,c,j,a⟩
 ·rwa[wpAny_Name (wpAny_loadName_local I.ok.kind b q t fin) f]
 ·rcases b with b|b
  ·rwa[wpAny_Name (wpAny_loadName_cell I.ok.kind b j a fin) f]
  ·rwa[wpAny_Name (wpAny_loadName_free I.ok.kind b j a fin g) f]
def av {i j a}:PE X (.Constant (.int i) j a) (tC (.int i)):=λ_ _ _ H _ I h=>wpAny_Constant_int ⟨.int i,H,I.tok _,⟨12⟩,h⟩
def fk {b j a}:PE X (.Constant (.bool b) j a) (tC (.bl b)):=λ_ _ _ H _ I h=>Constant_bool ⟨.bl b,H,I,2,h⟩
def dk {j a}:PE X (.Constant .none j a) (tC .non):=λ_ _ _ H _ I h=>Constant_none ⟨.non,H,I,2,h⟩
def RL {x j a}:PE X (.Constant (.str x) j a) (tC (.str x)):=λ_ _ _ H _ I h=>Calls.Constant_str ⟨.str x,H,I.tok _,⟨12⟩,h⟩
def Gl (X:Cx)(x:Str):Prop:=X.env.kindOf x=some .globalImplicit
def kD (I:Inv X o D H s)(c:Gl X x)(b:X.mg x\u)(h:Q u s)
 (a:(x==("__debug__":Str))=false:=by decide):X⁻¹ X.A (eval (.Name x p) X.env) Q E s:=
 Calls.Name_function_global I.ok.kind c (Calls.loadGlobal_global ([I.ok.glob]▸I.mod.glob.keeps I.bk) b h) a
def iu (I:Inv X o D H s)(f:Gl X x)(b:X.mg x=none)(c:bootBuiltins x\u)(h:Q u s)
 (g:x≠"__name__":=by decide) (a:(x==("__debug__":Str))=false:=by decide):X⁻¹ X.A (eval (.Name x p) X.env) Q E s:=by
 let⟨i,e,d⟩:=I.mod.blt;rwa[Calls.Name_function_global I.ok.kind f (Calls.loadGlobal_builtin ([I.ok.glob]▸I.mod.glob.keeps I.bk) b ([I.ok.blt]▸e.keeps I.bk) ((d x g).trans c) h) a]
def ub {v:V}(d:Gl X x)(b:X.mg x=none)(c:bootBuiltins x\u)(r:RelV v u)(e:x≠"__name__":=by decide)(a:(x==("__debug__":Str))=false:=by decide):PE X (.Name x p) (tC v):=
 λ_ _ _ H _ I h=>iu I d b c ⟨v,H,I,r,h⟩ e a
def t2I (e b:TE)(k:Int->Int->Hp->Prop):St->Hp->Prop:=λ a H=>e a H λx d=>b a d λy c=>∃i j,x=.int i/\y=.int j/\k i j c
variable {a b:Expr}{ta tb:TE}{pos:Pos}
def PC (X:Cx)(g:CmpOp)(a b:Expr)(t:TE):Prop:=
 ∀(c:List (Zt×Obj)) (s:Zv) (f:St) (H:Hp) (Q:VK),Inv X c f H s->t f H Q->
  X⁻¹ X.A (eval a X.env) (λv e=>X⁻¹ X.A (eval b X.env) (λu d=>X⁻¹ X.A (compareOp g v u) (EP X c f Q) X.xe d) X.xe e) X.xe s
def Bi (b:Expr){c:CmpOp}(h:c≠.In)(f:c≠.NotIn):behindInMarks c b=false:=by
 let d:(c==CmpOp.In)=false:=by cbv
 let e:(c==CmpOp.NotIn)=false:=by cbv
 cases b <;> simp[behindInMarks,d,e]
def abf (p:Int->Int->Bool)(ta tb:TE):TE:=λ d H Q=>t2I ta tb (λi j c=>Q (.bl (p i j)) c) d H
abbrev NK:TE->TE->TE:=abf λi j=>decide (i<j)
def tB (t:TE):TT:=λ e H Q=>t e H λx d=>∃c,x=.bl c/\Q c d
def HL {d:CmpOp}(h:PC X d a b r)(f:behindInMarks d b=false:=by first|rwa[Bi _ (by decide) (by decide)]|rfl):PE X (.Compare a [d] [b] pos) r:=λc s g H Q I e=>wpAny_Compare1 (h c s g H Q I e) f
def HM {g:CmpOp}(h:PC X g a b r)(f:behindInMarks g b=false:=by first|rwa[Bi _ (by decide) (by decide)]|rfl):PT X (.Compare a [g] [b] pos) (tB r):=by
 intro e s o H Q I m;rwa[wpAny_isTrue_Compare1 (aZ (h e s o H _ I m) λv t f=>aZ f λu p i=>aZ i λc w ζ=>?_) f];let⟨x,n,k,j,l⟩:=ζ;let⟨d,rfl,q⟩:=l;ext j;rwa[akT ⟨n,k,q⟩]
def ja (h:PE X e r)(m:∀whole,isTrue e X.env whole=(do let v <-whole;standAt e.pos;holding [v] (truthy v)):=by intro _;rfl):PT X e (tB r):=by
 intro c s l H Q I j;rwa[isTrue_plain (aZ (h c s l H _ I j) λv n ζ=>?_) (m _)];let⟨x,k,g,f,i⟩:=ζ;let⟨d,rfl,q⟩:=i;ext f;rwa[akT ⟨k,g,q⟩]
variable {tA NM:TT}{rest:Zs}
def abg (t u:TT):TT:=λ e H Q=>t e H λc d=>if c=true then u e d Q else Q false d
def tOr (t u:TT):TT:=λ e H Q=>t e H λc d=>if c=true then Q true d else u e d Q
def abh (t:TT):TT:=λ e H Q=>t e H λc d=>Q (!c) d
def EG (f:PT X a tA):PW X (.BoolOp .And [a] pos) tA:=by
 intro i d s g H Q I h;rwa[isTrue_and (aZ (f d s g H Q I h) λc j e=>?_)]
 cases c with
 |true=>exact isTrue_and_nil e
 |false=>exact e
def pV (f:PT X a tA):PW X (.BoolOp .Or [a] pos) tA:=by
 intro i d s g H Q I h;rwa[isTrue_or (aZ (f d s g H Q I h) λc j e=>?_)]
 cases c with
 |false=>exact isTrue_or_nil e
 |true=>exact e
def HN (j:PT X a tA)(m:PW X (.BoolOp .And (b::rest) pos) NM):PW X (.BoolOp .And (a::b::rest) pos) (abg tA NM):=by
 intro k d s i H Q I h;rwa[isTrue_and (aZ (j d s i H _ I h) λc l ζ=>?_)];let⟨e,g,f⟩:=ζ
 cases c with
 |true=>exact m k d l i e Q g f
 |false=>rwa[e,g,f]
def oJ (j:PT X a tA)(m:PW X (.BoolOp .Or (b::rest) pos) NM):PW X (.BoolOp .Or (a::b::rest) pos) (tOr tA NM):=by
 intro k d s i H Q I h;rwa[isTrue_or (aZ (j d s i H _ I h) λc l ζ=>?_)];let⟨e,g,f⟩:=ζ
 cases c with
 |true=>rwa[e,g,f]
 |false=>exact m k d l i e Q g f
def jb (f:PT X a tA):PT X (.UnaryOp .Not a pos) (abh tA):=by
 intro d s g H Q I h;rwa[isTrue_not (f d s g H (λc e=>Q (!c) e) I h)]
end
def aI (K:Za1)(H:Hp)(a:Zt)(c:Zb):Prop:=
 Rd H a (.lst c)\/
  ∃(o:Obj) (b:Zn) (n:Nat),K.lookup a\o/\o.cls=.type "list"/\o.dict=none/\o.data=.seq b n/\b.size<=sizeLine/\Vals c b.toList
def bz (K:Za1)(H:Hp)(a:Zt)(c:Zb):Prop:=
 Rd H a (.tup c)\/
  ∃(o:Obj) (b:Zn) (n:Nat),K.lookup a\o/\o.cls=.type "tuple"/\o.data=.seq b n/\b.size<=sizeLine/\Vals c b.toList
noncomputable def abi:Zu->Zc
 |.none=>some .non
 |.bool b=>some (.bl b)
 |.int i _=>some (.int i)
 |.str x _=>some (.str x)
 |.bytes b _=>some (.oH b)
 |.float b _=>some (.Bf b)
 |.ref a=>some ↑a
 |.type n=>some (.ty n)
 |_=>none
def RelV.abs {x:V}(r:RelV x u):abi u\x:=by
 cases x with
 |non=>ext r;rfl
 |bl _=>ext r;rfl
 |int _=>let⟨t,rfl⟩:=r;rfl
 |str _=>let⟨t,rfl⟩:=r;rfl
 |oH _=>let⟨t,rfl⟩:=r;rfl
 |Bf _=>let⟨t,rfl⟩:=r;rfl
 |ref _=>ext r;rfl
 |ty _=>ext r;rfl
def RelV.inj {x:V}(r:RelV x u)(a:RelV q u):x=q:=Za0 (r.abs.symm.trans a.abs)
theorem Vals.inj:∀{b ys:Zb} {a:Zl},Vals b a->Vals ys a->b=ys
 |_,_,_,.nil,.nil=>rfl
 |_,_,_,.cons r t,.cons c d=>by rw[r.inj c,Vals.inj t d]
section
variable {X:Cx}{pins:List (Zt×Obj)}{σ:St}{H:Hp}{s:Zv}{a:Zt}{xs ys:Zb}
def aI.of (h:H a\.lst xs):aI K H a xs:=.inl (.inl h)
def bz.of (h:H a\.tup xs):bz K H a xs:=.inl (.inl h)
def Inv.list (I:Inv X pins σ H s)(h:aI X.K H a xs):∃b:Zl,Vals xs b/\PlainL s.heap a b.toArray/\⇑xs<=sizeLine:=by
 rcases h with h|⟨o,b,n,c,hc,hd,d,hz,r⟩
 ·let⟨z,b,n,r,e⟩:=h.ok I.aM;rwa[b,r,⟨_,n,e,222⟩,z]
 ·erw[b.toList,r,⟨o,n,I.dw a o c,hc,hd,3⟩];let e:=⇑r;simp only[alE]at e;ext
def Inv.tuple (I:Inv X pins σ H s)(h:bz X.K H a xs):∃b:Zl,Vals xs b/\IsTup s.heap a b.toArray/\⇑xs<=sizeLine:=by
 rcases h with h|⟨o,b,n,c,hc,d,hz,r⟩
 ·let⟨z,b,r,p⟩:=h.ok I.aM;rwa[b,r,p,z]
 ·erw[b.toList,r,⟨o,I.dw a o c,hc,n,3⟩];let e:=⇑r;simp only[alE]at e;ext
def Inv.K8 (I:Inv X pins σ H s)(h:aI X.K H a xs)(i:aI X.K H a ys):xs=ys:=by
 let⟨c,r,⟨o,n,e,_,_,d⟩,_⟩:=I.list h;let⟨b,j,⟨l,k,g,_,_,f⟩,_⟩:=I.list i;rw[e]at g;ext g;rw[d]at f;injection f with d1 _
 have:c=b:=by simpa using akm Array.toList d1
 subst this;rwa[r.inj j]
def Inv.HP (I:Inv X pins σ H s)(h:bz X.K H a xs)(i:bz X.K H a ys):xs=ys:=by
 let⟨c,r,⟨o,e,_,n,d⟩,_⟩:=I.tuple h;let⟨b,j,⟨l,g,_,k,f⟩,_⟩:=I.tuple i;rw[e]at g;ext g;rw[d]at f;injection f with d1 _
 have:c=b:=by simpa using akm Array.toList d1
 subst this;rwa[r.inj j]
end
abbrev Cx.wish (X:Cx) (E:Zu->Zv->Prop):Cx:={ X with xe:=E }
abbrev Cx.uZ (X:Cx):Cx:=X.wish λ_ _=>False
def Cx.Ok.wish (ok:X.Ok)(E:Zu->Zv->Prop):(X.wish E).Ok:=
 ⟨ok.mod,ok.kind,ok.glob,ok.blt,ok.above,ok.inj,ok.has,ok.Bg,ok.hd,ok.frames,ok.EF,ok.NF,ok.bs,ok.su,ok.vB,ok.yy,ok.jq,ok.uY⟩
def Cx.Ok.iw (ok:(X.wish E).Ok):X.Ok:=
 ⟨ok.mod,ok.kind,ok.glob,ok.blt,ok.above,ok.inj,ok.has,ok.Bg,ok.hd,ok.frames,ok.EF,ok.NF,ok.bs,ok.su,ok.vB,ok.yy,ok.jq,ok.uY⟩
section
variable {X:Cx}{pins:List (Zt×Obj)}{σ:St}{H:Hp}{s:Zv}{E:Zu->Zv->Prop}
def Inv.wish (I:Inv X pins σ H s)(E:Zu->Zv->Prop):Inv (X.wish E) pins σ H s:=⟨I.ok.wish E,I.os,I.bare,I.base,I.loc,I.cell,I.free,I.gP,I.pin,I.aM,I.len⟩
def Inv.iw (I:Inv (X.wish E) pins σ H s):Inv X pins σ H s:=⟨I.ok.iw,I.os,I.bare,I.base,I.loc,I.cell,I.free,I.gP,I.pin,I.aM,I.len⟩
def SP.iw {f:Flow}(h:SP (X.wish E) pins G f t):SP X pins G f t:=by
 cases f with
 |next=>let⟨a,b,I,q⟩:=h;rwa[a,b,I.iw,q]
 |brk=>let⟨a,b,I,q⟩:=h;rwa[a,b,I.iw,q]
 |cont=>let⟨a,b,I,q⟩:=h;rwa[a,b,I.iw,q]
 |ret u=>let⟨v,a,b,I,r,q⟩:=h;rwa[v,a,b,I.iw,r,q]
def iY.uZ {st:List Stmt}{t:TS}(h:iY X.uZ st t):iY X st t:=λpins s σ H D I a=>
 akq (h pins s σ H D (I.wish _) a) (λ_ _ q=>q.iw) λ_ _ z=>False.elim z
end
section
variable {X:Cx}{st:Stmt}{rest:List Stmt}{t u:TS}{e:Expr}{te:TE}{pos:Pos}
def Wo:TS:=λD a H=>D.nx a H
def aS (t u:TS):TS:=λD a H=>t { D with nx:=u D } a H
def bu:iY X [] Wo:=λ_ _ a H _ I h=>alr ⟨a,H,I,h⟩
def ah (d:PS X st t)(c:iY X rest u):iY X (st::rest) (aS t u):=by
 intro a s k H D I h;rwa[wpAny_execs_cons (aZ (d a s k H { D with nx:=u D } I h) λf i q=>?_)]
 cases f with
 |next=>
  let⟨b,j,g,q⟩:=q;rwa[c a i b j D g q]
 |ret v=>exact q
 |brk=>exact q
 |cont=>exact q
def aq (b:PS X st t):iY X [st] t:=by
 intro a s c H D I h;rwa[wpAny_execs_cons (aZ (b a s c H D I h) λf d q=>?_)]
 cases f with
 |next=>exact alr q
 |ret v=>exact q
 |brk=>exact q
 |cont=>exact q
def RM:TS:=λD a H=>D.bk a H
def vD:PS X (.Break pos) RM:=λ_ _ a H _ I h=>wpAny_Break ⟨a,H,I,h⟩
def Inv.quiet (I:Inv X o D H s):interactive X.env=false:=by simp[interactive,I.ok.kind]
def Wq (te:TE):TS:=λD a H=>te a H λ_ b=>D.nx a b
def aT (d:PE X e te)(g:swapsWith e none pos.line X.env=pure false:=by rfl):PS X (.Expr e pos) (Wq te):=by
 intro a s b H D I h;rwa[wpAny_Expr_any (aZ (d a s b H _ I h) λv k ζ=>?_) I.quiet g];let⟨x,c,i,j,f⟩:=ζ;rwa[⟨b,c,i,f⟩]
def abj (te:TE):TS:=λD a H=>te a H D.rt
def aY (d:PE X e te):PS X (.Return (some e) pos) (abj te):=by
 intro a s b H D I h;rwa[wpAny_Return_some (aZ (d a s b H _ I h) λv j ζ=>?_)];let⟨x,c,i,f,g⟩:=ζ;rwa[⟨x,b,c,i,f,g⟩]
def Wr:TS:=λD _ H=>D.rt .non H
def yz:PS X (.Return none pos) Wr:=λ_ _ a H _ I h=>wpAny_Return_none ⟨.non,a,H,I,2,h⟩
def abk (c:TT)(t u:TS):TS:=λD a H=>c a H λb d=>if b=true then t D a d else u D a d
def bI {c:Expr}{a b:List Stmt}{j:TT}(p:PT X c j)(o:iY X a t)(n:iY X b u):PS X (.If c a b pos) (abk j t u):=by
 intro f s g H D I h;rwa[wpAny_If (aZ (p f s g H _ I h) λd m ζ=>?_)];let⟨l,i,k⟩:=ζ
 cases d with
 |true=>exact o f m g l D i k
 |false=>exact n f m g l D i k
def HQ:TS:=λ_ _ _=>False
def K9:PS X st HQ:=λ_ _ _ _ _ _ h=>h.elim
def zo {a:List Stmt}:iY X a HQ:=λ_ _ _ _ _ _ h=>h.elim
end
abbrev TG:=V->St->Hp->(St->Hp->Prop)->Prop
abbrev EH:=Zb->St->Hp->(St->Hp->Prop)->Prop
def PG (X:Cx)(target:Expr)(t:TG):Prop:=
 ∀(a:List (Zt×Obj)) (s:Zv) (d:St) (H:Hp) (v:V) (u:Zu) (Q:St->Hp->Prop),Inv X a d H s->RelV v u->t v d H Q->
  X⁻¹ X.A (assign target X.env u) (λ_ e=>∃ b c,Inv X a b c e/\Q b c) X.xe s
def NP (X:Cx)(h:Zs)(t:EH):Prop:=
 ∀(a:List (Zt×Obj)) (s:Zv) (f:St) (H:Hp) (d:Zb) (c:Zl) (Q:St->Hp->Prop),Inv X a f H s->Vals d c->t d f H Q->
  X⁻¹ X.A (assignInOrder ((assignEach h X.env).map (·.2)) c) (λ_ g=>∃ b e,Inv X a b e g/\Q b e) X.xe s
abbrev La:=V->V->V->Hp->(Hp->Prop)->Prop
def RN (X:Cx)(t:La):Prop:=
 ∀(a:List (Zt×Obj)) (s:Zv) (e:St) (H:Hp) (o i v:V) (d b u:Zu) (Q:Hp->Prop),Inv X a e H s->RelV o d->RelV i b->RelV v u->t o i v H Q->
  X⁻¹ X.A (setItem d b u) (λ_ f=>∃c,Inv X a e c f/\Q c) X.xe s
section
variable {X:Cx}{pos:Pos}
def oM (i:Nat):TG:=λv a H Q=>Q (a.set i (some v)) H
def EI (d:X.N.Nodup)(e:X.N[i]?\x)(f:Loc X.env.scope x)(b:X.fn x=true\/X.env.scope.names.lookup x=some .local:=by trivial):PG X (.Name x pos) (oM i):=by
 intro a s j H v u Q I r h;rwa[wpAny_assign_Name (qx I d e f r (λg c=>⟨_,H,c,h⟩) b)]
def abl:EH:=λb a H Q=>b=[]/\Q a H
inductive NQ (t:TG) (u:EH) (vs:Zb) (σ:St) (H:Hp) (Q:(St->Hp->Prop)):Prop
 |mk (v:V) (r:Zb):vs=v::r->(t v σ H λ gL H'=>u r gL H' Q)->NQ t u vs σ H Q
def mR:NP X [] abl:=by
 intro a s b H d c Q I r h;let⟨e,h⟩:=h;subst e;rwa[assignInOrder_nil ⟨b,H,I,h⟩]
def eA {t:TG}{u:EH}(g:PG X e t)(c:NP X C u)
 (l:(assignEach (e::C) X.env).map (·.2)=assign e X.env::(assignEach C X.env).map (·.2):=by rfl):NP X (e::C) (NQ t u):=by
 intro a s m H o q Q I r h;let⟨v,p,n,h⟩:=h;subst n
 cases r with
 |cons r i=>
  rw[l];rwa[assignInOrder_cons (aZ (g a s m H _ _ _ I r h) λ_ k ζ=>?_)];let⟨b,j,d,f⟩:=ζ;rwa[c a k b j _ _ Q d i f]
inductive RP (K:Za1) (n:Nat) (t:EH) (v:V) (σ:St) (H:Hp) (Q:(St->Hp->Prop)):Prop
 |mk (a:Zt) (xs:Zb):v=↑a->bz K H a xs->⇑xs=n->t xs σ H Q->RP K n t v σ H Q
def pW {k:Nat}{t:EH}(B:X.calm=true)(h:NP X C t)
 (y:⇑(assignEach C X.env)=n:=by rfl) (d:(assignEach C X.env).findIdx? (·.1)=none:=by rfl):PG X (.Tuple C k pos) (RP X.K n t):=by
 intro c s g H v u Q I r f;let⟨a,x,A,m,w,f⟩:=f;subst A;ext r;let⟨p,q,i,E⟩:=I.tuple m;rwa[assign_Tuple_tuple (I.ok.hd B) i (by simp[y,<-w,⇑q]) d λl z=>?_]
 let j:Inv X c g H (s<*l):=I.kept (t':=s.toks) λb o e=>z b o (ajL (ajz e)) e
 rwa[h c _ g H x _ Q j ∅ f]
def abm (to b:TE)(t:La):TG:=λv a H Q=>to a H λo d=>b a d λi c=>t o i v c λe=>Q a e
def wL {i:Expr}{to:TE}{t:La}(q:PE X e to)(B:PE X i r)(A:RN X t)
 (G:∀v,assign (.Subscript e i pos) X.env v=(do
  let c <-holding [v] (eval e X.env)
  let d <-holding [v,c] (eval i X.env)
  standAt pos
  holding [v,c,d] (setItem c d v)
  release [v,c,d] []):=by intro _;rfl):PG X (.Subscript e i pos) (abm to r t):=by
 intro b s f H v u Q I a h;rwa[aje (akd (aZ (q b s f H _ I h) λc z ζ=>?_))];let⟨x,w,j,g,n⟩:=ζ;rwa[aje (akd (aZ (B b z f w _ j n) λd m ζ=>?_))];let⟨y,D,p,C,E⟩:=ζ;rwa[aje (amg (aje (akd (aZ (A b m f D x y v c d u _ p g C a E) λ_ F ζ=>?_))))];let⟨k,l,o⟩:=ζ;rwa[wpAny_release ⟨f,k,l,o⟩]
def yA (b:TE)(g:TG):TS:=λD a H=>b a H λx c=>g x a c D.nx
def sv {a:Expr}{g:TG}(p:PE X a r)(f:PG X e g)(o:swapsWithSole [e] a pos.line X.env=pure false:=by rfl)(l:swappedStores [e] a X.env=pure none:=by rfl)
 (k:(assignEach [e] X.env).map (·.2)=[assign e X.env]:=by rfl):PS X (.Assign [e] a pos) (yA r g):=by
 intro b s c H D I h;rwa[wpAny_Assign_stores (aZ (p b s c H _ I h) λv n ζ=>?_) o l];let⟨x,m,i,d,j⟩:=ζ;rw[k];rwa[aZ (f b n c m x v _ i d j) λ_ t q=>q]
def RT {pos':Pos}(o:X.N.Nodup)(l:X.N[i]?\x)(n:Loc X.env.scope x)(p:PE X e r)(k:swapsWith e (some (.Name x pos')) pos.line X.env=pure false:=by rfl)(g:X.fn x=true\/X.env.scope.names.lookup x=some .local:=by trivial):
 PS X (.Assign [.Name x pos'] e pos) (yA r (oM i)):=by
 intro a s m H D I h;rwa[wpAny_Assign_Name (aZ (p a s m H _ I h) λv t ζ=>?_) k];let⟨y,j,c,b,d⟩:=ζ;rwa[qx c o l n b (λq f=>⟨_,j,f,d⟩) g]
inductive ipI (f:Int->Int->Int) (x:V) (y:V) (H:Hp) (Q:VK):Prop
 |mk (i j:Int):x=.int i->y=.int j->Q (.int (f i j)) H->ipI f x y H Q
end
section
variable {X:Cx}{pos:Pos}
def RV (c:TT)(h:TS):TS:=λD a H=>∃W:Nat->St->Hp->Prop,(∃m,W m a H)/\∀m a H,W m a H->
 c a H λb e=>if b=true then ∃N:St->Hp->Prop,(∀ d g,N d g->∃f,f<m/\W f d g)/\h { D with nx:=N,ct:=N,bk:=D.nx } a e else D.nx a e
def jt {body:List Stmt}{r:TT}{u:TS}(w:PassesOwn (model X.prog X.w) X.A X.env X.xe)(P:PT X e r)(E:iY X body u):PS X (.While e body [] pos) (RV r u):=by
 intro c s O H D I h;let⟨W,⟨J,L⟩,turn⟩:=h;rwa[wpAny_While (codeAny_whileLoop (λn B=>∃ i z,Inv X c i z B/\W n i z) ?_ J ⟨O,H,I,L⟩)];rintro n M ⟨d,x,F,C⟩;rwa[als w (aZ (P c M d x _ F (turn n d x C)) λb G ζ=>?_)];let⟨y,t,k⟩:=ζ
 cases b with
 |true=>
  let⟨N,A,k⟩:=k;rwa[als w (aZ (E c G d y _ t k) λf Q j=>?_)]
  cases f with
  |next=>
   let⟨a,g,o,m⟩:=j;let⟨p,q,l⟩:=A a g m;rwa[p,q,a,g,o,l]
  |cont=>
   let⟨a,g,o,m⟩:=j;let⟨p,q,l⟩:=A a g m;rwa[p,q,a,g,o,l]
  |brk=>exact j
  |ret v=>exact j
 |false=>
  rwa[alr ⟨d,y,t,k⟩]
end
structure It where
 go:Nat->Hp->Prop
 u0:Nat->Hp->V->Hp->Prop
 stop:Nat->Hp->Prop
def qy (X:Cx)(a:List (Zt×Obj))(H:Hp)(b:Zt):Prop:=
 H b=none/\b≠X.env.locals/\b∉X.fs/\(b∈X.ex\/X.ej.heap.objs.size<=b)/\(∀x c,X.env.cells.lookup x\c->c≠b)/\∀p∈X.pn++a,p.1≠b
def Inv.Gb (a:Inv X o D H s)(d:↥s<=b)(g:I b=none):qy X o I b:=by
 rwa[⟨g,aku (ajK a.lt d),a.F9 d,.inr (aju a.sz d),λx c e z=>?_,λp f z=>?_⟩]
 ·let⟨v,q⟩:=a.cell x c e;rwa[absurd (ajK q.lt ([z]▸d)) (akA _)]
 ·rwa[absurd (ajK (ajz (a.pin p f).1) ([z]▸d)) (akA _)]
structure Turn (P:Program) (w:World) (K:Za1) (tg:Expr) (J:It) (fp:Zo) (it:Zt) (tn:Nat->Heap->Prop):Prop where
 mem:it∈fp
 obj:∀i h,tn i h->∀b∈fp,∃o,h.get? b\o/\∀v,o.data≠.cell v
 keep:∀i h h',tn i h->(∀b∈fp,∀o,h.get? b\o->h'.get? b\o)->tn i h'
 item:∀(X:Cx),X.prog=P->X.w=w->X.K=K->X.calm=true->∀(i:Nat) (pins:List (Zt×Obj)) (s:Zv) (σ:St) (H:Hp) (E:Zu->Zv->Prop),Inv X pins σ H s->(∀b∈fp,qy X pins H b)->tn i s.heap->J.go i H->
  (P<|>w) X.A (pyNext ↑it) (λr s1=>∃u,r\u/\
   (P<|>w) X.A (letOwnedTupleGo tg ↑it u) (λ_ s2=>∃x H',Inv X pins σ H' s2/\RelV x u/\J.u0 i H x H'/\tn (i+ 1) s2.heap/\∀b∈fp,H' b=none) E s1) E s
 done:∀(X:Cx),X.prog=P->X.w=w->X.K=K->X.calm=true->∀(i:Nat) (pins:List (Zt×Obj)) (s:Zv) (σ:St) (H:Hp) (E:Zu->Zv->Prop),Inv X pins σ H s->(∀b∈fp,qy X pins H b)->tn i s.heap->J.stop i H->
  (P<|>w) X.A (pyNext ↑it) (λr s1=>r=none/\Inv X pins σ H s1) E s
 self:∀(A:Around) (i:Nat) (s:Zv) (Q:Zu->Zv->Prop) (E:Zu->Zv->Prop),tn i s.heap->Q ↑it s->(P<|>w) A (pyIter ↑it) Q E s
abbrev TI:=St->Hp->(It->Hp->Prop)->Prop
def NR (X:Cx)(a:List (Zt×Obj))(h:St)(g:Expr)(R:It->Hp->Prop)(c:Zu)(s2:Zv):Prop:=
 ∃(it:Zt) (f:Zo) (e:Nat->Heap->Prop) (J:It) (d:Hp),c=↑it/\Inv X a h d s2/\Turn X.prog X.w X.K g J f it e/\e 0 s2.heap/\(∀b∈f,qy X a d b)/\R J d
def PI (X:Cx)(d iter:Expr)(c:TI):Prop:=
 ∀(a:List (Zt×Obj)) (s:Zv) (b:St) (H:Hp) (R:It->Hp->Prop),Inv X a b H s->c b H R->
  X⁻¹ X.A (eval iter X.env) (λv e=>X⁻¹ X.A (pyIter v) (NR X a b d R) X.xe e) X.xe s
abbrev NT:List String:=["enumerate","zip","dict_itemiterator","dict_reverseitemiterator","odict_iterator","itertools.zip_longest","itertools.pairwise"]
def NV {M:Model}{it:Zt}{o:Obj}{n:String}{b:Zn}(d:s•it\o)(f:o.cls=.type n)(c:o.data=.fields b)
 (g:NT.contains n=false) (a:U () s):wpAny M A (letOwnedTupleGo e ↑it u) U E s:=by
 cases e <;> first
  |rwa[ajl a]
  |(cases u <;> first
   |rwa[ajl a]
   |(rwa[aje (wpAny_load d ?_)]
     rw[f,c];show wpAny M A (if (NT.contains n && b[0]?==some (rawInt _))=true then _ else _) U E s;rw[ajw (by cbv)];rwa[ajl a]))
def EJ (Q:Hp->Zb->Prop):It:=
 ⟨λi H=>∃xs x,Q H xs/\xs[i]?\x,λi H x a=>a=H/\∀xs,Q H xs->xs[i]?\x,λi H=>∃xs,Q H xs/\⇑xs=i⟩
abbrev HR (K:Za1) (a:Zt):It:=EJ (λH=>aI K H a)
abbrev HS (K:Za1) (a:Zt):It:=EJ (λH=>bz K H a)
noncomputable def EK (lo:Int)(n:Nat):It:=⟨λi _=>i<n,λi H x a=>a=H/\x=.int (lo+ i),λi _=>n<=i⟩
def Inv.mS {fp:Zo}{t':Nat}(I:Inv X o D H s)(k:∀b u,b∉fp->s•b\u->h.get? b\u)(d:∀b∈fp,qy X o H b):Inv X o D H { s with heap:=h,toks:=t' }:=by
 let g:∀b u,H b\u->b∉fp:=λb u e z=>by rw[(d b z).1]at e;ext e
 refine I.step (g':=s.gens) (d':=s.drawn) (ch:=fp) (λb f=>⟨(d b f).2.2.2.1,(d b f).2.1,(d b f).2.2.2.2.1,(d b f).2.2.2.2.2⟩) (λb a _ _ hc e _=>k b a hc e) (λb a _ _ hc e _=>⟨a.slots,k b a hc e⟩)
  (λb a _ e n=>n) (λb a hc e=>⟨a,k b a hc e⟩) (λb j e=>e) (λb a u e=>e) (λb w e=>⟨#[],by rw[e];simp⟩) (λm p=>?_) (λb u e=>?_) I.bare
 ·let⟨a,l,t,i,r⟩:=p;rwa[a,l,t,k _ a (λz=>(d _ z).2.1 rfl) i,r]
 ·rwa[(I.aM b u e).fD (λc v hc q=>k c v ?_ q) (λc q=>q) λc j q=>q]
  rcases hc with z|z
  ·rw[z];rwa[g b u e]
  ·rwa[g c _ z]
namespace Et
section
variable {prog:Program}{w:World}{A:Around}{E:Zu->Zv->Prop}{s:Zv}
theorem item {it:Zt}{items:Zn}{x:Zu}(hit:s.heap.IsTupleIter it a i)(f:s.heap.IsTuple a items)(k:items[i]?\x)
 (h:∀g,g.IsTupleIter it a (i+ 1)->Heap.SameBut it s.heap g->Q x (s<*g)):(prog<|>w) A (Builtin.SmallTypes.nextOf ↑it) Q E s:=by
 let⟨o,c,j,b⟩:=id hit;let⟨m,e,_,l,d⟩:=f;rwa[aje (ako (name:=Str.ofString "__next__") hit.typeIs alh (akw alh hit.typeIs F.entry_tuple_iterator_next ?_ (F.args_tuple_iterator_next_1 _)))];show wpAny _ _ (field ↑it 0 >>=_) _ _ s;rwa[aje (aka c b (x:=↑a) rfl ?_)];rw[ajw (show ¬((Value.ref a==Value.none)=true) by cbv)];rwa[aje (aka c b (x:=.int i 0) rfl ?_)];rwa[aje (al7 e d ?_)];simp only[akg,k];rwa[aje (aln c b (by simp) (ajl ⟨x,2,ajl (h _ ⟨_,aj0 _ c (alj (akO b _)),(Obj.cls_mapFields ..).trans j,by rw[akO b];simp[rawInt]⟩ (akM ..))⟩))]
theorem fin {it:Zt}{items:Zn}(j:A.handled=none)(hit:s.heap.IsTupleIter it a i)(k:s.heap.IsTuple a items)(n:items[i]?=none)
 (l:∀g e,Heap.ExtBut it s.heap g->(∃o,g.get? e\o/\o.cls=.type "StopIteration")->E ↑e (s<*g)):(prog<|>w) A (Builtin.SmallTypes.nextOf ↑it) Q E s:=by
 let⟨o,f,q,c⟩:=id hit;let⟨r,d,_,p,h⟩:=k;rwa[aje (ako (name:=Str.ofString "__next__") hit.typeIs alh (akw alh hit.typeIs F.entry_tuple_iterator_next ?_ (F.args_tuple_iterator_next_1 _)))];show wpAny _ _ (field ↑it 0 >>=_) _ _ s;rwa[aje (aka f c (x:=↑a) rfl ?_)];rw[ajw (show ¬((Value.ref a==Value.none)=true) by cbv)];rwa[aje (aka f c (x:=.int i 0) rfl ?_)];rwa[aje (al7 d h ?_)];simp only[akg,n];rwa[aje (amv (aje (aln f c (by simp) ?_)))];rwa[aje ?_];rwa[aje (m:=firstArgMember _ _) (wpAny_of_eq (a:=Value.none) (by first|rfl|(simp only[firstArgMember];rfl)) ?_)];rwa[ajW ?_ (by size_fits)];rwa[aje (wpAny_handled ?_)];first|rw[show A.in1.handled=none from j]|rw[j]
 rwa[aje (ajl (wpAny_throw ?_))];rwa[l _ _ (((akM ..).extBut.push _).push _) ⟨_,ajx _ rfl,2⟩]
def draws (n:A.handled=none)(it l:Zt)(a:l≠it)(items:Zn):Draws prog w A it [it,l] items.size (λi v=>items[i]?\v) (λi h=>h.IsTupleIter it l i/\h.IsTuple l items) where
 live:=λ_ _ st=>let ⟨o,b,_⟩:=st.1;⟨o,b⟩
 frame:=λ_ _ _ st c=>⟨st.1.at λo e=>c it (by simp) o e,by let⟨o,b,r⟩:=st.2;rwa[o,c l (by simp) o b,r]⟩
 item:=λi s Q E d st j=>by
  rwa[item st.1 st.2 (x:=items[i]) (by simp[d]) λg k f=>?_]
  rwa[j _ g s.toks (by simp[d]) ⟨k,st.2.extBut f.extBut a⟩ f]
 done:=λs Q E st m=>fin n st.1 st.2 (by simp) m
end
end Et
def wM {o u:Obj}(c:h.get? a\o)(d:h.get? b\u)(e:o.cls≠u.cls):a≠b:=λz=>by
 cbv
structure HV (K:Za1) (Q:Hp->Zb->Prop) (a it:Zt) (tn:Nat->Heap->Prop):Prop where
 ob:∀i h,tn i h->∃o n vs,h.get? it\o/\o.cls=.type n/\o.data=.fields vs/\NT.contains n=false
 kp:∀i h h',tn i h->(∀o,h.get? it\o->h'.get? it\o)->tn i h'
 dr:∀{X:Cx} {pins:List (Zt×Obj)} {σ:St} {H:Hp} {s:Zv} {i:Nat} {xs:Zb},X.K=K->X.calm=true->Inv X pins σ H s->Q H xs->tn i s.heap->
  (∀ys,Q H ys->ys=xs)/\∃(its:Zl) (oa:Obj) (St:Nat->Heap->Prop),Vals xs its/\s•a\oa/\oa.cls≠.type "enumerate"/\Draws X.prog X.w X.A.in1 it [it,a] its.toArray.size (λi v=>its.toArray[i]?\v) St/\
   Walks X.prog X.w X.A it [it,a] [it] its.toArray.size (λi v=>its.toArray[i]?\v) St/\St i s.heap/\∀i h,St i h->tn i h
def vE (a it:Zt):HV K (λH=>aI K H a) a it (λi h=>h.IsListIter it a i) where
 ob:=λi h ζ=>by let⟨o,e,c,d⟩:=ζ;rwa[⟨o,11,e,c,d,4⟩]
 kp:=λi h v st k=>st.at k
 dr:=λ{X g B H s i z} m j I q st=>by
  subst m;let⟨b,r,p,_⟩:=I.list q;let p:=p.isList;let⟨u,f,t,_⟩:=id p;let⟨w,l,x,_⟩:=id st;let n:=wM f l (by cbv);rwa[λys y=>I.K8 y q,b,u,_,r,f,by rw[t];decide,Draws.list (A:=X.A.in1) (I.ok.hd j) it a n _,.list (I.ok.hd j) it a n _,⟨st,p⟩,λ_ _ y=>y.1]
def EL (a it:Zt):HV K (λH=>bz K H a) a it (λi h=>h.IsTupleIter it a i) where
 ob:=λi h ζ=>by let⟨o,e,c,d⟩:=ζ;rwa[⟨o,11,e,c,d,4⟩]
 kp:=λi h v st k=>st.at k
 dr:=λ{X g B H s i z} m j I q st=>by
  subst m;let⟨b,r,p,_⟩:=I.tuple q;let⟨u,f,t,_⟩:=id p;let⟨w,l,x,_⟩:=id st;let n:=wM f l (by cbv);rwa[λys y=>I.HP y q,b,u,_,r,f,by rw[t];decide,Et.draws (A:=X.A.in1) (I.ok.hd j) it a n _,.tuple (I.ok.hd j) it a n _,⟨st,p⟩,λ_ _ y=>y.1]
def HW {J:It}{it:Zt}{j:Nat->Heap->Prop}(S:∀i h,j i h->∃o n F,h.get? it\o/\o.cls=.type n/\o.data=.fields F/\NT.contains n=false)
 (kp:∀i h g,j i h->(∀o,h.get? it\o->g.get? it\o)->j i g)
 (wk:∀(X:Cx) (f:List (Zt×Obj)) (t:St) (H:Hp) (s:Zv) (i:Nat),X.K=K->X.calm=true->Inv X f t H s->j i s.heap->J.go i H\/J.stop i H->∃C n u St,Walks X.prog X.w X.A it C [it] n u St/\St i s.heap/\(∀i h,St i h->j i h)/\
  (J.go i H->i<n/\∀v,u i v->∃x,RelV x v/\J.u0 i H x H)/\(J.stop i H->i=n))
 (T:∀(A:Around) (i:Nat) (s:Zv) (Q:Zu->Zv->Prop) (E:Zu->Zv->Prop),j i s.heap->Q ↑it s->(P<|>w) A (pyIter ↑it) Q E s):Turn P w K e J [it] it j where
 mem:=by simp
 obj:=λi h st b D=>by
  let⟨o,n,F,a,_,d,_⟩:=S i h st;rw[ajn.mp D];rwa[o,a,by cbv]
 keep:=λi h g st k=>kp i h g st (k it (by simp))
 item:=by
  intro X N M G O i f s t H E I z st l;subst N M;let⟨C,n,u,St,W,L,B,q,_⟩:=wk X f t H s i G O I st (.inl l);let⟨U,q⟩:=q l;rwa[W.item i s _ _ U L λv g R Y p k=>?_]
  let⟨o,m,F,a,c,d,V⟩:=S^B^p;let⟨x,r,y⟩:=q v Y;rwa[v,2,NV (s:={ s with heap:=g,toks:=R }) a c d V ⟨x,H,I.mS k z,r,y,B^p,λb D=>(z b D).1⟩]
 done:=by
  intro X N M G O i f s t H E I z st l;subst N M;let⟨C,n,u,St,W,L,B,_,q⟩:=wk X f t H s i G O I st (.inr l);rwa[W.done s _ _ (q l ▸ L) λg R k=>⟨2,I.mS k z⟩]
 self:=T
def Bj {Q:Hp->Zb->Prop}{it:Zt}{d:Nat->Heap->Prop}(S:HV K Q a it d)
 (p:∀(A:Around) (i:Nat) (s:Zv) (Q:Zu->Zv->Prop) (E:Zu->Zv->Prop),d i s.heap->Q ↑it s->(P<|>w) A (pyIter ↑it) Q E s):Turn P w K e (EJ Q) [it] it d:=
 HW S.ob S.kp (λX j D H s i n t I st h=>by
  obtain⟨b,q⟩:∃b,Q H b:=by
   rcases h with ⟨b,_,q,_⟩|⟨b,q,_⟩ <;> rwa[⟨b,q⟩]
  let⟨inj,m,F,St,f,_,_,_,W,o,k⟩:=S.dr n t I q st;let B:=⇑f;rwa[⟨1111,W,o,k,λg=>?_,λg=>?_⟩]
  ·let⟨ys,x,y,c⟩:=g;rw[inj ys y]at c;let⟨u,C,G⟩:=f.get c;rwa[⟨by simp;cbv,λv r=>⟨x,52,λl z=>[inj l z]▸c⟩⟩];simp at r
   cbv
  ·let⟨ys,y,c⟩:=g;rw[inj ys y]at c;simp;omega) p
def HX (a it:Zt):Turn P w K e (HR K a) [it] it (λi h=>h.IsListIter it a i):=
 Bj (vE a it) λ_ _ _ _ _ st h=>wpAny_pyIter_listiter st h
def Ge (a it:Zt):Turn P w K e (HS K a) [it] it (λi h=>h.IsTupleIter it a i):=
 Bj (EL a it) λ_ _ _ _ _ st h=>wpAny_pyIter_tupleiter st h
def Gf (it:Zt)(lo:Int)(n:Nat):Turn P w K e (EK lo n) [it] it (λi h=>IsRangeIter h it (lo+ (i:Nat)* 1) ((n:Int) - (i:Nat)) 1) where
 mem:=by simp
 obj:=λi h st b f=>by
  cbv
 keep:=λi h l st k=>k it (by simp) _ st
 item:=by
  intro X u q p m i d s A H E I g st j;subst u q p;let W:=Walks.range (prog:=X.prog) (w:=X.w) (I.ok.hd m) it lo 1 n;rwa[W.item i s _ _ j st λv l x B c y=>?_]
  let⟨t,rfl⟩:=B;rwa[⟨12,NV (s:={ s with heap:=l,toks:=x }) (n:="range_iterator") c rfl rfl ⋯ ⟨.int (lo+ i),H,I.mS y g,⟨t,5⟩,⟨22⟩,c,λb f=>(g b f).1⟩⟩]
  cbv
 done:=by
  intro X u q p m i d s A H E I g st j;rwa[wpAny_pyNext_range_end (I.ok.hd m) st (by have:n<=i:=j;omega) λl z=>⟨2,I.mS (t':=s.toks) (λb o f a=>z b o (by simpa using f) a) g⟩]
 self:=λ_ _ _ _ _ st h=>wpAny_pyIter_rangeiter st h
section
variable {X:Cx}{tg:Expr}
def Wt (K:Za1)(tl:TE):TI:=λ d H R=>tl d H λx b=>∃a,x=↑a/\(∃c,aI K b a c)/\R (HR K a) b
def abn (K:Za1)(tl:TE):TI:=λ d H R=>tl d H λx b=>∃a,x=↑a/\(∃c,bz K b a c)/\R (HS K a) b
def Bk {R:It->Hp->Prop}{J:It}{c:Nat->Heap->Prop}{a:Obj}(I:Inv X o D H s)(T:Turn X.prog X.w X.K tg J [↥s] ↥s c)(d:c 0 (s.heap.push a))(q:R J H):
 NR X o D tg R ↑↥s { s with heap:=s.heap.push a,toks:=n }:=
 ⟨1111,H,2,I.kept λb a e=>ajf _ e,T,d,λb f=>by
   rw[ajn.mp f];rwa[I.Gb (ajp _) (I.aM.fresh (ajp _))],q⟩
def dZ {tl:TE}(j:PE X e tl):PI X tg e (Wt X.K tl):=by
 intro c s k H R I h;rwa[aZ (j c s k H _ I h) λv r ζ=>?_];let⟨x,n,d,f,a,b,⟨o,g⟩,q⟩:=ζ
 subst b;ext f;let⟨i,l,p,m⟩:=d.list g;rwa[ala p.isList (Bk d (HX a _) ⟨_,ajx _ rfl,22⟩ q)]
def wN {tl:TE}(n:PE X e tl):PI X tg e (abn X.K tl):=by
 intro d s r H R I h;rwa[aZ (n d s r H _ I h) λv s1 ζ=>?_];let⟨x,m,f,i,l⟩:=ζ
 let⟨a,c,⟨y,k⟩,q⟩:=l;subst c;ext i;let⟨g,u,p,w⟩:=f.tuple k;rwa[wpAny_pyIter_tuple (show s1.heap.IsTuple a g.toArray from p) ?_];rwa[⟨↥s1,[↥s1],11,m,2,f.kept (t':=s1.toks) λb o c=>ajf _ c,Ge a _,⟨_,ajx _ rfl,22⟩,λb j=>?_,q⟩];let c:b=↥s1:=by simpa using j
 subst c;rwa[f.Gb (ajp _) (f.aM.fresh (ajp _))]
def Bl {R:It->Hp->Prop}{lo:Int}{t u v:Tok}(I:Inv X o D H s)(f: -(2 ^ 62)<=lo)(c:lo<2 ^ 62)(h: -(2 ^ 62)<=z)(d:z<2 ^ 62)
 (q:R (EK lo (z - lo).toNat) H):X⁻¹ X.A (pyIter ↑↥s) (NR X o D tg R) E { s with heap:=s.heap.push ("range">>>.fields #[.int lo t,.int z u,.int 1 v]),toks:=n }:=by
 rwa[wpAny_pyIter_range (IsRange.new ..) (small_one f c h d) (Bk (s:={ s with heap:=s.heap.push _,toks:=n }) (I.kept λb a e=>ajf _ e) (Gf _ lo (z - lo).toNat) ?_ q)];let i:lo+ ((0:Nat):Int)* 1=lo:=by simp
 let g:(((z - lo).toNat:Nat):Int) - ((0:Nat):Int)=Builtin.Range.rangeSize lo z 1:=by rw[rangeSize_one];split <;> ext
 rw[i,g];rwa[ajx _ rfl]
def Wu (c:TA):TI:=λ d H R=>c d H λa b=>∃j:Int,a=[.int j]/\-(2 ^ 62)<=j/\j<2 ^ 62/\R (EK 0 j.toNat) b
def Wv (c:TA):TI:=λ d H R=>c d H λa b=>∃i j:Int,a=[.int i,.int j]/\(-(2 ^ 62)<=i/\i<2 ^ 62/\-(2 ^ 62)<=j/\j<2 ^ 62)/\R (EK i (j - i).toNat) b
def lE {f:TA}{c:Pos}(i:Gl X "range")(o:X.mg "range"=none)(u:PA X [e] f)(m:starEach [e] X.env=[(false,eval e X.env)]:=by rfl):PI X tg (.Call (.Name "range" p) [e] [] c) (Wu f):=by
 intro a s n H R I h;rwa[Call_ (iu I i o boot_range (akk (aZ (u c a s n H _ I h) λz y ζ=>?_) m rfl))];let⟨w,x,k,g,d⟩:=ζ;let⟨j,b,d,v,q⟩:=d;subst b
 cases g with
 |cons r l=>
  ext l;let⟨t,rfl⟩:=r;rwa[call_range_1 (Bl k ∅ ∅ d v (by simpa using q))]
def HY {b:Expr}{l:TA}{f:Pos}(o:Gl X "range")(z:X.mg "range"=none)(A:PA X [e,b] l)(x:starEach [e,b] X.env=[(false,eval e X.env),(false,eval b X.env)])(d:starEach [b] X.env=[(false,eval b X.env)]):
 PI X tg (.Call (.Name "range" p) [e,b] [] f) (Wv l):=by
 intro a s y H R I h;rwa[Call_ (iu I o z boot_range (akk (aZ (A f a s y H _ I h) λG F ζ=>?_) (by rw[x,d]) (by rw[d];rfl)))];let⟨D,E,u,n,g⟩:=ζ;let⟨i,j,c,⟨g,B,v,w⟩,q⟩:=g;subst c
 cases n with
 |cons r k=>
  cases k with
  |cons m k=>
   ext k;let⟨t,rfl⟩:=r;let⟨C,rfl⟩:=m;rwa[call_range_2 (Bl u g B v w q)]
abbrev sx (J:It) (g:TG) (tb:TS) (D:Ends) (σ:St) (H:Hp):Prop:=∃W:Nat->Nat->St->Hp->Prop,(∃m,W 0 m σ H)/\∀i m σ H,W i m σ H->
 (J.stop i H/\D.nx σ H)\/(J.go i H/\∃N:St->Hp->Prop,(∀ gL H',N gL H'->∃m',m'<m/\W (i+ 1) m' gL H')/\∀x H',J.u0 i H x H'->g x σ H' λ σ2 H2=>tb { D with nx:=N,ct:=N,bk:=D.nx } σ2 H2)
def abo (c:TI)(g:TG)(b:TS):TS:=λD a H=>c a H λJ d=>sx J g b D a d
noncomputable def wO (a:Zo)(h:Heap):List (Zt×Obj):=a.filterMap λb=>(h.get? b).map λo=>(b,o)
def iL {o:Obj}(a:b∈F)(e:h.get? b\o):(b,o)∈wO F h:=amh.mpr ⟨b,a,by rw[e];rfl⟩
def HZ {p:Zt×Obj}(a:p∈wO F h):p.1∈F/\h.get? p.1\p.2:=by
 let⟨b,c,e⟩:=amh.mp a
 cases q:h.get? b with
 |none=>rw[q]at e;ext e
 |some o=>
  cbv
def Inv.pinned (I:Inv X o D H s)(d:∀b∈F,qy X o H b)(h:∀b∈F,∃a,s•b\a/\∀v,a.data≠.cell v):Inv X (o++wO F s.heap) D H s:=
 I.jG λp c=>(ajr.mp c).elim (λz=>I.pin p (ajo _ z)) λz=>by
  let⟨f,e⟩:=HZ z;let⟨i,f1,g,_⟩:=d p.1 f
  cbv
def Inv.vF {pl:List (Zt×Obj)}(I:Inv X (o++pl) D H s):Inv X o D H s:=I.jG λp a=>I.pin p (ajo _ (ajG _ a))
def cX {iter:Expr}{body:List Stmt}{S:TI}{g:TG}{Z:TS}(F:PassesOwn (model X.prog X.w) X.A X.env X.xe)(Y:X.calm=true)(hi:PI X tg iter S)(hg:PG X tg g)(k:iY X body Z)
 (hs:∀x,foldedSetIterable iter X.env x=pure x:=by intro _;rfl):PS X (.For tg iter body [] p) (abo S g Z):=by
 intro c s σ H D I h;rwa[wpAny_For (aZ (hi c s σ H _ I h) λv s1 h1=>aZ h1 λitv s2 h2=>?_) hs];let⟨it,B,tn,J,H2,e,I2,T,P,V,W,⟨m0,w0⟩,turn⟩:=h2;subst e
 let stat:∀{w:Hp},(∀b∈B,w b=none)->∀b∈B,qy X c w b:=λhn b k=>⟨hn b k,(V b k).2⟩
 rwa[codeAny_forLoop_any (λn s'=>∃i t w,Inv X c t w s'/\tn i s'.heap/\(∀b∈B,w b=none)/\W i n t w) ?_ m0 ⟨(0),σ,H2,I2,P,λb k=>(V b k).1,w0⟩];rintro n s3 ⟨i,j,G,I3,C,E,w3⟩;rcases turn i n j G w3 with ⟨stop,qn⟩|⟨go,N,hN,step⟩
 ·rwa[als F (aZ (T.done X rfl rfl rfl Y i c s3 j G X.xe I3 (stat E) C stop) λr s4 ζ=>?_)];let⟨Q,I4⟩:=ζ;subst Q;rwa[alr ⟨j,G,I4,qn⟩]
 ·rwa[als F (aZ (T.item X rfl rfl rfl Y i c s3 j G X.xe I3 (stat E) C go) λr s4 ζ=>?_)];let⟨u,Q,h4⟩:=ζ;subst Q;rwa[als F (aZ h4 λ_ s5 ζ=>?_)];let⟨x,U,I5,r5,y5,z,M⟩:=ζ;let R:=I5.pinned (stat M) (T.obj^z);rwa[als F (aZ (hg _ s5 j U x u _ R r5 (step x U y5)) λ_ s6 ζ=>?_)];let⟨O,H6,I6,q6⟩:=ζ;rwa[als F (aZ (k _ s6 O H6 _ I6 q6) λf L y=>?_)]
  let again:∀{a:St} {l:Hp},Inv X (c++wO B s5.heap) a l L->N a l->∃m,m<n/\∃i t w,Inv X c t w L/\tn i L.heap/\(∀b∈B,w b=none)/\W i m t w:=λ{a l} q A=>by
   let⟨m',hm,w7⟩:=hN a l A;rwa[⟨m',hm,i+ 1,a,l,q.vF,T.keep _ _ _ z λb k o e=>(q.pin (b,o) (ajo _ (ajo _ (iL k e)))).1,λb k=>?_,w7⟩];let⟨o,e,d⟩:=T.obj _ _ z b k;rwa[(q.pin (b,o) (ajo _ (ajo _ (iL k e)))).2.1]
  cases f with
  |next=>let⟨a,l,q,A⟩:=y;rwa[again q A]
  |cont=>let⟨a,l,q,A⟩:=y;rwa[again q A]
  |brk=>let⟨a,l,q,y⟩:=y;rwa[a,l,q.vF,y]
  |ret v=>let⟨x7,a,l,q,r7,y⟩:=y;rwa[x7,a,l,q.vF,r7,y]
end
section
variable {g:TG}{tb:TS}{D:Ends}{σ:St}{H:Hp}{Pv:Nat->St->Hp->Prop}
def uc {J:It}(j:Pv 0 σ H)
 (d:∀i σ H,i<n->Pv i σ H->J.go i H/\∀x c,J.u0 i H x c->g x σ c λ b e=>tb { D with nx:=Pv (i+ 1),ct:=Pv (i+ 1),bk:=D.nx } b e)
 (f:∀ σ H,Pv n σ H->J.stop n H/\D.nx σ H):sx J g tb D σ H:=by
 erw[λi m σ H=>m=n - i/\i<=n/\Pv i σ H,⟨n,2,ajU _,j⟩];rintro i m σ H ⟨rfl,o,p⟩;cases a:i<n
 ·rwa[.inr ⟨(d i σ H a p).1,Pv (i+ 1),λ k c h=>⟨n - (i+ 1),32,a,h⟩,(d i σ H a p).2⟩]
 ·obtain rfl:i=n:=∅
  rwa[.inl (f σ H p)]
def g6 {Q:Hp->Zb->Prop}{xs:Zb}(Pv:Nat->St->Hp->Prop)(f:Pv 0 σ H)(b:∀i σ H,i<=⇑xs->Pv i σ H->Q H xs)
 (h:∀i x σ H,xs[i]?\x->Pv i σ H->g x σ H λ a e=>tb { D with nx:=Pv (i+ 1),ct:=Pv (i+ 1),bk:=D.nx } a e) (d:∀ σ H,Pv ⇑xs σ H->D.nx σ H):sx (EJ Q) g tb D σ H:=
 uc f (λi σ H c p=>⟨⟨xs,xs[i],b i σ H (akZ c) p,ajg c⟩,λx j y=>by
  rw[y.1];rwa[h i x σ _ (y.2 xs (b i σ _ (akZ c) p)) p]⟩) λ σ H p=>⟨⟨xs,b _ σ H (ajp _) p,2⟩,d σ H p⟩
def oN {lo:Int}(Pv:Nat->St->Hp->Prop)(e:Pv 0 σ H)
 (f:∀i σ H,i<n->Pv i σ H->g (.int (lo+ i)) σ H λ a d=>tb { D with nx:=Pv (i+ 1),ct:=Pv (i+ 1),bk:=D.nx } a d) (c:∀ σ H,Pv n σ H->D.nx σ H):sx (EK lo n) g tb D σ H:=
 uc e (λi σ H b p=>⟨b,λx h y=>by
  rw[y.1,y.2];rwa[f i σ _ b p]⟩) λ σ H p=>⟨ajp n,c σ H p⟩
end
abbrev R2:=V->V->Hp->VK->Prop
def gf (X:Cx)(f:Zu->Zu->Sem Zu)(r:R2):Prop:=
 ∀(a:List (Zt×Obj)) (s:Zv) (b:St) (H:Hp) (x y:V) (v u:Zu) (Q:VK),Inv X a b H s->RelV x v->RelV y u->r x y H Q->
  X⁻¹ X.A (f v u) (EP X a b Q) X.xe s
def RW (X:Cx)(f:Zu->Sem Zu)(r:V->Hp->VK->Prop):Prop:=
 ∀(a:List (Zt×Obj)) (s:Zv) (b:St) (H:Hp) (x:V) (v:Zu) (Q:VK),Inv X a b H s->RelV x v->r x H Q->
  X⁻¹ X.A (f v) (EP X a b Q) X.xe s
def iM (X:Cx)(f:Zu)(r:Zb->Hp->VK->Prop):Prop:=
 ∀(a:List (Zt×Obj)) (s:Zv) (d:St) (H:Hp) (c:Zb) (b:Zl) (Q:VK),Inv X a d H s->Vals c b->r c H Q->
  X⁻¹ X.A (call f b) (EP X a d Q) X.xe s
noncomputable def abp (X:Cx)(r:V->Hp->(Bool->Hp->Prop)->Prop):Prop:=
 ∀(a:List (Zt×Obj)) (s:Zv) (b:St) (H:Hp) (x:V) (v:Zu) (Q:Bool->Hp->Prop),Inv X a b H s->RelV x v->r x H Q->
  X⁻¹ X.A (truthy v) (TP X a b Q) X.xe s
def NW (r:R2)(e b:TE):TE:=λ a H Q=>e a H λx d=>b a d λy c=>r x y c Q
def tUn (r:V->Hp->VK->Prop)(b:TE):TE:=λ c H Q=>b c H λx a=>r x a Q
inductive rI (C:Int->Int->Prop) (g:Int->Int->V) (x:V) (y:V) (H:Hp) (Q:VK):Prop
 |mk (i j:Int):x=.int i->y=.int j->C i j->Q (g i j) H->rI C g x y H Q
inductive wQ (g:Int->Int->V) (x:V) (y:V) (H:Hp) (Q:VK):Prop
 |mk (i j:Int):x=.int i->y=.int j->Q (g i j) H->wQ g x y H Q
inductive rU (g:Int->V) (x:V) (H:Hp) (Q:VK):Prop
 |mk (i:Int):x=.int i->Q (g i) H->rU g x H Q
section
variable {X:Cx}{a b:Expr}{ta tb:TE}{pos:Pos}
def Lb (z:PE X a ta)(n:PE X b tb){d:List (Zt×Obj)}{s:Zv}{e:St}{H:Hp}{R:V->V->Hp->Prop}(I:Inv X d e H s)
 (h:ta e H λx l=>tb e l λy g=>R x y g) {Q:Zu->Zv->Prop} {f:Zu->Zu->Sem Zu}
 (r:∀v u k x y g,Inv X d e g k->RelV x v->RelV y u->R x y g->X⁻¹ X.A (f v u) Q X.xe k):
 X⁻¹ X.A (eval a X.env) (λv j=>X⁻¹ X.A (eval b X.env) (λu i=>X⁻¹ X.A (f v u) Q X.xe i) X.xe j) X.xe s:=by
 rwa[aZ (z d s e H _ I h) λv t ζ=>?_];let⟨x,l,o,m,p⟩:=ζ
 rwa[aZ (n d t e l _ o p) λu k ζ=>?_];let⟨y,g,q,w,A⟩:=ζ
 rwa[r v u k x y g q m w A]
def aV {e:Operator}{r:R2}(j:gf X (binaryOp e) r)(o:PE X a ta)(f:PE X b tb):PE X (.BinOp a e b pos) (NW r ta tb):=by
 intro d s m H Q I h;rwa[wpAny_BinOp (Lb o f I h λv u g x y n i k l q=>j d g m n x y v u Q i k l q)]
def fm {e:UnaryOp}{r:V->Hp->VK->Prop}(g:RW X (unaryOp e) r)(i:PE X a ta):PE X (.UnaryOp e a pos) (tUn r ta):=by
 intro d s f H Q I h;rwa[UnaryOp_ (aZ (i d s f H _ I h) λv m ζ=>?_)];let⟨x,j,n,k,l⟩:=ζ;rwa[g d m f j x v Q n k l]
def Ia {f:Zu->Zu->Sem Zu}{C:Int->Int->Prop}{g:Int->Int->Int}
 (rule:∀(i j:Int) (t u:Tok) (s:Zv) (Q:Zu->Zv->Prop) (E:Zu->Zv->Prop),C i j->Q (.int (g i j) s.toks) { s with toks:=s.toks+ 1 }->X⁻¹ X.A (f (.int i t) (.int j u)) Q E s):
 gf X f (rI C λi j=>.int (g i j)):=by
 intro d s n H x y v u Q I k l h;let⟨i,j,rfl,rfl,m,q⟩:=h;let⟨t,rfl⟩:=k;let⟨e,rfl⟩:=l;rwa[rule i j t e s _ _ m ⟨.int (g i j),H,I.tok _,⟨12⟩,q⟩]
def RX {f:Zu->Zu->Sem Zu}{g:Int->Int->Int}
 (rule:∀(i j:Int) (t u:Tok) (s:Zv) (Q:Zu->Zv->Prop) (E:Zu->Zv->Prop),Q (.int (g i j) s.toks) { s with toks:=s.toks+ 1 }->X⁻¹ X.A (f (.int i t) (.int j u)) Q E s):
 gf X f (wQ λi j=>.int (g i j)):=by
 intro d s m H x y v u Q I k l h;let⟨i,j,rfl,rfl,q⟩:=h;let⟨t,rfl⟩:=k;let⟨e,rfl⟩:=l;rwa[rule i j t e s _ _ ⟨.int (g i j),H,I.tok _,⟨12⟩,q⟩]
def Gh {f:Zu->Zu->Sem Zu}{g:Int->Int->Bool}
 (rule:∀(i j:Int) (t u:Tok) (s:Zv) (Q:Zu->Zv->Prop) (E:Zu->Zv->Prop),Q (.bool (g i j)) s->X⁻¹ X.A (f (.int i t) (.int j u)) Q E s):
 gf X f (wQ λi j=>.bl (g i j)):=by
 intro d s m H x y v u Q I k l h;let⟨i,j,rfl,rfl,q⟩:=h;let⟨t,rfl⟩:=k;let⟨e,rfl⟩:=l;rwa[rule i j t e s _ _ ⟨.bl (g i j),H,I,2,q⟩]
def abq (i j:Int):Prop:=0<j/\j<1073741824
def abr (i j:Int):Prop:=0<=j/\j<=1000000/\i.natAbs<2 ^ 64
def Lc (i j:Int):Prop:=(-(2 ^ 64)<i/\i<2 ^ 64)\/(-(2 ^ 64)<j/\j<2 ^ 64)
def Lc.ok (h:Lc z y):IntMulOk z y:=by
 rcases h with ⟨e,d⟩|⟨e,d⟩
 ·rwa[.of_left (intBits_le_64 e d)]
 ·rwa[.of_right (intBits_le_64 e d)]
def cY:gf X (binaryOp .Add) (wQ λi j=>.int (i+ j)):=RX λ_ _ _ _ _ _ _ q=>add_int q
def mZ:gf X (binaryOp .Sub) (wQ λi j=>.int (i - j)):=RX λ_ _ _ _ _ _ _ q=>sub_int q
def lF:gf X (binaryOp .Mult) (rI Lc λi j=>.int (i* j)):=Ia λ_ _ _ _ _ _ _ d q=>mul_int q d.ok
def jH:gf X (binaryOp .FloorDiv) (rI abq λi j=>.int (i / j)):=Ia λi j _ _ _ _ _ d q=>by
 let f:(0:Int)<j:=d.1;let e:j<1073741824:=d.2;rwa[floordiv_int ∅ ([Int.fdiv_eq_ediv_of_nonneg i ∅]▸q) (.inl (PyProof.noPylong_small ∅))]
def cK:gf X (binaryOp .Mod) (rI (λ_ j=>0<j) λi j=>.int (i % j)):=Ia λi j _ _ _ _ _ d q=>by
 rwa[mod_int' ∅ ([Int.fmod_eq_emod_of_nonneg i ∅]▸q)]
def Ib:gf X (binaryOp .Pow) (rI abr λi j=>.int (HPow.hPow i j.toNat)):=Ia λ_ _ _ _ _ _ _ d q=>pow_int_small d.1 d.2.1 d.2.2 q
def unI {f:Zu->Sem Zu}{g:Int->Int}
 (rule:∀(i:Int) (t:Tok) (s:Zv) (Q:Zu->Zv->Prop) (E:Zu->Zv->Prop),Q (.int (g i) s.toks) { s with toks:=s.toks+ 1 }->X⁻¹ X.A (f (.int i t)) Q E s):
 RW X f (rU λi=>.int (g i)):=by
 intro d s j H x v Q I e h;let⟨i,rfl,q⟩:=h;let⟨t,rfl⟩:=e;rwa[rule i t s _ _ ⟨.int (g i),H,I.tok _,⟨12⟩,q⟩]
def dJ:RW X (unaryOp .USub) (rU λi=>.int (-i)):=unI λ_ _ _ _ _ q=>neg_int q
end
noncomputable def Ld:V->V->Bool
 |.non,.non=>true|.non,.int _=>true|.int _,.non=>true|.non,.bl _=>true|.bl _,.non=>true|.non,.str _=>true|.str _,.non=>true
 |.int _,.int _=>true|.bl _,.bl _=>true|.str _,.str _=>true|.oH _,.oH _=>true
 |.int _,.str _=>true|.str _,.int _=>true|.bl _,.str _=>true|.str _,.bl _=>true
 |_,_=>false
inductive XT (x:V) (y:V) (H:Hp) (Q:VK):Prop
 |mk:Ld x y=true->Q (.bl (decide (x=y))) H->XT x y H Q
inductive XU (x:V) (y:V) (H:Hp) (Q:VK):Prop
 |mk:Ld x y=true->Q (.bl (!decide (x=y))) H->XU x y H Q
def ER:decide (V.int z=V.int y)=(z==y):=by
 rw[ak0];simp
def Ic {i j:Bool}:decide (V.bl i=V.bl j)=(i==j):=by
 rw[ak0];simp
def EV:decide (V.str x=V.str f)=(x==f):=by
 rw[ak0];simp
def EW {i j:Array UInt8}:decide (V.oH i=V.oH j)=(i.toList==j.toList):=by
 rw[ak0];ext i;ext j;simp
section
variable {X:Cx}{a b c:Expr}{ta tb tc:TE}{pos:Pos}
def bV {Q:VK}{k d:Bool}(I:Inv X o D H s)(q:Q (.bl k) H)(e:k=d):EP X o D Q (.bool d) s:=by
 subst e;rwa[.bl k,H,I,2,q]
def eK:gf X (compareOp .Eq) XT:=by
 intro k s l H x y v u Q I g d h;let⟨f,q⟩:=h
 cases x with
 |non=>
  ext g
  cases y with
  |non=>ext d;rwa[PySem.EqNone.eq_none_none (bV I q (by simp))]
  |bl j=>ext d;rwa[PySem.EqNone.eq_none_bool (bV I q (by simp))]
  |int j=>let⟨e,rfl⟩:=d;rwa[PySem.EqNone.eq_none_int (bV I q (by simp))]
  |str j=>let⟨e,rfl⟩:=d;rwa[PySem.EqNone.eq_none_str (bV I q (by simp))]
  |_=>exact absurd (show false=true from f) aj3
 |bl i=>
  ext g
  cases y with
  |non=>ext d;rwa[PySem.EqNone.eq_bool_none (bV I q (by simp))]
  |bl j=>ext d;rwa[eq_bool (bV I q Ic)]
  |str j=>let⟨e,rfl⟩:=d;rwa[PySem.EqMixed.eq_bool_str (bV I q (by simp))]
  |_=>exact absurd (show false=true from f) aj3
 |int i=>
  let⟨t,rfl⟩:=g
  cases y with
  |non=>ext d;rwa[PySem.EqNone.eq_int_none (bV I q (by simp))]
  |int j=>let⟨e,rfl⟩:=d;rwa[eq_int (bV I q ER)]
  |str j=>let⟨e,rfl⟩:=d;rwa[PySem.EqMixed.eq_int_str (bV I q (by simp))]
  |_=>exact absurd (show false=true from f) aj3
 |str i=>
  let⟨t,rfl⟩:=g
  cases y with
  |non=>ext d;rwa[PySem.EqNone.eq_str_none (bV I q (by simp))]
  |bl j=>ext d;rwa[PySem.EqMixed.eq_str_bool (bV I q (by simp))]
  |int j=>let⟨e,rfl⟩:=d;rwa[PySem.EqMixed.eq_str_int (bV I q (by simp))]
  |str j=>let⟨e,rfl⟩:=d;rwa[eq_str (bV I q EV)]
  |_=>exact absurd (show false=true from f) aj3
 |oH i=>
  let⟨t,rfl⟩:=g
  cases y with
  |oH j=>let⟨e,rfl⟩:=d;rwa[PySem.W.eq_bytes (bV I q EW)]
  |_=>exact absurd (show false=true from f) aj3
 |_=>cases y <;> rwa[absurd (show false=true from f) aj3]
def mD:gf X (compareOp .NotEq) XU:=by
 intro k s l H x y v u Q I g d h;let⟨f,q⟩:=h
 cases x with
 |non=>
  ext g
  cases y with
  |non=>ext d;rwa[PySem.EqNone.ne_none_none (bV I q (by simp))]
  |bl j=>ext d;rwa[PySem.EqNone.ne_none_bool (bV I q (by simp))]
  |int j=>let⟨e,rfl⟩:=d;rwa[PySem.EqNone.ne_none_int (bV I q (by simp))]
  |str j=>let⟨e,rfl⟩:=d;rwa[PySem.EqNone.ne_none_str (bV I q (by simp))]
  |_=>exact absurd (show false=true from f) aj3
 |bl i=>
  ext g
  cases y with
  |non=>ext d;rwa[PySem.EqNone.ne_bool_none (bV I q (by simp))]
  |bl j=>ext d;rwa[ne_bool (bV I q (akm not Ic))]
  |str j=>let⟨e,rfl⟩:=d;rwa[PySem.EqMixed.ne_bool_str (bV I q (by simp))]
  |_=>exact absurd (show false=true from f) aj3
 |int i=>
  let⟨t,rfl⟩:=g
  cases y with
  |non=>ext d;rwa[PySem.EqNone.ne_int_none (bV I q (by simp))]
  |int j=>let⟨e,rfl⟩:=d;rwa[ne_int (bV I q (akm not ER))]
  |str j=>let⟨e,rfl⟩:=d;rwa[PySem.EqMixed.ne_int_str (bV I q (by simp))]
  |_=>exact absurd (show false=true from f) aj3
 |str i=>
  let⟨t,rfl⟩:=g
  cases y with
  |non=>ext d;rwa[PySem.EqNone.ne_str_none (bV I q (by simp))]
  |bl j=>ext d;rwa[PySem.EqMixed.ne_str_bool (bV I q (by simp))]
  |int j=>let⟨e,rfl⟩:=d;rwa[PySem.EqMixed.ne_str_int (bV I q (by simp))]
  |str j=>let⟨e,rfl⟩:=d;rwa[ne_str (bV I q (akm not EV))]
  |_=>exact absurd (show false=true from f) aj3
 |oH i=>
  let⟨t,rfl⟩:=g
  cases y with
  |oH j=>let⟨e,rfl⟩:=d;rwa[PySem.W.ne_bytes (bV I q (akm not EW))]
  |_=>exact absurd (show false=true from f) aj3
 |_=>cases y <;> rwa[absurd (show false=true from f) aj3]
def mE:gf X (compareOp .Lt) (wQ λi j=>.bl (decide (i<j))):=Gh λ_ _ _ _ _ _ _ q=>lt_int q
def A3:gf X (compareOp .LtE) (wQ λi j=>.bl (decide (i<=j))):=Gh λ_ _ _ _ _ _ _ q=>le_int q
def NX:gf X (compareOp .Gt) (wQ λi j=>.bl (decide (j<i))):=Gh λ_ _ _ _ _ _ _ q=>gt_int q
def A4:gf X (compareOp .GtE) (wQ λi j=>.bl (decide (j<=i))):=Gh λ_ _ _ _ _ _ _ q=>ge_int q
def wR:gf X (compareOp .Is) (λx y H Q=>y=.non/\Q (.bl (decide (x=.non))) H):=by
 intro d s g H x y v u Q I e f h;let⟨rfl,q⟩:=h;ext f;rwa[is_none_gen (bV I q ?_)]
 cases x <;> first
  |(ext e;rfl)
  |(let⟨t,rfl⟩:=e;rfl)
noncomputable def mU:gf X (compareOp .IsNot) (λx y H Q=>y=.non/\Q (.bl (!decide (x=.non))) H):=by
 intro d s g H x y v u Q I e f h;let⟨rfl,q⟩:=h;ext f;rwa[isnot_none_gen (bV I q ?_)]
 cases x <;> first
  |(ext e;rfl)
  |(let⟨t,rfl⟩:=e;rfl)
def bq (b:Expr){d:CmpOp}(h:d≠.In:=by decide)(g:d≠.NotIn:=by decide):behindInMarks d b=false:=by
 let e:(d==CmpOp.In)=false:=by cbv
 let f:(d==CmpOp.NotIn)=false:=by cbv
 cases b <;> simp[behindInMarks,e,f]
def Qb {e:CmpOp}{r:R2}(j:gf X (compareOp e) r)(p:PE X a ta)(f:PE X b tb)(n:behindInMarks e b=false):PE X (.Compare a [e] [b] pos) (NW r ta tb):=by
 intro d s m H Q I h;rwa[wpAny_Compare1 (Lb p f I h λv u g x y o i k l q=>j d g m o x y v u Q i k l q) n]
inductive RZ (x:V) (H:Hp) (Q:Bool->Hp->Prop):Prop
 |mk (k:Bool):x=.bl k->Q k H->RZ x H Q
def NZ (t:TE):TT:=λ e H Q=>t e H λx d=>RZ x d Q
def bh {g:CmpOp}{r:R2}(A:gf X (compareOp g) r)(G:PE X a ta)(l:PE X b tb)(E:behindInMarks g b=false):PT X (.Compare a [g] [b] pos) (NZ (NW r ta tb)):=by
 intro d s f H Q I h
 rwa[wpAny_isTrue_Compare1 (aZ (G d s f H _ I h) λv C ζ=>?_) E];let⟨x,B,m,j,q⟩:=ζ;rwa[aZ (l d C f B _ m q) λu p ζ=>?_];let⟨y,F,w,D,J⟩:=ζ;rwa[ aZ (A d p f F x y v u _ w j D J) λc L ζ=>?_];let⟨z,n,o,i,k,e,t⟩:=ζ
 subst e;ext i;rwa[akT ⟨n,o,t⟩]
def R6 (r h:R2)(ta tb tc:TE):TE:=λ d H Q=>ta d H λx i=>tb d i λy f=>r x y f λz e=>∃k,z=.bl k/\
 (if k=true then tc d e λj g=>h y j g Q else Q (.bl false) e)
def vG {j op':CmpOp}{r l:R2}(U:gf X (compareOp j) r)(i:gf X (compareOp op') l)(ha:PE X a ta)(C:PE X b tb)(hc:PE X c tc)
 (Z:lastMarks [j,op'] [b,c]=false:=by with_unfolding_all rfl):PT X (.Compare a [j,op'] [b,c] pos) (NZ (R6 r l ta tb tc)):=by
 intro f s g H Q I h
 rwa[isTrue_chain (aZ (ha f s g H _ I h) λv Y ζ=>?_) Z];let⟨x,W,E,A,N⟩:=ζ;rwa[test_link (aZ (C f Y g W _ E N) λu L ζ=>?_)];let⟨y,H2,P,p,q2⟩:=ζ;rwa[ aZ (U f L g H2 x y v u _ P A p q2) λd s3 ζ=>?_];let⟨z,m,n,q,k,e,o⟩:=ζ
 subst e;ext q;rwa[akT ?_]
 cases k with
 |false=>
  let⟨k',O,q'⟩:=o;ext O;rwa[ite_ff ⟨m,n,q'⟩]
 |true=>
  rwa[ite_tt (test_last (aZ (hc f s3 g m _ n o) λt w ζ=>?_))];let⟨D,J,B,G,V⟩:=ζ;rwa[aZ (i f w g J y D u t _ B p G V) λd' s5 ζ=>?_];let⟨z2,F,M,S,k2,R,T⟩:=ζ;subst R;ext S;rwa[akT ⟨F,M,T⟩]
def R7 (K:Za1)(x:V)(H:Hp)(k:Bool):Prop:=
 match x with
 |.non=>k=false
 |.bl b=>k=b
 |.int i=>k=(i !=0)
 |.str y=>⇑y<=sizeLine/\k=((⇑y:Int) !=0)
 |.oH y=>y.size<=sizeLine/\k=((y.size:Int) !=0)
 |.ref p=>(∃xs,aI K H p xs/\k=!xs.isEmpty)\/(∃xs,bz K H p xs/\k=!xs.isEmpty)\/∃d,H p\.dK d/\k=!d.isEmpty
 |_=>False
def Gi {f:Type}{d:List (f×V)}{e:List (f×Zu)}(r:KV d e):(!e.isEmpty)=!d.isEmpty:=by
 cases r <;> rfl
def wU {xs:Zb}(r:Vals xs N):(!N.toArray.isEmpty)=!xs.isEmpty:=by
 cases r <;> simp
def sC:(sizeLine:Nat)<2 ^ 63:=⋯
def R8:abp X (λx H Q=>∃k,R7 X.K x H k/\Q k H):=by
 intro u s C H x v Q I g h;let⟨k,e,q⟩:=h;let A:=sC;let B:sizeLine=16777216:=sizeLine_eq
 cases x with
 |non=>
  ext g;let d:k=false:=e;subst d;rwa[truthy_none ⟨H,I,q⟩]
 |bl b=>
  ext g;let d:k=b:=e;subst d;rwa[akT ⟨H,I,q⟩]
 |int i=>
  let⟨t,rfl⟩:=g;let d:k=(i !=0):=e;subst d;rwa[PySem.P.truthy_int ⟨H,I,q⟩]
 |str y=>
  let⟨t,rfl⟩:=g;obtain⟨w,d⟩:⇑y<=sizeLine/\k=((⇑y:Int) !=0):=e;subst d;rwa[PySem.P.truthy_str ∅ ⟨H,I.tok _,q⟩]
 |oH y=>
  let⟨t,rfl⟩:=g;obtain⟨w,d⟩:y.size<=sizeLine/\k=((y.size:Int) !=0):=e;subst d;rwa[PySem.W.truthy_bytes ∅ ⟨H,I.tok _,q⟩]
 |ref p=>
  ext g;let d:(∃xs,aI X.K H p xs/\k=!xs.isEmpty)\/(∃xs,bz X.K H p xs/\k=!xs.isEmpty)\/∃f,H p\.dK f/\k=!f.isEmpty:=e;rcases d with ⟨xs,j,d⟩|⟨xs,j,d⟩|⟨f,j,d⟩
  ·subst d;let⟨n,r,pl,o⟩:=I.list j;let hlen:=⇑r;rwa[wpAny_truthy_list pl.isList (by simp only[ajI];omega) ⟨H,I.tok _,[wU r]▸q⟩]
  ·subst d;let⟨n,r,pl,o⟩:=I.tuple j;let hlen:=⇑r;rwa[truthy_tuple pl (by simp only[ajI];omega) ⟨H,I.tok _,[wU r]▸q⟩]
  ·subst d;obtain⟨o,z,l,r,m⟩:⇑f<=sizeLine/\(p==sysModules)=false/\∃l,KV f l/\s.heap.DictOf (bT X.prog X.w) p l:=I.aM p _ j;let hlen:⇑f=⇑l:=Paired.length r;rwa[wpAny_truthy_dict z m ∅ ⟨H,I.tok _,[Gi r]▸q⟩]
 |_=>exact(show False from e).elim
def Bm (j:PE X a ta)(i:∀whole,isTrue a X.env whole=(do let v <-whole;standAt a.pos;holding [v] (truthy v))):
 PT X a (λ e H Q=>ta e H λx f=>∃k,R7 X.K x f k/\Q k f):=by
 intro d s e H Q I h;rwa[isTrue_plain (aZ (j d s e H _ I h) λv n ζ=>?_) (i _)];let⟨x,g,o,l,m⟩:=ζ;rwa[R8 d n e g x v Q o l m]
def vals1 {x:V}(r:Vals [x] N):∃u,N=[u]/\RelV x u:=by
 cases r with
 |cons e d=>ext d;rwa[12,e]
def vals2 {x:V}(r:Vals [x,q] N):∃u d,N=[u,d]/\RelV x u/\RelV q d:=by
 cases r with
 |cons h e=>
  cases e with
  |cons g f=>ext f;rwa[112,h,g]
def Le:iM X (.builtin "abs") (λd H Q=>∃i,d=[.int i]/\Q (.int (if i<0 then -i else i)) H):=by
 intro e s j H d f Q I r h;let⟨i,rfl,q⟩:=h;let⟨u,rfl,t,rfl⟩:=vals1 r;rwa[call_abs_int λu g=>⟨.int (if i<0 then -i else i),H,I.tok _,⟨12⟩,q⟩]
def Ie (g:X.calm=true):iM X (.builtin "max") (λe H Q=>∃i j,e=[.int i,.int j]/\Q (.int (if j > i then j else i)) H):=by
 intro f s p H e v Q I r h;let⟨i,j,rfl,q⟩:=h;let⟨u,l,rfl,⟨t,rfl⟩,⟨m,rfl⟩⟩:=vals2 r;rwa[max_two_ints (I.ok.hd g) λn o k=>⟨_,H,I.kept k,5,q⟩]
 cases d:j > i
 ·rw[ajD d,ajD d];rwa[12]
 ·rw[ajw d,ajw d];rwa[12]
def Ig (g:X.calm=true):iM X (.builtin "min") (λe H Q=>∃i j,e=[.int i,.int j]/\Q (.int (if j<i then j else i)) H):=by
 intro f s p H e v Q I r h;let⟨i,j,rfl,q⟩:=h;let⟨u,l,rfl,⟨t,rfl⟩,⟨m,rfl⟩⟩:=vals2 r;rwa[min_two_ints (I.ok.hd g) λn o k=>⟨_,H,I.kept k,5,q⟩]
 cases d:j<i
 ·rw[ajD d,ajD d];rwa[12]
 ·rw[ajw d,ajw d];rwa[12]
end
structure vH (h:Heap) (x dx C:Zt) (mA:Str->Zm):Prop where
 obj:h.get? x\(PySem.W.instObj C dx)
 ns:h.Ns1 dx mA
 ne:dx≠x
def zp (n:h.Ns1 a M):∃d,h.get? a\d/\∀name,PySem.W.lookIn name d\(M name):=by
 let⟨o,k,m,i,f,g,_,l⟩:=n;rwa[⟨o,i,λname=>?_⟩];let e:=l name;unfold nsFind findBy at e;rw[<-Array.find?_toList]at e;unfold PySem.W.lookIn;rw[f];dsimp only;split
 ·cbv
 ·rename_i q;rw[q]at e
  let b:k.toList.any (·.refKey)=false:=by
   rw[List.any_eq_false];intro y j;let⟨z,t,c⟩:=g y (Array.mem_toList_iff.mp j);simp[DictEntry.refKey,c]
  cbv
def vH.look {x dx:Zt}(I:vH h x dx a M):∃b,PySem.W.InstAt h x (PySem.W.instObj a dx) a (some b)/\∀name,PySem.W.lookIn name b\(M name):=
 let ⟨b,c,d⟩:=zp I.ns
 ⟨b,⟨I.obj,22,c⟩,d⟩
section
variable {prog:Program}{w:World}{A:Around}{E:Zu->Zv->Prop}{s:Zv}{K:Za1}{x dx C f:Zt}{mA:Str->Zm}{name:Str}{v:Zu}
def get_map {expr:Bool}(X:K.In s.heap)(I:vH s.heap x dx C mA)(g:PySem.W.plainGet K C name=true)(d:PySem.W.hasDictIn K C=true)
 (c:PySem.W.findIn K ↑C name\none) (b:mA name\v) (a:PySem.W.handedIn v=true) (h:Q v { s with toks:=s.toks+ 1 }):
 (prog<|>w) A (getAttr ↑x name expr) Q E s:=by
 let⟨i,J,e⟩:=I.look;rwa[PySem.W.get_value X J (PySem.W.plainGet_of g).1 (PySem.W.findObj_own d c rfl (by rw[e,b])) a h]
def Lf {pl:Sem Bool}{Q:Zu×Zl->Zv->Prop}(X:K.In s.heap)(I:vH s.heap x dx C mA)(a:PySem.W.plainGet K C name=true)
 (b:PySem.W.findIn K ↑C name\some ↑f) (g:PySem.W.isFn K ↑f=true) (c:mA name=none) (h:Q (↑f,[↑x]) s):
 (prog<|>w) A (getMethod ↑x name pl) Q E s:=by
 let⟨d,J,e⟩:=I.look;rwa[PySem.W.method_fn X J (PySem.W.plainGet_of a).1 (PySem.W.plainGet_of a).2 b (beq_iff_eq.mp g) (by show (PySem.W.lookIn name d).map (·.isSome)\false;rw[e,c];rfl) h]
def Qc {ns:Zq}(X:K.In s.heap)(I:vH s.heap x dx C mA)
 (t:PySem.W.findIn K ↑C "__setattr__"=some (some (.builtin "object.__setattr__"))) (o:PySem.W.plainOver K C=true) (l:PySem.W.takerIn K C name\none) (q:PySem.W.hasDictIn K C=true)
 (p:PySem.Within mA ns) (n:⇑ns<=sizeLine)
 (h:∀e,vH e x dx C (λy=>if y=name then some v else mA y)->Heap.SameBut dx s.heap e->U () { s with heap:=e,toks:=s.toks+ 2 }):
 (prog<|>w) A (setAttr ↑x name v) U E s:=by
 let⟨H,J,G⟩:=I.look;rwa[PySem.W.set_plain X J t (PySem.W.osa_open (s:={ s with toks:=s.toks+ 1 }) (r:=none) X J o l λb=>?_)];let⟨F,z,k⟩:=PySem.W.any_some q;let u:s•x\⟨↑C,some dx,.plain,#[]⟩:=I.obj;rwa[aje (ajl (aje (aje (wpAny_loadPart u (aje (PySem.W.Looks.here (s:={ s with toks:=s.toks+ 1 }) (PySem.W.looks_clsIn X z) ?_))))))];rw[k];rwa[ajl (a:=some dx) (aje (ajl (aje ?_)))];rwa[wpAny_nsSet1 (s:={ s with toks:=s.toks+ 1 }) I.ns λe d c=>?_]
 let⟨D,B,m,j,g,i⟩:=d.count (PySem.Within.cons name v p);rwa[aje (wpAny_lookBehind j ([g]▸pastItsLine_dict (aju i (by rw[ajO];omega))) ?_)];rwa[ajl (h _ ⟨(c.2 _ (akB I.ne)).trans I.obj,d,I.ne⟩ c)]
def Lg {R:Result->Zv->Prop}{a:List (Str×Zu)}(X:K.In s.heap)(b:PySem.W.makesIn K C=true)
 (d:PySem.W.findIn K ↑C "__init__"=some (some ↑f)) (c:PySem.W.typeIn K ↑f\(.type "function"))
 (h:codeAny (model prog w) (A.under (.builtin "type.__call__" ⟨↑C::N,a⟩)) (.call ↑f ⟨↑(↥s+ 1)::N,a⟩) (PySem.W.InitBack (↥s+ 1) R)
  { s with heap:=(s.heap.push PySem.W.emptyDict).push (PySem.W.instObj C ↥s) }):
 codeAny (model prog w) A (.call ↑C ⟨N,a⟩) R s:=by
 rwa[PySem.W.make_core (PySem.W.makes_of X b) (PySem.W.looks_findIn X d) (λself=>PySem.W.bind_fn X self c) (.inl rfl) h]
def Ih {R:Result->Zv->Prop}(X:K.In s.heap)(a:PySem.W.makesIn K C=true)
 (c:PySem.W.findIn K ↑C "__init__"=some (some (.builtin "object.__init__")))
 (b:∀self,PySem.W.Looks (model prog w) s.heap (bindSpecial (.builtin "object.__init__") self) (.builtin "object.__init__",[self]))
 (h:codeAny (model prog w) (A.under (.builtin "type.__call__" ⟨[↑C],[]⟩)) (.call (.builtin "object.__init__") ⟨[↑(↥s+ 1)],[]⟩) (PySem.W.InitBack (↥s+ 1) R)
  { s with heap:=(s.heap.push PySem.W.emptyDict).push (PySem.W.instObj C ↥s) }):
 codeAny (model prog w) A (.call ↑C ⟨[],[]⟩) R s:=by
 rwa[PySem.W.make_core (PySem.W.makes_of X a) (PySem.W.looks_findIn X c) b (.inr ⟨22⟩) h]
end
noncomputable def bH (f:Str)(v:V):List (Str×V)->List (Str×V)
 |[]=>[(f,v)]
 |(g,x)::r=>if g=f then (g,v)::r else (g,x)::bH f v r
theorem pK (f g:Str)(v:V):∀fs:List (Str×V),(bH f v fs).lookup g=if g=f then some v else fs.lookup g
 |[]=>by
  show List.lookup g [(f,v)]=_
  cbv
 |(k,x)::r=>by
  let a:=pK f g v r;rw[show bH f v ((k,x)::r)=(if k=f then (k,v)::r else (k,x)::bH f v r) from rfl]
  cbv
theorem lG (f:Str)(v:V):∀fs:List (Str×V),f∈(bH f v fs).map (·.1)/\∀g,g∈fs.map (·.1)->g∈(bH f v fs).map (·.1)
 |[]=>⟨by simp[bH],λg h=>by simp at h⟩
 |(k,x)::r=>by
  let⟨a,b⟩:=lG f v r;rw[show bH f v ((k,x)::r)=(if k=f then (k,v)::r else (k,x)::bH f v r) from rfl]
  cbv
theorem u6 (f:Str)(v:V):∀fs:List (Str×V),⇑(bH f v fs)<=⇑fs+ 1
 |[]=>by simp[bH]
 |(k,x)::r=>by
  let a:=u6 f v r;rw[show bH f v ((k,x)::r)=(if k=f then (k,v)::r else (k,x)::bH f v r) from rfl]
  cbv
def eJ.some_of {v:V}{o:Zm}(r:eJ (some v) o):∃u,o\u/\RelV v u:=by
 cases o with
 |none=>exact(show False from r).elim
 |some u=>rwa[u,2,r]
def eJ.none_of {o:Zm}(r:eJ none o):o=none:=by
 cases o with
 |none=>rfl
 |some u=>exact(show False from r).elim
def zq (r:RelV q u):PySem.W.handedIn u=true:=by
 cases q with
 |non=>cases (show u=Value.none from r);rfl
 |bl b=>cases (show u=Value.bool b from r);rfl
 |int i=>let⟨t,e⟩:=(show ∃t,u=Value.int i t from r);ext e;rfl
 |str x=>let⟨t,e⟩:=(show ∃t,u=Value.str x t from r);ext e;rfl
 |oH b=>let⟨t,e⟩:=(show ∃t,u=Value.bytes b t from r);ext e;rfl
 |Bf b=>let⟨t,e⟩:=(show ∃t,u=Value.float b t from r);ext e;rfl
 |ref a=>cases (show u=Value.ref a from r);rfl
 |ty n=>cases (show u=Value.type n from r);rfl
section
variable {P:Program}{w:World}{H:Hp}{h:Heap}{a C dx:Zt}{fs:List (Str×V)}
def uf (c:dz P w H h)(e:H a\.ins C dx fs):∃b,vH h a dx C b/\(∀f,eJ (fs.lookup f) (b f))/\PySem.Within b (fs.map (·.1))/\⇑fs<=1000/\H dx\(.own a):=by
 let⟨d,z,ne,g,b,n,r,q⟩:=(show bY P w H h a (.ins C dx fs) from c a _ e);rwa[b,⟨g,n,ne⟩,r,q,z,d]
end
structure jX (K:Za1) (C:Zt):Prop where
 pg:PySem.W.plainGet K C Str.empty=true
 hd:PySem.W.hasDictIn K C=true
 po:PySem.W.plainOver K C=true
 sa:PySem.W.findIn K ↑C "__setattr__"=some (some (.builtin "object.__setattr__"))
def jX.get (c:jX K a)(f:Str):PySem.W.plainGet K a f=true:=c.pg
def lH (K:Za1)(C:Zt)(f:Str):Prop:=PySem.W.findIn K ↑C f\none
def lH.Gj (n:lH K a f):PySem.W.takerIn K a f\none:=by
 unfold PySem.W.takerIn;rw[show PySem.W.findIn K ↑a f=some none from n];rfl
structure Con (K:Za1) (C:Zt) (f:Str) (v:V) (u:Zu):Prop where
 at_:PySem.W.findIn K ↑C f\(some u)
 rel:RelV v u
 get:PySem.W.specialIn K u "__get__"=some none
 cp:PySem.W.copiedNames.contains f=false
structure Meth (K:Za1) (C:Zt) (m:Str) (f:Zt):Prop where
 at_:PySem.W.findIn K ↑C m\(some ↑f)
 fn:PySem.W.isFn K ↑f=true
 kp:PySem.W.keepIn K ↑f=true
section
variable {X:Cx}{pins:List (Zt×Obj)}{σ:St}{H:Hp}{s:Zv}{a C dx:Zt}{fs:List (Str×V)}{f:Str}{v:V}{A:Around}{E:Zu->Zv->Prop}
def Gk {b:Bool}(I:Inv X pins σ H s)(e:H a\.ins C dx fs)(c:jX X.K C)(n:lH X.K C f)(l:fs.lookup f\v)
 (h:∀u d,Inv X pins σ H d->RelV v u->Q u d):X⁻¹ A (getAttr ↑a f b) Q E s:=by
 let⟨j,O,r,_,_,_⟩:=uf I.aM e;let⟨u,i,g⟩:=eJ.some_of (v:=v) (o:=j f) (by rw[<-l];rwa[r f]);rwa[get_map I.dw O (c.get f) c.hd n i (zq g) (h u _ (I.tok _) g)]
def wV {pl:Sem Bool}{Q:Zu×Zl->Zv->Prop}(I:Inv X pins σ H s)(e:H a\.ins C dx fs)(c:jX X.K C)(k:Meth X.K C x b)(l:fs.lookup x=none)
 (h:Q (↑b,[↑a]) s):X⁻¹ A (getMethod ↑a x pl) Q E s:=by
 let⟨g,O,r,_,_,_⟩:=uf I.aM e;let d:g x=none:=eJ.none_of (by cbv);rwa[Lf I.dw O (c.get x) k.at_ k.fn d h]
def Gm (I:Inv X pins σ H s)(e:H a\.ins C dx fs)(c:jX X.K C)(n:lH X.K C f)(J:⇑fs<1000)(D:RelV q u)
 (h:∀j,Inv X pins σ (upd H a (.ins C dx (bH f q fs))) j->U () j):X⁻¹ A (setAttr ↑a f u) U E s:=by
 let⟨F,O,r,k,_,l⟩:=uf I.aM e;let B:⇑(fs.map (·.1))<=sizeLine:=by rw[ajk,sizeLine_eq];ext
 rwa[Qc I.dw O c.sa c.po n.Gj c.hd k B λw i G=>h _ ?_]
 let m:∃o,w.get? dx\o:=let ⟨o,_,_,y,_⟩:=i.ns;⟨o,y⟩
 rwa[I.write (x:=a) (e:=dx) ([e]▸True.intro) (.inr l) (λb d p z=>(G.2 b p).trans z) m ?_];rwa[⟨[ai O.ne]▸l,5,O.ne,i.obj,_,i.ns,λg=>?_,λg t=>?_⟩]
 ·have:=u6 f q fs;ext
 ·show eJ ((bH f q fs).lookup g) (if g=f then some u else F g);rw[pK];cases d:g=f
  ·rw[ajD d,ajD d];rwa[D]
  cbv
 ·cases d:g=f
  ·rw[d];rwa[(lG f q fs).1]
  ·rwa[(lG f q fs).2 g (k g λz=>t ?_)]
   cbv
def Inv.made (I:Inv X pins σ H s):Inv X pins σ (upd (upd H ↥s (.own (↥s+ 1))) (↥s+ 1) (.ins C ↥s []))
 { s with heap:=(s.heap.push PySem.W.emptyDict).push (PySem.W.instObj C ↥s) }:=by
 let c:(s.heap.push PySem.W.emptyDict).get? ↥s\PySem.W.emptyDict:=ajx s.heap rfl
 let k:((s.heap.push PySem.W.emptyDict).push (PySem.W.instObj C ↥s)).get? (↥s+ 1)\(PySem.W.instObj C ↥s):=by
  have:=ajx (s.heap.push PySem.W.emptyDict) (o:=PySem.W.instObj C ↥s) rfl
  rwa [akW]at this
 let d:(s.heap.push PySem.W.emptyDict).Ns ↥s (λ_=>none):=⟨PySem.W.emptyDict,#[],_,c,2,(λe g=>absurd g (by simp)),λ_=>rfl⟩;let j:=I.laid (a:=↥s) (o:=.own (↥s+ 1)) (h':=s.heap.push PySem.W.emptyDict) (t':=s.toks) (λb u q=>ajf _ q) (ajp _) ⟨_,c⟩;rwa[j.laid (a:=↥s+ 1) (o:=.ins C ↥s []) (t':=s.toks) (λb u q=>ajf _ q) (amd (akW _ _)) ?_];let ne:↥s≠↥s+ 1:=ajL (akK _);rwa[⟨by rw[ai ne,aj],ajU _,ne,k,λ_=>none,(Heap.Ns1.of_empty d).at λo q=>ajf _ q,λ_=>True.intro,λy h=>absurd rfl h⟩]
def EX {env:Env}{f:Str}{s:Zv}(c:attributeBase e f env (eval e env)=eval e env)
 (h:(P<|>w) A (eval e env) (λo b=>(P<|>w) A (getAttr o f true) Q E b) E s):(P<|>w) A (eval (.Attribute e f p) env) Q E s:=
 Attribute_any_ h (by rw[arm_eval_Attribute,c])
end
inductive Sb (K:Za1) (f:Str) (x:V) (H:Hp) (Q:VK):Prop
 |mk (a C dx:Zt) (fs:List (Str×V)) (v:V):x=↑a->H a\.ins C dx fs->jX K C->lH K C f->fs.lookup f\v->Q v H->Sb K f x H Q
def Sd (K:Za1)(b:TE)(f:Str):TE:=λ c H Q=>b c H λx a=>Sb K f x a Q
inductive Se (K:Za1) (f:Str) (y x:V) (H:Hp) (N:Hp->Prop):Prop
 |mk (a C dx:Zt) (fs:List (Str×V)):x=↑a->H a\.ins C dx fs->jX K C->lH K C f->⇑fs<1000->N (upd H a (.ins C dx (bH f y fs)))->Se K f y x H N
def abt (K:Za1)(e b:TE)(f:Str):TS:=λD a H=>b a H λy d=>e a d λx c=>Se K f y x c (D.nx a)
section
variable {X:Cx}{o e value:Expr}{f:Str}{pos pos':Pos}{ta tv:TE}
def aD (p:PE X e ta)(d:attributeBase e f X.env (eval e X.env)=eval e X.env):PE X (.Attribute e f pos) (Sd X.K ta f):=by
 intro b s m H Q I h;rwa[EX d (aZ (p b s m H _ I h) λu z ζ=>?_)];let⟨x,j,g,k,a,C,A,fs,v,ex,t,c,n,l,q⟩:=ζ;subst ex;obtain rfl:u=Value.ref a:=k;rwa[Gk g t c n l λy w i r=>⟨v,j,i,r,q⟩]
def bL (z:PE X o ta)(w:PE X value tv)(r:swapsWith value (some (.Attribute o f pos')) pos.line X.env=pure false):PS X (.Assign [.Attribute o f pos'] value pos) (abt X.K ta tv f):=by
 intro b s d H D I h;rwa[plainObj_wpAny_Assign_Attribute (aZ (w b s d H _ I h) λu m ζ=>?_) r];let⟨y,k,g,t,q⟩:=ζ;rwa[aZ (z b m d k _ g q) λp E ζ=>?_];let⟨x,F,j,v,a,C,J,fs,ex,A,c,n,l,B⟩:=ζ;subst ex;obtain rfl:p=Value.ref a:=v;rwa[Gm j A c n l t λG i=>⟨d,_,i,B⟩]
inductive abv (x:V) (y:V) (H:Hp) (Q:VK):Prop
 |mk (i j:Int):x=.int i->y=.int j->Q (.int (i+ j)) H->abv x y H Q
inductive abw (x:V) (y:V) (H:Hp) (Q:VK):Prop
 |mk (i j:Int):x=.int i->y=.int j->Q (.int (i - j)) H->abw x y H Q
end
section
variable {X:Cx}{pins:List (Zt×Obj)}{σ:St}{H:Hp}{s:Zv}{A:Around}{E:Zu->Zv->Prop}{Q:Zu->Zv->Prop}{c:Zu}{b:Bool}
inductive jY (K:Za1) (H:Hp):V->Zu->Prop where
 |non:jY K H .non (.type "NoneType")
 |bl (x:Bool):jY K H (.bl x) (.type "bool")
 |int (i:Int):jY K H (.int i) (.type "int")
 |str (x:Str):jY K H (.str x) (.type "str")
 |Bf (x:UInt64):jY K H (.Bf x) (.type "float")
 |lst {a:Zt} {xs:Zb} (e:H a\.lst xs):jY K H ↑a (.type "list")
 |cq {a:Zt} {o:Obj} {xs:Zb} (e:H a\.cq o (.lst xs)):jY K H ↑a (.type "list")
 |tup {a:Zt} {xs:Zb} (e:H a\.tup xs):jY K H ↑a (.type "tuple")
 |dK {a:Zt} {kvs:List (Key×V)} (e:H a\.dK kvs):jY K H ↑a (.type "dict")
 |dT {a:Zt} {kvs:List (Zd×V)} (e:H a\.dT kvs):jY K H ↑a (.type "dict")
 |ins {a C dx:Zt} {fs:List (Str×V)} (e:H a\.ins C dx fs) (cl:jX K C) (ha:PySem.W.findIn K ↑C "__class__"=some (some (.builtin "object.__class__")))
  (hn:PySem.W.specialIn K (.builtin "object.__class__") "__get__"=some (some (.builtin "getset_descriptor.__get__"))) (htk:PySem.W.takesIn K (.builtin "object.__class__")\true)
  (hm:PySem.W.mroIn K C (.type "object")\true):jY K H ↑a ↑C
def Ii {x:V}(I:Inv X pins σ H s)(d:RelV x u)(B:jY X.K H x v)(e:PySem.W.kitOne X.K v c\b)(h:∀r,Q (.bool b) { s with toks:=r }):
 X⁻¹ A (call (.builtin "isinstance") [u,c]) Q E s:=by
 cases B with
 |non=>cases (show u=Value.none from d);rwa[akG PySem.W.kitx_none I.dw True.intro e (λz=>nomatch z) h]
 |bl y=>cases (show u=Value.bool y from d);rwa[akG PySem.W.kitx_bool I.dw True.intro e (λz=>nomatch z) h]
 |int i=>let⟨v,q⟩:=(show ∃v,u=Value.int i v from d);ext q;rwa[akG PySem.W.kitx_int I.dw True.intro e (λz=>nomatch z) h]
 |str y=>let⟨v,q⟩:=(show ∃v,u=Value.str y v from d);ext q;rwa[akG PySem.W.kitx_str I.dw True.intro e (λz=>nomatch z) h]
 |Bf y=>let⟨v,q⟩:=(show ∃v,u=Value.float y v from d);ext q;rwa[akG PySem.W.kitx_float I.dw True.intro e (λz=>nomatch z) h]
 | @lst a k f=>
   cases (show u=Value.ref a from d);let⟨_,_,n,_,g⟩:=(show bY X.prog X.w H s.heap a (.lst k) from I.aM a _ f);rwa[akG PySem.W.kitx_list I.dw ⟨_,g,2⟩ e (λz=>nomatch z) h]
 | @cq a t k f=>
   cases (show u=Value.ref a from d);let⟨_,_,_,n,_,g⟩:=(show bY X.prog X.w H s.heap a (.cq t (.lst k)) from I.aM a _ f);rwa[akG PySem.W.kitx_list I.dw ⟨_,g,2⟩ e (λz=>nomatch z) h]
 | @tup a k f=>
   cases (show u=Value.ref a from d);let⟨_,_,_,p⟩:=(show bY X.prog X.w H s.heap a (.tup k) from I.aM a _ f);let⟨o,g,l,_⟩:=p;rwa[akG PySem.W.kitx_tuple I.dw ⟨o,g,l⟩ e (λz=>nomatch z) h]
 | @dK a j f=>
   cases (show u=Value.ref a from d);let⟨_,_,M,_,p⟩:=(show bY X.prog X.w H s.heap a (.dK j) from I.aM a _ f);let⟨o,w,F,g,l,_⟩:=p;rwa[akG PySem.W.kitx_dict I.dw ⟨o,g,l.1⟩ e (λz=>nomatch z) h]
 | @dT a j f=>
   cases (show u=Value.ref a from d);let⟨_,_,k,_,o,w,F,g,l,_⟩:=(show bY X.prog X.w H s.heap a (.dT j) from I.aM a _ f);rwa[akG PySem.W.kitx_dict I.dw ⟨o,g,l.1⟩ e (λz=>nomatch z) h]
 | @ins a C R fs f cl L D m G=>
   cases (show u=Value.ref a from d);let⟨N,O,_⟩:=uf I.aM f;let⟨P,J,_⟩:=O.look;rwa[akG (PySem.W.kitx_own (cl.get _) cl.hd L D m G) I.dw J e (λz=>nomatch z) h]
end
structure cD (k:Nat) (A:Around):Prop where
 hd:A.handled=none
 dp:A.depth+ 3* k+ 5<recursionLimit
 un:A.units+ 16* k+ 200<cLine
def cD.mono {k:Nat}(r:cD k A)(h:j<=k):cD j A:=⟨r.hd,by have:=r.dp;ext,by have:=r.un;ext⟩
def cD.Za5 {j k:Nat}{A:Around}(r:cD k A)(h:j<=k:=by decide):cD j A:=r.mono h
def cD.deeper {k:Nat}(r:cD (k+ 1) A)(env:Env):cD k (A.deeper env):=
 ⟨r.hd,by have:=r.dp;show A.depth+ 1+ 3* k+ 5<_;ext,by have:=r.un;show A.units+ 3+ 16* k+ 200<_;ext⟩
def cD.in1 {k:Nat}(r:cD (k+ 1) A):cD k A.in1:=
 ⟨r.hd,by have:=r.dp;show A.depth+ 3* k+ 5<_;ext,by have:=r.un;show A.units+ 1+ 16* k+ 200<_;ext⟩
def Gn {b:List (Str×Zu)}:(A.under (.builtin "type.__call__" ⟨↑a::N,b⟩)).depth=A.depth+ 1:=by
 first|rfl|simp[Around.under,Code.weight,Code.isCreation,Code.isGuard,Code.isCaller,Code.frames,Code.isFrame,guardIds]
def Gp {b:List (Str×Zu)}:(A.under (.builtin "type.__call__" ⟨↑a::N,b⟩)).units=A.units+ 1:=by
 first|rfl|simp[Around.under,Code.cUnits,Code.frames,Code.isFrame]
def cD.make {k:Nat}(r:cD (k+ 1) A)(C:Zt)(a:Zl)(b:List (Str×Zu)):cD k (A.under (.builtin "type.__call__" ⟨↑C::a,b⟩)):=
 ⟨r.hd,by have:=r.dp;rw[Gn];ext,by have:=r.un;rw[Gp];ext⟩
def cD.depth {k:Nat}(r:cD k A):A.depth<recursionLimit:=by have:=r.dp;ext
def cD.units {k:Nat}(r:cD k A):A.units+ 64<cLine:=by have:=r.un;ext
def jZ:TA:=λ_ H Q=>Q [] H
def jj (e:TE)(tr:TA):TA:=λ a H Q=>e a H λx c=>tr a c λd b=>Q (x::d) b
section
variable {X:Cx}{e:Expr}{es:Zs}{te:TE}{t:TA}{pos:Pos}
def ak:PA X [] jZ:=λ_ _ _ _ H Q I h=>akU ⟨[],H,I,.nil,h⟩
def ae (p:PE X e te)(j:PA X es t)(m:starEach (e::es) X.env=(false,eval e X.env)::starEach es X.env:=by rfl):PA X (e::es) (jj te t):=by
 intro pos a s b H Q I h;rw[m];rwa[aki (aZ (p a s b H _ I h) λu l ζ=>?_)];let⟨x,i,d,c,f⟩:=ζ;rwa[aZ (j pos a l b i _ d f) λv r ζ=>?_];let⟨k,o,g,n,q⟩:=ζ;rwa[⟨x::k,o,g,.cons c n,q⟩]
inductive Sf (xs:Zb) (H:Hp) (Q:VK):Prop
 |mk:⇑xs<=sizeLine->(∀p,H p=none->Q ↑p (upd H p (.tup xs)))->Sf xs H Q
def abx (t:TA):TE:=λ c H Q=>t c H λb a=>Sf b a Q
inductive Sg (xs:Zb) (H:Hp) (Q:VK):Prop
 |mk:⇑xs<=sizeLine->(∀p,H p=none->Q ↑p (upd H p (.lst xs)))->Sg xs H Q
def aby (t:TA):TE:=λ c H Q=>t c H λb a=>Sg b a Q
def dM {l}(h:PA X es t):PE X (.Tuple es l pos) (abx t):=by
 intro a s j H Q I f;rwa[wpAny_Tuple_spliced (aZ (h pos a s j H _ I f) λk s1 ζ=>?_)];let⟨i,d,c,r,z,q⟩:=ζ;rwa[⟨by rw[<-⇑r];rwa[z],5⟩];let g:d ↥s1=none:=c.aM.fresh (ajp _);rwa[⟨↑↥s1,upd d ↥s1 (.tup i),c.laid (t':=s1.toks) (λb u e=>ajf _ e) (ajp _) ?_,2,q _ g⟩];rwa[z,k,r,⟨_,ajx _ rfl,212⟩]
def cH (h:PA X es t):PE X (.List es pos) (aby t):=by
 intro a s j H Q I f;rwa[wpAny_List_spliced (aZ (h pos a s j H _ I f) λk s1 ζ=>?_)];let⟨i,d,c,r,z,q⟩:=ζ;rwa[⟨by rw[<-⇑r];rwa[z],5⟩];let g:d ↥s1=none:=c.aM.fresh (ajp _);rwa[⟨↑↥s1,upd d ↥s1 (.lst i),c.laid (t':=s1.toks) (λb u e=>ajf _ e) (ajp _) ?_,2,q _ g⟩];rwa[z,k,(0),r,ajx _ rfl]
end
abbrev Sp:=Zb->Hp->VK->XK->Prop
abbrev my:=Zr->Hp->Zv->XK->Zu->Zv->Prop
structure m2 (P:Program) (w:World) (K:Za1) (mg:Str->Zm) (base:Heap) (A:Around) (outer:Zr) (s:Zv) (H:Hp):Prop where
 frames:A.frames\outer
 mod:Mod K mg base
 bs:∀b o,base.get? b\o->s•b\o/\H b=none
 su:base.objs.size<=↥s
 jq:s.heap.FunFrames base outer
 uY:∀b∈cJ outer,H b=none
 aM:dz P w H s.heap
 bare:AllBare s.gens
def CE (a:Zr)(P:Program)(w:World)(H:Hp)(s:Zv)(Q:VK)(u:Zu)(b:Zv):Prop:=
 ∃v c,b.os=s.os/\AllBare b.gens/\Un (cJ a) [] H c s.heap b.heap/\dz P w c b.heap/\RelV v u/\Q v c
def CR (c:my)(a:Zr)(P:Program)(w:World)(H:Hp)(s:Zv)(Q:VK)(E:XK)(r:Result)(b:Zv):Prop:=
 match r with
 |.ok (.ret u)=>CE a P w H s Q u b
 |.ok _=>False
 |.error e=>c a H s E e b
structure dv (P:Program) (w:World) (K:Za1) (mg:Str->Zm) (base:Heap) (CX:my) (k:Nat) (f:Zt) (fd:FuncData) (ps:Zq) (sp:Sp):Prop where
 len:∀vs H Q E,sp vs H Q E->⇑vs=⇑ps
 run:∀(A:Around) (outer:Zr) (s:Zv) (H:Hp) (args:Args) (us:Zl) (vs:Zb) (Q:VK) (E:XK),cD k A->m2 P w K mg base A outer s H->BindsTo s fd args (ps.zip us)->Vals vs us->sp vs H Q E->
  codeAny (model P w) A (.call ↑f args) (CR CX outer P w H s Q E) s
def m2.make {mg:Str->Zm}{base:Heap}{outer:Zr}(e:m2 P w K mg base A outer s H)(C:Zt)(a:Zl)(b:List (Str×Zu)):
 m2 P w K mg base (A.under (.builtin "type.__call__" ⟨↑C::a,b⟩)) outer s H:=⟨by first|rwa[e.frames]|(simpa [Around.under,Code.envs,Code.isFrame,pushEnvs] using e.frames),e.mod,e.bs,e.su,e.jq,e.uY,e.aM,e.bare⟩
def m2.in1 {mg:Str->Zm}{base:Heap}{outer:Zr}(e:m2 P w K mg base A outer s H):
 m2 P w K mg base A.in1 outer s H:=⟨e.frames,e.mod,e.bs,e.su,e.jq,e.uY,e.aM,e.bare⟩
section
variable {X:Cx}{pins:List (Zt×Obj)}{σ:St}{H:Hp}{s s':Zv}
def Inv.Bn (I:Inv X pins σ H s):m2 X.prog X.w X.K X.mg X.base X.A X.stack s H:=
 ⟨I.ok.frames,I.ok.mod,I.bs,aju I.ok.su I.sz,I.stack,I.pU,I.aM,I.bare⟩
def Inv.after {Q:VK}(I:Inv X pins σ H s)(h:CE X.stack X.prog X.w H s Q u s'):EP X pins σ Q u s':=by
 let⟨v,e,os,bare,un,aM,r,q⟩:=h;let⟨c,g,d,t,a⟩:=s';obtain rfl:a=s.os:=os;rwa[v,e,I.call (h':=c) (g':=g) (d':=d) (t':=t) (ch:=[]) un aM bare (λb z=>absurd z (by simp)),r,q]
end
def N0 (b:Sp)(a:Zb)(E:XK)(t:TA):TE:=λ e H Q=>t e H λc d=>b (c++a) d Q E
inductive Sh (C:Zt) (m:Str) (sp:Sp) (dvs:Zb) (E:XK) (t:TA) (σ:St) (x:V) (H:Hp) (Q:VK):Prop
 |mk (a dx:Zt) (fs:List (Str×V)):x=↑a->H a\.ins C dx fs->fs.lookup m=none->t σ H (λvs H2=>sp (x::(vs++dvs)) H2 Q E)->Sh C m sp dvs E t σ x H Q
def lA (C:Zt)(m:Str)(c:Sp)(a:Zb)(E:XK)(e:TE)(t:TA):TE:=λ b H Q=>e b H λx d=>Sh C m c a E t b x d Q
def Ww (C:Zt)(e:Sp)(c:Zb)(E:XK)(t:TA):TE:=λ g H Q=>t g H λf b=>∀x a,b x=none->b a=none->a≠x->
 e (↑x::(f++c)) (upd (upd b a (.own x)) x (.ins C a [])) (λv d=>v=.non/\Q ↑x d) E
def Binds (K:Za1)(fd:FuncData)(c:Zq)(b:Zl):Prop:=
 ∀(s:Zv) (a:Zl),K.In s.heap->⇑(a++b)=⇑c->BindsTo s fd ⟨a,[]⟩ (c.zip (a++b))
def Binds.all {fd:FuncData}(h:∀us:Zl,⇑us=⇑Z->bindArgs fd ⟨us,[]⟩=pure (Z.zip us)):Binds K fd Z []:=λs us _ a=>by
 rw[ajQ]at a ⊢;rwa[.of_eq (h us a)]
def Passes (c:my)(X:Cx)(E:XK):Prop:=∀(a:List (Zt×Obj)) (d:St) (H:Hp) (s:Zv) (e:Zu) (b:Zv),Inv X a d H s->c X.stack H s E e b->X.xe e b
section
variable {X:Cx}{CX:my}{k:Nat}{f C:Zt}{fd:FuncData}{ps:Zq}{sp:Sp}{dvs:Zb}{ds:Zl}{E:XK}{x m:Str}{p pos apos:Pos}{e o:Expr}{es:Zs}{ta:TE}{t:TA}
theorem Bo {a:List (Zt×Obj)}{Q:VK}{us:Zl}{vs:Zb}(F:dv X.prog X.w X.K X.mg X.base CX k f fd ps sp)(l:cD k X.A)(i:Binds X.K fd ps ds)(d:Vals dvs ds)(q:Passes CX X E)
 (I:Inv X a D H s) (r:Vals vs us) (h:sp (vs++dvs) H Q E):X⁻¹ X.A (call ↑f us) (EP X a D Q) X.xe s:=by
 let c:Vals (vs++dvs) (us++ds):=r.append d;let j:⇑(us++ds)=⇑ps:=by rw[<-⇑c];rwa[F.len _ _ _ _ h]
 rwa[alM (alC (F.run X.A X.stack s H ⟨us,[]⟩ (us++ds) (vs++dvs) Q E l I.Bn (i s us I.dw j) c h) λr g b=>?_)]
 cases r with
 |error e=>exact q a D H s e g I b
 |ok n=>
  cases n with
  |ret u=>exact I.after b
  |next=>exact False.elim b
  |brk=>exact False.elim b
  |cont=>exact False.elim b
def yB (F:dv X.prog X.w X.K X.mg X.base CX k f fd ps sp)(u:cD k X.A)(l:Gl X x)(y:X.mg x\↑f)(n:PySem.W.keepIn X.K ↑f=true)(j:Binds X.K fd ps ds)(i:Vals dvs ds)(w:Passes CX X E)
 (A:PA X (e::es) t) (c:(x==("__debug__":Str))=false:=by decide) (z:starEach (e::es) X.env=(false,eval e X.env)::starEach es X.env:=by rfl) (b:(backTo pos (starEach es X.env)).any (·.1)=false:=by rfl):
 PE X (.Call (.Name x p) (e::es) [] pos) (N0 sp dvs E t):=by
 intro a s v H Q I h;rwa[aks (kD I l y ?_ c)];rwa[alP (h₀:=X.base) I.ok.mod.wJ n (aZ (A pos a s v H _ I h) λJ G ζ=>?_) z b];let⟨B,D,d,r,q⟩:=ζ;rwa[⟨d.dw,5⟩];rwa[Bo F u j i w d r q]
def kH {pl:Sem Bool}(O:PE X o ta)(c:jX X.K C)(hm:Meth X.K C m f)(F:dv X.prog X.w X.K X.mg X.base CX k f fd ps sp)(J:cD k X.A)(D:Binds X.K fd ps ds)(A:Vals dvs ds)(N:Passes CX X E)(P:PA X (e::es) t)
 (g:starEach (e::es) X.env=(false,eval e X.env)::starEach es X.env:=by rfl) (d:(backTo pos (starEach es X.env)).any (·.1)=false:=by rfl)
 (B:eval (.Call (.Attribute o m apos) (e::es) [] pos) X.env=(do
  let v <-eval o X.env
  standAt apos.atName
  let (f,first) <-holding [v] (getMethod v m pl)
  callWith pos f first (backTo pos (starEach (e::es) X.env)) (backToKw pos (keywordEach [] X.env))):=by rfl):
 PE X (.Call (.Attribute o m apos) (e::es) [] pos) (lA C m sp dvs E ta t):=by
 intro b s w H Q I h;rwa[PySem.W.methodCall_KW (pl:=pl) (aZ (O b s w H _ I h) λu L ζ=>?_) B];let⟨x,G,i,M,a,W,fs,ex,R,l,q⟩:=ζ;subst ex;obtain rfl:u=Value.ref a:=M;rwa[wV i R c hm l ?_];rwa[alP (first:=[↑a]) (h₀:=X.base) I.ok.mod.wJ hm.kp (aZ (P pos b L w G _ i q) λy T ζ=>?_) g d];let⟨j,U,n,r,S⟩:=ζ;rwa[⟨n.dw,5⟩];rwa[Bo (us:=↑a::y) (vs:=↑a::j) F J D A N n (.cons rfl r) S]
def Lh {pl:Sem Bool}(z:PE X o ta)(c:jX X.K C)(hm:Meth X.K C m f)(F:dv X.prog X.w X.K X.mg X.base CX k f fd ps sp)(r:cD k X.A)(n:Binds X.K fd ps ds)(i:Vals dvs ds)(y:Passes CX X E)
 (j:eval (.Call (.Attribute o m apos) [] [] pos) X.env=(do
  let g <-eval o X.env
  standAt apos.atName
  let (f,first) <-holding [g] (getMethod g m pl)
  callWith pos f first (backTo pos (starEach [] X.env)) (backToKw pos (keywordEach [] X.env))):=by rfl):
 PE X (.Call (.Attribute o m apos) [] [] pos) (lA C m sp dvs E ta jZ):=by
 intro b s w H Q I h;rwa[PySem.W.methodCall_KW (pl:=pl) (aZ (z b s w H _ I h) λu G ζ=>?_) j];let⟨x,D,d,v,a,L,fs,ex,A,l,q⟩:=ζ;subst ex;obtain rfl:u=Value.ref a:=v;rwa[wV d A c hm l ?_];rwa[PySem.W.callWith_K0 (first:=[↑a]) d.dw hm.kp (Bo (us:=[↑a]) (vs:=[↑a]) F r n i y d (.cons rfl .nil) q)]
structure Mk (K:Za1) (C f:Zt):Prop where
 makes:PySem.W.makesIn K C=true
 init:PySem.W.findIn K ↑C "__init__"=some (some ↑f)
 fn:PySem.W.isFn K ↑f=true
 kp:PySem.W.keepIn K ↑C=true
theorem Li {a:List (Zt×Obj)}{Q:VK}(M:Mk X.K C f)(F:dv X.prog X.w X.K X.mg X.base CX k f fd ps sp)(B:cD (k+ 1) X.A)(n:Binds X.K fd ps ds)(j:Vals dvs ds)
 (J:Passes CX X E) (I:Inv X a D H s) (r:Vals L N)
 (h:∀x d,H x=none->H d=none->d≠x->sp (↑x::(L++dvs)) (upd (upd H d (.own x)) x (.ins C d [])) (λv O=>v=.non/\Q ↑x O) E):
 X⁻¹ X.A (call ↑C N) (EP X a D Q) X.xe s:=by
 let g:=h (↥s+ 1) ↥s (I.aM.fresh (amJ _)) (I.aM.fresh (ajp _)) (ajL (akK _));let c:=Inv.made (C:=C) I;let i:Vals (V.ref (↥s+ 1)::(L++dvs)) (Value.ref (↥s+ 1)::(N++ds)):=.cons rfl (r.append j)
 let A:⇑(Value.ref (↥s+ 1)::N++ds)=⇑ps:=by
  let e:=⇑i;rw[F.len _ _ _ _ g]at e;rwa[e.symm]
 refine alM (Lg (f:=f) I.dw M.makes M.init (beq_iff_eq.mp M.fn) (alC (F.run _ X.stack _ _ ⟨Value.ref (↥s+ 1)::N,[]⟩ (Value.ref (↥s+ 1)::(N++ds)) _ _ E (B.make C N [])
  (c.Bn.make C N []) (n _ (Value.ref (↥s+ 1)::N) c.dw A) i g) λr l b=>?_))
 cases r with
 |error e=>exact J a D _ _ e l c b
 |ok G=>
  cases G with
  |ret u=>
   let⟨v,P,w,z,q,y⟩:=c.after b;subst q;rwa[z,⟨V.ref (↥s+ 1),P,w,2,y⟩]
  |next=>exact False.elim b
  |brk=>exact False.elim b
  |cont=>exact False.elim b
def ug (M:Mk X.K C f)(F:dv X.prog X.w X.K X.mg X.base CX k f fd ps sp)(n:cD (k+ 1) X.A)(l:Gl X x)(w:X.mg x\↑C)(j:Binds X.K fd ps ds)(i:Vals dvs ds)(v:Passes CX X E)
 (z:PA X (e::es) t) (c:(x==("__debug__":Str))=false:=by decide) (y:starEach (e::es) X.env=(false,eval e X.env)::starEach es X.env:=by rfl) (b:(backTo pos (starEach es X.env)).any (·.1)=false:=by rfl):
 PE X (.Call (.Name x p) (e::es) [] pos) (Ww C sp dvs E t):=by
 intro a s u H Q I h;rwa[aks (kD I l w ?_ c)];rwa[alP (h₀:=X.base) I.ok.mod.wJ M.kp (aZ (z pos a s u H _ I h) λG D ζ=>?_) y b];let⟨A,B,d,r,q⟩:=ζ;rwa[⟨d.dw,5⟩];rwa[Li M F n j i v d r q]
end
def PK (X:Cx)(kws:List Keyword)(t:TA):Prop:=
 ∀(b:Pos) (a:List (Zt×Obj)) (s:Zv) (c:St) (H:Hp) (Q:Zb->Hp->Prop),Inv X a c H s->t c H Q->X⁻¹ X.A (evalAll ((backToKw b (keywordEach kws X.env)).map (·.2))) (AP X a c Q) X.xe s
section
variable {X:Cx}{fd:FuncData}{ps ks:Zq}{x:Str}{pos abz:Pos}{e:Expr}{kws:List Keyword}{te:TE}{t:TA}{nm:Option Str}
def Ij:PK X [] jZ:=λ_ _ _ _ H Q I h=>wpAny_evalAll_nil ⟨[],H,I,.nil,h⟩
def EY (w:PE X e te)(l:PK X kws t):PK X (⟨nm,e,abz⟩::kws) (jj te t):=by
 intro pos a s b H Q I h;rwa[wpAny_evalAll_cons (aje (aZ (w a s b H _ I h) λu q ζ=>?_))];let⟨x,j,d,c,g⟩:=ζ;rwa[aje (amg (ajl ?_))];rwa[aZ (l pos a q b j _ d g) λA z ζ=>?_];let⟨n,v,i,r,y⟩:=ζ;rwa[⟨x::n,v,i,.cons c r,y⟩]
structure acL (K:Za1) (fd:FuncData) (ps ks:Zq) (g:Zl->Zl->Zl) (gV:Zb->Zb->Zb):Prop where
 to:∀(s:Zv) (us ws:Zl),K.In s.heap->⇑(g us ws)=⇑ps->BindsTo s fd ⟨us,ks.zip ws⟩ (ps.zip (g us ws))
 rel:∀{vs:Zb} {us:Zl} {zs:Zb} {ws:Zl},Vals vs us->Vals zs ws->Vals (gV vs zs) (g us ws)
end
structure aL (N P:Zq) (sc:Scope):Prop where
 kind:sc.kind=.function
 co:sc.isCoroutine=false
 gen:sc.isGenerator=false
 nd:N.Nodup
 pre:N.take ⇑P=P
 par:∀x∈P,sc.names.lookup x=some .local\/sc.names.lookup x=some .cell
 Si:∀y∈sc.names,y.2≠.free
theorem zr {kindOf:Str->Option NameKind}:∀{binds:List (Str×Zu)} {m:Str->Zm},(∀v,(x,v)∉binds)->bindL kindOf binds m x=m x
 |[],_,_=>rfl
 |(n,v)::r,m,h=>by
  unfold bindL;rw[zr λw a=>h w (ajP _ a)];split
  ·cbv
  ·rfl
theorem zt {kindOf:Str->Option NameKind}:∀{binds:List (Str×Zu)} {m:Str->Zm},(∀v,(x,v)∉binds)->bindC kindOf binds m x=m x
 |[],_,_=>rfl
 |(n,v)::r,m,h=>by
  unfold bindC;rw[zt λw a=>h w (ajP _ a)];split
  ·rfl
  cbv
theorem zu {kindOf:Str->Option NameKind}{x:Str}{v:Zu}:∀{P:Zq} {a:Zl} {i:Nat} {m:Str->Zm},P.Nodup->P[i]?\x->a[i]?\v->kindOf x=some .local->
 bindL kindOf (P.zip a) m x=some v
 |[],_,_,_,_,h,_,_=>by simp at h
 |_::_,[],_,_,_,_,h,_=>by simp at h
 |p::P,w::a,0,m,d,c,b,e=>by
  simp at c b;subst c;subst b;show bindL kindOf ((p,w)::P.zip a) m p=_;unfold bindL;rw[zr λv f=>(ajX.mp d).1 (List.of_mem_zip f).1,ajD e];simp
 |p::P,w::a,i+ 1,m,d,c,b,e=>by
  unfold bindL;rwa[zu (i:=i) (ajX.mp d).2 (by simpa using c) (by simpa using b) e]
theorem zv {kindOf:Str->Option NameKind}{x:Str}{v:Zu}:∀{P:Zq} {a:Zl} {i:Nat} {m:Str->Zm},P.Nodup->P[i]?\x->a[i]?\v->kindOf x≠some .local->
 bindC kindOf (P.zip a) m x=some v
 |[],_,_,_,_,h,_,_=>by simp at h
 |_::_,[],_,_,_,_,h,_=>by simp at h
 |p::P,w::a,0,m,d,c,b,e=>by
  simp at c b;subst c;subst b;show bindC kindOf ((p,w)::P.zip a) m p=_;unfold bindC;rw[zt λv f=>(ajX.mp d).1 (List.of_mem_zip f).1,ajw e];simp
 |p::P,w::a,i+ 1,m,d,c,b,e=>by
  unfold bindC;rwa[zv (i:=i) (ajX.mp d).2 (by simpa using c) (by simpa using b) e]
noncomputable def start (N:Zq)(a:Zb):St:=a.map some++List.replicate (⇑N - ⇑a) none
def cE (c:my)(P:Program)(w:World)(K:Za1)(mg:Str->Zm)(base:Heap)(N:Zq)(qual:Str)(scope:Scope)(f:Zt)(b:Zu)(A:Around)(outer:Zr)(s:Zv)(H:Hp)(E:XK):Cx where
 prog:=P
 w:=w
 K:=K
 mg:=mg
 base:=base
 A:=A.deeper (envOfC qual scope ↥s f b)
 N:=N
 ej:=s
 vA:=H
 env:=envOfC qual scope ↥s f b
 outer:=outer
 stack:=envOfC qual scope ↥s f b::outer
 ex:=[]
 calm:=true
 fn:=λ_=>true
 pn:=[]
 xe:=λe d=>(P<|>w) (A.deeper (envOfC qual scope ↥s f b)) (leaving (envOfC qual scope ↥s f b) e) (λ_ a=>c outer H s E e a) (λg a=>c outer H s E g a) d
def Bp {sc:Scope}(h:sc.names.lookup x=some .cell):∃c,(cellsFrom n sc.names []).lookup x\c:=by
 let q:=amq sc.names n [] (.inl h);rwa[akl.mp q]
def zx {O:my}{base:Heap}{N:Zq}{qual:Str}{scope:Scope}{f:Zr}{E:XK}{G:Zl}
 (S:aL N Z scope) (Q:A.handled=none) (j:m2 P w K M base A f s H) (X:⇑L=⇑Z) (r:Vals L G)
 (x:InCallC s ↥s (bindL (envOfC qual scope ↥s a v).kindOf (Z.zip G) λ_=>none) (cellsFrom (↥s+ 1) scope.names []) (bindC (envOfC qual scope ↥s a v).kindOf (Z.zip G) λ_=>none) t):
 Inv (cE O P w K M base N qual scope a v A f s H E) [] (start N L) H t:=by
 let R:⇑Z<=⇑N:=by have:=akm List.length S.pre;rw[ajN]at this;ext
 let⟨D,W,rfl,I⟩:=x.done;let m:∀b:Zt,b∉(cE O P w K M base N qual scope a v A f s H E).ex:=λb z=>absurd (show b∈([]:Zo) from z) (by simp)
 erw[⟨j.mod,S.kind,22,ajp _,λy z c D l=>?_,λy B=>?_,λy c _ h=>?_,λ_=>Q,Around.frames_deeper j.frames,.inr ⟨22⟩,λb z=>absurd z (m b),j.bs,j.su,λb _ _=>m b,λb z=>absurd z (m b),j.jq,j.uY⟩,2,j.bare,Un.kept I,⟨_,x.toInCall.ns,λi y g D l Y=>?_⟩,λy c h=>⟨_,x.cell y c h⟩,j.aM.fresh (ajp _),λy c h=>?_,λp o=>absurd (show p∈([]:List (Zt×Obj)) from o) (by simp),j.aM.kept I]
 ·rwa[name_of_addr x.apart (alc D) (alc l)]
 ·rcases B with B|B
  ·rwa[Bp B]
  ·rwa[absurd rfl (S.Si _ (alc B))]
 ·rwa[akZ (x.above y c (alc h))]
 ·let F:i<⇑L:=by
   unfold start at l;cases F:i<⇑L
   ·rwa[F]
   ·cbv
  let U:L[i]?\g:=by
   unfold start at l;rw[ajs (by simpa using F),ajq]at l
   cases e:L[i]? with
   |none=>rw[e]at l;ext l
   |some d=>cbv
  let⟨u,J,T⟩:=r.get U
  let o:Z[i]?\y:=by
   rw[<-S.pre,alu ∅];rwa[D]
  let C:Z.Nodup:=by rw[<-S.pre];rwa[S.nd.sublist (List.take_sublist _ _)]
  erw[u,T];rcases S.par y (ajj o) with k|k
  ·rwa[.inl ⟨k,zu C o J k⟩]
  ·let⟨c,e⟩:=Bp (n:=↥s+ 1) k;rwa[.inr ⟨.inl k,c,e,5⟩];let q:=x.cell y c e;rw[zv C o J (by show scope.names.lookup y≠_;cbv)]at q;rwa[q]
 ·rwa[j.aM.fresh (akZ (x.above y c (alc h)))]
 ·unfold start;show _=⇑N;rw[ajh,ajk,List.length_replicate];ext
def A5 {B:my}{base:Heap}{k:Nat}{name qual:Str}{params:Arguments}{body:List Stmt}{scope:Scope}{dV kV doc pm d X Y:Zu}{W od:Zp}
 {O:Array Zm} {N z:Zq} {C:Sp} (lk:K.lookup a\⟨Y,od,.func (PySem.W.fnOf name qual params body scope dV kV doc pm W d X),O⟩) (L:PySem.W.codeIn K d qual=true) (S:aL N z scope)
 (len:∀f H Q E,C f H Q E->⇑f=⇑z)
 (j:∀(A:Around) (c:Zr) (s:Zv) (H:Hp) (f:Zb) (Q:VK) (E:XK),cD k (A.deeper (envOfC qual scope ↥s a d))->C f H Q E->
  ∃t,iY (cE B P w K M base N qual scope a d A c s H E) body t/\t { nx:=λ_ h=>Q .non h,rt:=Q } (start N f) H):
 dv P w K M base B (k+ 1) a (PySem.W.fnOf name qual params body scope dV kV doc pm W d X) z C:=by
 rwa[⟨len,λA c s H R us f Q E G m hb r p=>?_⟩];let hl:=len _ _ _ _ p;let T:K.In s.heap:=m.mod.wJ.keeps λb o e=>(m.bs b o e).1
 let lim:s.heap.NoLimit:=m.mod.nolimit.keeps λb o e=>(m.bs b o e).1
 let i:∀y∈z.zip us,scope.names.lookup y.1=some .local\/(scope.names.lookup y.1=some .cell/\((cellsFrom (↥s+ 1) scope.names []).lookup y.1).isSome=true):=λζ hy=>by
  let⟨n,v⟩:=ζ
  rcases S.par n (List.of_mem_zip hy).1 with q|q
  ·rwa[.inl q]
  ·rwa[.inr ⟨q,amq _ _ _ (.inl q)⟩]
 rwa[codeAny_call_function G.depth (T^lk) rfl S.co S.gen rfl (PySem.W.codeRec_of T L) (hb _ _ _ _ ?_)];rwa[wpAny_newFunctionEnv_cells S.kind i λenv he U x=>?_]
 subst he;rwa[⟨lim.keeps x.toInCall.keep,codeAny_func ?_⟩];let⟨t,Z,hq⟩:=j A c s H f Q E (G.deeper _) p;let I:Inv (cE B P w K M base N qual scope a d A c s H E) [] (start N f) H U:=zx S G.hd m hl r x;rwa[akq (Z [] U (start N f) H _ I hq) (λfl D l=>?_) λe D l=>l]
 let fin:∀{g:St} {h:Hp} {v:V} {u:Zu},Inv (cE B P w K M base N qual scope a d A c s H E) [] g h D->RelV v u->Q v h->CE c P w H s Q u D:=
  λ{g h v u} J F q=>⟨v,h,J.os,J.bare,J.base,J.aM,F,q⟩
 cases fl with
 |ret u=>
  let⟨v,g,h,J,F,q⟩:=l;rwa[fin J F q]
 |next=>
  let⟨g,h,J,q⟩:=l;rwa[fin (v:=V.non) (u:=Value.none) J rfl q]
 |brk=>
  let⟨_,_,_,q⟩:=l;rwa[False.elim q]
 |cont=>
  let⟨_,_,_,q⟩:=l;rwa[False.elim q]
section
variable {X:Cx}{x:Str}{p pos:Pos}{e:Expr}{es:Zs}{t:TA}{id T:String}{r:Zb->Hp->VK->Prop}
def XW (r:Zb->Hp->VK->Prop)(t:TA):TE:=λ c H Q=>t c H λa b=>r a b Q
def bQ (l:iM X (.builtin id) r)(g:Gl X x)(q:X.mg x=none)(v:bootBuiltins x\.builtin id)(w:PA X (e::es) t)(o:x≠"__name__":=by decide)(c:(x==("__debug__":Str))=false:=by decide)
 (y:starEach (e::es) X.env=(false,eval e X.env)::starEach es X.env:=by rfl) (b:(backTo pos (starEach es X.env)).any (·.1)=false:=by rfl):PE X (.Call (.Name x p) (e::es) [] pos) (XW r t):=by
 intro a s d H Q I h;rwa[aks (iu I g q v ?_ o c)];rwa[PyProof.Rows.callWith_builtin1 (aZ (w pos a s d H _ I h) λu n ζ=>?_) y b];let⟨j,m,i,f,k⟩:=ζ;rwa[l a n d m j u Q i f k]
def cR (l:iM X (.type T) r)(g:Gl X x)(q:X.mg x=none)(v:bootBuiltins x\.type T)(w:PA X (e::es) t)(o:x≠"__name__":=by decide)(c:(x==("__debug__":Str))=false:=by decide)
 (y:starEach (e::es) X.env=(false,eval e X.env)::starEach es X.env:=by rfl) (b:(backTo pos (starEach es X.env)).any (·.1)=false:=by rfl):PE X (.Call (.Name x p) (e::es) [] pos) (XW r t):=by
 intro a s d H Q I h;rwa[aks (iu I g q v ?_ o c)];rwa[akk (aZ (w pos a s d H _ I h) λu n ζ=>?_) y b];let⟨j,m,i,f,k⟩:=ζ;rwa[l a n d m j u Q i f k]
end
end L2
namespace HT
open PySem PyProof.Rows
noncomputable def lexLt:Zh->Zh->Bool
 |[],[]=>false
 |[],_::_=>true
 |_::_,[]=>false
 |x::a,y::ys=>if x=y then lexLt a ys else decide (x<y)
def wW (x y:Int)(a ys:Zh):lexLt (x::a) (y::ys)=if x=y then lexLt a ys else decide (x<y):=rfl
def Ao:lexLt [] []=false:=rfl
section
variable {prog:Program}{w:World}{A:Around}{E:Zu->Zv->Prop}{s:Zv}
def Qd {ws:Zl}(t:IsTup s.heap a N.toArray)(u:IsTup s.heap b ws.toArray)(o:N≠[])
 (v:ws=[]->Q ↑a s) (r:ws≠[]->Q ↑↥s { s with heap:=s.heap.push ("tuple">>>.seq (N++ws).toArray) })
 (x:⇑N+ ⇑ws<=sizeLine):(prog<|>w) A (binaryOp .Add ↑a ↑b) Q E s:=by
 let⟨⟨cls,m,data,k⟩,h,y,n,q⟩:=id t;let⟨⟨l,d,data2,f⟩,c,j,p,i⟩:=id u;subst y q j i;let e:N.toArray++ws.toArray=(N++ws).toArray:=by simp
 cases g:ws=[]
 ·exact concat_meets ⟨_,h,2⟩ ⟨_,c,2⟩ noFill_tuple_add seq_tuple_add amr ami (ame _ _)
   (tuple_addW1 a b N.toArray ws.toArray n p m d k f (by simpa using o) (by simp[g])) ⟨h,c,v g⟩
 ·refine concat_meets ⟨_,h,2⟩ ⟨_,c,2⟩ noFill_tuple_add seq_tuple_add amr ami (ame _ _)
   (tuple_addW2 a b N.toArray ws.toArray n p m d k f (by simpa using o) (by simpa using g) ∅) ⟨h,c,5⟩
  rw[e];rwa[r g]
noncomputable def b0 (n d:Nat):Zk->Nat
 |none=>d
 |some v=>if v<0 then (v+ (n:Int)).toNat else min v.toNat n
def uh (n d k:Nat):b0 n d (some (k:Int))=min k n:=by
 show (if (k:Int)<0 then ((k:Int)+ (n:Int)).toNat else min (k:Int).toNat n)=min k n;rw[ajw ∅,akg]
def EZ (v:Int)(n d:Nat):(if v<0 then max (v+ (n:Int)) 0 else min v (n:Int))=((b0 n d (some v):Nat):Int):=by
 show (if v<0 then max (v+ (n:Int)) 0 else min v (n:Int))=(((if v<0 then (v+ (n:Int)).toNat else min v.toNat n):Nat):Int);cases a:v<0
 ·cbv
 ·simp only[ajw a];ext
def Gq (lo a:Zk)(n:Nat):Builtin.Slice.sliceAdjust lo a 1 (n:Int)=(((b0 n 0 lo:Nat):Int),((b0 n n a:Nat):Int)):=by
 let b:¬((1:Int)<0):=∅
 unfold Builtin.Slice.sliceAdjust;rwa[Prod.ext ?_ ?_]
 ·cases lo with
  |none=>rfl
  |some v=>exact EZ v n 0
 ·cases a with
  |none=>rfl
  |some v=>exact EZ v n n
def Gr (i j:Nat):Builtin.Slice.slicePlaces (i:Int) (j:Int) 1=j - i:=by
 unfold Builtin.Slice.slicePlaces;let a:(1:Int) > 0:=∅
 split <;> ext
def wX {o:Zk}{Q:Zk->Zv->Prop}(p:IsPart v o)(h:Q o s):(prog<|>w) A (Builtin.Slice.slicePartIndex v) Q E s:=by
 cases p with
 |none=>exact slicePart_none h
 |int i t=>exact slicePart_int h
def m3 {lo d:Zk}{Q:Int×Int×Nat->Zv->Prop}(g:s.heap.IsSliceOf a v u .none)(pl:IsPart v lo)(e:IsPart u d)
 (h:Q (((b0 n 0 lo:Nat):Int),1,b0 n n d - b0 n 0 lo) s):(prog<|>w) A (Builtin.Slice.sliceApplied ↑a (pure (n:Int))) Q E s:=by
 let⟨os,b,f,c⟩:=id g;rwa[aje (aje (aka b c (x:=v) rfl (aje (aka b c (x:=u) rfl (aje (aka b c (x:=.none) rfl (ajl ?_)))))))];rwa[aje (slicePart_none ?_)];rwa[aje (wX pl (aje (wX e (aje (ajl ?_)))))];show wpAny _ _ (match Builtin.Slice.sliceAdjust lo d 1 (n:Int) with|(lo,d)=>pure (lo,(1:Int),Builtin.Slice.slicePlaces lo d 1)) _ _ s;rw[Gq lo d n];show wpAny _ _ (pure (((b0 n 0 lo:Nat):Int),(1:Int),Builtin.Slice.slicePlaces ((b0 n 0 lo:Nat):Int) ((b0 n n d:Nat):Int) 1)) _ _ s;rw[Gr];rwa[ajl h]
def Lj (xs:Zn)(i k:Nat):((~~~k).filterMap λ(m:Nat)=>xs[((i:Int)+ (m:Int)* 1).toNat]?).toArray=((xs.toList.drop i).take k).toArray:=by
 let e:(λ(m:Nat)=>xs[((i:Int)+ (m:Int)* 1).toNat]?)=λm=>xs[i+ m]?:=by
  funext m
  have:((i:Int)+ (m:Int)* 1).toNat=i+ m:=∅
  rw[this]
 rw[e];have:=pick_run xs i k;rw[List.filterMap_map]at this;let a:((λx=>xs[x]?) ∘ λx=>i+ x)=λm=>xs[i+ m]?:=rfl
 cbv
def uI {items:Zn}{lo d:Zk}(e:IsTup s.heap a items)(k:s.heap.IsSliceOf b v u .none)(pl:IsPart v lo)(p:IsPart u d)
 (o:¬(b0 items.size 0 lo=0/\b0 items.size items.size d=items.size))
 (h:Q ↑↥s { s with heap:=s.heap.push ("tuple">>>.seq ((items.toList.drop (b0 items.size 0 lo)).take (b0 items.size items.size d - b0 items.size 0 lo)).toArray) })
 (n:items.size<=sizeLine):(prog<|>w) A (getItem ↑a ↑b) Q E s:=by
 let c:sizeOk (.seq ((items.toList.drop (b0 items.size 0 lo)).take (b0 items.size items.size d - b0 items.size 0 lo)).toArray):=by
  show ((items.toList.drop (b0 items.size 0 lo)).take (b0 items.size items.size d - b0 items.size 0 lo)).toArray.size<=sizeLine;rw[ajI,ajN,aj5,alE];ext
 let⟨os,i,g,l⟩:=id k;let j:s.TypeIs ↑b "slice":=⟨os,i,g⟩;unfold getItem
 try with_reducible rwa[akd ?_]
 rwa[aje (wpAny_sequenceKey e.typeIs ⋯ ?_)]
 refine aje (ako (name:=Str.ofString "__getitem__") e.typeIs ajY
  (akw ajY e.typeIs entry_tuple_getitem ?_ (args_tuple_getitem _ _)))
 show wpAny _ _ (Builtin.Tuple.tupleItemsOf ↑a >>=_) _ _ s;rwa[aje (tupleItemsOf_ e ?_)];rwa[aje (alk j ?_)];rwa[aje (m3 k pl p ?_)]
 let f:¬((((b0 items.size 0 lo:Nat):Int)==0 && (1:Int)==1 && (b0 items.size items.size d - b0 items.size 0 lo)==items.size)=true):=by
  intro q;rw[aj6,aj6]at q;let r:((b0 items.size 0 lo:Nat):Int)=0:=eq_of_beq q.1.1;let t:b0 items.size items.size d - b0 items.size 0 lo=items.size:=eq_of_beq q.2;rwa[o ⟨33⟩]
 show wpAny _ _ (if (((b0 items.size 0 lo:Nat):Int)==0 && (1:Int)==1 && (b0 items.size items.size d - b0 items.size 0 lo)==items.size)=true then _ else _) _ _ s;rw[ajw f,Lj]
 first
  |rwa[aje (m:=Builtin.Tuple.tupleExact _) (ajW (ajl ⟨_,rfl,ajl h⟩) c)]
  |rwa[aje (m:=Builtin.Tuple.tupleExact _) (ajW (aje (ajl (ajl ⟨_,rfl,ajl h⟩))) c)]
  |rwa[aje (aje (m:=Builtin.Tuple.tupleExact _) (ajW (ajl (ajl ⟨_,rfl,ajl h⟩)) c))]
  |rwa[aje (aje (m:=Builtin.Tuple.tupleExact _) (ajW (ajl ⟨_,rfl,ajl h⟩) c))]
end
end HT
namespace L2
open PySem PySem.Spec PyProof.Rows
abbrev TO:=St->Hp->(Zk->Hp->Prop)->Prop
def PO (X:Cx)(e:Option Expr)(t:TO):Prop:=
 ∀(a:List (Zt×Obj)) (s:Zv) (b:St) (H:Hp) (Q:Zk->Hp->Prop),Inv X a b H s->t b H Q->
  X⁻¹ X.A (evalPart e X.env) (λu d=>∃o c,Inv X a b c d/\IsPart u o/\Q o c) X.xe s
def Qe:TO:=λ_ H Q=>Q none H
def Wx (t:TE):TO:=λ b H Q=>t b H λx a=>∃i,x=.int i/\Q (some i) a
section
variable {X:Cx}{e:Expr}{te:TE}{lo hi:Option Expr}{tl th:TO}{pos p2:Pos}
def jI:PO X none Qe:=by
 intro a s b H Q I h;rwa[ajl ⟨none,H,I,.none,h⟩]
def gu (h:PE X e te):PO X (some e) (Wx te):=by
 intro a s j H Q I b;rwa[aZ (h a s j H _ I b) λu k ζ=>?_];let⟨x,c,g,d,f⟩:=ζ
 let⟨i,rfl,q⟩:=f;let⟨t,rfl⟩:=d;rwa[some i,c,g,.int i t,q]
def N1 (X:Cx)(r:V->Zk->Zk->Hp->VK->Prop):Prop:=
 ∀(a:List (Zt×Obj)) (s:Zv) (f:St) (H:Hp) (x:V) (v d c:Zu) (lo hi:Zk) (b:Zt) (Q:VK),Inv X a f H s->RelV x v->s.heap.IsSliceOf b d c .none->IsPart d lo->IsPart c hi->r x lo hi H Q->
  ∃T id,typeLookup (.type T) "__getitem__"=pure (some (.builtin id))/\s.TypeIs v T/\X⁻¹ X.A (getItem v ↑b) (EP X a f Q) X.xe s
def tSl (r:V->Zk->Zk->Hp->VK->Prop)(te:TE)(tl th:TO):TE:=λ a H Q=>te a H λx c=>tl a c λl b=>th a b λu d=>r x l u d Q
def iz {r:V->Zk->Zk->Hp->VK->Prop}(C:N1 X r)(J:PE X e te)(B:PO X lo tl)(E:PO X hi th):PE X (.Subscript e (.Slice lo hi none p2) pos) (tSl r te tl th):=by
 intro a s c H Q I h;rwa[Subscript_ (aZ (J a s c H _ I h) λv F ζ=>?_)];let⟨x,A,m,i,w⟩:=ζ;rwa[wpAny_Slice (aZ (B a F c A _ m w) λf p ζ=>?_)];let⟨l,G,z,pl,L⟩:=ζ;rwa[aZ (E a p c G _ z L) λd s3 ζ=>?_];let⟨u,g,o,D,y⟩:=ζ;rwa[ajl ?_];let j:Inv X a c g { s3 with heap:=s3.heap.push ("slice">>>.fields #[f,d,.none]) }:=o.kept (t':=s3.toks) λb N q=>ajf _ q
 let⟨T,id,t,k,n⟩:=C a { s3 with heap:=s3.heap.push ("slice">>>.fields #[f,d,.none]) } c g x v f d l u ↥s3 Q j i (Heap.IsSliceOf.new ..) pl D y;rwa[tail_any (ops:=[↑↥s3,v]) k t n (by with_unfolding_all rfl)]
def eU (xs:Zb)(lo hi:Zk):Zb:=(xs.drop (HT.b0 ⇑xs 0 lo)).take (HT.b0 ⇑xs ⇑xs hi - HT.b0 ⇑xs 0 lo)
def u9 (xs:Zb)(lo hi:Zk):⇑(eU xs lo hi)<=⇑xs:=by
 unfold eU;rw[ajN,aj5];ext
inductive Sj (K:Za1) (x:V) (lo:Zk) (hi:Zk) (H:Hp) (Q:VK):Prop
 |mk (a:Zt) (xs:Zb):x=↑a->bz K H a xs->¬(HT.b0 ⇑xs 0 lo=0/\HT.b0 ⇑xs ⇑xs hi=⇑xs)->(∀p,H p=none->Q ↑p (upd H p (.tup (eU xs lo hi))))->Sj K x lo hi H Q
def Sl:N1 X (Sj X.K):=by
 intro g s y H x v w n lo hi t Q I k l pl j h;let⟨a,xs,rfl,m,i,q⟩:=h;ext k;let⟨c,r,d,f⟩:=I.tuple m;let hlen:c.toArray.size=⇑xs:=by rwa[r.length.symm]
 erw["tuple",_,ajY.lookup,d.typeIs];rwa[HT.uI d l pl j ([hlen]▸i) ?_ ([hlen]▸f)];rw[hlen];rwa[⟨↑↥s,_,I.laid (t':=s.toks) (o:=.tup (eU xs lo hi)) (λb u q=>ajf _ q) (ajp _) ?_,2,q _ (I.aM.fresh (ajp _))⟩];rwa[aju (u9 xs lo hi) f,_,(r.drop (HT.b0 ⇑xs 0 lo)).take (HT.b0 ⇑xs ⇑xs hi - HT.b0 ⇑xs 0 lo),IsTup.new _ _]
inductive abA (K:Za1) (x:V) (y:V) (H:Hp) (Q:VK):Prop
 |mk (a b:Zt) (ns ms:Zh):x=↑a->y=↑b->bz K H a (ns.map V.int)->bz K H b (ms.map V.int)->Q (.bl (HT.lexLt ns ms)) H->abA K x y H Q
inductive N2 (K:Za1) (x:V) (y:V) (H:Hp) (Q:VK):Prop
 |mk (a b:Zt) (xs ys:Zb):x=↑a->y=↑b->bz K H a xs->bz K H b ys->xs≠[]->⇑xs+ ⇑ys<=sizeLine->(ys=[]->Q ↑a H)->(ys≠[]->∀p,H p=none->Q ↑p (upd H p (.tup (xs++ys))))->N2 K x y H Q
def Vals.ui (r:Vals L N):N=[]↔L=[]:=by
 cases r with
 |nil=>simp
 |cons _ _=>simp
def Qf:gf X (binaryOp .Add) (N2 X.K):=by
 intro g s E H x y v u Q I p r h;let⟨a,b,n,ys,rfl,rfl,A,j,t,f,l,B⟩:=h;ext p;ext r;let⟨k,d,m,_⟩:=I.tuple A;let⟨i,c,p2,_⟩:=I.tuple j;rwa[HT.Qd m p2 (λz=>t (d.ui.mp z)) (λz=>⟨↑a,H,I,2,l (c.ui.mp z)⟩) (λz=>?_) (by rw[<-⇑d,<-⇑c];rwa[f])];rwa[⟨↑↥s,_,I.laid (t':=s.toks) (o:=.tup (n++ys)) (λb D q=>ajf _ q) (ajp _) ?_,2,B (λw=>z (c.ui.mpr w)) _ (I.aM.fresh (ajp _))⟩];rwa[[ajh]▸f,_,d.append c,IsTup.new _ _]
end
noncomputable def sD (n:Nat)(i:Int):Zj:=if 0<=i then (if i<n then some i.toNat else none) else if -(n:Int)<=i then some (i+ n).toNat else none
def iZ {a:Type}(xs:List a)(i:Int):Option a:=(sD ⇑xs i).bind λj=>xs[j]?
def E5 (h:sD n z\j):seqIndex? z n\j/\j<n/\-(n:Int)<=z/\z<n:=by
 unfold sD at h;cases b:0<=z
 ·rw[ajD b]at h;cases a:z<n
  ·rw[ajD a]at h;let e:z.toNat=j:=Za0 h;rwa[by rw[seqIndex_of b a,e],33,a]
  ·rw[ajw a]at h;ext h
 ·rw[ajw b]at h;cases a: -(n:Int)<=z
  ·rw[ajD a]at h;let e:(z+ n).toNat=j:=Za0 h;rwa[by rw[seqIndex_neg ∅ a,e],3,a,3]
  ·rw[ajw a]at h;ext h
def E6 {a:Type}{xs:List a}{v:a}(h:iZ xs z\v):∃j,seqIndex? z ⇑xs\j/\xs[j]?\v/\j<⇑xs/\-(⇑xs:Int)<=z/\z<⇑xs:=by
 unfold iZ at h
 cases e:sD ⇑xs z with
 |none=>rw[e]at h;ext h
 |some j=>
  rw[e]at h;let⟨d,b,f,c⟩:=E5 e;rwa[j,d,h,b,f,c]
def cj {a:Type}{xs:List a}{v:a}(h:xs[j]?\v):iZ xs (j:Int)\v:=by
 let b:j<⇑xs:=(aji.mp h).1
 let e:sD ⇑xs (j:Int)\j:=by
  unfold sD;rw[ajD ∅,ajD ∅];simp
 unfold iZ;rw[e];rwa[h]
def Lk {a:Type}(xs:List a)(v:a):iZ (xs++[v]) (-1)\v:=by
 let b:⇑(xs++[v])=⇑xs+ 1:=by simp
 let e:sD ⇑(xs++[v]) (-1)\⇑xs:=by
  unfold sD;rw[b,ajw ⋯,ajD ∅]
  congr 1
  ext
 unfold iZ
 cbv
def Qg (b:Expr):Prop:=∀o i,subscripted b false o i=operate [o,i] (getItem o i)
def Ik (X:Cx)(r:R2):Prop:=
 ∀(value slice:Expr) (a:List (Zt×Obj)) (s:Zv) (b:St) (H:Hp) (x y:V) (v u:Zu) (Q:VK),Inv X a b H s->RelV x v->RelV y u->r x y H Q->
  subscripted slice false v u=operate [v,u] (getItem v u)->X⁻¹ X.A (subscriptTail value slice v u) (EP X a b Q) X.xe s
def Sn (X:Cx)(id:String)(r:V->Zb->Hp->VK->Prop):Prop:=
 ∀(a:List (Zt×Obj)) (s:Zv) (d:St) (H:Hp) (x:V) (c:Zb) (v:Zu) (b:Zl) (Q:VK),Inv X a d H s->RelV x v->Vals c b->r x c H Q->
  X⁻¹ X.A (call (.builtin id) (v::b)) (EP X a d Q) X.xe s
section
variable {X:Cx}{a b:Expr}{ta tb:TE}{pos:Pos}
def bA {r:R2}(g:Ik X r)(n:PE X a ta)(d:PE X b tb)(j:Qg b):PE X (.Subscript a b pos) (NW r ta tb):=by
 intro c s l H Q I h;rwa[Subscript_ (Lb n d I h λv u e x y m f i k q=>g a b c e l m x y v u Q f i k q (j _ _))]
inductive Ln (K:Za1) (x:V) (y:V) (H:Hp) (Q:VK):Prop
 |mk (p:Zt) (xs:Zb) (i:Int) (v:V):x=↑p->y=.int i->aI K H p xs->iZ xs i\v->Q v H->Ln K x y H Q
inductive Lp (K:Za1) (x:V) (y:V) (H:Hp) (Q:VK):Prop
 |mk (p:Zt) (xs:Zb) (i:Int) (v:V):x=↑p->y=.int i->bz K H p xs->iZ xs i\v->Q v H->Lp K x y H Q
inductive abB (x:V) (y:V) (H:Hp) (Q:VK):Prop
 |mk (z:Str) (i:Int) (c:Nat):x=.str z->y=.int i->⇑z<=sizeLine->iZ z.cps.toList i\c->Q (.str ⟨#[c]⟩) H->abB x y H Q
def bO:Ik X (Ln X.K):=by
 intro value slice c s n H x y v u Q I F G h m;let⟨p,M,i,z,rfl,rfl,B,J,q⟩:=h;ext F;let⟨t,rfl⟩:=G;let⟨f,r,pl,L⟩:=I.list B;let⟨j,d,A,N,C,D⟩:=E6 J;let⟨w,l,e⟩:=r.get A;let E:=⇑r;let O:=sC;let fin:EP X c n Q w s:=⟨z,H,I,e,q⟩;cases k:0<=i
 ·let g:i.toNat=j:=by
   rw[seqIndex_of k D]at d;rwa[Za0 d]
  rwa[item_listR pl.isList k ∅ (by rw[g];simpa using l) fin m]
 ·let g:(i+ (f.toArray.size:Int)).toNat=j:=by
   rw[seqIndex_neg ∅ C]at d;rw[ajI,<-E];rwa[Za0 d]
  exact subscriptTail_builtinR (x:=w) pl.isList.typeIs slot_list_getitem.lookup
   (wpAny_getItem_list_neg (Q:=λr o=>r=w/\EP X c n Q r o) pl.isList ∅ (by rw[ajI] <;> omega) ∅ (by rw[g];simpa using l) ⟨2,fin⟩) m
def bR:Ik X (Lp X.K):=by
 intro value slice c s e H x y v u Q I n A h o;let⟨p,J,i,z,rfl,rfl,k,B,q⟩:=h;ext n;let⟨t,rfl⟩:=A;let⟨l,r,pl,F⟩:=I.tuple k;let⟨j,D,g,L,C,E⟩:=E6 B;let⟨w,m,d⟩:=r.get g;let G:=⇑r;let M:=sC;let fin:EP X c e Q w s:=⟨z,H,I,d,q⟩
 exact subscriptTail_builtinR (x:=w) pl.typeIs slot_tuple_getitem.lookup
  (getItem_tuple (j:=j) (Q:=λr f=>r=w/\EP X c e Q r f) pl ∅ ∅ (by cbv) (by simpa using m) ⟨2,fin⟩) o
def Gs (c:Zl)(n j:Nat)(u:Zu):Obj.mapSeq (·.setIfInBounds j u) ("list">>>.seq c.toArray n)=("list">>>.seq (c.set j u).toArray n):=by
 simp[Obj.mapSeq]
def Inv.lst {xs:Zb}(I:Inv X o D H s)(h:H c\.lst xs):
 ∃(d:Zl) (n:Nat),Vals xs d/\s•c\("list">>>.seq d.toArray n)/\⇑xs<=sizeLine:=by
 let⟨z,d,n,r,e⟩:=I.aM c _ h;rwa[d,n,r,e,z]
def Inv.Sq {ys:Zb}{d:Zl}{f:Obj->Obj}(I:Inv X o D H s)(h:H c\.lst L)
 (j:s•c\("list">>>.seq N.toArray n)) (g:f ("list">>>.seq N.toArray n)=("list">>>.seq d.toArray m)) (r:Vals ys d) (hz:⇑ys<=sizeLine) (t:Nat):
 Inv X o D (upd H c (.lst ys)) { s with heap:=s.heap.update c f,toks:=t }:=by
 let e:(s.heap.update c f).get? c\("list">>>.seq d.toArray m):=by
  rw[aj0 f j (by rw[g] <;> rfl),g]
 rwa[I.write (x:=c) (e:=c) (by rw[h];trivial) (.inl rfl) (λb u i q=>(aj1^akB i).trans q) ⟨_,e⟩ ?_];rwa[hz,d,m,r,e]
inductive N6 (o:V) (i:V) (v:V) (H:Hp) (Q:(Hp->Prop)):Prop
 |mk (p:Zt) (xs:Zb) (k:Int) (j:Nat):o=↑p->i=.int k->H p\.lst xs->sD ⇑xs k\j->Q (upd H p (.lst (xs.set j v)))->N6 o i v H Q
def set_list:RN X N6:=by
 intro d s D H o i v J M u Q I A E B h;let⟨p,xs,k,j,rfl,rfl,y,F,q⟩:=h;ext A;let⟨t,rfl⟩:=E;let⟨c,n,r,g,C⟩:=I.lst y;let⟨e,G,z,w⟩:=E5 F;let l:=⇑r;let L:=sC
 let x:Inv X d D (upd H p (.lst (xs.set j v))) { s with heap:=s.heap.update p (Obj.mapSeq (·.setIfInBounds j u)) }:=
  I.Sq y g (Gs c n j u) (r.set B j) ([ajJ]▸C) s.toks
 cases m:0<=k
 ·let f:k.toNat=j:=by
   rw[seqIndex_of m w]at e;rwa[Za0 e]
  rwa[PySem.W.ki_setAt g m ∅ (by rw[ajI,<-l];rwa[w]) ([f]▸⟨_,x,q⟩)]
 ·let f:(k+ (c.toArray.size:Int)).toNat=j:=by
   rw[seqIndex_neg ∅ z]at e;rw[ajI,<-l];rwa[Za0 e]
  rwa[PySem.W.ki_setBack g ∅ (by rw[ajI,<-l];rwa[z]) ∅ ([f]▸⟨_,x,q⟩)]
def Bq (lo c:Zk)(n:Nat):(sliceBounds lo c none n).1=((HT.b0 n 0 lo:Nat):Int)/\(sliceBounds lo c none n).2.1=((HT.b0 n n c:Nat):Int)/\(sliceBounds lo c none n).2.2=1:=by
 rwa[⟨552⟩]
 ·cases lo with
  |none=>simp[sliceBounds,HT.b0]
  |some i=>
   simp only[sliceBounds,HT.b0,Option.getD_none,show (1:Int) > 0 by decide,amF];cases h:i<0
   ·simp only[h,amF] <;> ext
   ·simp only[h,amj] <;> ext
 ·cases c with
  |none=>simp[sliceBounds,HT.b0]
  |some i=>
   simp only[sliceBounds,HT.b0,Option.getD_none,show (1:Int) > 0 by decide,amF];cases h:i<0
   ·simp only[h,amF] <;> ext
   ·simp only[h,amj] <;> ext
def Ap (c:Zl)(lo d:Zk):slicePick c.toArray lo d none=((c.drop (HT.b0 ⇑c 0 lo)).take (HT.b0 ⇑c ⇑c d - HT.b0 ⇑c 0 lo)).toArray:=by
 let⟨f,e,g⟩:=Bq lo d c.toArray.size;unfold slicePick;rw[f,e,g];simp only[sliceRange_one,pick_run,ajI] <;> rfl
inductive Sr (K:Za1) (x:V) (lo:Zk) (hi:Zk) (H:Hp) (Q:VK):Prop
 |mk (a:Zt) (xs:Zb):x=↑a->aI K H a xs->(∀p,H p=none->Q ↑p (upd H p (.lst (eU xs lo hi))))->Sr K x lo hi H Q
def mV:N1 X (Sr X.K):=by
 intro e s w H x v u m lo c p Q I j k pl i h;let⟨a,xs,rfl,l,q⟩:=h;ext j;let⟨f,r,d,g⟩:=I.list l;let hlen:=⇑r;erw["list",_,slot_list_getitem.lookup,d.isList.typeIs];rwa[wpAny_getItem_list_slice d.isList k pl i .none (by simp) ?_ (by rw[ajI] <;> omega)];rw[Ap,<-hlen];rwa[⟨↑↥s,_,I.laid (t':=s.toks) (o:=.lst (eU xs lo c)) (λb t q=>ajf _ q) (ajp _) ?_,2,q _ (I.aM.fresh (ajp _))⟩];rwa[aju (u9 xs lo c) g,_,(0),(r.drop (HT.b0 ⇑xs 0 lo)).take (HT.b0 ⇑xs ⇑xs c - HT.b0 ⇑xs 0 lo),ajx _ rfl]
noncomputable def N7:V->Bool
 |.non=>true
 |.bl _=>true
 |.int _=>true
 |.str _=>true
 |_=>false
noncomputable def eqV:V->V->Bool
 |.non,.non=>true
 |.bl a,.bl b=>a==b
 |.bl a,.int b=>(if a then 1 else 0)==b
 |.int a,.bl b=>a==(if b then 1 else 0)
 |.int a,.int b=>a==b
 |.str a,.str b=>a==b
 |_,_=>false
def XX (x:V)(xs:Zb):Bool:=xs.any λy=>eqV y x
inductive rIn (K:Za1) (neg:Bool) (x:V) (y:V) (H:Hp) (Q:VK):Prop
 |mk (p:Zt) (xs:Zb):y=↑p->(aI K H p xs\/bz K H p xs)->N7 x=true->xs.all N7=true->Q (.bl (if neg then !XX x xs else XX x xs)) H->rIn K neg x y H Q
inductive Gu (K:Za1) (xs:Zb) (H:Hp) (Q:VK):Prop
 |mk (p:Zt) (ys:Zb):xs=[↑p]->(aI K H p ys\/bz K H p ys)->Q (.int ⇑ys) H->Gu K xs H Q
def bM:iM X (.builtin "len") (Gu X.K):=by
 intro f s k H j m Q I r h;let⟨p,ys,rfl,c,q⟩:=h;let⟨u,rfl,i⟩:=vals1 r;ext i;let l:=sC;rcases c with c|c
 ·let⟨e,d,pl,g⟩:=I.list c;let hlen:=⇑d;rwa[Calls.call_len_list pl.isList (by simp only[ajI] <;> omega) ⟨.int ⇑ys,H,I.tok _,⟨s.toks+ 1,by cbv⟩,q⟩]
 ·let⟨e,d,pl,g⟩:=I.tuple c;let hlen:=⇑d;rwa[len_tuple pl (by simp only[ajI] <;> omega) ⟨.int ⇑ys,H,I.tok _,⟨s.toks+ 1,by cbv⟩,q⟩]
def gw:iM X (.type "list") (λw H Q=>∃p ys,w=[↑p]/\(aI X.K H p ys\/bz X.K H p ys)/\∀l,H l=none->Q ↑l (upd H l (.lst ys))):=by
 intro k s z H w B Q I r h;let⟨p,ys,rfl,i,q⟩:=h;let⟨u,rfl,y⟩:=vals1 r;ext y
 let fin:∀(c:Zl),Vals ys c->⇑ys<=sizeLine->∀(d:Heap) (g:Nat),(∀b x,s•b\x->d.get? b\x)->
  d.get? ↥s=some { cls:=.type "list",dict:=none,data:=.seq c.toArray g,slots:=#[] }->EP X k z Q ↑↥s (s<*d):=λc f j d g kp e=>
  ⟨↑↥s,_,I.laid (t':=s.toks) kp (ajp _) (show bY X.prog X.w _ d _ (.lst ys) from ⟨j,c,g,f,e⟩),2,q _ (I.aM.fresh (ajp _))⟩
 rcases i with i|i
 ·let⟨c,f,pl,j⟩:=I.list i;let hlen:=⇑f;let⟨o,t,v,n,m⟩:=pl.isList;rwa[call_list_seq p (.inl rfl) t v m (λd g kp e=>fin c f j d g kp e) (by simp only[ajI] <;> omega)]
 ·let⟨c,f,pl,j⟩:=I.tuple i;let hlen:=⇑f;let⟨o,t,v,n,m⟩:=pl;rwa[call_list_seq p (.inr rfl) t v m (λd g kp e=>fin c f j d g kp e) (by simp only[ajI] <;> omega)]
def jk:iM X (.type "tuple") (λm H Q=>∃p ys,m=[↑p]/\((aI X.K H p ys/\∀l,H l=none->Q ↑l (upd H l (.tup ys)))\/(bz X.K H p ys/\Q ↑p H))):=by
 intro c s n H m x Q I r h;let⟨p,ys,rfl,h⟩:=h;let⟨u,rfl,w⟩:=vals1 r;ext w;rcases h with ⟨i,q⟩|⟨i,q⟩
 ·let⟨d,g,pl,k⟩:=I.list i;let hlen:=⇑g;rwa[call_tuple_list pl.isList (λf kp=>?_) (by simp only[ajI] <;> omega)];let j:Inv X c n H (s<*f):=I.kept (t':=s.toks) kp
  let v:Inv X c n (upd H f.objs.size (.tup ys)) { s with heap:=f.push ("tuple">>>.seq d.toArray) }:=
   j.laid (t':=s.toks) (λb o e=>ajf _ e) (ajp _) (show bY X.prog X.w _ _ _ (.tup ys) from ⟨k,d,g,IsTup.new _ _⟩)
  rwa[↑f.objs.size,_,v,2,q _ (j.aM.fresh (ajp _))]
 ·let⟨d,g,pl,k⟩:=I.tuple i;rwa[call_tuple_same pl ⟨↑p,H,I,2,q⟩]
def Ss (K:Za1)(T:String)(x:V)(H:Hp):Prop:=match x with
 |.str _=>T="str"
 |.int _=>T="int"
 |.ref p=>(T="list"/\∃d,aI K H p d)\/(T="tuple"/\∃o,K.lookup p\o/\o.cls=.type "tuple"/\o.dict=none)\/
  (T="dict"/\((∃c,H p\.dK c)\/∃c,H p\.dT c))\/(T="set"/\∃S n,H p\.set S n)
 |_=>False
def Il {T:String}{x:V}(I:Inv X o D H s)(r:RelV x v)(g:Ss X.K T x H):
 s.TypeIs v T/\∀a,v=↑a->∃l,s•a\l/\l.dict=none:=by
 cases x with
 |str z=>
  let⟨t,rfl⟩:=r;cases (show T="str" from g);rwa[typeIs_str s z t,λ_ e=>nomatch e]
 |int i=>
  let⟨t,rfl⟩:=r;cases (show T="int" from g);rwa[typeIs_int s i t,λ_ e=>nomatch e]
 |ref p=>
  ext r;rcases g with ⟨rfl,w,m⟩|⟨rfl,d,f,u,h⟩|⟨rfl,f⟩|⟨rfl,S,n,f⟩
  ·let⟨q,_,pl,_⟩:=I.list m;rwa[⟨pl.isList.typeIs,λa e=>?_⟩];ext e;let⟨d,n,e,c,h,_⟩:=pl;rwa[d,e,h]
  ·rwa[⟨⟨d,I.dw p d f,u⟩,λa e=>?_⟩];ext e;rwa[d,I.dw _ d f,h]
  ·let z:∃d,s•p\d/\d.ExactDict:=by
    rcases f with ⟨j,f⟩|⟨j,f⟩
    ·let⟨_,_,_,_,d,_,_,e,ex,_⟩:=I.aM p _ f;rwa[d,e,ex]
    ·let⟨_,_,_,_,d,_,_,e,ex,_⟩:=I.aM p _ f;rwa[d,e,ex]
   let⟨d,e,ex⟩:=z;rwa[⟨⟨d,e,ex.1⟩,λa k=>?_⟩];ext k;rwa[d,e,ex.2.1]
  ·let⟨d,_,_,_,e,ex,_⟩:=I.aM p _ f;rwa[⟨⟨d,e,ex.1⟩,λa k=>?_⟩];ext k;rwa[d,e,ex.2.1]
 |_=>exact False.elim g
def abC (K:Za1)(T:String)(r:V->Zb->Hp->VK->Prop)(to:TE):TE:=λ d H Q=>to d H λx c=>Ss K T x c/\r x [] c Q
def tBM (K:Za1)(T:String)(r:V->Zb->Hp->VK->Prop)(to:TE)(t:TA):TE:=λ d H Q=>to d H λx c=>Ss K T x c/\t d c λf e=>r x f e Q
variable {o e:Expr}{es:Zs}{to:TE}{t:TA}{name:Str}{apos cG:Pos}{T id:String}{r:V->Zb->Hp->VK->Prop}
def Io (y:PlainAttrs T)(slot:Slot T name id)(f:typeOf (.builtin id)=pure (.type "method_descriptor"))(w:Sn X id r)(n:PE X o to)
 (d:attributeBase o name X.env (eval o X.env)=eval o X.env:=by rfl) (hline:(apos.endLine==cG.line)=true:=by rfl):PE X (.Call (.Attribute o name apos) [] [] cG) (abC X.K T r to):=by
 intro c s j H Q I h;rwa[wpAny_Call_method0_late d hline (aZ (n c s j H _ I h) λv q ζ=>?_)];let⟨x,p,i,g,u,l⟩:=ζ;let⟨m,k⟩:=Il i g u;rwa[T,id,y,slot,f,m,k,akj rfl (PySem.evalArgs_none (w c q j p x [] v [] Q i g .nil l))]
def df (M:PlainAttrs T)(slot:Slot T name id)(i:typeOf (.builtin id)=pure (.type "method_descriptor"))(F:Sn X id r)(z:PE X o to)(L:PA X (e::es) t)
 (f:attributeBase o name X.env (eval o X.env)=eval o X.env:=by rfl)
 (g:((backTo cG (starEach (e::es) X.env)).all (λx=>!x.1) && (backToKw cG (keywordEach [] X.env)).all (λx=>x.1.isSome)
  && decide (⇑(e::es)+ ⇑([]:List Keyword)+ (if ([]:List Keyword).isEmpty then 0 else 1)<30))=true:=by rfl)
 (hline:(apos.endLine==cG.line)=true:=by rfl) (C:starEach (e::es) X.env=(false,eval e X.env)::starEach es X.env:=by rfl) (d:(backTo cG (starEach es X.env)).any (·.1)=false:=by rfl):
 PE X (.Call (.Attribute o name apos) (e::es) [] cG) (tBM X.K T r to t):=by
 intro c s j H Q I h;rwa[wpAny_Call_method_late f g hline rfl (aZ (z c s j H _ I h) λv B ζ=>?_)];let⟨x,A,l,k,D,u⟩:=ζ;let⟨w,n⟩:=Il l k D;erw[T,id,M,slot,i,w,n];let m:=L cG c B j A _ l u;rw[C]at m ⊢;rwa[akj (by show (false || (backTo cG (starEach es X.env)).any (·.1))=false;rw[d] <;> rfl) (akP ?_)];rwa[aZ m λJ q ζ=>?_];let⟨p,G,y,E,N⟩:=ζ;rwa[F c q j G x p v J Q y k E N]
/- xs.append(e),list.index on a module's tuple .. are Sn facts of 06m -/
end
def Sv (X:Cx)(id:String)(r:V->Zb->Hp->VK->Prop):Prop:=
 ∀(a:List (Zt×Obj)) (s:Zv) (d:St) (H:Hp) (x:V) (c:Zb) (v:Zu) (b:Zl) (Q:VK),Inv X a d H s->RelV x v->Vals c b->r x c H Q->
  X⁻¹ X.A (call (.builtin id) (v::b)) (EP X a d Q) X.xe s
theorem Vals.one:∀{x:V} {a:Zl},Vals [x] a->∃u,a=[u]/\RelV x u
 |_,_,.cons r .nil=>⟨12,r⟩
theorem Vals.zero:∀{a:Zl},Vals [] a->a=[]
 |_,.nil=>rfl
def Vals.dropLast {xs:Zb}{us:Zl}(h:Vals xs us):Vals xs.dropLast us.dropLast:=by
 induction h with
 |nil=>exact .nil
 |cons r t a=>
  cases t with
  |nil=>exact .nil
  |cons q b=>exact .cons r a
def Vals.reverse {xs:Zb}{us:Zl}(h:Vals xs us):Vals xs.reverse us.reverse:=by
 induction h with
 |nil=>exact .nil
 |cons r t a=>rw[amw,amw];rwa[Vals.append a (.cons r .nil)]
theorem Vals.rep (h:Vals L N):∀k:Nat,Vals (List.replicate k L).flatten (List.replicate k N).flatten
 |0=>.nil
 |k+ 1=>by
  rwa[Vals.append h (Vals.rep h k)]
theorem foldl_rep (a:Zl):∀(k:Nat) (acc:Zl),
 List.foldl (λc d=>c++d) acc.toArray (List.replicate k a.toArray)=(acc++(List.replicate k a).flatten).toArray
 |0,acc=>by simp
 |k+ 1,acc=>by
  let e:acc.toArray++a.toArray=(acc++a).toArray:=by simp
  let b:(acc++a)++(List.replicate k a).flatten=acc++(List.replicate (k+ 1) a).flatten:=by
   rw[List.replicate_succ,List.flatten_cons,ajZ]
  rw[<-b,<-foldl_rep a k (acc++a),<-e,List.replicate_succ,List.foldl_cons]
section
variable {X:Cx}{pins:List (Zt×Obj)}{σ:St}{H:Hp}{s:Zv}{l:Zt}{xs ys:Zb}
def Inv.Lq {Ls:Zl}{f:Zn->Zn}(I:Inv X pins σ H s)(d:H l\.lst xs)
 (e:s•l\("list">>>.seq N.toArray n)) (a:f N.toArray=Ls.toArray) (c:Vals ys Ls) (hz:⇑ys<=sizeLine):
 Inv X pins σ (upd H l (.lst ys)) { s with heap:=s.heap.update l (Obj.mapSeq f),toks:=m }:=by
 let q:=PySem.IsL.update e f;rw[a]at q;rwa[I.write (x:=l) (e:=l) ([d]▸trivial) (.inl rfl) (λi u h g=>(aj1 s.heap (Obj.mapSeq f) (akB h)).trans g) ⟨_,q⟩ ?_];rwa[hz,Ls,_,c,q]
def Inv.abD {t':Nat}(I:Inv X pins σ H s)(a:Vals ys N)(hz:⇑ys<=sizeLine):
 Inv X pins σ (upd H ↥s (.lst ys)) { s with heap:=s.heap.push ("list">>>.seq N.toArray),toks:=t' }:=
 I.laid (λ_ _ q=>ajf _ q) (ajp _) ⟨hz,N,(0),a,ajx _ rfl⟩
def Inv.fresh (I:Inv X pins σ H s):H ↥s=none:=I.aM.fresh (ajp _)
def Inv.yC (I:Inv X pins σ H s)(c:H l\.lst xs):⇑xs<=sizeLine/\∃(a:Zl) (n:Nat),Vals xs a/\⇑xs=⇑a/\s•l\("list">>>.seq a.toArray n):=by
 let⟨z,a,n,r,e⟩:=I.aM l _ c;rwa[z,a,n,r,⇑r,e]
def Lv (h:n<=sizeLine):Builtin.List.listTooLong n=false:=by
 rwa[akh ∅]
end
section
variable {X:Cx}
inductive yD (x:V) (vs:Zb) (H:Hp) (Q:VK):Prop
 |mk (l:Zt) (xs:Zb) (y:V):x=↑l->vs=[y]->H l\.lst xs->⇑xs<sizeLine->Q .non (upd H l (.lst (xs++[y])))->yD x vs H Q
theorem bK:Sv X "list.append" yD:=by
 intro d s p H x j v t Q I g f h;let⟨l,o,y,rfl,rfl,c,k,q⟩:=h;ext g;let⟨u,rfl,i⟩:=f.one;let⟨z,a,n,r,m,e⟩:=I.yC c;rwa[call_meets F.slot_list_append ⟨_,e,2⟩ F.entry_list_append (F.args_list_append_2 _ _) (PySem.list_append l a.toArray n u (by rw[ajI];omega)) ⟨e,5⟩];rwa[⟨.non,_,I.Lq (Ls:=a++[u]) c e (by simp) (r.append (.cons i .nil)) ?_,2,q⟩];rw[ajh,akb];ext
inductive yE (x:V) (vs:Zb) (H:Hp) (Q:VK):Prop
 |mk (l b:Zt) (xs zs:Zb):x=↑l->vs=[↑b]->H l\.lst xs->H b\.lst zs->⇑xs+ ⇑zs<=sizeLine->Q .non (upd H l (.lst (xs++zs)))->yE x vs H Q
theorem zy:Sv X "list.extend" yE:=by
 intro j s J H x C v L Q I p m h;let⟨l,b,G,B,rfl,rfl,i,y,D,q⟩:=h;ext p;let⟨u,rfl,w⟩:=m.one;ext w;let⟨z,c,n,r,E,e⟩:=I.yC i;let⟨z2,a,A,t,k,o⟩:=I.yC y;let f:c.toArray.size+ a.toArray.size<=sizeLine:=by rw[ajI,ajI];ext
 let d:¬(!c.toArray.isEmpty && Builtin.List.listTooLong (c.toArray.size+ a.toArray.size))=true:=by
  rw[Lv f,Bool.and_false];rwa[aj3]
 refine call_meets F.slot_list_extend ⟨_,e,2⟩ F.entry_list_extend (F.args_list_extend_2 _ _)
  (AutoSeq1.list_extend_list_list_0 l c.toArray n b a.toArray A d ∅ ∅) ⟨e,o,5⟩
 rwa[⟨.non,_,I.Lq (Ls:=c++a) i e (by simp) (r.append t) ?_,2,q⟩];rw[ajh];ext
inductive Sw (x:V) (vs:Zb) (H:Hp) (Q:VK):Prop
 |mk (l:Zt) (xs:Zb) (y:V):x=↑l->vs=[]->H l\.lst xs->xs[⇑xs - 1]?\y->Q y (upd H l (.lst xs.dropLast))->Sw x vs H Q
theorem Ip:Sv X "list.pop" Sw:=by
 intro g s A H x t v B Q I o i h;let⟨l,w,y,rfl,rfl,f,k,q⟩:=h;ext o;let b:=i.zero;subst b;let⟨z,a,n,r,j,e⟩:=I.yC f;let⟨u,m,p⟩:=r.get k
 let c:a.toArray[a.toArray.size - 1]?\u:=by
  show a.toArray[⇑a - 1]?\u
  rw[<-ak1,<-j];rwa[m]
 rwa[call_meets F.slot_list_pop ⟨_,e,2⟩ F.entry_list_pop (F.args_list_pop_1 _) (MeetsSeq.list_pop_last l a.toArray n u c (by rw[ajI];omega)) ⟨e,5⟩];rwa[⟨y,_,I.Lq (Ls:=a.dropLast) f e ?_ r.dropLast ?_,p,q⟩]
 ·cbv
 ·rw[List.length_dropLast];ext
inductive Sx (x:V) (vs:Zb) (H:Hp) (Q:VK):Prop
 |mk (l:Zt) (xs:Zb) (i:Int) (k:Nat) (y:V):x=↑l->vs=[.int i]->H l\.lst xs-> -(2 ^ 63)<=i->i<2 ^ 63->seqIndex? i ⇑xs\k->xs[k]?\y->Q y (upd H l (.lst (xs.eraseIdx k)))->Sx x vs H Q
inductive Sy (x:V) (vs:Zb) (H:Hp) (Q:VK):Prop
 |mk (l:Zt) (xs:Zb):x=↑l->vs=[]->H l\.lst xs->Q .non (upd H l (.lst []))->Sy x vs H Q
inductive Sz (x:V) (y:V) (H:Hp) (Q:VK):Prop
 |mk (l b:Zt) (xs zs:Zb):x=↑l->y=↑b->H l\.lst xs->H b\.lst zs->⇑xs+ ⇑zs<=sizeLine->(∀p,H p=none->Q ↑p (upd H p (.lst (xs++zs))))->Sz x y H Q
def pX:gf X (binaryOp .Add) Sz:=by
 intro d s D H x y v u Q I j k h;let⟨l,b,C,w,rfl,rfl,i,p,A,q⟩:=h;ext j;ext k;let⟨z,c,n,r,B,e⟩:=I.yC i;let⟨z2,a,E,m,f,g⟩:=I.yC p;rwa[PySem.P.add_list e g ?_ (by rw[ajI,ajI];omega)];let o:c.toArray++a.toArray=(c++a).toArray:=by simp
 rw[o];rwa[↑_,_,I.abD (t':=s.toks) (r.append m) (by rw[ajh];omega),2,q _ I.fresh]
inductive abE (x:V) (y:V) (H:Hp) (Q:VK):Prop
 |mk (l:Zt) (k:Int) (xs:Zb):x=↑l->y=.int k->H l\.lst xs-> -(2 ^ 63)<=k->k<2 ^ 63->⇑xs* k.toNat<=sizeLine->(∀p,H p=none->Q ↑p (upd H p (.lst (List.replicate k.toNat xs).flatten)))->abE x y H Q
def len_rep {a:Type}(xs:List a)(k:Nat):(List.replicate k xs).flatten.length=k* ⇑xs:=by
 induction k with
 |zero=>simp
 |succ k b=>cbv
end
end L2
namespace Att
open PySem PySem.W PySem.Calls PyProof.Rows
def wY {P:Params}:∀(ns:Zh) (c:Zl),WellAll P h c (ns.map WData.int)->IntsAre c ns:=by
 intro ns
 induction ns with
 |nil=>
  intro c w;ext w;rwa[.nil]
 |cons n ns d=>
  intro c w
  cases w with
  |cons a b=>
   ext a;rwa[.cons _ _ (d _ b)]
def Iq {l:OpenLaw}(v:l.most\n){P:Params}{h:Heap}{b:List WData}{c:Zl}
 (e:l.row.toRowW.claim.pre b=true) (i:WellAll P h c b):
 ∃a m ns,c=[Value.ref a]/\b=[WData.list (ns.map WData.int)]/\h.get? a\("list">>>.seq m.toArray)/\IntsAre m ns/\⇑ns<=n:=by
 let k:WShape.hasAll [] b [.list .int]=true:=(pre_splitW e).1;let x:l.pre.holds [] { args:=b }=true:=(pre_splitW e).2;let⟨d,r,rfl,s,p⟩:=hasAllW_cons k;obtain rfl:=hasAllW_nil p;let⟨y,rfl,u⟩:=hasW_list s;let⟨ns,rfl⟩:=items_int u
 let hlen:⇑ns<=n:=by
  let g:(WTm.not (.lt (.lit (.int (n:Int))) (.len (.arg 0)))).holds [] { args:=[.list (ns.map .int)] }=true:=by
   let g:=(holds_andW x).1;rw[v]at g;rwa[g]
  let j:=condW_of g (w_not (w_lt w_lit (w_len_list (w_arg rfl))));rwa[Nat.le_of_not_lt λq=>?_]
  first
   |(rw[ajF z]at j;rwa[absurd j (by decide)])
   |(simp at j;omega)
 cases i with
 |cons o w=>
  ext w
  cases o with
  |list t f=>rwa[11,ns,22,t,wY ns _ f,hlen]
def Ir (l:OpenLaw)(a:List WData):l.row.toRowW.claim.post a (.bool true) a=true:=
 postW_of (r:=l.row.toRowW) (X:=(true==true))
  (show WShape.has [] (.bool true) .bool=true by first|rfl|decide|simp[WShape.has,WShape.arms,WShape.armsAll])
  (show (WTm.eq .res (.lit (.bool true))).value [] { args:=a,res:=some (.bool true),after:=a }=some (.bool (true==true)) from w_eq_bool (w_res rfl) w_lit) rfl
def D0 {l:OpenLaw}{loose:Zq}{XP:(Str->Zm)->Heap->Prop}{z:World->Heap->Prop}{d:DefRec}
 (I:l.most\n) (q:d.params.defaults=[])
 (call:∀(w:World) (c b:Zv) (m s:Str->Zm) (h:Zt) (o:Obj) (pm k doc:Zu) (a:Zt) (e:Zl) (ns:Zh),
  Ground P loose [] XP w c m s b.heap->z w b.heap->
  b•h=some o->o.data=.func (docDef d.name d.params d.body d.scope pm k doc)->b.heap.CodeRec k d.name->m d.name\↑h->
  b•a=some ("list">>>.seq e.toArray)->IntsAre e ns->⇑ns<=n->b.gens=#[]->
  codeAny (model l.prog w) callerA (.call ↑h ⟨[↑a],[]⟩) (λr j=>r=.ok (.ret (.bool true))/\OldK b.heap j.heap/\j.os=b.os/\AllBare j.gens) b):
 WalkO P loose XP z l.row.toRowW d [] (λf e=>PySem.call f e):=by
 intro w c b m s G Y h o pm k doc dV kV F A u y t C v x as i hlay M p L;obtain rfl:dV=.none:=Dflts.none y q;obtain rfl:kV=.none:=Dflts.noKw y;let⟨a,e,ns,rfl,rfl,g,hints,hlen⟩:=Iq I i p;rwa[enter_call (alC (call w c b m s h o pm k doc a e ns G Y F (fd_plain A) u t g hints hlen C) λr j D=>?_)];let⟨rfl,B,H,E⟩:=D;rwa[.inl ⟨.bool true,.bool true,[],2,λ_=>rfl,.bool true,Ir l _,λ_=>⟨List.Pairwise.nil,λ_ J=>(nomatch J)⟩⟩,B,H,E]
end Att
namespace L2
open PySem PySem.Spec PyProof.Rows
theorem zz:∀{a:Zl} {ns:Zh},IntsAre a ns->Vals (ns.map V.int) a
 |_,_,.nil=>.nil
 |_,_,.cons n t h=>.cons ⟨t,2⟩ (zz h)
noncomputable def inClass (s:Stmt)(j:Nat):Stmt:=match s with
 |.ClassDef _ _ _ body _ _ _ _ _ _ _=>body.getD j (.Pass ⟨(0),(0),(0),(0)⟩)
 |_=>.Pass ⟨(0),(0),(0),(0)⟩
noncomputable def dH (s:Stmt):Arguments:=match s with
 |.FunctionDef _ a _ _ _ _ _ _ _ _=>a
 |_=>{ posonlyargs:=[],args:=[],vararg:=none,kwonlyargs:=[],kw_defaults:=[],kwarg:=none,defaults:=[] }
noncomputable def cI (s:Stmt):List Stmt:=match s with
 |.FunctionDef _ _ b _ _ _ _ _ _ _=>b
 |_=>[]
noncomputable def az (s:Stmt):Scope:=match s with
 |.FunctionDef _ _ _ _ _ _ a _ _ _=>a
 |_=>{ kind:=.function,names:=[],isGenerator:=false,isCoroutine:=false }
abbrev XY:my:=λ_ _ _ _ _ _=>False
abbrev E0:XK:=λ_ _ _=>False
structure sE (K:Za1) (x qual:Str) (st:Stmt) (f:Zt) (fd:FuncData):Prop where
 ex:∃(oc:Zu) (od:Zp) (kV doc pm:Zu) (an:Zp) (b8 ct:Zu) (Br:Array Zm),
  fd=PySem.W.fnOf x qual (dH st) (cI st) (az st) .none kV doc pm an b8 ct/\K.lookup f\⟨oc,od,.func fd,Br⟩/\PySem.W.codeIn K b8 qual=true
 kp:PySem.W.keepIn K ↑f=true
section
variable {K:Za1}
theorem sE.binds {qual:Str}{st:Stmt}{fd:FuncData}{ps:Zq}(F:sE K x qual st a fd)
 (h:∀(kV doc pm:Zu) (c:Zp) (b ct:Zu) (us:Zl),⇑us=⇑ps->bindArgs (PySem.W.fnOf x qual (dH st) (cI st) (az st) .none kV doc pm c b ct) ⟨us,[]⟩=pure (ps.zip us)):Binds K fd ps []:=by
 let⟨g,f,kV,doc,pm,c,b,ct,e,rfl,lk,d⟩:=F.ex;rwa[.all (h kV doc pm c b ct)]
def Iu {qual:Str}{st:Stmt}{f d:Zp}{b:Array Zm}{kV doc pm e:Zu}(l:K.lookup a\⟨v,f,.func (PySem.W.fnOf x qual (dH st) (cI st) (az st) .none kV doc pm d u e),b⟩)
 (c:PySem.W.codeIn K u qual=true) (k:PySem.W.keepIn K ↑a=true):sE K x qual st a (PySem.W.fnOf x qual (dH st) (cI st) (az st) .none kV doc pm d u e):=⟨⟨v,f,kV,doc,pm,d,u,e,b,2,l,c⟩,k⟩
end
def ib {k:Nat}(a:cD k A):A.units+ 1<cLine:=ajt (Nat.add_le_add_left (by decide:1<=64) _) a.units
section
variable {X:Cx}
def pv (i:Nat){x:Str}{a:Pos}(e:X.N[i]?\x:=by rfl)(d:RJ X.env.scope x:=by trivial)(c:(x==("__debug__":Str))=false:=by decide)
 (b:(x==("__classdict__":Str))=false:=by decide):PE X (.Name x a) (jr i):=RK e d c b
end
def dA {A B:Prop}(h:B):if false=true then A else B:=by
 cbv
def dX {A B:Prop}(h:A):if true=true then A else B:=by
 cbv
def bX {c A B:Prop} [Decidable c](b:c->A)(a:¬c->B):if c then A else B:=by
 cbv
def qz {c A B:Prop} [Decidable c](a:c)(h:B):if (!decide c)=true then A else B:=by
 cbv
def ao (H a:Hp):Prop:=∀b o,H b\o->a b\o
def ao.refl (H:Hp):ao H H:=λ_ _ h=>h
def ao.trans (a:ao H I)(b:ao I J):ao H J:=λc o h=>b c o (a c o h)
def ao.free (e:ao H I){l:Zt}(h:I l=Option.none):H l=Option.none:=by
 cases q:H l with
 |none=>rfl
 |some o=>
  rw[e l o q]at h;ext h
end L2
namespace L2
open PySem PySem.Spec PyProof.Rows
noncomputable def dB (X:Cx)(a:Zq)(scope:Scope)(cl:List (Str×Zt))(C:Zt)(s:Zv)(H:Hp)(ex:Zo):Cx where
 prog:=X.prog
 w:=X.w
 K:=X.K
 mg:=X.mg
 base:=X.base
 A:=X.A
 N:=a
 ej:=s
 vA:=H
 env:=compEnvC scope cl C X.env
 outer:=X.stack
 stack:=X.stack
 ex:=ex
 fn:=λ_=>false
 calm:=X.calm
 pn:=[]
 xe:=λ_ _=>False
def wZ (d:TE)(g:St)(Q:VK)(J:It)(f:Hp):Prop:=∃W:Nat->Nat->Zb->Hp->Prop,(∃m,W 0 m [] f)/\∀i m ys a,W i m ys a->
 (J.stop i a/\⇑ys<=sizeLine/\∀D,a D=none->Q ↑D (upd a D (.lst ys)))\/
 (J.go i a/\⇑ys<sizeLine/\∀x c,J.u0 i a x c->d (some x::g) c λy e=>∃b,b<m/\W (i+ 1) b (ys++[y]) e)
def N8 (b:TI)(d:St->St)(c:TE):TE:=λ a H Q=>b a H (wZ c (d a) Q)
structure gM (X:Cx) (x:Str) (fns:Zq) (ixs:Zi) (scope:Scope) (cl:List (Str×Zt)):Prop where
 abF:closureFor scope X.env=pure cl
 sub:∀y c,cl.lookup y\c->X.env.cells.lookup y\c
 cell:∀y∈scope.names,y.2≠.cell
 kind:scope.kind=.function
 names:∀y∈scope.names,y.2=.local->scope.names.lookup y.1=some .local
 own:scope.names.lookup x=some .local
 has:∀y,((relabel scope X.env).names.lookup y=some .cell\/(relabel scope X.env).names.lookup y=some .free)->∃c,cl.lookup y\c
 nd:(x::fns).Nodup
 len:⇑ixs=⇑fns
 at_:∀(j:Nat) (y:Str),fns[j]?\y->∃i:Nat,ixs[j]?\i/\X.N[i]?\y/\(X.env.kindOf y=some .cell\/X.env.kindOf y=some .free)/\∃c,cl.lookup y\c/\((relabel scope X.env).names.lookup y=some .cell\/(relabel scope X.env).names.lookup y=some .free)
noncomputable def i9 (ixs:Zi):St->St:=λ a=>ixs.map λi=>(a[i]?).join
section
variable {X:Cx}{x:Str}{scope:Scope}
def va (a:scope.names.lookup x=some .local):(relabel scope X.env).names.lookup x=some .local:=lookup_relabel_local a
end
def oO {J:It}{Q:VK}(xs:Zb)(g:V->V)(h:∀i:Nat,i<⇑xs->J.go i H)(p:∀(i:Nat) (x:V) (c:Hp),i<⇑xs->J.u0 i H x c->c=H/\xs[i]?\x)
 (d:J.stop ⇑xs H) (j:⇑xs<=sizeLine) (s:∀(i:Nat) (x:V),xs[i]?\x->∀R:VK,R (g x) H->r (some x::D) H R) (n:∀a,H a=none->Q ↑a (upd H a (.lst (xs.map g)))):
 wZ r D Q J H:=by
 erw[λi m ys l=>m=⇑xs - i/\i<=⇑xs/\ys=(xs.take i).map g/\l=H,⟨⇑xs,by simp,ajU _,by simp,2⟩];rintro i m ys l ⟨rfl,t,rfl,rfl⟩;cases b:i<⇑xs
 ·rwa[.inr ⟨h i b,by rw[ajk,ajN];ext,λx c f=>?_⟩];let⟨q,k⟩:=p i x c b f;subst q;rwa[s i x k _ ⟨⇑xs - (i+ 1),32,b,52⟩];rw[akx,k];simp
 ·let e:i=⇑xs:=∅
  subst e;rwa[.inl ⟨d,by rw[ajk,ajN];ext,λa o=>?_⟩];rw[aky];rwa[n a o]
def Bs {xs:Zb}(h:bz K H a xs):∀i,i<⇑xs->(HS K a).go i H:=λi b=>⟨xs,xs[i],h,ajg b⟩
def yF {xs:Zb}(h:bz K H a xs):∀i x b,i<⇑xs->(HS K a).u0 i H x b->b=H/\xs[i]?\x:=λi x b _ y=>⟨y.1,y.2 xs h⟩
def vI {xs:Zb}(h:bz K H a xs):(HS K a).stop ⇑xs H:=⟨xs,h,2⟩
def sF {xs:Zb}(h:aI K H a xs):∀i,i<⇑xs->(HR K a).go i H:=λi b=>⟨xs,xs[i],h,ajg b⟩
def pY {xs:Zb}(h:aI K H a xs):∀i x b,i<⇑xs->(HR K a).u0 i H x b->b=H/\xs[i]?\x:=λi x b _ y=>⟨y.1,y.2 xs h⟩
def m5 {xs:Zb}(h:aI K H a xs):(HR K a).stop ⇑xs H:=⟨xs,h,2⟩
inductive SD (t:TS) (D:Ends) (σ:St) (H:Hp):Prop
 |mk (G:St->Hp->Prop):t { D with nx:=G } σ H->(∀ gL H',G gL H'->D.nx gL H')->SD t D σ H
def bS {st:Stmt}{t:TS}(h:PS X st t):PS X st (SD t):=by
 intro a s j H D I ⟨G,e,d⟩;rwa[aZ (h a s j H { D with nx:=G } I e) λf k q=>?_]
 cases f with
 |next=>let⟨b,c,i,g⟩:=q;rwa[b,c,i,d b c g]
 |_=>exact q
def vd {scope:Scope}{env:Env}{k:NameKind}(h:(relabel scope env).names.lookup x\k)(g:k=.cell\/k=.free)(i:∀z∈scope.names,z.2≠.cell):(x,NameKind.free)∈scope.names:=by
 let f:=alc h;unfold relabel at f;let⟨⟨n,c⟩,d,e⟩:=aj7.mp f;dsimp only at e;cases hf:(c==NameKind.free && env.scope.kind==.function && env.kindOf n==some .cell)=true
 ·rw[ajD hf]at e;let a:n=x:=akm Prod.fst e;rw[aj6,aj6]at hf;let b:c=.free:=eq_of_beq hf.1.1;rw[<-a,<-b];rwa[d]
 ·rw[ajw hf]at e;let a:n=x:=akm Prod.fst e;let b:c=k:=akm Prod.snd e;subst a b;rcases g with rfl|rfl
  ·rwa[absurd rfl (i _ d)]
  ·rwa[d]
theorem kz {env:Env}(a:env.scope.kind=.function){y:Str}(b:env.kindOf y=some .cell):∀{names:List (Str×NameKind)},names.lookup y=some .free->
 (names.map λ(n,k)=>if (k==NameKind.free && env.scope.kind==.function && env.kindOf n==some .cell) then (n,NameKind.cell) else (n,k)).lookup y=some .cell
 |[],h=>by simp at h
 |(n,k)::r,h=>by
  let c:=@kz env a y b r
  cbv
def Gv (X:Cx)(scope:Scope):Zq->Zi->List (Str×Zt)->Prop
 |y::fs,i::is,p::a=>p.1=y/\X.env.cells.lookup y\p.2/\X.N[i]?\y/\X.env.kindOf y=some .cell/\scope.names.lookup y=some .free/\Gv X scope fs is a
 |[],[],[]=>True
 |_,_,_=>False
def Gv.get {scope:Scope}{fns:Zq}{ixs:Zi}{cl:List (Str×Zt)}(h:Gv X scope fns ixs cl):⇑fns=⇑ixs/\(∀y c,cl.lookup y\c->X.env.cells.lookup y\c)/\∀(k:Nat) (y:Str),fns[k]?\y->∃i c,ixs[k]?\i/\X.N[i]?\y/\X.env.kindOf y=some .cell/\cl.lookup y\c/\scope.names.lookup y=some .free:=by
 induction fns generalizing ixs cl with
 |nil=>
  cases ixs with
  |nil=>
   cases cl with
   |nil=>simp
   |cons=>exact h.elim
  |cons=>exact h.elim
 |cons y fs t=>
  cases ixs with
  |nil=>exact h.elim
  |cons i is=>
   cases cl with
   |nil=>exact h.elim
   |cons p cl=>
    let⟨j,m,s,o,r,h⟩:=h;let⟨a,b,g⟩:=t h;rwa[⟨akm _ a,λw d e=>?_,λk w e=>?_⟩]
    ·rw[akR]at e
     cases q:w==p.1 with
     |true=>
      rw[q]at e;rw[eq_of_beq q,j,m];rwa[e]
     |false=>
      rw[q]at e;rwa[b w d e]
    ·cases k with
     |zero=>
      obtain rfl:y=w:=Za0 e;rwa[i,p.2,2,s,o,by rw[akR,j,beq_self_eq_true],r]
     |succ k=>
      let⟨i,c,r1,r2,f,n,l⟩:=g k w e
      cases q:w==p.1 with
      |true=>rwa[i,p.2,r1,r2,f,by rw[akR,q],l]
      |false=>rwa[i,c,r1,r2,f,[akR,q]▸n,l]
def dW {fns:Zq}{ixs:Zi}{scope:Scope}(cl:List (Str×Zt))(d:closureFor scope X.env=pure cl)(y:Gv X scope fns ixs cl)(j:X.env.scope.kind=.function)(f:(∀z∈scope.names,z.2≠.cell)/\(∀z∈scope.names,z.2=.local->scope.names.lookup z.1=some .local)/\(∀z∈scope.names,z.2=.free->z.1∈fns)/\(x::fns).Nodup/\scope.names.lookup x=some .local/\scope.kind=.function:=by decide):gM X x fns ixs scope cl:=by
 let⟨a,b,g⟩:=y.get;let⟨f,w,u,m,v,p⟩:=f
 exact{ abF:=d,sub:=b,cell:=f,kind:=p,names:=w,own:=v,nd:=m,len:=a.symm
        has:=λz h=>by
         have:=u (z,.free) (h.elim (λh=>vd h (.inl rfl) f) λh=>vd h (.inr rfl) f) rfl;let⟨k,e⟩:=List.mem_iff_getElem?.mp this;let⟨_,c,_,_,_,r,_⟩:=g k z e;rwa[c,r]
        at_:=λk z h=>by
         let⟨i,c,s,o,n,q,t⟩:=g k z h;rwa[⟨i,s,o,.inl n,c,q,.inl (kz j n t)⟩ ]}
namespace Rv
def Iv:Slot "reversed" "__init__" "object.__init__":=
 .of (owner:="object") (n:="__init__") (by rw[typeLookup_type,builtinLookup_eq_fast];kernel_rfl) ⋯ ⋯ ⋯
  (by first|rwa[.inl (by decide)]|rwa[.inr (by decide)]) (by rw[isSubtype_type];kernel_rfl)
def called:TypeCalled "reversed" "reversed.__new__" "object.__init__":=
 ⟨44,⟨11,PySem.F.mro_reversed⟩,PySem.F.made_reversed,4,by rw[isSubtype_type];kernel_rfl,Iv⟩
def ahT (h:Heap)(it t:Zt)(i:Int):Prop:=∃o,h.get? it\o/\o.cls=.type "reversed"/\o.data=.fields #[↑t,rawInt i]
end Rv
def au (ns:Zh):Zb:=ns.map V.int
def cP (h:l[i]?\z):(au l)[i]?\(V.int z):=by
 unfold au;rw[ajq,h];rfl
def aP (ns:Zh):⇑(au ns)=⇑ns:=ajk ..
def cC (h:(au l)[i]?\q):∃z,q=V.int z/\l[i]?\z:=by
 unfold au at h;rw[ajq]at h
 cases e:l[i]? with
 |none=>rw[e]at h;ext h
 |some z=>rw[e]at h;rwa[z,(Za0 h).symm,2]
def ints_app (a b:Zh):au (a++b)=au a++au b:=ajT ..
section
variable {X:Cx}
inductive Wy (K:Za1) (x:V) (y:V) (H:Hp) (Q:VK):Prop
 |mk (a b:Zt) (ns ms:Zh):x=↑a->y=↑b->bz K H a (au ns)->bz K H b (au ms)->Q (.bl (decide (ns=ms))) H->Wy K x y H Q
inductive Wz (K:Za1) (x:V) (y:V) (H:Hp) (Q:VK):Prop
 |mk (a b:Zt) (ns ms:Zh):x=↑a->y=↑b->bz K H a (au ns)->bz K H b (au ms)->Q (.bl (!decide (ns=ms))) H->Wz K x y H Q
inductive SF (K:Za1) (xs:Zb) (H:Hp) (Q:VK):Prop
 |mk (x:V) (T:String) (t:Zu) (b:Bool):xs=[x,.ty T]->jY K H x t->PySem.W.kitOne K t (.type T)\b->Q (.bl b) H->SF K xs H Q
def qA:iM X (.builtin "isinstance") (SF X.K):=by
 intro a s k H j l Q I r h;let⟨x,T,t,b,rfl,d,e,q⟩:=h;let⟨u,i,rfl,f,g⟩:=vals2 r;ext g;rwa[Ii I f d e λc=>⟨.bl b,H,I.tok c,2,q⟩]
def Bu (K:Za1)(T:String):PySem.W.kitOne K (.type T) (.type T)\true:=by
 unfold PySem.W.kitOne;rw[ajD (beq_self_eq_true _)]
end
def ao.upd {o:HO}(h:H a=Option.none):ao H (upd H a o):=λb u e=>by
 rw[ai (aw e h)];rwa[e]
section
variable {X:Cx}
def WB (i j:Int):Prop:=0<j/\Builtin.divisionGoesByPylong i j=false
def Bv:gf X (binaryOp .FloorDiv) (rI WB λi j=>.int (i / j)):=Ia λi j _ _ _ _ _ a q=>by
 let b:(0:Int)<j:=a.1;rwa[floordiv_int ∅ ([Int.fdiv_eq_ediv_of_nonneg i ∅]▸q) (.inl a.2)]
inductive Iw (x:V) (y:V) (H:Hp) (Q:VK):Prop
 |mk (a b:Zt) (xs ys:Zb):x=↑a->y=↑b->H a\.tup xs->H b\.tup ys->⇑xs+ ⇑ys<=sizeLine->(∀p H',ao H H'->H' p\.tup (xs++ys)->Q ↑p H')->Iw x y H Q
def Lx {ws:Zl}(m:IsTup s.heap a ([]:Zl).toArray)(o:IsTup s.heap b ws.toArray)
 (h:Q ↑b s):(P<|>w) A (binaryOp .Add ↑a ↑b) Q E s:=by
 let⟨⟨cls,q,data,p⟩,k,l,n,i⟩:=id m;let⟨⟨j,f,data2,g⟩,e,d,r,c⟩:=id o;simp only at l i d c;subst l i d c
 exact concat_meets ⟨_,k,2⟩ ⟨_,e,2⟩ noFill_tuple_add seq_tuple_add amr ami (ame _ _)
  (tuple_addW0 a b ([]:Zl).toArray ws.toArray n r q f p g rfl) ⟨k,e,h⟩
def qB:gf X (binaryOp .Add) Iw:=by
 intro c s z H x y v u Q I j k h;let⟨a,b,i,ys,rfl,rfl,g,d,r,q⟩:=h;cases l:i=[]
 ·subst l;ext j;ext k;let⟨f,o,w,_⟩:=I.tuple (bz.of g);let⟨m,A,n,_⟩:=I.tuple (bz.of d);let e:f=[]:=o.ui.mpr rfl;subst e;rwa[Lx w n ⟨↑b,H,I,2,q b H (ao.refl H) d⟩]
 ·rwa[Qf c s z H ↑a ↑b v u Q I j k ⟨a,b,i,ys,22,bz.of g,bz.of d,l,r,λe=>?_,λ_ p t=>q p _ (ao.upd t) aj⟩];subst e;rwa[q a H (ao.refl H) ([ajQ]▸g)]
inductive N9 (x:V) (lo:Zk) (hi:Zk) (H:Hp) (Q:VK):Prop
 |mk (a:Zt) (xs:Zb):x=↑a->H a\.tup xs->(∀p H',ao H H'->H' p\.tup (eU xs lo hi)->Q ↑p H')->N9 x lo hi H Q
end
end L2
namespace HT
open PySem PyProof.Rows
section
variable {prog:Program}{w:World}{A:Around}{E:Zu->Zv->Prop}{s:Zv}
def sf {items:Zn}{lo j:Zk}(c:IsTup s.heap a items)(i:s.heap.IsSliceOf b v u .none)(pl:IsPart v lo)(o:IsPart u j)
 (hw:b0 items.size 0 lo=0/\b0 items.size items.size j=items.size) (h:Q ↑a s):(prog<|>w) A (getItem ↑a ↑b) Q E s:=by
 let⟨os,f,e,k⟩:=id i;let g:s.TypeIs ↑b "slice":=⟨os,f,e⟩;unfold getItem
 try with_reducible rwa[akd ?_]
 first|rwa[aje (ajl ?_)]|skip
 rwa[aje (wpAny_sequenceKey c.typeIs (by decide) ?_)]
 refine aje (ako (name:=Str.ofString "__getitem__") c.typeIs ajY
  (akw ajY c.typeIs entry_tuple_getitem ?_ (args_tuple_getitem _ _)))
 show wpAny _ _ (Builtin.Tuple.tupleItemsOf ↑a >>=_) _ _ s;rwa[aje (tupleItemsOf_ c ?_)];rwa[aje (alk g ?_)];rw[ajD ⋯];rwa[aje (m3 i pl o ?_)];rw[hw.1,hw.2];let d:((((0:Nat):Int)==0 && (1:Int)==1 && (items.size - 0)==items.size)=true):=by simp
 show wpAny _ _ (if (((0:Nat):Int)==0 && (1:Int)==1 && (items.size - 0)==items.size)=true then _ else _) _ _ s;rw[ajD d];let⟨p,l,n,_⟩:=id c;rwa[aje (m:=Builtin.Tuple.tupleIsExact _) ?_];unfold Builtin.Tuple.tupleIsExact;rwa[aje (alk c.typeIs (ajl ?_))];show wpAny _ _ (if (Value.type "tuple"==Value.type "tuple")=true then _ else _) _ _ s;rw[ajD ⋯];rwa[aje (amv (ajl ⟨12,ajl h⟩))]
def vJ {t:Tok}{Q:Int×Int×Nat->Zv->Prop}(g:s.heap.IsSliceOf a .none .none (.int (-1) t))
 (h:Q ((n:Int) - 1,-1,n) s):(prog<|>w) A (Builtin.Slice.sliceApplied ↑a (pure (n:Int))) Q E s:=by
 let⟨os,b,f,c⟩:=id g;unfold Builtin.Slice.sliceApplied Builtin.Slice.sliceFields;rwa[aje (aje (aka b c (x:=.none) rfl (aje (aka b c (x:=.none) rfl (aje (aka b c (x:=.int (-1) t) rfl (ajl ?_)))))))];rwa[aje (slicePart_int ?_)];show wpAny _ _ (if ((-1:Int)==0)=true then _ else _) _ _ s;rw[ajw ⋯];rwa[aje (slicePart_none (aje (slicePart_none (aje (ajl ?_)))))];show wpAny _ _ (match Builtin.Slice.sliceAdjust none none (-1) (n:Int) with|(lo,i)=>pure (lo,(-1:Int),Builtin.Slice.slicePlaces lo i (-1))) _ _ s
 let d:Builtin.Slice.sliceAdjust none none (-1) (n:Int)=((n:Int) - 1,-1):=by
  unfold Builtin.Slice.sliceAdjust;simp
 rw[d];show wpAny _ _ (pure ((n:Int) - 1,(-1:Int),Builtin.Slice.slicePlaces ((n:Int) - 1) (-1) (-1))) _ _ s
 let e:Builtin.Slice.slicePlaces ((n:Int) - 1) (-1) (-1)=n:=by
  unfold Builtin.Slice.slicePlaces;simp;ext
 rw[e];rwa[ajl h]
def Ly (xs:Zl):((List.range ⇑xs).filterMap λ(m:Nat)=>xs.toArray[((⇑xs:Int) - 1+ (m:Int)* (-1)).toNat]?).toArray=xs.reverse.toArray:=by
 congr 1
 rwa[alb λi=>?_]
 let e:(List.range ⇑xs).filterMap (λ(m:Nat)=>xs.toArray[((⇑xs:Int) - 1+ (m:Int)* (-1)).toNat]?)=(List.range ⇑xs).map λm=>xs.getD (⇑xs - 1 - m) .none:=by
  have:∀l:Zi,(∀m∈l,m<⇑xs)->l.filterMap (λ(m:Nat)=>xs.toArray[((⇑xs:Int) - 1+ (m:Int)* (-1)).toNat]?)=l.map λm=>xs.getD (⇑xs - 1 - m) .none:=by
   intro l
   induction l with
   |nil=>intro _;rfl
   |cons m l g=>
    intro b;let a:=b m (ajA ..);let f:((⇑xs:Int) - 1+ (m:Int)* (-1)).toNat=⇑xs - 1 - m:=∅
    let h:xs.toArray[((⇑xs:Int) - 1+ (m:Int)* (-1)).toNat]?\(xs.getD (⇑xs - 1 - m) .none):=by
     rw[f,List.getElem?_toArray,ajm,ajg ∅];rfl
    rw[amc,h,akp,g λk d=>b k (ajP _ d)]
  rwa[this _ λm a=>akF.mp a]
 rw[e,ajq];cases c:i<⇑xs
 ·rw[List.getElem?_reverse c,List.getElem?_range c,ajg ∅];simp[ajm,ajg (show ⇑xs - 1 - i<⇑xs by omega)]
 ·rw[ajS (by simp;omega),ajS (by simp;omega)];rfl
def uJ {n:Tok}(d:IsTup s.heap a N.toArray)(l:s.heap.IsSliceOf b .none .none (.int (-1) n))
 (h:Q ↑↥s { s with heap:=s.heap.push ("tuple">>>.seq N.reverse.toArray) })
 (k:⇑N<=sizeLine):(prog<|>w) A (getItem ↑a ↑b) Q E s:=by
 let c:sizeOk (.seq N.reverse.toArray):=by
  show N.reverse.toArray.size<=sizeLine;rw[ajI,ald];rwa[k]
 let⟨os,g,j,o⟩:=id l;let i:s.TypeIs ↑b "slice":=⟨os,g,j⟩;unfold getItem
 try with_reducible rwa[akd ?_]
 first|rwa[aje (ajl ?_)]|skip
 rwa[aje (wpAny_sequenceKey d.typeIs (by decide) ?_)]
 refine aje (ako (name:=Str.ofString "__getitem__") d.typeIs ajY
  (akw ajY d.typeIs entry_tuple_getitem ?_ (args_tuple_getitem _ _)))
 show wpAny _ _ (Builtin.Tuple.tupleItemsOf ↑a >>=_) _ _ s;rwa[aje (tupleItemsOf_ d ?_)];rwa[aje (alk i ?_)];rw[ajD ⋯];rwa[aje (vJ l ?_)]
 let f:¬((((N.toArray.size:Int) - 1)==0 && (-1:Int)==1 && N.toArray.size==N.toArray.size)=true):=by
  intro q;rw[aj6,aj6]at q;rwa[absurd q.1.2 ⋯]
 show wpAny _ _ (if (((N.toArray.size:Int) - 1)==0 && (-1:Int)==1 && N.toArray.size==N.toArray.size)=true then _ else _) _ _ s;rw[ajw f];let e:=Ly N;rw[show ⇑N=N.toArray.size from rfl]at e;rw[e]
 first
  |rwa[aje (m:=Builtin.Tuple.tupleExact _) (ajW (ajl ⟨_,rfl,ajl h⟩) c)]
  |rwa[aje (m:=Builtin.Tuple.tupleExact _) (ajW (aje (ajl (ajl ⟨_,rfl,ajl h⟩))) c)]
  |rwa[aje (aje (m:=Builtin.Tuple.tupleExact _) (ajW (ajl (ajl ⟨_,rfl,ajl h⟩)) c))]
  |rwa[aje (aje (m:=Builtin.Tuple.tupleExact _) (ajW (ajl ⟨_,rfl,ajl h⟩) c))]
end
def vK:fillsNumberSlot (.type "tuple") "mul"=pure false:=
 PySem.fillsNumberSlot_seq (id:="tuple.__mul__") (r:=some (.builtin "tuple.__rmul__")) PySem.F.slot_tuple_mul.lookup (by decide) PySem.F.slot_tuple_rmul.lookup (by decide)
def Bw:seqRepeat? (.type "tuple")=pure (some (.builtin "tuple.__mul__")):=by
 unfold seqRepeat?;rw[PySem.seqSlot_of (T:="tuple") (name:="__mul__") (id:="tuple.__mul__") PySem.F.slot_tuple_mul.lookup ⋯,PySem.seqSlot_of (T:="tuple") (name:="__rmul__") (id:="tuple.__rmul__") PySem.F.slot_tuple_rmul.lookup ⋯];rfl
def yG (a:Int)(t:Tok)(l:Zt)(items:Zn)(n:Nat)(e:Zp)(c:Array Zm):
 Meets (Builtin.«int.__rmul__» ⟨[.int a t,↑l],[]⟩) (λ_ R s=>s•l\{ cls:=.type "tuple",dict:=e,data:=.seq items n,slots:=c }/\R (.ok (.ret Value.notImplemented)) s):=
 .of_wp λb w A R s h=>by let⟨f,g,d,i,os⟩:=s;let⟨j,h⟩:=h;wp_walk;rwa[12,h]
def yH (l:Zt)(items:Zn)(n:Nat)(j:Zp)(c:Array Zm)(x:Int)(u:Tok)(b:¬(decide (x < -(2 ^ 63)) || decide (x>=2 ^ 63))=true)(m:(items.isEmpty || x==1)=true):
 Meets (Builtin.«tuple.__mul__» ⟨[↑l,.int x u],[]⟩) (λ_ R s=>s•l\{ cls:=.type "tuple",dict:=j,data:=.seq items n,slots:=c }/\R (.ok (.ret ↑l)) s):=
 .of_wp λa w A R s h=>by
  let⟨f,g,d,e,os⟩:=s;let⟨i,h⟩:=h;let k:(⟨f,g,d,e,os⟩:Zv).TypeIs ↑l "tuple":=⟨_,i,2⟩
  wp_walk
  rwa[wpAny_ite_false (akh b) ?_]
  wp_walk
  rwa[12,h]
def yI (l:Zt)(items:Zn)(n:Nat)(j:Zp)(c:Array Zm)(x:Int)(u:Tok)(b:¬(decide (x < -(2 ^ 63)) || decide (x>=2 ^ 63))=true)(o:¬(items.isEmpty || x==1)=true)(m:(decide (x<=0) || items.isEmpty)=true):
 Meets (Builtin.«tuple.__mul__» ⟨[↑l,.int x u],[]⟩) (λ_ R s=>s•l\{ cls:=.type "tuple",dict:=j,data:=.seq items n,slots:=c }/\R (.ok (.ret ↑↥s)) { s with heap:=s.heap.push ("tuple">>>.seq #[]) }):=
 .of_wp λa w A R s h=>by
  let⟨f,g,d,e,os⟩:=s;let⟨i,h⟩:=h;let k:(⟨f,g,d,e,os⟩:Zv).TypeIs ↑l "tuple":=⟨_,i,2⟩
  wp_walk
  rwa[wpAny_ite_false (akh b) ?_]
  wp_walk
  rwa[12,h]
def yJ (l:Zt)(items:Zn)(n:Nat)(o:Zp)(f:Array Zm)(x:Int)(u:Tok)(e:¬(decide (x < -(2 ^ 63)) || decide (x>=2 ^ 63))=true)(v:¬(items.isEmpty || x==1)=true)(t:¬(decide (x<=0) || items.isEmpty)=true)
 (j:¬((items.size:Int)* x > (2 ^ 63 - 1) / 8)) (p:¬(Builtin.Tuple.tupleTooMany ((items.size:Int)* x))=true) (r:(List.foldl (λb a=>b++a) #[] (List.replicate x.toNat items)).size<=sizeLine):
 Meets (Builtin.«tuple.__mul__» ⟨[↑l,.int x u],[]⟩) (λ_ R s=>s•l\{ cls:=.type "tuple",dict:=o,data:=.seq items n,slots:=f }/\R (.ok (.ret ↑↥s)) { s with heap:=s.heap.push ("tuple">>>.seq (List.foldl (λb a=>b++a) #[] (List.replicate x.toNat items))) }):=
 .of_wp λc w A R s h=>by
  let⟨k,g,d,i,os⟩:=s;let⟨m,h⟩:=h;let q:(⟨k,g,d,i,os⟩:Zv).TypeIs ↑l "tuple":=⟨_,m,2⟩
  wp_walk
  rwa[wpAny_ite_false (akh e) ?_]
  wp_walk
  rwa[wpAny_ite_false (akh j) ?_]
  wp_walk
  rwa[12,h]
end HT
namespace L2
open PySem PySem.Spec PyProof.Rows
section
variable {X:Cx}{e:Expr}{te:TE}{lo hi:Option Expr}{st:Expr}{tl th ts:TO}{pos p2:Pos}
def Bx:N1 X N9:=by
 intro b s o H x v n k lo hi l Q I i j pl g h;let⟨a,xs,rfl,d,q⟩:=h;cases hw:HT.b0 ⇑xs 0 lo=0/\HT.b0 ⇑xs ⇑xs hi=⇑xs
 ·ext i;let⟨c,r,f,t⟩:=I.tuple (bz.of d);let hlen:c.toArray.size=⇑xs:=by rw[ajI];rwa[r.length.symm]
  erw["tuple",_,ajY.lookup,f.typeIs];rwa[HT.sf f j pl g ([hlen]▸hw) ⟨↑a,H,I,2,q a H (ao.refl H) ?_⟩];unfold eU;rw[hw.1,hw.2,List.drop_zero,Nat.sub_zero,aky];rwa[d]
 ·rwa[Sl b s o H ↑a v n k lo hi l Q I i j pl g ⟨a,xs,2,bz.of d,hw,λp m=>q p _ (ao.upd m) aj⟩]
def SG (X:Cx)(r:V->Zk->Zk->Zk->Hp->VK->Prop):Prop:=
 ∀(a:List (Zt×Obj)) (s:Zv) (g:St) (H:Hp) (x:V) (v f d c:Zu) (lo hi st:Zk) (b:Zt) (Q:VK),Inv X a g H s->RelV x v->s.heap.IsSliceOf b f d c->IsPart f lo->IsPart d hi->IsPart c st->r x lo hi st H Q->
  ∃T id,typeLookup (.type T) "__getitem__"=pure (some (.builtin id))/\s.TypeIs v T/\X⁻¹ X.A (getItem v ↑b) (EP X a g Q) X.xe s
def abG (r:V->Zk->Zk->Zk->Hp->VK->Prop)(te:TE)(tl th ts:TO):TE:=λ a H Q=>te a H λx c=>tl a c λl b=>th a b λu f=>ts a f λk d=>r x l u k d Q
def Iy {r:V->Zk->Zk->Zk->Hp->VK->Prop}(L:SG X r)(S:PE X e te)(J:PO X lo tl)(N:PO X hi th)(i:PO X (some st) ts):PE X (.Subscript e (.Slice lo hi (some st) p2) pos) (abG r te tl th ts):=by
 intro a s c H Q I h;rwa[Subscript_ (aZ (S a s c H _ I h) λv O ζ=>?_)];let⟨x,G,p,m,C⟩:=ζ;rwa[wpAny_Slice (aZ (J a O c G _ p C) λg z ζ=>?_)];let⟨l,P,E,pl,W⟩:=ζ;rwa[aZ (N a z c P _ E W) λd R ζ=>?_];let⟨u,w,y,M,D⟩:=ζ;rwa[aZ (i a R c w _ y D) λf s4 ζ=>?_];let⟨k,j,n,U,F⟩:=ζ;let A:Inv X a c j { s4 with heap:=s4.heap.push ("slice">>>.fields #[g,d,f]) }:=n.kept (t':=s4.toks) λb Z q=>ajf _ q
 let⟨T,id,B,o,t⟩:=L a { s4 with heap:=s4.heap.push ("slice">>>.fields #[g,d,f]) } c j x v g d f l u k ↥s4 Q A m (Heap.IsSliceOf.new ..) pl M U F;show X⁻¹ X.A (subscriptTail e (.Slice lo hi (some st) p2) v ↑↥s4) (EP X a c Q) X.xe { s4 with heap:=s4.heap.push ("slice">>>.fields #[g,d,f]) };rwa[tail_any (ops:=[v,↑↥s4]) o B t (by with_unfolding_all rfl)]
def WC:V->Zk->Zk->Zk->Hp->VK->Prop:=λx lo hi st H Q=>∃a xs,x=↑a/\H a\.tup xs/\lo=none/\hi=none/\st\(-1)/\∀p,H p=none->Q ↑p (upd H p (.tup xs.reverse))
def Qh:SG X WC:=by
 intro f s D H x v C w g lo hi st z Q I m n pl l u h;let⟨a,xs,rfl,p,rfl,rfl,rfl,q⟩:=h;ext m;ext pl;ext l;obtain⟨d,rfl⟩:∃d,g=.int (-1) d:=by cases u with|int i t=>exact⟨t,rfl⟩
 let⟨j,r,c,k⟩:=I.tuple (bz.of p);let B:=⇑r;erw["tuple",_,ajY.lookup,c.typeIs];rwa[HT.uJ c n ?_ ∅];rwa[⟨↑↥s,_,I.laid (t':=s.toks) (o:=.tup xs.reverse) (λb A q=>ajf _ q) (ajp _) ?_,2,q _ (I.aM.fresh (ajp _))⟩];rwa[[ald]▸k,_,r.reverse,IsTup.new _ _]
inductive Ob (x:V) (y:V) (H:Hp) (Q:VK):Prop
 |mk (a:Zt) (k:Int) (xs:Zb):x=↑a->y=.int k->H a\.tup xs-> -(2 ^ 63)<=k->k<2 ^ 63->⇑xs* k.toNat<=sizeLine->(∀p H',ao H H'->H' p\.tup (List.replicate k.toNat xs).flatten->Q ↑p H')->Ob x y H Q
theorem uj:gf X (binaryOp .Mult) Ob:=by
 intro d s M H x y v u Q I W Z h;let⟨l,k,xs,rfl,rfl,L,h1,h2,J,q⟩:=h;ext W;let⟨t,rfl⟩:=Z;let⟨a,r,V,Y⟩:=I.tuple (bz.of L);let B:=⇑r;let⟨⟨cls,z,data,g⟩,j,hc,n,G⟩:=id V;simp only at hc G;subst hc G
 let A:¬(decide (k < -(2 ^ 63)) || decide (k>=2 ^ 63))=true:=by
  rw[akH,akn,akn];ext
 let D:∀{S:PySem.Spec},Meets (Builtin.«tuple.__mul__» ⟨[↑l,.int k t],[]⟩) (λP R c=>c•l\{ cls:=.type "tuple",dict:=z,data:=.seq a.toArray n,slots:=g }/\S P R c)->
  S X.A (wants (EP X d M Q) X.xe) s->X⁻¹ X.A (binaryOp .Mult ↑l (.int k t)) (EP X d M Q) X.xe s:=λ{S} m hS=>
  wpAny_binaryOp_repeat_ref (T:="tuple") (U:="int") ⋯ ⟨_,j,2⟩ (λc=>typeIs_int c k t) HT.vK F.fills_int_mul F.slot_int_rmul HT.Bw F.slot_int_index.lookup
   (call_meets F.slot_int_rmul (typeIs_int s k t) F.entry_int_rmul (F.args_int_rmul_2 _ _) (HT.yG k t l a.toArray n z g)
    ⟨j,2,⟨_,j,2⟩,call_meets F.slot_tuple_mul ⟨_,j,2⟩ F.entry_tuple_mul (F.args_tuple_mul_2 _ _) m ⟨j,hS⟩⟩)
 cases hc:(a.toArray.isEmpty || k==1)=true
 ·rwa[D (S:=λ_ R c=>R (.ok (.ret ↑l)) c) (HT.yH l a.toArray n z g k t A hc) ⟨↑l,H,I,2,q l H (ao.refl H) ?_⟩]
  let e:(List.replicate k.toNat xs).flatten=xs:=by
   rw[akH]at hc;rcases hc with hc|hc
   ·have:a=[]:=by simpa using hc
    have:xs=[]:=by
     let w:=B;rw[this]at w;rwa[akL w]
    subst this;simp
   ·have:k=1:=by simpa using hc
    subst this;simp
  rw[e];rwa[L]
 ·cases f:(decide (k<=0) || a.toArray.isEmpty)=true
  ·rwa[D (S:=λ_ R c=>R (.ok (.ret ↑↥c)) { c with heap:=c.heap.push ("tuple">>>.seq #[]) }) (HT.yI l a.toArray n z g k t A hc f) ?_];rwa[⟨↑↥s,_,I.laid (t':=s.toks) (o:=.tup []) (λb O q=>ajf _ q) (ajp _) ?_,2,q _ _ (ao.upd (I.aM.fresh (ajp _))) ?_⟩]
   ·rwa[ajU _,[],.nil,IsTup.new _ _]
   ·let e:k.toNat=0:=by
     rw[akH,akn]at f;rcases f with f|f
     ·ext
     ·rwa[absurd (by rw[akH];rwa[.inl f]) hc]
    rw[e,aj];rfl
  ·let hk:0<k:=by
    rw[akH,akn]at f;ext
   let p:List.foldl (λE C=>E++C) #[] (List.replicate k.toNat a.toArray)=(List.replicate k.toNat a).flatten.toArray:=by
    have:=foldl_rep a k.toNat [];rw[alT]at this;rwa[this]
   let hlen:(List.replicate k.toNat a).flatten.length<=sizeLine:=by rw[len_rep,Nat.mul_comm,<-B];rwa[J]
   let i:((a.toArray.size:Int)* k)=((⇑xs* k.toNat:Nat):Int):=by
    rw[ajI,<-B,Int.natCast_mul,Int.toNat_of_nonneg ∅]
   let hline:(sizeLine:Nat)<=(2 ^ 63 - 1) / 8:=⋯
   refine D (S:=λ_ R c=>R (.ok (.ret ↑↥c)) { c with heap:=c.heap.push ("tuple">>>.seq (List.foldl (λE C=>E++C) #[] (List.replicate k.toNat a.toArray))) })
    (HT.yJ l a.toArray n z g k t A hc f (by rw[i];omega) (by unfold Builtin.Tuple.tupleTooMany;rw[akn,i];omega) ([p,ajI]▸hlen)) ?_
   rw[p];rwa[⟨↑↥s,_,I.laid (t':=s.toks) (o:=.tup (List.replicate k.toNat xs).flatten) (λb O q=>ajf _ q) (ajp _) ?_,2,q _ _ (ao.upd (I.aM.fresh (ajp _))) aj⟩];rwa[[len_rep,Nat.mul_comm]▸J,_,r.rep k.toNat,IsTup.new _ _]
end
noncomputable def tx (l:Zi):Str:=⟨l.toArray⟩
def Iz (l:Zi):⇑(tx l)=⇑l:=by
 show l.toArray.size=⇑l;simp
def xc {b:Zi}(h:tx B=tx b):B=b:=by
 have:=akm (λs:Str=>s.cps.toList) h;rwa[this]
def E7 (h:x.cps.toList=f.cps.toList):x=f:=by
 let⟨a⟩:=x;let⟨b⟩:=f;have:a=b:=Array.toList_inj.mp h;rw[this]
def WD (x:Str):x=tx x.cps.toList:=E7 rfl
def IA (a b:Zi):tx a++tx b=tx (a++b):=by
 rwa[E7 ?_];show ((tx a).cps++(tx b).cps).toList=(a++b);rw[Array.toList_append];rfl
section
variable {X:Cx}{pos:Pos}
def dP {l:Zi}{j}(h:x=tx l):PE X (.Constant (.str x) j pos) (tC (.str (tx l))):=by
 rw[<-h];rwa[RL]
noncomputable def By (n:Int):Zi:=(toString n:Str).cps.toList
def IB (h:n<10000000000):n.log2<1920:=by
 rcases Nat.eq_zero_or_pos n with e|e
 ·subst e;decide
 ·let a:HPow.hPow 2 n.log2<=n:=Nat.log2_self_le ∅;let b:(10000000000:Nat)<2 ^ 1920:=⋯
  rwa[(Nat.pow_lt_pow_iff_right (by decide:1<2)).mp (ajt a (amf h b))]
def Lz {n:Int}(a:0<=n)(h:n<10000000000):⇑(By n)<=10:=by
 have:=toString_length_le (v:=n) a (k:=10) ⋯ h;rwa[this]
end
structure Def (K:Za1) (mg:Str->Zm) (x:Str) (st:Stmt) (ps:Zq) (f:Zt) (fd:FuncData):Prop where
 F:sE K x x st f fd
 m:mg x\↑f
 b:Binds K fd ps []
inductive WG (t:TE) (σ:St) (H:Hp) (Q:VK):Prop
 |mk (G:V->Hp->Prop):t σ H G->(∀v H',G v H'->Q v H')->WG t σ H Q
def kI (ns:Zh)(lo a:Zk):eU (au ns) lo a=au ((ns.drop (HT.b0 ⇑ns 0 lo)).take (HT.b0 ⇑ns ⇑ns a - HT.b0 ⇑ns 0 lo)):=by
 unfold eU au;rw[ajk,List.map_take,List.map_drop]
section
variable {κ:Type} [DecidableEq κ]
noncomputable def bB (a:List (κ×V))(k:κ):Zc:=(a.find? λb=>decide (b.1=k)).map (·.2)
noncomputable def putK (a:List (κ×V))(k:κ)(v:V):List (κ×V):=
 if (a.any λb=>decide (b.1=k))=true then a.map (λb=>if b.1=k then (b.1,v) else b) else a++[(k,v)]
noncomputable def dC (a:List (κ×V))(k:κ):List (κ×V):=a.filter λb=>decide (b.1≠k)
def cS {p:κ×V}{r:List (κ×V)}{k:κ}(e:p.1=k):bB (p::r) k\p.2:=by simp[bB,alU,e]
def cM {p:κ×V}{r:List (κ×V)}{k:κ}(e:¬p.1=k):bB (p::r) k=bB r k:=by simp[bB,alU,e]
theorem m6 (k:κ):∀a:List (κ×V),(a.any λb=>decide (b.1=k))=(bB a k).isSome
 |[]=>rfl
 |p::r=>by
  rw[List.any_cons];cases e:p.1=k
  ·simp only[cS e,ajF e,Bool.true_or,Option.isSome_some]
  ·rw[cM e,akh e,Bool.false_or];rwa[m6 k r]
theorem Bz (k j:κ)(y:V):∀a:List (κ×V),bB (a.map λb=>if b.1=k then (b.1,y) else b) j=(bB a j).map λx=>if j=k then y else x
 |[]=>rfl
 |p::r=>by
  let c:=Bz k j y r;rw[akp];cases h:p.1=k
  ·rw[ajD h];cases e:p.1=j
   ·rw[cS (p:=(p.1,y)) e,cS e,Option.map_some,ajD (e.symm.trans h)]
   ·rw[cM (p:=(p.1,y)) e,cM e,c]
  ·rw[ajw h];cases e:p.1=j
   ·rw[cS (p:=p) e,cS e,Option.map_some,ajw (λz=>h (e.trans z))]
   ·rw[cM (p:=p) e,cM e,c]
theorem zA (k j:κ)(y:V):∀a:List (κ×V),bB a k=none->bB (a++[(k,y)]) j=if j=k then some y else bB a j
 |[],_=>by
  cases e:k=j
  ·rw[ajD e.symm];rwa[cS (p:=(k,y)) e]
  ·rw[ajw (λz=>e z.symm)];rwa[cM (p:=(k,y)) e]
 |p::r,b=>by
  rw[alI];let c:¬p.1=k:=λz=>by rw[cS z]at b;ext b
  rw[cM c]at b;let d:=zA k j y r b;cases e:p.1=j
  ·rw[cS e,cS e,ajw (λz=>c (e.trans z))]
  ·rw[cM e,cM e,d]
def qC (b:List (κ×V))(k j:κ)(y:V):bB (putK b k y) j=if j=k then some y else bB b j:=by
 unfold putK;cases a:(b.any λc=>decide (c.1=k))=true
 ·rw[ajD a,Bz];rw[m6]at a;cases e:j=k
  ·let⟨x,d⟩:=akl.mp a
   cbv
  ·rw[ajw e]
   cases bB b j with
   |none=>rfl
   |some x=>cbv
 ·rw[ajw a];rwa[zA k j y b ?_];rw[m6]at a
  cases q:bB b k with
  |none=>rfl
  |some x=>rw[q]at a;rwa[(a rfl).elim]
def g9 (a:List (κ×V))(k:κ)(v:V):⇑(putK a k v)<=⇑a+ 1:=by
 unfold putK;split
 ·rw[ajk];ext
 ·rw[ajh,ajO,alv];ext
def BD {a:List (κ×V)}{k:κ}(v:V)(h:bB a k=none):putK a k v=a++[(k,v)]:=by
 unfold putK;rw[m6,h];rwa[ajw ⋯]
def eJ.lI {o:Zc}{u:Zm}(r:eJ o u):o.isSome=u.isSome:=by
 cases o with
 |none=>cases u with
  |none=>rfl
  |some _=>exact(show False from r).elim
 |some _=>cases u with
  |none=>exact(show False from r).elim
  |some _=>rfl
def eJ.getD {o:Zc}{u:Zm}(r:eJ o u)(rd:RelV q v):RelV (o.getD q) (u.getD v):=by
 cases o with
 |none=>cases u with
  |none=>exact rd
  |some _=>exact(show False from r).elim
 |some _=>cases u with
  |none=>exact(show False from r).elim
  |some _=>exact r
def KV.val {a:List (κ×V)}{f:List (κ×Zu)}(r:KV a f)(k:κ):eJ (bB a k) (valueAt f k):=by
 induction r with
 |nil=>exact True.intro
 | @cons p q l c h t i=>
   let⟨g,j⟩:=h;cases e:p.1=k
   ·let d:q.1=k:=g.symm.trans e;let b:valueAt (q::c) k\q.2:=by simp[valueAt,alU,d]
    rw[cS e,b];rwa[j]
   ·let d:¬q.1=k:=λz=>e (g.trans z)
    let b:valueAt (q::c) k=valueAt c k:=by simp[valueAt,alU,d]
    rw[cM e,b];rwa[i]
def KV.any {a:List (κ×V)}{c:List (κ×Zu)}(r:KV a c)(k:κ):(a.any λb=>decide (b.1=k))=c.any λb=>decide (b.1=k):=by
 induction r with
 |nil=>rfl
 |cons h t d=>rw[List.any_cons,List.any_cons,d,h.1]
def KV.repl {b:List (κ×V)}{c:List (κ×Zu)}(r:KV b c)(k:κ){y:V}{u:Zu}(g:RelV y u):
 KV (b.map λa=>if a.1=k then (a.1,y) else a) (c.map λa=>if a.1=k then (a.1,u) else a):=by
 induction r with
 |nil=>exact .nil
 | @cons p q e f h t d=>
   rw[akp,akp];rwa[.cons ?_ d]
   cbv
def KV.put {a:List (κ×V)}{b:List (κ×Zu)}(r:KV a b)(k:κ){y:V}{u:Zu}(c:RelV y u):KV (putK a k y) (stored b k u):=by
 unfold putK stored;rw[r.any k];cases e:(b.any λd=>decide (d.1=k))=true
 ·rw[ajD e,ajD e];rwa[r.repl k c]
 ·rw[ajw e,ajw e];rwa[Paired.snoc r ⟨2,c⟩]
def KV.drop {c:List (κ×V)}{d:List (κ×Zu)}(r:KV c d)(k:κ):KV (dC c k) (without d k):=by
 unfold dC without
 induction r with
 |nil=>exact .nil
 | @cons p q l m h t g=>
   let⟨f,i⟩:=h;rw[List.filter_cons,List.filter_cons];cases e:p.1=k
   ·cbv
   ·let j:¬q.1=k:=λz=>e (f.trans z)
    let a:decide (p.1≠k)=true:=by simp[e]
    let b:decide (q.1≠k)=true:=by simp[j]
    rw[ajD a,ajD b];rwa[.cons ⟨f,i⟩ g]
def KV.length {a:List (κ×V)}{b:List (κ×Zu)}(r:KV a b):⇑a=⇑b:=Paired.length r
def LC (a:List (κ×V))(k:κ):⇑(dC a k)<=⇑a:=alm _ _
end
def jl {k:Key}(r:RelV (kV k) u):(bT P w).is k u=true:=by
 cases k with
 |inl i=>let⟨t,e⟩:=(show ∃t,u=Value.int i t from r);subst e;rwa[DY P w i t]
 |inr x=>let⟨t,e⟩:=(show ∃t,u=Value.str x t from r);subst e;rwa[DZ P w x t]
theorem zB:∀{a:Zd} {b:Zl},Vals (a.map kV) b->ItemsAre (bT P w) a b
 |[],_,r=>by ext r;rwa[.nil]
 |k::a,_,r=>by
  cases r with
  |cons h t=>exact .cons (jl h) (zB t)
abbrev KT (H:Hp):List (Zd×V)->List (Zd×Zt×Zu)->Prop:=Paired λp q=>p.1=q.1/\H q.2.1\.tup (p.1.map kV)/\RelV p.2 q.2.2
def KT.val {a:List (Zd×V)}{g:List (Zd×Zt×Zu)}(r:KT H a g)(k:Zd):eJ (bB a k) ((atKey g k).map (·.2)):=by
 induction r with
 |nil=>exact True.intro
 | @cons p q l c h t i=>
   let⟨f,_,j⟩:=h;cases e:p.1=k
   ·let d:q.1=k:=f.symm.trans e;let b:atKey (q::c) k\q.2:=by simp[atKey,alU,d]
    rw[cS e,b];rwa[j]
   ·let d:¬q.1=k:=λz=>e (f.trans z)
    let b:atKey (q::c) k=atKey c k:=by simp[atKey,alU,d]
    rw[cM e,b];rwa[i]
def KT.repl {a:List (Zd×V)}{xs:List (Zd×Zt×Zu)}(r:KT H a xs)(k:Zd){y:V}{u:Zu}(j:RelV y u):
 KT H (a.map λb=>if b.1=k then (b.1,y) else b) (xs.map (putAt k u)):=by
 induction r with
 |nil=>exact .nil
 | @cons p q d e h t c=>
   rw[akp,akp];rwa[.cons ?_ c];let⟨g,f,i⟩:=h;unfold putAt
   cbv
def KT.put {a:List (Zd×V)}{c:List (Zd×Zt×Zu)}(r:KT H a c)(k:Zd){b:Zt}{y:V}{u:Zu}(g:H b\.tup (k.map kV))(d:RelV y u):
 KT H (putK a k y) (storedH c k b u):=by
 let e:(a.any λf=>decide (f.1=k))=(atKey c k).isSome:=by
  rw[m6,(r.val k).lI,Option.isSome_map]
 unfold putK storedH;rw[e];cases q:(atKey c k).isSome=true
 ·rw[ajD q,ajD q];rwa[r.repl k d]
 ·rw[ajw q,ajw q];rwa[Paired.snoc r ⟨2,g,d⟩]
def KT.keeps {a:List (Zd×V)}{c:List (Zd×Zt×Zu)}(r:KT H a c)(d:∀b ys,H b\.tup ys->I b\.tup ys):KT I a c:=
 Paired.K7 r λ_ _ z=>⟨z.1,d^z.2.1,z.2.2⟩
section
variable {P:Program}{w:World}{H:Hp}{h:Heap}{a:Zt}
def Oc {u:HO}(ok:dz P w H h)(e:Rd H a u):bY P w H h a u:=e.ok ok
def oP {b:List (Key×V)}(ok:dz P w H h)(e:Rd H a (.dK b)):⇑b<=sizeLine/\(a==sysModules)=false/\∃c,KV b c/\h.DictOf (bT P w) a c:=
 show bY P w H h a (.dK b) from Oc ok e
def uk {b:List (Key×V)}(ok:dz P w H h)(e:H a\.dK b):⇑b<=sizeLine/\(a==sysModules)=false/\∃c,KV b c/\h.DictOf (bT P w) a c:=oP ok (.inl e)
def lJ {c:Zd}(ok:dz P w H h)(e:H a\.tup (c.map kV)):(tupleKind (bT P w)).is h c a:=by
 let⟨_,b,r,o,f,d,n,g⟩:=(show bY P w H h a (.tup (c.map kV)) from ok a _ e);rwa[o,b.toArray,n,f,d,g,by simpa using zB r]
def oQ {b:List (Zd×V)}(ok:dz P w H h)(e:Rd H a (.dT b)):⇑b<=sizeLine/\(a==sysModules)=false/\
 ∃d,KT H b d/\h.DictOfH (tupleKind (bT P w)) a d:=by
 let⟨z,y,d,r,o,n,u,j,g,s,i,k⟩:=(show bY P w H h a (.dT b) from Oc ok e);rwa[⟨z,y,d,r,o,n,u,j,g,s,i,λx c=>?_,k⟩]
 let all:∀{l:List (Zd×V)} {m:List (Zd×Zt×Zu)},KT H l m->∀x∈m,(tupleKind (bT P w)).is h x.1 x.2.1:=by
  intro l m q
  induction q with
  |nil=>intro x c;rwa[nomatch c]
  | @cons p q A B f t v=>
    intro x c;rcases ajE.mp c with e|c
    ·subst e;rwa[lJ ok (by rw[<-f.1];rwa[f.2.1])]
    ·rwa[v x c]
 rwa[all r x c]
def Od {b:List (Zd×V)}(ok:dz P w H h)(e:H a\.dT b):⇑b<=sizeLine/\(a==sysModules)=false/\
 ∃c,KT H b c/\h.DictOfH (tupleKind (bT P w)) a c:=oQ ok (.inl e)
end
def cO (H:Hp)(a:Zt)(y:V)(r:Zc):Prop:=
 (∃c k,Rd H a (.dK c)/\y=kV k/\r=bB c k)\/∃c k b,Rd H a (.dT c)/\y=↑b/\H b\.tup (k.map kV)/\r=bB c k
def m7 (H:Hp)(a:Zt)(y v:V)(d:Hp):Prop:=
 (∃c k,H a\.dK c/\y=kV k/\⇑c<sizeLine/\d=upd H a (.dK (putK c k v)))\/
 ∃c k b,H a\.dT c/\y=↑b/\H b\.tup (k.map kV)/\⇑c<sizeLine/\d=upd H a (.dT (putK c k v))
def cO.k {b:List (Key×V)}{k:Key}(e:H a\.dK b):cO H a (kV k) (bB b k):=.inl ⟨b,k,.inl e,22⟩
def m7.k {b:List (Key×V)}{k:Key}(e:H a\.dK b)(c:⇑b<sizeLine):m7 H a (kV k) q (upd H a (.dK (putK b k q))):=.inl ⟨b,k,e,2,c,2⟩
section
variable {X:Cx}{pins:List (Zt×Obj)}{σ:St}{H:Hp}{s:Zv}{a:Zt}{y v:V}{u r:Zu}{o:Zc}{A:Around}{E:Zu->Zv->Prop}
def Inv.big (I:Inv X pins σ H s):sysModules<↥s:=by
 let h:mainGlobals<↥s:=(I.mod.glob.keeps I.bk).lt;rwa[amf ⋯ h]
def IC (F:A.units+ 1<cLine)(I:Inv X pins σ H s)(g:cO H a y (some v))(t:RelV y u)(h:∀d q,Inv X pins σ H q->RelV v d->Q d q):
 X⁻¹ A (getItem ↑a u) Q E s:=by
 rcases g with ⟨f,k,e,n,l⟩|⟨f,k,b,e,n,B,l⟩
 ·subst n;let⟨z,w,x,rel,m⟩:=oP I.aM e;let⟨d,j,c⟩:=eJ.some_of (v:=v) (o:=valueAt x k) ([l]▸rel.val k);rwa[wpAny_getItem_of (jl t) m.mapOf j (h d _ (I.tok _) c)]
 ·subst n;cases (show u=Value.ref b from t);let⟨z,w,D,rel,m⟩:=oQ I.aM e;let⟨d,j,c⟩:=eJ.some_of (v:=v) (o:=(atKey D k).map (·.2)) ([l]▸rel.val k);let⟨p,C,i⟩:=akr.mp j;rwa[wpAny_getItem_heap (ak5 F) (lJ I.aM B) m C ?_];rw[i];rwa[h d _ (I.tok _) c]
def abH (p:A.units+ 1<cLine)(I:Inv X pins σ H s)(g:cO H a y o)(m:RelV y u)(h:∀j,Inv X pins σ H j->Q (.bool o.isSome) j):
 X⁻¹ A (compareOp .In u ↑a) Q E s:=by
 rcases g with ⟨d,k,e,i,l⟩|⟨d,k,b,e,i,n,l⟩
 ·subst i;let⟨z,c,t,rel,f⟩:=oP I.aM e;rwa[wpAny_in_of (jl m) c f.mapOf ?_];rw[<-(rel.val k).lI,<-l];rwa[h _ (I.tok _)]
 ·subst i;cases (show u=Value.ref b from m);let⟨z,c,w,rel,f⟩:=oQ I.aM e;rwa[wpAny_in_heap (ak5 p) (lJ I.aM n) c f ?_];let q:=(rel.val k).lI;rw[Option.isSome_map]at q;rw[<-q,<-l];rwa[h _ (I.tok _)]
def Qi (p:A.units+ 1<cLine)(I:Inv X pins σ H s)(g:cO H a y o)(m:RelV y u)(h:∀j,Inv X pins σ H j->Q (.bool (!o.isSome)) j):
 X⁻¹ A (compareOp .NotIn u ↑a) Q E s:=by
 rcases g with ⟨d,k,e,i,l⟩|⟨d,k,b,e,i,n,l⟩
 ·subst i;let⟨z,c,t,rel,f⟩:=oP I.aM e;rwa[wpAny_notIn_of (jl m) c f.mapOf ?_];rw[<-(rel.val k).lI,<-l];rwa[h _ (I.tok _)]
 ·subst i;cases (show u=Value.ref b from m);let⟨z,c,w,rel,f⟩:=oQ I.aM e;rwa[wpAny_notIn_heap (ak5 p) (lJ I.aM n) c f ?_];let q:=(rel.val k).lI;rw[Option.isSome_map]at q;rw[<-q,<-l];rwa[h _ (I.tok _)]
def kJ {t':Nat}{c:HO}(I:Inv X pins σ H s)(mu:uX (H a))(g:Heap.SameBut a s.heap h)(d:∃q,h.get? a\q)(new:bY X.prog X.w (upd H a c) h a c):
 Inv X pins σ (upd H a c) { s with heap:=h,toks:=t' }:=
 I.write (x:=a) (e:=a) mu (.inl rfl) (λb q f z=>(g.2 b f).trans z) d new
def sG {b:List (Key×V)}{c:List (Key×Zu)}(z:⇑b<=sizeLine)(d:(a==sysModules)=false)(rel:KV b c)(e:h.DictOf (bT P w) a c):
 bY P w I h a (.dK b):=⟨z,d,c,rel,e⟩
def IE (S:A.units+ 1<cLine)(d:Inv X pins σ H s)(g:m7 H a y v I)(M:RelV y u)(L:RelV v r)(h:∀D,Inv X pins σ I D->U () D):
 X⁻¹ A (setItem ↑a u r) U E s:=by
 rcases g with ⟨f,k,e,C,l,n⟩|⟨f,k,b,e,C,J,l,n⟩
 ·subst C n;let⟨z,m,O,rel,B⟩:=uk d.aM e;let p:⇑O<=sizeLine:=by rw[<-⇑rel];rwa[z]
  let w:⇑(putK f k v)<=sizeLine:=by have:=g9 f k v;ext
  rwa[wpAny_setItem_pairs (hsz:=p) (jl M) B λG i x=>h _ ?_]
  let Y:∃q,G.get? a\q:=let ⟨q,_,_,j,_⟩:=i;⟨q,j⟩
  rwa[kJ d ([e]▸True.intro) x Y (sG w m (rel.put k L) i)]
 ·subst C n;cases (show u=Value.ref b from M);let⟨z,m,xs,rel,B⟩:=Od d.aM e;let p:⇑xs<=sizeLine:=by rw[<-Paired.length rel];rwa[z]
  let w:⇑(putK f k v)<=sizeLine:=by have:=g9 f k v;ext
  rwa[wpAny_setItem_heap (hsz:=p) (ak5 S) (lJ d.aM J) B λG i x=>h _ ?_]
  let⟨q,R,W,j,N,T,P,_,Q⟩:=i;rwa[kJ d ([e]▸True.intro) x ⟨q,j⟩ ⟨w,m,_,(rel.put k J L).keeps λc ys F=>?_,q,R,W,j,N,T,P,Q⟩];rw[ai (bN F e (λz=>nomatch z))];rwa[F]
end
section
variable {X:Cx}{pins:List (Zt×Obj)}{σ:St}{H:Hp}{s:Zv}{a:Zt}{kvs:List (Key×V)}{k:Key}{u:Zu}{A:Around}{E:Zu->Zv->Prop}
def Oe {more:Zl}(I:Inv X pins σ H s)(e:H a\.dK kvs)(g:RelV (kV k) u)(l:bB kvs k\q)(p:more=[]\/∃x,more=[x])
 (h:∀c j,Inv X pins σ (upd H a (.dK (dC kvs k))) j->RelV q c->Q c j):X⁻¹ A (call (.builtin "dict.pop") (↑a::u::more)) Q E s:=by
 let⟨z,r,m,rel,n⟩:=uk I.aM e;let⟨c,y,f⟩:=eJ.some_of (v:=q) (o:=valueAt m k) (by rw[<-l];rwa[rel.val k])
 let B:(keyPart u).isSome=true:=by
  cases k with
  |inl i=>let⟨t,b⟩:=(show ∃t,u=Value.int i t from g);subst b;rfl
  |inr x=>let⟨t,b⟩:=(show ∃t,u=Value.str x t from g);subst b;rfl
 let D:argsOk "dict.pop" ⟨↑a::u::more,[]⟩:=by
  rcases p with b|⟨x,b⟩
  ·subst b;rwa[PySem.F.args_dict_pop_2 _ _]
  ·subst b;rwa[PySem.F.args_dict_pop_3^_]
 refine alD alV n.typeIs PySem.F.entry_dict_pop D (meets_dict_pop_there (bT X.prog X.w) a (jl g) more p B)
  ⟨m,c,n,by rw[<-⇑rel];rwa[z],y,λv d C=>h c _ ?_ f⟩
 let F:∃b,v.get? a\b:=let ⟨b,_,_,w,_⟩:=d;⟨b,w⟩
 rwa[kJ I ([e]▸True.intro) C F (sG (aju (LC kvs k) z) r (rel.drop k) d)]
def SJ (I:Inv X pins σ H s)(e:H a\.dK kvs)(b:RelV (kV k) u)(l:bB kvs k=none)(h:∀c,Inv X pins σ H c->Q v c):
 X⁻¹ A (call (.builtin "dict.pop") [↑a,u,v]) Q E s:=by
 let⟨z,g,d,rel,f⟩:=uk I.aM e;let m:valueAt d k=none:=eJ.none_of (by rw[<-l];rwa[rel.val k])
 let j:(keyPart u).isSome=true:=by
  cases k with
  |inl i=>let⟨t,q⟩:=(show ∃t,u=Value.int i t from b);subst q;rfl
  |inr x=>let⟨t,q⟩:=(show ∃t,u=Value.str x t from b);subst q;rfl
 rwa[alD alV f.typeIs PySem.F.entry_dict_pop (PySem.F.args_dict_pop_3^_) (meets_dict_pop_default (bT X.prog X.w) a (jl b) g j v) ⟨d,f,m,h _ (I.tok _)⟩]
end
def SK (i:Expr):Prop:=∀b a,subscripted i false b a=operate [b,a] (getItem b a)
def Qj {env:Env}{value slice:Expr}{T id:String}
 (j:typeLookup (.type T) "__getitem__"=pure (some (.builtin id))) (k:SK slice)
 (h:(P<|>w) A (eval value env) (λo d=>(P<|>w) A (eval slice env) (λi a=>a.TypeIs o T/\(P<|>w) A (getItem o i) Q E a) E d) E s):
 (P<|>w) A (eval (.Subscript value slice p) env) Q E s:=by
 rwa[Subscript_ (akq h (λo d e=>akq e (λi a b=>?_) λ_ _ x=>x) λ_ _ x=>x)];let⟨g,b⟩:=b;rwa[aje ?_];rwa[aje (wpAny_specialOf g j ?_)]
 let fin:(P<|>w) A (subscripted slice false o i) (λr c=>(P<|>w) A (letTemporaryGo value o r >>=λ_=>pure r) Q E c) E a:=by
  rw[k o i];rwa[wpAny_operating (akq b (λr c f=>aje (wpAny_letTemporaryGo (ajl f))) λ_ _ x=>x)]
 first
  |rwa[ajl (aje fin)]
  |rwa[aje (ajl (aje fin))]
  |rwa[aje fin]
def Ea {c:Zc}(I:Inv X o D H s)(g:cO H a q c):s.TypeIs ↑a "dict":=by
 rcases g with ⟨d,k,e,_,_⟩|⟨d,k,b,e,_,_,_⟩
 ·let⟨_,_,h,_,f⟩:=oP I.aM e;rwa[f.typeIs]
 ·let⟨_,_,i,_,f⟩:=oQ I.aM e;rwa[f.typeIs]
inductive SM (x y:V) (H:Hp) (Q:VK):Prop
 |mk (a:Zt) (v:V):x=↑a->cO H a y (some v)->Q v H->SM x y H Q
def WH (td d:TE):TE:=λ a H Q=>td a H λx c=>d a c λy b=>SM x y b Q
def abI (e td:TE):TE:=λ c H Q=>e c H λy d=>td c d λx b=>∃a o,x=↑a/\cO b a y o/\Q (.bl o.isSome) b
def Qk (e td:TE):TE:=λ c H Q=>e c H λy d=>td c d λx b=>∃a o,x=↑a/\cO b a y o/\Q (.bl (!o.isSome)) b
inductive SN (x y v:V) (H:Hp) (N:Hp->Prop):Prop
 |mk (a:Zt) (H4:Hp):x=↑a->m7 H a y v H4->N H4->SN x y v H N
def WK (td e b:TE):TS:=λD a H=>b a H λv d=>td a d λx c=>e a c λy f=>SN x y v f (D.nx a)
section
variable {X:Cx}{o i value:Expr}{pos pos':Pos}{td ty tv:TE}
def jJ (p:X.A.units+ 1<cLine)(m:PE X o td)(z:PE X i ty)(t:SK i):PE X (.Subscript o i pos) (WH td ty):=by
 intro b s f H Q I h;rwa[Qj PySem.F.slot_dict_getitem.lookup t (aZ (m b s f H _ I h) λu q ζ=>?_)];let⟨x,n,j,r,l⟩:=ζ;rwa[aZ (z b q f n _ j l) λF D ζ=>?_];let⟨y,A,d,w,a,v,ex,g,B⟩:=ζ;subst ex;obtain rfl:u=Value.ref a:=r;rwa[Ea d g,IC p d g w λC E k c=>⟨v,A,k,c,B⟩]
def BE (n:X.A.units+ 1<cLine)(v:PE X i ty)(l:PE X o td):PC X .In i o (abI ty td):=by
 intro b s c H Q I h;rwa[aZ (v b s c H _ I h) λC p ζ=>?_];let⟨y,m,d,t,j⟩:=ζ;rwa[aZ (l b p c m _ d j) λu A ζ=>?_];let⟨x,w,k,q,a,r,ex,g,z⟩:=ζ
 subst ex;obtain rfl:u=Value.ref a:=q;rwa[abH n k g t λB f=>⟨.bl r.isSome,w,f,2,z⟩]
def IG (n:X.A.units+ 1<cLine)(v:PE X i ty)(l:PE X o td):PC X .NotIn i o (Qk ty td):=by
 intro b s c H Q I h;rwa[aZ (v b s c H _ I h) λC p ζ=>?_];let⟨y,m,d,t,j⟩:=ζ;rwa[aZ (l b p c m _ d j) λu A ζ=>?_];let⟨x,w,k,q,a,r,ex,g,z⟩:=ζ
 subst ex;obtain rfl:u=Value.ref a:=q;rwa[Qi n k g t λB f=>⟨.bl (!r.isSome),w,f,2,z⟩]
def kK (z:X.A.units+ 1<cLine)(t:PE X o td)(F:PE X i ty)(J:PE X value tv)(C:swapsWith value (some (.Subscript o i pos')) pos.line X.env=pure false):
 PS X (.Assign [.Subscript o i pos'] value pos) (WK td ty tv):=by
 intro b s c H D I h;rwa[wpAny_Assign_Subscript (aZ (J b s c H _ I h) λr A ζ=>?_) C];let⟨v,w,f,q,m⟩:=ζ;rwa[aZ (t b A c w _ f m) λu l ζ=>?_];let⟨x,G,p,B,L⟩:=ζ;rwa[aZ (F b l c G _ p L) λP O ζ=>?_];let⟨y,N,j,E,a,k,ex,g,n⟩:=ζ;subst ex;obtain rfl:u=Value.ref a:=B;rwa[IE z j g E q λM d=>⟨c,k,d,n⟩]
end
def BF (h:Heap)(a:sysModules<h.objs.size):bY P w H (h.push ("dict">>>.dict #[])) h.objs.size (.dK []):=
 ⟨ajU _,ajH.mpr (akB (ajL a)),[],.nil,Heap.DictOf.new h⟩
def LD (h:Heap)(a:sysModules<h.objs.size):bY P w H (h.push ("dict">>>.dict #[])) h.objs.size (.dT []):=
 ⟨ajU _,ajH.mpr (akB (ajL a)),[],.nil,_,#[],(0),ajx _ rfl,⟨222⟩,22,akX⟩
def SQ:TE:=λ_ H Q=>∀p,H p=none->Q ↑p (upd H p (.dK []))
def SR:TE:=λ_ H Q=>∀p,H p=none->Q ↑p (upd H p (.dT []))
section
variable {X:Cx}{pos:Pos}
def c9:PE X (.Dict [] [] pos) SQ:=λb s d H Q I h=>
 wpAny_Dict_empty ⟨↑↥s,_,I.laid (a:=↥s) (o:=.dK []) (t':=s.toks) (λ_ _ q=>ajf _ q) (ajp _) (BF s.heap I.big),2,h _ (I.aM.fresh (ajp _))⟩
def LJ:PE X (.Dict [] [] pos) SR:=λb s d H Q I h=>
 wpAny_Dict_empty ⟨↑↥s,_,I.laid (a:=↥s) (o:=.dT []) (t':=s.toks) (λ_ _ q=>ajf _ q) (ajp _) (LD s.heap I.big),2,h _ (I.aM.fresh (ajp _))⟩
end
def BG:List (TE×TE)->St->Hp->(List (V×V)->Hp->Prop)->Prop
 |[],_,H,Q=>Q [] H
 |(e,b)::r,a,H,Q=>e a H λx f=>b a f λy c=>BG r a c λd g=>Q ((x,y)::d) g
abbrev VV:List (V×V)->List (Zu×Zu)->Prop:=Paired λp q=>RelV p.1 q.1/\RelV p.2 q.2
def Og (X:Cx)(c:Pos)(keys:List (Option Expr))(values:Zs)(b:List (TE×TE)):Prop:=
 ∀(a:List (Zt×Obj)) (s:Zv) (d:St) (H:Hp) (Q:List (V×V)->Hp->Prop),Inv X a d H s->BG b d H Q->
  X⁻¹ X.A (evalPairs (pairTrees keys values X.env c)) (λg h=>∃e f,Inv X a d f h/\VV e g/\Q e f) X.xe s
def E8:Og X p [] [] []:=λa s b H Q I h=>pairTrees_nil_walk ⟨[],H,I,.nil,h⟩
def BH {k:Expr}{d:List (Option Expr)}{f:TE}{b:List (TE×TE)}(j:PE X k r)(E:PE X e f)(w:Og X p d C b):
 Og X p (some k::d) (e::C) ((r,f)::b):=λa s c H Q I h=>
 pairTrees_cons_walk (aZ (j a s c H _ I h) λu z ⟨x,v,g,A,o⟩=>aZ (E a z c v _ g o) λL m ⟨y,D,t,B,F⟩=>
  aZ (w a m c D _ t F) λG J ζ=>by let⟨l,i,n,rel,q⟩:=ζ;rwa[⟨(x,y)::l,i,n,.cons ⟨A,B⟩ rel,q⟩])
def iA (a more:List (Key×V)):List (Key×V):=more.foldl (λacc b=>putK acc b.1 b.2) a
def KV.merge:∀{more:List (Key×V)} {rs:List (Key×Zu)} {a:List (Key×V)} {b:List (Key×Zu)},KV more rs->KV a b->KV (iA a more) (merged b rs):=by
 intro more rs a b r
 induction r generalizing a b with
 |nil=>intro q;rwa[q]
 | @cons p q f g h t c=>
   intro d
   let e:KV (putK a p.1 p.2) (stored b q.1 q.2):=by
    have:=d.put p.1 h.2;rw[<-h.1];rwa[this]
   rwa[c e]
theorem mh:∀(more a:List (Key×V)),⇑(iA a more)<=⇑a+ ⇑more
 |[],a=>by show ⇑a<=⇑a+ 0;ext
 |p::r,a=>by
  let b:=mh r (putK a p.1 p.2);let c:=g9 a p.1 p.2;show ⇑(iA (putK a p.1 p.2) r)<=_;rw[ajO];ext
theorem xg {P:Program}{w:World}:∀{d:List (Key×V)} {g:List (Zu×Zu)},VV (d.map λf=>(kV f.1,f.2)) g->∃e,Carries (bT P w) g e/\KV d e
 |[],_,r=>by ext r;rwa[[],True.intro,.nil]
 |p::d,_,r=>by
  cases r with
  | @cons a b as bs h t=>
    let⟨e,c,q⟩:=xg (P:=P) (w:=w) t;let⟨j,i⟩:=b;rwa[(p.1,i)::e,⟨jl h.1,2,c⟩,.cons ⟨2,h.2⟩ q]
def WL (b:List (TE×TE)):TE:=λ f H Q=>∀p,H p=none->BG b f (upd H p (.dK [])) λe c=>c p\.dK []/\∃a:List (Key×V),e=a.map (λd=>(kV d.1,d.2))/\⇑a<=15/\Q ↑p (upd c p (.dK (iA [] a)))
def E9 {keys:List (Option Expr)}{values:Zs}{d:List (TE×TE)}(h:Og X p keys values d)(g:keys.all (·.isSome)=true)(B:⇑keys=⇑values)(n:keys≠[])
 (j:⇑keys<=15):PE X (.Dict keys values p) (WL d):=by
 intro f s D H Q I q;let E:=I.aM.fresh (ajp ↥s);let r:=I.laid (a:=↥s) (o:=.dK []) (h':=s.heap.push ("dict">>>.dict #[])) (t':=s.toks) (λ_ _ q=>ajf _ q) (ajp _) (BF s.heap I.big);rwa[wpAny_Dict_walk (knd:=bT X.prog X.w) g B n j (aZ (h f _ D _ _ r (q _ E)) λS R ζ=>?_)];let⟨O,T,l,rel,e,b,G,lk,M⟩:=ζ;subst G;let⟨A,c,rk⟩:=xg (P:=X.prog) (w:=X.w) rel;let⟨z,m,J,v,F⟩:=uk l.aM e;ext v;rwa[⟨A,c,F,λk i C=>⟨↑↥s,152,M⟩⟩]
 let y:⇑(iA [] b)<=sizeLine:=by
  let x:=mh b [];rw[alv]at x;rw[sizeLine_eq];ext
 let L:∃q,k.get? ↥s\q:=let ⟨q,_,_,u,_⟩:=i;⟨q,u⟩
 rwa[kJ l ([e]▸True.intro) C L (sG y m (rk.merge .nil) i)]
structure M1 (X:Cx) (o:Expr) (m:Str) (apos:Pos) (e:Expr) (cG:Pos):Prop where
 base:attributeBase o m X.env (eval o X.env)=eval o X.env
 few:((backTo cG (starEach [e] X.env)).all (λx=>!x.1) && (backToKw cG (keywordEach [] X.env)).all (λx=>x.1.isSome)
  && decide (⇑([e]:Zs)+ ⇑([]:List Keyword)+ (if ([]:List Keyword).isEmpty then 0 else 1)<30))=true
 line:(apos.endLine==cG.line)=true
 trees:backTo cG (starEach [e] X.env)=[(false,eval e X.env)]
structure M2 (X:Cx) (o:Expr) (m:Str) (apos:Pos) (e f:Expr) (cG:Pos):Prop where
 base:attributeBase o m X.env (eval o X.env)=eval o X.env
 few:((backTo cG (starEach [e,f] X.env)).all (λx=>!x.1) && (backToKw cG (keywordEach [] X.env)).all (λx=>x.1.isSome)
  && decide (⇑([e,f]:Zs)+ ⇑([]:List Keyword)+ (if ([]:List Keyword).isEmpty then 0 else 1)<30))=true
 line:(apos.endLine==cG.line)=true
 trees:backTo cG (starEach [e,f] X.env)=[(false,eval e X.env),(false,eval f X.env)]
def Fb (H:Hp)(a:Zt):Prop:=(∃b,Rd H a (.dK b))\/∃b,Rd H a (.dT b)
def m8 (I:Inv X o D H s)(d:Fb H a):
 s.TypeIs ↑a "dict"/\(∀b,Value.ref a=↑b->∃c,s•b\c/\c.dict=none)/\(a==sysModules)=false:=by
 rcases d with ⟨h,e⟩|⟨h,e⟩
 ·let⟨_,g,k,_,f⟩:=oP I.aM e;rwa[⟨f.typeIs,λb q=>?_,g⟩];ext q;let⟨c,_,_,j,i,_⟩:=f;rwa[c,j,i.2.1]
 ·let⟨_,g,l,_,f⟩:=oQ I.aM e;rwa[⟨f.typeIs,λb q=>?_,g⟩];ext q;let⟨c,_,_,j,i,_⟩:=f;rwa[c,j,i.2.1]
section
variable {X:Cx}{pins:List (Zt×Obj)}{σ:St}{H:Hp}{s:Zv}{a:Zt}{y d:V}{u r:Zu}{o:Zc}{A:Around}{E:Zu->Zv->Prop}
def SV (v:A.units+ 1<cLine)(I:Inv X pins σ H s)(g:cO H a y o)(p:RelV y u)(h:∀n m,Inv X pins σ H m->RelV (o.getD .non) n->Q n m):
 X⁻¹ A (call (.builtin "dict.get") [↑a,u]) Q E s:=by
 rcases g with ⟨i,k,e,j,l⟩|⟨i,k,b,e,j,q,l⟩
 ·subst j;let⟨z,f,w,rel,c⟩:=oP I.aM e;rwa[alD ak2 c.typeIs alN (PySem.F.args_dict_get_2 _ _) (meets_dict_get (bT X.prog X.w) a (jl p) f) ⟨_,c.mapOf,h _ _ (I.tok _) ?_⟩];rw[l];rwa[(rel.val k).getD rfl]
 ·subst j;cases (show u=Value.ref b from p);let⟨z,f,t,rel,c⟩:=oQ I.aM e;rwa[alD ak2 c.typeIs alN (PySem.F.args_dict_get_2 _ _) (meetsH_dict_get (tupleKind (bT X.prog X.w)) a b f) ⟨ak5 v,k,t,lJ I.aM q,c,h _ _ (I.tok _) ?_⟩];rw[l];rwa[(rel.val k).getD rfl]
def SW (v:A.units+ 1<cLine)(I:Inv X pins σ H s)(g:cO H a y o)(p:RelV y u)(rd:RelV d r)(h:∀n m,Inv X pins σ H m->RelV (o.getD d) n->Q n m):
 X⁻¹ A (call (.builtin "dict.get") [↑a,u,r]) Q E s:=by
 rcases g with ⟨i,k,e,j,l⟩|⟨i,k,b,e,j,q,l⟩
 ·subst j;let⟨z,f,w,rel,c⟩:=oP I.aM e;rwa[alD ak2 c.typeIs alN (PySem.F.args_dict_get_3^_) (meets_dict_get_default (bT X.prog X.w) a (jl p) f r) ⟨_,c.mapOf,h _ _ (I.tok _) ?_⟩];rw[l];rwa[(rel.val k).getD rd]
 ·subst j;cases (show u=Value.ref b from p);let⟨z,f,t,rel,c⟩:=oQ I.aM e;rwa[alD ak2 c.typeIs alN (PySem.F.args_dict_get_3^_) (meetsH_dict_get_default (tupleKind (bT X.prog X.w)) a b f r) ⟨ak5 v,k,t,lJ I.aM q,c,h _ _ (I.tok _) ?_⟩];rw[l];rwa[(rel.val k).getD rd]
end
inductive Fd (x:V) (H:Hp) (G:Zt->Prop):Prop
 |mk (a:Zt):x=↑a->Fb H a->G a->Fd x H G
def SX (td e:TE):TE:=λ d H Q=>td d H λx c=>Fd x c λa=>e d c λy b=>∃o,cO b a y o/\Q (o.getD .non) b
inductive SY (ty tx:TE) (σ:St) (x:V) (H1:Hp) (Q:VK):Prop
 |mk (a:Zt):x=↑a->Fb H1 a->(ty σ H1 λy H2=>tx σ H2 λz H3=>∃o,cO H3 a y o/\Q (o.getD z) H3)->SY ty tx σ x H1 Q
def S0 (td c tx:TE):TE:=λ a H Q=>td a H λx b=>SY c tx a x b Q
inductive S5 (a:Zt) (y:V) (H:Hp) (Q:VK):Prop
 |mk (kvs:List (Key×V)) (k:Key) (v:V):H a\.dK kvs->y=kV k->bB kvs k\v->Q v (upd H a (.dK (dC kvs k)))->S5 a y H Q
def S6 (td e:TE):TE:=λ c H Q=>td c H λx b=>Fd x b λa=>e c b λy d=>S5 a y d Q
inductive LK (a:Zt) (y z:V) (H:Hp) (Q:VK):Prop
 |mk (kvs:List (Key×V)) (k:Key):H a\.dK kvs->y=kV k->(∀v,bB kvs k\v->Q v (upd H a (.dK (dC kvs k))))->(bB kvs k=none->Q z H)->LK a y z H Q
def S7 (td e tx:TE):TE:=λ b H Q=>td b H λx c=>Fd x c λa=>e b c λy d=>tx b d λz f=>LK a y z f Q
section
variable {X:Cx}{o e f:Expr}{apos cG:Pos}{td ty tx:TE}
def LN (v:X.A.units+ 1<cLine)(q:PE X o td)(C:PE X e ty)(m:M1 X o "get" apos e cG):PE X (.Call (.Attribute o "get" apos) [e] [] cG) (SX td ty):=by
 intro b s j H Q I h;rwa[alw m.base m.few m.line akC ak2 PySem.F.type_dict_get (aZ (q b s j H _ I h) λu w ζ=>?_)];let⟨x,t,i,z,a,ex,d,n⟩:=ζ;subst ex;obtain rfl:u=Value.ref a:=z;let⟨r,k,_⟩:=m8 i d;erw[r,k];rw[m.trees];rwa[akj rfl (akP (aki (aZ (C b w j t _ i n) λL F ζ=>?_)))];let⟨y,B,p,A,G,g,D⟩:=ζ;rwa[akU ?_];rwa[SV v p g A λE J l c=>⟨_,B,l,c,D⟩]
def ju (D:X.A.units+ 1<cLine)(A:PE X o td)(M:PE X e ty)(w:PE X f tx)(m:M2 X o "get" apos e f cG):PE X (.Call (.Attribute o "get" apos) [e,f] [] cG) (S0 td ty tx):=by
 intro b s i H Q I h;rwa[alw m.base m.few m.line akC ak2 PySem.F.type_dict_get (aZ (A b s i H _ I h) λu E ζ=>?_)];let⟨x,C,j,F,a,ex,d,r⟩:=ζ;subst ex;obtain rfl:u=Value.ref a:=F;let⟨B,k,_⟩:=m8 j d;erw[B,k];rw[m.trees]
 rwa[akj rfl (akP (aki (aZ (M b E i C _ j r) λT q ζ=>?_)))];let⟨y,L,v,G,N⟩:=ζ;rwa[ aki (aZ (w b q i L _ v N) λU S ζ=>?_)];let⟨z,n,p,J,R,g,t⟩:=ζ;rwa[akU ?_]
 rwa[SW D p g G J λP O l c=>⟨_,n,l,c,t⟩]
def vL (t:PE X o td)(D:PE X e ty)(m:M1 X o "pop" apos e cG):PE X (.Call (.Attribute o "pop" apos) [e] [] cG) (S6 td ty):=by
 intro b s i H Q I h;rwa[alw m.base m.few m.line akC alV PySem.F.type_dict_pop (aZ (t b s i H _ I h) λu A ζ=>?_)];let⟨x,z,g,B,a,ex,d,q⟩:=ζ;subst ex;obtain rfl:u=Value.ref a:=B;let⟨w,j,_⟩:=m8 g d;erw[w,j];rw[m.trees];rwa[akj rfl (akP (aki (aZ (D b A i z _ g q) λO L ζ=>?_)))];let⟨y,M,r,C,n,k,v,F,E,l,G⟩:=ζ;rwa[akU ?_];subst E;rwa[Oe r F C l (.inl rfl) λJ N p c=>⟨v,_,p,c,G⟩]
def vM (G:PE X o td)(S:PE X e ty)(F:PE X f tx)(m:M2 X o "pop" apos e f cG):PE X (.Call (.Attribute o "pop" apos) [e,f] [] cG) (S7 td ty tx):=by
 intro b s j H Q I h;rwa[alw m.base m.few m.line akC alV PySem.F.type_dict_pop (aZ (G b s j H _ I h) λu N ζ=>?_)];let⟨x,L,n,O,a,ex,d,C⟩:=ζ;subst ex;obtain rfl:u=Value.ref a:=O;let⟨J,t,_⟩:=m8 n d;erw[J,t];rw[m.trees]
 rwa[akj rfl (akP (aki (aZ (S b N j L _ n C) λZ B ζ=>?_)))];let⟨y,R,E,q,V⟩:=ζ;rwa[ aki (aZ (F b B j R _ E V) λU Y ζ=>?_)];let⟨z,A,p,P,c,k,r,T,D,M⟩:=ζ;rwa[akU ?_]
 subst T
 cases l:bB c k with
 |some v=>exact Oe p r q l (.inr ⟨U,2⟩) λW w g i=>⟨v,_,g,i,D v l⟩
 |none=>exact SJ p r q l λw g=>⟨z,A,g,P,M l⟩
end
section
variable {X:Cx}{pins:List (Zt×Obj)}{σ:St}{H:Hp}{s:Zv}{h':Heap}
def Inv.BI {fp:Zo}{o:HO}{t':Nat}(I:Inv X pins σ H s)(k:∀b u,b∉fp->s•b\u->h'.get? b\u)(f:∀b∈fp,qy X pins H b)
 (h:↥s<=a) (new:bY X.prog X.w (upd H a o) h' a o):Inv X pins σ (upd H a o) { s with heap:=h',toks:=t' }:=by
 let g:=I.aM.fresh h;let i:∀b u,H b\u->b∉fp:=λb u e z=>by rw[(f b z).1]at e;ext e
 refine I.step (g':=s.gens) (d':=s.drawn) (ch:=fp) (λb d=>⟨(f b d).2.2.2.1,(f b d).2.1,(f b d).2.2.2.2.1,(f b d).2.2.2.2.2⟩) (λb o _ _ hc e _=>k b o hc e) (λb o _ _ hc e _=>⟨o.slots,k b o hc e⟩)
  (λb o _ e n=>[ai (ajL (ajK (ajz e) h))]▸n) (λb o hc e=>⟨o,k b o hc e⟩) (λb l e=>[ai (aw e g)]▸e)
  (λb o u e=>[ai (aw e g)]▸e) (λb x e=>⟨#[],by rw[ai (aw e g),e];simp⟩) (λm t=>?_) (λb u e=>?_) I.bare
 ·let⟨o,p,w,j,r⟩:=t;rwa[o,p,w,k _ o (λz=>(f _ z).2.1 rfl) j,r]
 ·cases d:b=a
  ·subst d;rw[aj]at e;ext e;rwa[new]
  ·rw[ai d]at e;refine(I.aM b u e).fD (λc v hc q=>k c v ?_ q) (λc q=>[ai (aw q g)]▸q) λc l q=>by rw[ai (aw q g)];rwa[q]
   rcases hc with z|z
   ·rw[z];rwa[i b u e]
   ·rwa[i c _ z]
end
namespace En
section
variable {prog:Program}{w:World}{A:Around}{E:Zu->Zv->Prop}{s:Zv}
theorem IH {it:Zt}{fp:Zo}{P:Nat->Zu->Prop}{St:Nat->Heap->Prop}{Q:Zm->Zv->Prop}(D:Draws prog w A.in1 it fp n P St)
 (he:IsEnum s.heap a it z v) (hst:St i s.heap) (ve:i<n) (BJ:a≠it) (XZ:a∉fp)
 (hQ:∀x h' I,P i x->IsEnumOut h' a it (z+ 1) x ↥s->St (i+ 1) h'->h'.get? ↥s\("tuple">>>.seq #[.int z I,x])->
  (∀b o,b≠a->b≠it->s•b\o->h'.get? b\o)->Q (some ↑↥s) { s with heap:=h',toks:=I+ 1 }):
 (prog<|>w) A (pyNext ↑a) Q E s:=by
 let hT:s.TypeIs ↑a "enumerate":=⟨_,he,2⟩;unfold pyNext;rwa[aje (wpAny_attempt (ako (name:=Str.ofString "__next__") hT F.slot_enumerate_next (akw F.slot_enumerate_next hT F.entry_enumerate_next ?_ (F.args_enumerate_next_1 _))))];let⟨U,g,d,ahG,os⟩:=s;show wpAny _ _ (field ↑a 2 >>=_) _ _ _;rwa[aje (aka he rfl (x:=↑it) rfl (aje (D.item i _ _ _ ve hst λx j I hPx N h=>?_)))];replace h:Heap.SameBut it U j:=h;let r:IsEnum j a it z v:=(h.2 a BJ).trans he;show wpAny _ _ (field ↑a 3 >>=_) _ _ ⟨j,g,d,I,os⟩;rwa[aje (aka r rfl (x:=rawInt z) rfl ?_)];show wpAny _ _ (field ↑a 4 >>=_) _ _ ⟨j,g,d,I,os⟩;rwa[aje (aka r rfl (x:=.none) rfl ?_)];show wpAny _ _ (mkInt z >>=_) _ _ ⟨j,g,d,I,os⟩;rwa[aje (wpAny_mkInt ?_)];show wpAny _ _ (setField ↑a 3 (rawInt (z+ 1)) >>=_) _ _ ⟨j,g,d,I+ 1,os⟩;rwa[aje (akt r (by simp) λH t f=>?_)];replace f:Heap.SameBut a j H:=f;replace t:IsEnum H a it (z+ 1) v:=t;show wpAny _ _ (setField ↑a 4 .none >>=_) _ _ ⟨H,g,d,I+ 1,os⟩;rwa[aje (akt t (by simp) λl u e=>?_)];replace e:Heap.SameBut a H l:=e;replace u:IsEnum l a it (z+ 1) v:=u;show wpAny _ _ (newTuple [.int z I,x] >>=_) _ _ ⟨l,g,d,I+ 1,os⟩;rwa[aje (wpAny_newTuple ?_)];let B:IsEnum (l.push ("tuple">>>.seq #[.int z I,x])) a it (z+ 1) v:=ajf _ u;generalize C:l.push ("tuple">>>.seq #[.int z I,x])=G at B;let Z:l.objs.size=U.objs.size:=by rw[e.1,f.1,h.1]
 let X:a<U.objs.size:=ajz he;let WM:G.get? U.objs.size\("tuple">>>.seq #[.int z I,x]):=by rw[<-C,<-Z];rwa[ajx _ rfl]
 let V:∀b o,b≠a->b≠it->U.get? b\o->G.get? b\o:=λb o c Y W=>by
  rw[<-C];rwa[ajf _ (e.extBut b o c (f.extBut b o c (h.extBut b o Y W)))]
 let T:St (i+ 1) G:=D.frame _ _ _ N λb W o y=>by
  let c:b≠a:=λq=>XZ (q ▸ W)
  rw[<-C];rwa[ajf _ (e.extBut b o c (f.extBut b o c y))]
 show wpAny _ _ (Builtin.SmallTypes.ownedTupleIsFree ↑a >>=_) _ _ ⟨G,g,d,I+ 1,os⟩;rw[Z];clear C u e t f r h N Z l H j;rwa[aje ?_];unfold Builtin.SmallTypes.ownedTupleIsFree;rwa[aje (aka B rfl (x:=.none) rfl (ajl ?_))];simp only[amF];rwa[aje (amv (aje (aka B rfl (x:=v) rfl (aje (akt B (by simp) λO M m=>?_)))))];replace m:Heap.SameBut a G O:=m;replace M:IsEnum O a it (z+ 1) x:=M;show wpAny _ _ (Builtin.SmallTypes.ownedTupleHandOut ↑a ↑U.objs.size >>=_) _ _ ⟨O,g,d,I+ 1,os⟩;rwa[aje ?_];unfold Builtin.SmallTypes.ownedTupleHandOut;rwa[aje (akt M (by simp) λR L p=>?_)];replace p:Heap.SameBut a O R:=p;replace L:IsEnumOut R a it (z+ 1) x U.objs.size:=L;rwa[akt L (by simp) λS J k=>?_]
 replace k:Heap.SameBut a R S:=k;replace J:IsEnumOut S a it (z+ 1) x U.objs.size:=J;rwa[aje (amx (ajl ⟨12,ajl (hQ x S I hPx J ?_ ?_ ?_)⟩))]
 ·exact D.frame _ _ _ T λb W o y=>by
   let c:b≠a:=λq=>XZ (q ▸ W)
   rwa[k.extBut b o c (p.extBut b o c (m.extBut b o c y))]
 ·rwa[k.extBut _ _ (aku X) (p.extBut _ _ (aku X) (m.extBut _ _ (aku X) WM))]
 ·rwa[λb o c Y W=>k.extBut b o c (p.extBut b o c (m.extBut b o c (V b o c Y W)))]
def Ql {T newId:String}{self a:Zu}{kw:List (Str×Zu)}(f:typeLookup (.type T) "__init__"=pure (some (.builtin "object.__init__")))(e:Bind.madeBy (.type T)=pure (some newId))(c:(some newId !=some "object.__new__")=true):
 Meets (Builtin.«object.__init__» ⟨[self,a],kw⟩) (λ_ R s=>s.TypeIs self T/\R (.ok (.ret .none)) s):=by
 rwa[Meets.of_wp λprog w A R s d=>?_]
 let⟨g,b⟩:=d
 repeat (any_goals (first|assumption|wp_step))
 rwa[12,b]
def WN (a b:Zu):checkTypeCall "enumerate" ⟨[a],[("start",b)]⟩=pure ():=by kernel_rfl
def WO (a b:Zu):checkBuiltinCall "enumerate.__new__" ⟨[.type "enumerate",a],[("start",b)]⟩=pure ():=by kernel_rfl
theorem WQ (a b c:Zu):argsOk "object.__init__" ⟨[a,b],[("start",c)]⟩:=by
 unfold argsOk;rw[signature?_of (id:="object.__init__") (n:=['_','_','t','i','n','i','_','_']) (o:=['t','c','e','j','b','o']) (by kernel_rfl) F.owner_object]
 kernel_rfl
end
end En
inductive WR (t:TT) (σ:St) (H:Hp) (Q:(Bool->Hp->Prop)):Prop
 |mk (G:Bool->Hp->Prop):t σ H G->(∀c H',G c H'->Q c H')->WR t σ H Q
def CXw (P:Program)(w:World):my:=λa H s E e c=>∃(x C:Zt) (B:Heap) (d:Hp) (f:Zu),e=↑x/\c.os=s.os/\AllBare c.gens/\Heap.FlyingW B a x ↑C f c.heap/\
 Un (cJ a) [] H d s.heap c.heap/\dz P w d B/\(∀b o,s•b\o->H b=none->b∉cJ a->B.get? b\o)/\(∀b o,s•b\o->b∉cJ a->∃g,B.get? b\g)/\E ↑C none d
section
variable {X:Cx}{pos:Pos}
abbrev TJ:=St->Hp->Zi->VK->Prop
def PJ (X:Cx)(c:Zs)(t:TJ):Prop:=
 ∀(a:List (Zt×Obj)) (s:Zv) (b:St) (H:Hp) (acc:Zi) (Q:VK),Inv X a b H s->t b H acc Q->X⁻¹ X.A (joinParts (tx acc) (evalEach c X.env)) (EP X a b Q) X.xe s
def S8:PJ X [] (λ b H acc Q=>⇑acc<=1000000/\Q (.str (tx acc)) H):=λa s b H acc Q I h=>
 joinParts_nil ⟨.str (tx acc),H,I.tok _,⟨12⟩,h.2⟩ ([Iz]▸aju h.1 ⋯)
def Fe {t:TJ}(n:PE X e r)(i:PJ X C t)(k:evalEach (e::C) X.env=eval e X.env::evalEach C X.env:=by rfl):
 PJ X (e::C) (λ c H acc Q=>r c H λv d=>∃l,v=.str (tx l)/\⇑acc+ ⇑l<=1000000/\t c d (acc++l) Q):=by
 intro b s c H acc Q I h;rw[k];rwa[joinParts_cons (aZ (n b s c H _ I h) λv j ζ=>?_)];let⟨x,d,f,a,l,m,g,q⟩:=ζ;subst m;let⟨o,rfl⟩:=a;erw[5]
 ·rw[IA,Iz,ajh];rwa[aju g ⋯]
 ·rw[IA];rwa[i b j c d (acc++l) Q f q]
def II {b:Expr}{t:TJ}(h:PJ X (e::b::C) t)(d:evalEach (e::b::C) X.env=eval e X.env::eval b X.env::evalEach C X.env):PE X (.JoinedStr (e::b::C) pos) (λ c H Q=>t c H [] Q):=by
 intro a s c H Q I q;rwa[JoinedStr_many ?_];have:=h a s c H [] Q I q;rw[d]at this;rwa[this]
def Qm (j:PE X e r):PE X (.FormattedValue e (-1) none pos) (λ d H Q=>r d H λv c=>∃n:Int,v=.int n/\n.natAbs<10000000000/\Q (.str (tx (By n))) c):=by
 intro b s d H Q I h;rwa[FormattedValue_plain (aZ (j b s d H _ I h) λv l ζ=>?_)];let⟨x,c,f,a,n,i,g,q⟩:=ζ;subst i;let⟨k,rfl⟩:=a;rwa[formatField_int_small (IB g) ?_];rwa[.str (tx (By n)),c,f.tok _,⟨_,by rw[WD (toString n:Str)];rfl⟩,q]
abbrev BK:Zl:=[.type "ValueError",.type "Exception",.type "BaseException",.type "object"]
end
def bY.get {o:HO}(x:bY P w H h a o):∃u,h.get? a\u:=by
 cases o with
 |lst c=>let⟨_,_,_,_,e⟩:=x;rwa[_,e]
 |tup c=>let⟨_,_,_,ob,e,_⟩:=x;rwa[_,e]
 |dK b=>let⟨_,_,_,_,o,_,_,e,_⟩:=x;rwa[_,e]
 |dT b=>let⟨_,_,_,_,o,_,_,e,_⟩:=x;rwa[_,e]
 |set S n=>let⟨o,_,_,_,e,_⟩:=x;rwa[_,e]
 |ins C dx fs=>let⟨_,_,_,e,_⟩:=x;rwa[_,e]
 |own y=>exact x
 |xd fs=>let⟨_,⟨_,_,_,e,_⟩,_⟩:=x;rwa[_,e]
 |HJ lo i=>let⟨_,_,_,e⟩:=x;rwa[_,e]
 |cq ob u=>let⟨e,_⟩:=x;rwa[_,e]
 |fH d=>rwa[_,show h.get? a=some _ from x]
 |met f y=>rwa[_,show h.get? a=some _ from x]
 |ext g=>let⟨_,e,_⟩:=x;rwa[e]
def Gw (x C:Zt)(h:Heap):Prop:=∃a b,h.get? x\a/\a.cls=↑C/\a.data=.fields b
noncomputable def ExO (x C:Zt):HO:=.ext (Gw x C)
def Thr (X:Cx)(a:List (Zt×Obj))(g:St)(d:Hp)(x C:Zt)(s:Zv):Prop:=
 ∃(B:Heap) (c:Hp) (s1:Zv) (e:Zu),Inv X a g c s1/\s.os=s1.os/\AllBare s.gens/\Heap.FlyingW B X.stack x ↑C e s.heap/\Un (cJ X.stack) [] c d s1.heap s.heap/\dz X.prog X.w d B/\
  (∀b o,s1•b\o->c b=none->b∉cJ X.stack->B.get? b\o)/\(∀b o,s1•b\o->b∉cJ X.stack->∃f,B.get? b\f)
section
variable {X:Cx}{pins:List (Zt×Obj)}{σ:St}{x:Zt}{s:Zv}
def Inv.Oh {s1:Zv}(I:Inv X pins σ H s1){b:Zt}(c:b∈cJ X.stack):∃o,s1•b\o/\∀a,o.data≠.fields a:=by
 let⟨_,o,e,n⟩:=I.stack.mem c;rwa[o,e,n]
abbrev Cx.zC (X:Cx) (x:Zt):Cx:={ X with A:=X.A.mark (some ↑x),calm:=false,xe:=λ_ _=>False }
def Inv.zC (I:Inv X pins σ H s)(x:Zt):Inv (X.zC x) pins σ H s:=
 ⟨⟨I.ok.mod,I.ok.kind,I.ok.glob,I.ok.blt,I.ok.above,I.ok.inj,I.ok.has,I.ok.Bg,(λz=>by ext z),I.ok.frames,I.ok.EF,I.ok.NF,I.ok.bs,I.ok.su,I.ok.vB,I.ok.yy,I.ok.jq,I.ok.uY⟩,I.os,I.bare,I.base,I.loc,I.cell,I.free,I.gP,I.pin,I.aM,I.len⟩
def Inv.A6 (ok:X.Ok)(I:Inv (X.zC x) pins σ H s):Inv X pins σ H s:=⟨ok,I.os,I.bare,I.base,I.loc,I.cell,I.free,I.gP,I.pin,I.aM,I.len⟩
def um {M:Model}(I:Inv X pins σ H s)(Z:X.N.Nodup)(L:X.N[i]?\f)(n:X.env.scope.names.lookup f=some .local)
 (h:∀G,Inv X pins (σ.set i none) H G->U () G):wpAny M A (do bindName X.env f .none;unbindBehindTheSuite X.env f p) U E s:=by
 let⟨m,V,T⟩:=id I.loc;let u:(X.env.scope.kind==.class || (X.env.scope.kind==.module && X.env.locals !=X.env.globals))=false:=by rw[I.ok.kind];rfl
 let t:i < ⇑σ:=by rw[I.len];rwa[(aji.mp L).1]
 rwa[wpAny_nameGoes_keeps n V u λh' v D l=>?_]
 let g:∀b o,X.ej.heap.get? b\o->b≠X.env.locals:=λb o e=>ajL (ajK (ajz e) I.ok.above)
 rwa[h _ ⟨I.ok,I.os,I.bare,⟨λb o e k B n=>(l.2 b (g b o e)).trans (I.base.keep b o e k B n),λb o e k B n=>?_,I.base.free,λb o e n=>?_,I.base.ip,I.base.gO,I.base.iq⟩,⟨_,D,λj y O r w Y=>?_⟩,λy c e=>?_,I.free,I.gP,λa S=>?_,λb Q e=>?_,by simpa using I.len⟩]
 ·let⟨P,r⟩:=I.base.slot b o e k B n;rwa[P,(l.2 b (g b o e)).trans r]
 ·let⟨W,r⟩:=I.base.there b o e n;rwa[W,(l.2 b (g b o e)).trans r]
 ·cases F:j=i
  ·subst F;rw[ajV t]at w;ext w
  ·rw[ake (akB F)]at w;let⟨R,N,q⟩:=T j y O r w Y;erw[R,N];rcases q with ⟨k,e⟩|⟨k,c,e,z⟩
   ·rwa[.inl ⟨k,?_⟩];have:y≠f:=λe=>F (vC Z r (e ▸ L))
    simp[this,e]
   ·rwa[.inr ⟨k,c,e,z.sameBut l (I.mx y c e)⟩]
 ·let⟨J,z⟩:=I.cell y c e;rwa[J,z.sameBut l (I.mx y c e)]
 ·let⟨e,k,ne,nf,d⟩:=I.pin a S;rwa[(l.2 a.1 ne).trans e,k,ne,nf,d]
 ·rwa[(I.aM b Q e).fD (λc J hc q=>(l.2 c ?_).trans q) (λ_ q=>q) λ_ _ q=>q]
  rintro rfl;rcases hc with rfl|hc
  ·rw[I.free]at e;ext e
  ·rw[I.free]at hc;ext hc
end
abbrev XR:=Zt->St->Hp->Prop
def XP (X:Cx)(a:List (Zt×Obj))(R:XR)(e:Zu)(s:Zv):Prop:=∃x C b H,e=↑x/\Thr X a b H x C s/\R C b H
abbrev TH:=Ends->Zt->St->Hp->Prop
def Gw.WT {M:Model}{x:Zt}(p:Gw x a h):PySem.W.Looks M h (typeOf ↑x) ↑a:=by
 let⟨o,_,c,b,_⟩:=p;rwa[b ▸ (PySem.W.Looks.ld c).andThen .now]
end L2
namespace L2
open PySem PySem.Spec PyProof.Rows PySem.Calls PySem.W Builtin Builtin.ObjectAttr Builtin.Getset_descriptor
structure abJ (K:Za1) (C:Zt):Prop where
 ga:findIn K ↑C "__getattribute__"=some (some (.builtin "BaseException.__getattribute__"))
 gt:findIn K ↑C "__getattr__"=some none
 cl:isClsIn K C=true
 at_:findIn K ↑C "__class__"=some (some (.builtin "object.__class__"))
 gs:specialIn K (.builtin "object.__class__") "__get__"=some (some (.builtin "getset_descriptor.__get__"))
 tk:takesIn K (.builtin "object.__class__")\true
 mo:mroIn K C (.type "object")\true
 be:subIn K ↑C (.type "BaseException")\true
section
variable {A:Around}{E:Zu->Zv->Prop}{x C:Zt}
theorem IJ {M:Model}{g:Array GenState}{d:Drawn}{os:OsState}(e:Looks M h (typeOf ↑x) ↑C)(b:Looks M h (isSubtype ↑C (.type "BaseException")) true)(f:U () ⟨h,g,d,n,os⟩):
 wpAny M A (checkBuiltinCall "BaseException.__getattribute__" ⟨[↑x,v],[]⟩) U E ⟨h,g,d,n,os⟩:=by
 let a:builtinKind "BaseException.__getattribute__"=some .slot:=⋯
 let hsplit:splitId "BaseException.__getattribute__"=some ("BaseException","__getattribute__"):=⋯
 let i:=F.args_bexc_ga ↑x v;let c:Looks M h (isInstance ↑x (.type "BaseException")) true:=e.andThen b;simp only[checkBuiltinCall,a,hsplit];rwa[aje (c.at ?_)]
 repeat (any_goals (first|assumption|wp_step))
end
def vOf:V->Zm
 |.ref a=>some ↑a
 |.ty n=>some (.type n)
 |_=>none
end L2
namespace L2
open PySem PySem.Spec PyProof.Rows
section
variable {P:Program}{w:World}{K:Za1}{mg:Str->Zm}{base:Heap}
theorem sE.okN {h:my}{qual:Str}{st:Stmt}{fd:FuncData}{e:Zq}{k:Nat}{sp:Sp}(F:sE K x qual st a fd)(S:aL Z e (az st))(len:∀c H Q E,sp c H Q E->⇑c=⇑e)
 (d:∀(b:Zu) (A:Around) (outer:Zr) (s:Zv) (H:Hp) (c:Zb) (Q:VK) (E:XK),cD k (A.deeper (envOfC qual (az st) ↥s a b))->sp c H Q E->
  ∃t,iY (cE h P w K mg base Z qual (az st) a b A outer s H E).uZ (cI st) t/\t { nx:=λ_ m=>Q .non m,rt:=Q } (start Z c) H):dv P w K mg base h (k+ 1) a fd e sp:=by
 let⟨o,q,kV,doc,pm,p,b,ct,n,rfl,lk,g⟩:=F.ex;rwa[A5 lk g S len λA outer s H c Q E l f=>?_]
 let⟨t,j,i⟩:=d b A outer s H c Q E l f;rwa[t,j.uZ,i]
end
def LQ (k:TT)(g:TE)(e:St)(Q:VK)(J:It)(h:Hp):Prop:=∃W:Nat->Nat->Zb->Hp->Prop,(∃m,W 0 m [] h)/\∀i m ys a,W i m ys a->
 (J.stop i a/\⇑ys<=sizeLine/\∀D,a D=none->Q ↑D (upd a D (.lst ys)))\/
 (J.go i a/\⇑ys<sizeLine/\∀x f,J.u0 i a x f->k (some x::e) f λb d=>match b with
  |true=>g (some x::e) d λy j=>∃c,c<m/\W (i+ 1) c (ys++[y]) j
  |false=>∃c,c<m/\W (i+ 1) c ys d)
def pZ (b:TI)(e:St->St)(d:TT)(c:TE):TE:=λ a H Q=>b a H (LQ d c (e a) Q)
end L2
namespace L2
open PySem PySem.Spec PyProof.Rows
inductive Qn (x:V) (vs:Zb) (H:Hp) (Q:VK):Prop
 |mk (l:Zt) (xs:Zb) (i:Nat) (y:V):x=↑l->vs=[.int i,y]->H l\.lst xs->⇑xs<sizeLine->i<=⇑xs->i<=100000->Q .non (upd H l (.lst (xs.take i++[y]++xs.drop i)))->Qn x vs H Q
end L2
namespace L2
open PySem PySem.Spec PyProof.Rows
def m9 (h:n∈B):∃i:Nat,B[i]?\n/\∀j,j<i->B[j]?≠some n:=by
 induction B with
 |nil=>ext h
 |cons a B b=>
  cases e:a=n
  ·rwa[(0),by rw[e];rfl,λj c=>∅]
  ·let⟨i,f,d⟩:=b ((ajE.mp h).resolve_left (akB e));rwa[⟨i+ 1,f,λj c=>?_⟩]
   cases j with
   |zero=>exact λz=>e (Za0 z)
   |succ j=>exact d j ∅
inductive WU (x:V) (y:V) (H:Hp) (Q:VK):Prop
 |mk (a b:Zt) (ns ms:Zh):x=↑a->y=↑b->H a\.lst (au ns)->H b\.lst (au ms)->Q (.bl (decide (ns=ms))) H->WU x y H Q
noncomputable def HJ (lo:Int)(n:Nat):Zh:=(~~~n).map λi:Nat=>lo+ (i:Int)
def gx (H:Hp)(rs:Zo)(rows:Za3):Prop:=⇑rs=⇑rows/\∀(i:Nat) (r:Zt) (a:Zh),rs[i]?\r->rows[i]?\a->H r\(.lst (au a))
def TabAt (H:Hp)(a:Zt)(rows:Za3):Prop:=∃rs:Zo,H a\.lst (rs.map V.ref)/\gx H rs rows
def gx.same {rs:Zo}{rows:Za3}(h:gx H rs rows)(s:ao H I):gx I rs rows:=⟨h.1,λi r ns b a=>s^h.2 i r ns b a⟩
def TabAt.same {rows:Za3}(h:TabAt H a rows)(s:ao H I):TabAt I a rows:=by
 let⟨rs,c,b⟩:=h;rwa[rs,s^c,b.same s]
def IK {rs:Zo}:∀{a:Zl},Vals (rs.map V.ref) a->a=rs.map Value.ref:=by
 induction rs with
 |nil=>intro a r;ext r;rfl
 |cons c rs b=>
  intro a r
  cases r with
  |cons e d=>ext e;rw[b d];rfl
section
variable {X:Cx}
inductive WV (x:V) (y:V) (H:Hp) (Q:VK):Prop
 |mk (a b:Zt) (ns ms:Za3):x=↑a->y=↑b->TabAt H a ns->TabAt H b ms->Q (.bl (decide (ns=ms))) H->WV x y H Q
inductive WW (x:V) (y:V) (H:Hp) (Q:VK):Prop
 |mk (a b:Zt) (ns ms:Za3):x=↑a->y=↑b->TabAt H a ns->TabAt H b ms->Q (.bl (!decide (ns=ms))) H->WW x y H Q
inductive WX (x:V) (y:V) (H:Hp) (Q:VK):Prop
 |mk (a b:Zt) (ns ms:Zh):x=↑a->y=↑b->H a\.lst (au ns)->H b\.lst (au ms)->Q (.bl (!decide (ns=ms))) H->WX x y H Q
inductive WY (xs:Zb) (H:Hp) (Q:VK):Prop
 |mk (b:Bool):xs=[.bl b]->Q (.int (if b=true then 1 else 0)) H->WY xs H Q
def BL (h:X.K=K):Ik X (Ln K):=by subst h;rwa[bO]
def Qo (h:X.K=K):Ik X (Lp K):=by subst h;rwa[bR]
def Aq (h:X.K=K):iM X (.builtin "len") (Gu K):=by subst h;rwa[bM]
end
def dq (H:Hp)(a:Zo)(ws:Za3):Prop:=⇑a=⇑ws/\∀(i:Nat) (p:Zt) (w:Zh),a[i]?\p->ws[i]?\w->H p\(.tup (au w))
def bp (H:Hp)(a:Zt)(c:Za3):Prop:=∃b:Zo,H a\.lst (b.map V.ref)/\dq H b c
def dq.keep {ws:Za3}(h:dq H F ws)(s:∀p a,H p\.tup a->I p\.tup a):dq I F ws:=⟨h.1,λi p w c b=>s^h.2 i p w c b⟩
def dq.same {ws:Za3}(h:dq H F ws)(s:ao H I):dq I F ws:=h.keep λp a e=>s^e
def bp.same {ws:Za3}(h:bp H a ws)(s:ao H I):bp I a ws:=by
 let⟨b,d,c⟩:=h;rwa[b,s^d,c.same s]
def dq.snoc {ps:Zo}{ws:Za3}(h:dq H ps ws)(e:H a\.tup (au l)):dq H (ps++[a]) (ws++[l]):=by
 rwa[⟨by rw[ajh,ajh,h.1];rfl,λi q u c b=>?_⟩];cases d:i<⇑ps
 ·rw[ajs d]at c;rw[ajs (by rw[<-h.1];rwa[d])]at b;rwa[h.2 i q u c b]
 ·rw[ajv ∅]at c;rw[ajv (by rw[<-h.1];omega)]at b;rw[ajn.mp (ajj c),ajn.mp (ajj b)];rwa[e]
inductive WZ (x:V) (y:V) (H:Hp) (Q:VK):Prop
 |mk (a b:Zt) (ns ms:Za3):x=↑a->y=↑b->bp H a ns->bp H b ms->Q (.bl (decide (ns=ms))) H->WZ x y H Q
inductive W6 (x:V) (y:V) (H:Hp) (Q:VK):Prop
 |mk (k:Int) (a:Zt) (ns:Zh):x=.int k->y=↑a->H a\.lst (au ns)->Q (.bl (decide (k∈ns))) H->W6 x y H Q
inductive LR (x:V) (y:V) (H:Hp) (Q:VK):Prop
 |mk (k:Int) (a:Zt) (ns:Zh):x=.int k->y=↑a->H a\.lst (au ns)->Q (.bl (!decide (k∈ns))) H->LR x y H Q
noncomputable def isInt (k:Int):Zu->Bool
 |.int z _=>z==k
 |_=>false
inductive Qp (x:V) (vs:Zb) (H:Hp) (Q:VK):Prop
 |mk (a:Zt) (ns:Zh) (k:Int):x=↑a->vs=[.int k]->H a\.lst (au ns)->k∈ns->(∀i:Nat,ns[i]?\k->(∀j,j<i->ns[j]?≠some k)->Q (.int i) H)->Qp x vs H Q
def Ff (Q:Hp->Zb->Prop)(f:Nat->Int):It:=
 ⟨(EJ Q).go,λi H x a=>∃p v,H p=none/\(∀ys,Q H ys->ys[i]?\v)/\x=↑p/\a=upd H p (.tup [.int (f i),v]),(EJ Q).stop⟩
abbrev abK (K:Za1) (a:Zt):It:=Ff (λH=>aI K H a) Nat.cast
theorem Qq {elts:Zs}{x1:Nat}{tp:Pos}{Q:Hp->Zb->Prop}{f:Nat->Int}{it:Zt}{tn:Nat->Heap->Prop}(S:HV K Q b it tn)(hei:a≠it)(Z:∀i,f (i+ 1)=f i+ 1):
 Turn P w K (.Tuple elts x1 tp) (Ff Q f) [a,it] a (λi h=>(∃d,IsEnum h a it (f i) d)/\tn i h) where
 mem:=by simp
 obj:=λi h st c g=>by
  let⟨⟨d,j⟩,st⟩:=st;let⟨o,n,vs,_,_,_,_⟩:=S.ob i h st
  cbv
 keep:=λi h L st k=>by
  let⟨⟨d,j⟩,hl⟩:=st;rwa[⟨d,k a (by simp) _ j⟩,S.kp _ _ _ hl λo a=>k it (by simp) o a]
 item:=by
  intro X hP W O hc i r s σ H E I t st G;subst hP W;let⟨⟨d,j⟩,l⟩:=st;let⟨xs,x,M,v⟩:=G;let⟨inj,m,oa,St,T,ha,C,D,_,R,h2⟩:=S.dr O hc I M l;let⟨u,hu,ru⟩:=T.get v;let hea:a≠b:=wM j ha (akB C);let N:a<↥s:=ajz j;let X1:i<⇑m:=(aji.mp hu).1;rwa[En.IH D j R (by simp;omega) hei (by cbv) λy L tk Y ho B p hk=>?_]
  obtain rfl:u=y:=by
   simp at Y
   cbv
  rwa[⟨12,wpAny_letOwnedTupleGo_enum ho λJ U e=>?_⟩]
  rwa[⟨↑↥s,_,I.BI (fp:=[a,it]) (a:=↥s) (o:=.tup [.int (f i),x]) (h':=J) (t':=tk+ 1) (λc ob g q=>?_) t (ajp _) ⟨Za4 2,[.int (f i) tk,u],.cons ⟨12⟩ (.cons ru .nil),_,(e.2 _ (aku N)).trans p,212⟩,2,⟨_,x,I.aM.fresh (ajp _),λys hy=>[inj ys hy]▸v,22⟩,⟨⟨u,[Z]▸U⟩,h2^(D.frame _ _ _ B λc g o q=>(e.2 c (by cbv)).trans q)⟩,λc g=>?_⟩]
  ·simp at g;rwa[(e.2 c g.1).trans (hk c ob g.1 g.2 q)]
  ·let⟨o2,_,_,h3,_⟩:=S.ob^l;have:=ajz h3;rw[ai (by cbv)];rwa[(t c g).1]
 done:=by
  intro X hP W O hc i r s σ H E I t st G;subst hP W;let⟨⟨d,j⟩,l⟩:=st;let⟨xs,M,v⟩:=G;let⟨_,m,_,_,T,_,_,D,_,R,_⟩:=S.dr O hc I M l;rwa[wpAny_pyNext_enum_endD D j (by rw[ajI,<-⇑T,v];rwa[R]) λL eb=>⟨2,I.mS (fp:=[a,it]) (t':=s.toks) (λc o g q=>eb c o (λz=>g (by simp[z])) q) t⟩]
 self:=λA i s Q E st h=>by
  let⟨⟨d,j⟩,_⟩:=st;let p:s.TypeIs ↑a "enumerate":=⟨_,j,2⟩;rwa[wpAny_pyIter_slot p F.slot_enumerate_iter (akw F.slot_enumerate_iter p F.entry_enumerate_iter (ajl ⟨12,"enumerate",_,p,F.slot_enumerate_next.lookup,h⟩) (F.args_enumerate_iter_1 _))]
section
variable {X:Cx}
def yK {R:It->Hp->Prop}{elts:Zs}{Q:Hp->Zb->Prop}{f:Nat->Int}{e:Nat->Heap->Prop}(I:Inv X o D H s)(S:HV X.K Q a ↥s e)(k:∀i,f (i+ 1)=f i+ 1)
 (g:IsEnum h (↥s+ 1) ↥s (f 0) v) (d:e 0 h) (j:∀b c,s•b\c->h.get? b\c) (q:R (Ff Q f) H):X⁻¹ X.A (pyIter ↑(↥s+ 1)) (NR X o D (.Tuple elts n p) R) X.xe (s<*h):=by
 let T:=Qq (P:=X.prog) (w:=X.w) (elts:=elts) (x1:=n) (tp:=p) S (Nat.succ_ne_self _) k;rwa[T.self _ 0 _ _ _ ⟨⟨_,g⟩,d⟩ ⟨1111,H,2,I.kept (t':=s.toks) j,T,⟨⟨_,g⟩,d⟩,λb m=>?_,q⟩];have:↥s<=b:=by cbv
 rwa[I.Gb this (I.aM.fresh this)]
def S9 (K:Za1)(e:TA):TI:=λ f H R=>e f H λc b=>∃a,c=[↑a]/\(∃d,aI K b a d)/\R (abK K a) b
def BM {elts:Zs}{b d:Pos}(k:Gl X "enumerate")(x:X.mg "enumerate"=none)(y:PE X e r)(i:starEach [e] X.env=[(false,eval e X.env)]:=by rfl):
 PI X (.Tuple elts n p) (.Call (.Name "enumerate" b) [e] [] d) (S9 X.K (jj r jZ)):=by
 intro a s w H R I h;rwa[Call_ (iu I k x boot_enumerate (akk (aZ ((ae y ak i) d a s w H _ I h) λJ G ζ=>?_) i rfl))];let⟨B,E,g,j,l,c,⟨F,o⟩,q⟩:=ζ;subst c;let⟨u,rfl,z⟩:=vals1 j;ext z;let⟨t,C,pl,D⟩:=g.list o;rwa[call_enumerate_list pl.isList λA f hit v m=>yK g (vE l _) (λ_=>rfl) f hit m q]
end
def xi {g:TG}{e:TS}{Q:Hp->Zb->Prop}{f:Nat->Int}{xs:Zb}(a:Nat->St->Hp->Prop)(j:a 0 D H)(b:∀i D H,i<=⇑xs->a i D H->Q H xs)
 (l:∀i v D H p,xs[i]?\v->H p=none->a i D H->g ↑p D (upd H p (.tup [.int (f i),v])) λ d m=>e { G with nx:=a (i+ 1),ct:=a (i+ 1),bk:=G.nx } d m) (h:∀ D H,a ⇑xs D H->G.nx D H):sx (Ff Q f) g e G D H:=
 uc j (λi D H c p=>⟨⟨xs,xs[i],b i D H (akZ c) p,ajg c⟩,λx o y=>by
  let⟨r,v,k,n,rfl,rfl⟩:=y;rwa[l i v D H r (n xs (b i D _ (akZ c) p)) k p]⟩) λ D H p=>⟨⟨xs,b _ D H (ajp _) p,2⟩,h D H p⟩
section
variable {X:Cx}
def LV {bs:List Bool}(r:Vals (bs.map V.bl) N):TruthOf P w A (λi v=>N.toArray[i]?\v) (λi=>bs.getD i false):=by
 intro i v s Q E g d;let a:N[i]?\v:=by simpa using g
 let j:i<⇑N:=(aji.mp a).1;let f:=⇑r;rw[ajk]at f;let b:bs[i]?=some bs[i]:=ajg ∅
 let⟨u,c,h⟩:=r.get (i:=i) (x:=V.bl bs[i]) (by rw[ajq,b];rfl);rw[a]at c;ext c;ext h;let e:bs.getD i false=bs[i]:=by rw[ajm,b];rfl
 rwa[akT (by rw[<-e];rwa[d])]
def LW (bs:List Bool):(List.range ⇑bs).all (λi=>bs.getD i false)=bs.all id:=by
 conv=>rhs;rw[<-range_getD bs false]
 rw[List.all_map];rfl
def abL (K:Za1):Zb->Hp->VK->Prop:=λa H Q=>∃(p:Zt) (bs:List Bool),a=[↑p]/\aI K H p (bs.map V.bl)/\Q (.bl (bs.all id)) H
def LX (x:X.calm=true):iM X (.builtin "all") (abL X.K):=by
 intro a s w H D E Q I r h;let⟨p,bs,rfl,t,q⟩:=h;let⟨u,rfl,v⟩:=vals1 r;ext v;let⟨f,g,pl,C⟩:=I.list t;let hlen:=⇑g;rw[ajk]at hlen;let⟨F,d,k,y⟩:=id pl.isList;rwa[call_all_walk ?_];rwa[ala pl.isList ?_];let c:p≠↥s:=ajL (ajz d);rwa[⟨↥s,11111,λi=>bs.getD i false,2,Walks.list (A:=X.A.in1) (I.ok.hd x) ↥s p c f.toArray,⟨⟨_,ajx _ rfl,22⟩,pl.isList.push _⟩,LV g,λn j m=>?_⟩]
 let l:Inv X a w H { s with heap:=n,toks:=j }:=I.kept (t':=j) λb o e=>m b o (λz=>by
  have:=ajn.mp z;subst this;rwa[absurd (ajz e) (akA _)]) (ajf _ e)
 rwa[⟨.bl (bs.all id),H,l,5,q⟩];show Value.bool _=Value.bool _;rw[ajI,<-hlen,LW]
end
namespace En
open AutoSeq1 (wpAny_loadPart')
def Gz (l:Zt)(items:Zn)(n:Nat)(dct:Zp)(m:Array Zm)(k:Int)(u:Tok)(q:0<=k)(j:k<1000):
 Meets (Builtin.«enumerate.__new__» ⟨[.type "enumerate",↑l],[("start",.int k u)]⟩) (λ_ R s=>s•l\{ cls:=.type "list",dict:=dct,data:=.seq items n,slots:=m }/\
  R (.ok (.ret (↑(s.heap.push ("list_iterator">>>.fields #[↑l,.int 0 0])).objs.size)))
    { s with heap:=(s.heap.push ("list_iterator">>>.fields #[↑l,.int 0 0])).push ("enumerate">>>.fields #[.none,.bool false,↑↥s,rawInt k,.none,.none]) }):=
 .of_wp λf w A R s h=>by
  let⟨p,g,d,o,os⟩:=s;let⟨a,h⟩:=h;let i:=sub_enumerate;let r:=AutoSeq1.idx_int;let b:Heap.IsList (Shared.heap ⟨p,g,d,o,os⟩) l items:=⟨_,a,2,n,2⟩
  let e:(!Builtin.SmallTypes.fitsIndex k)=false:=by
   unfold Builtin.SmallTypes.fitsIndex;simp;ext
  wp_walk using alx a
  rwa[wpAny_stack_any λst=>ajl ?_]
  split
  ·rename_i c _ _ _ _ _;cases (c==Value.type "enumerate")
   ·wp_walk using alx a,ala b
    rwa[12,h]
   ·wp_walk using alx a,ala b
    rwa[12,h]
  ·wp_walk using alx a,ala b
   rwa[12,h]
section
variable {prog:Program}{w:World}{A:Around}{E:Zu->Zv->Prop}{s:Zv}
theorem Eb {items:Zn}{k:Int}{u:Tok}(V:s.heap.IsList a items)(O:0<=k)(x:k<1000)
 (h:∀t,IsEnum t (↥s+ 1) ↥s k .none->t.IsListIter ↥s a 0->(∀b o,s•b\o->t.get? b\o)->Q ↑(↥s+ 1) (s<*t)):
 (prog<|>w) A (call (.type "enumerate") [↑a] [("start",.int k u)]) Q E s:=by
 let⟨⟨c0,dct,W,P⟩,X,l,n,v⟩:=V;replace l:c0=.type "list":=l;replace v:W=.seq items n:=v;subst l v;let i:=F.called_enumerate;let⟨c,tl,N⟩:=i.mro;let B:=i.made;let L:=i.sub;let U:=WN ↑a (.int k u);let z:=WO ↑a (.int k u);rwa[alM (codeAny_of_tree ?_)];show wpAny _ _ (callAny (.type "enumerate") _) _ _ _;rwa[ajl ⟨Code.quiet_builtin _ ⋯,amk F.entry_type_call ?_⟩];rw[Around.under_plain (weight_type_call_type "enumerate" [↑a] [("start",.int k u)]) (units_type_call_type "enumerate" [↑a] [("start",.int k u)])];let h1:=i.notType;let h2:=i.canCreate
 repeat (any_goals (first|assumption|wp_step))
 rwa[alC (akQ i.plain F.entry_enumerate_new (wpAny_of_eq z (Gz a items n dct P k u O x prog w A.in1 (wants (λobj f=>f.TypeIs obj "enumerate"/\Q obj f) E) s ⟨X,5⟩))) λr f D=>?_]
 ·let J:(s.heap.push ("list_iterator">>>.fields #[↑a,.int 0 0])).objs.size=↥s+ 1:=akW ..;show _/\_;rw[J]
  let M:IsEnum ((s.heap.push ("list_iterator">>>.fields #[↑a,.int 0 0])).push ("enumerate">>>.fields #[.none,.bool false,↑↥s,rawInt k,.none,.none])) (↥s+ 1) ↥s k .none:=by
   let q:=ajx (s.heap.push ("list_iterator">>>.fields #[↑a,.int 0 0])) (o:=("enumerate">>>.fields #[.none,.bool false,↑↥s,rawInt k,.none,.none])) rfl;rw[J]at q;rwa[q]
  rwa[⟨_,M,2⟩,h _ M ⟨_,ajf _ (ajx _ rfl),22⟩ λb o y=>ajf _ (ajf _ y)]
 cases r with
 |error e=>exact D
 |ok Y=>
  cases Y with
  |ret obj=>
   let⟨I,H⟩:=D;let Z:=i.init.lookup;let S:=i.init.bind obj;let G:=WQ obj ↑a (.int k u);let C:(λ(_:Around) (R:Result->Zv->Prop) (s:Zv)=>s.TypeIs obj "enumerate"/\R (.ok (.ret .none)) s) A.in1 (wants (λr j=>r=.none/\Q obj j) E) f:=⟨I,2,H⟩;let gi:=Ql (T:="enumerate") (self:=obj) (a:=↑a) (kw:=[("start",.int k u)]) i.init.lookup i.made ⋯
   repeat (any_goals (first|assumption|wp_step))
   rwa[alC (akQ i.init.plain F.entry_object_init (i.init.check _ _ _ _ _ _ _ _ I G (gi prog w A.in1 _ f C))) λp j g=>?_]
   cases p with
   |error e=>exact g
   |ok m=>
    cases m with
    |ret r=>
     let⟨rfl,H⟩:=g
     repeat (any_goals (first|assumption|wp_step))
    |_=>exact g.elim
  |_=>exact D.elim
end
end En
abbrev Oi (K:Za1) (a:Zt) (n:Int):It:=Ff (λH=>aI K H a) λi=>n+ i
def all_true (n:Nat)(f:Nat->Bool)(h:∀j,f j=true):(~~~n).all f=true:=amG.mpr λj _=>h j
def eB (h:Heap)(d:Zt)(b:Array DictEntry)(a:Nat):Prop:=∃o,h.get? d\o/\o.ExactDict/\o.data=.dict b a
namespace Dk
section
variable {prog:Program}{w:World}{A:Around}{E:Zu->Zv->Prop}{s:Zv}{d:Zt}{es:Array DictEntry}{ep:Nat}
def typ (b:eB s.heap d es ep):s.TypeIs ↑d "dict":=let ⟨o,a,c,_⟩:=b;⟨o,a,c.1⟩
theorem iter (f:(d==sysModules)=false)(c:eB s.heap d es ep)
 (g:Q ↑↥s { s with heap:=s.heap.push ("dict_keyiterator">>>.fields #[↑d,.int 0 0,.int es.size 0,.int ep 0]) }):(prog<|>w) A (pyIter ↑d) Q E s:=by
 let b:=typ c;let⟨o,e,h,a⟩:=c;rwa[wpAny_pyIter_slot b F.slot_dict_iter (akw F.slot_dict_iter b F.entry_dict_iter ?_ (F.args_dict_iter_1 _))];unfold Builtin.«dict.__iter__»;rwa[aje ?_];unfold Builtin.Dict.dictSlotNone;rwa[aje (alW b ?_)];show wpAny _ _ (pure (Value.ref d)) _ _ s;rwa[ajl ?_];show wpAny _ _ (Builtin.Dict.showsAll d >>=_) _ _ s;unfold Builtin.Dict.showsAll;rw[ajw ([f]▸aj3)];rwa[aje (ajl (aje (alY e a (aje (wpAny_dictEpoch e a ?_)))))];rwa[aje (ajW (ajl ⟨12,"dict_keyiterator",_,⟨_,ajx _ rfl,2⟩,alQ.lookup,by simpa [rawInt] using g⟩))]
theorem next {it:Zt}{Q:Zm->Zv->Prop}(n:A.handled=none)(hit:s.heap.IsKeyIter it d i es.size ep)(p:eB s.heap d es ep)(l:∀en g,es[i]?\en->g.IsKeyIter it d (i+ 1) es.size ep->Heap.SameBut it s.heap g->Q (some en.key) (s<*g))
 (r:∀g,es[i]?=none->Heap.ExtBut it s.heap g->Q none (s<*g)):(prog<|>w) A (pyNext ↑it) Q E s:=by
 let⟨o,h,t,c⟩:=id hit;let⟨u,f,q,e⟩:=id p;unfold pyNext;rwa[aje (wpAny_attempt (ako (name:=Str.ofString "__next__") hit.typeIs alQ (akw alQ hit.typeIs F.entry_dict_keyiterator_next ?_ (F.args_dict_keyiterator_next_1 _))))];rwa[aje (ajl (aje (aje ?_)))]
 first|rwa[aje (wpAny_typeNameOfWhole_keyiter hit.typeIs (ajl ?_))]|rwa[aje (wpAny_typeNameOf_keyiter hit.typeIs (ajl ?_))]
 rwa[aje (wpAny_fieldsOf h c ?_)];let own:Builtin.Dict_items.ownsTuple "dict_keyiterator"=false:=⋯
 simp only[own,aml,amj];show wpAny _ _ (if (Value.ref d==Value.none)=true then _ else _) _ _ s;rw[ajw (show ¬((Value.ref d==Value.none)=true) from aj3)];rwa[aje (ajl (aje (alY f e ?_)))];rw[ajw (by simp)];rwa[aje (ajl (aje (wpAny_dictEpoch f e ?_)))];rw[ajw (by simp)];rwa[ajl ?_];rcases j:es[i]? with _|en <;> simp only[show ¬((i:Int)<0) from by ext,amj,akg,j]
 all_goals
  rwa[aje ?_]
  first|rwa[aje (wpAny_typeNameOfWhole_keyiter hit.typeIs (ajl ?_))]|rwa[aje (wpAny_typeNameOf_keyiter hit.typeIs (ajl ?_))]
 ·show wpAny _ _ (setField ↑it 0 .none >>=_) _ _ s;rwa[aje (aln h c (by simp) ?_)];show wpAny _ _ (newExc (.type "StopIteration") [] >>=_) _ _ _;rwa[aje ?_];simp only[newExc,newTuple];rwa[aje (ajW ?_ (by size_fits))];rwa[aje (m:=firstArgMember _ _) (wpAny_of_eq (a:=Value.none) (by first|rfl|(simp only[firstArgMember];rfl)) ?_)];rwa[ajW ?_ (by size_fits)];simp only[raiseNew];rwa[aje (wpAny_handled ?_)];rw[show A.in1.handled=none from n];rwa[aje (ajl (wpAny_throw ?_))];rwa[aje (wpAny_isInstance (T:="StopIteration") (b:=true) ⟨_,ajx _ rfl,2⟩ isSubtype_stop ?_)];rwa[ajl (r _ j (((akM ..).extBut.push _).push _))]
 ·rwa[aje (wpAny_isOneOf_keyiter hit.typeIs ?_)];show wpAny _ _ (setField ↑it 1 (rawInt ((i:Int)+ 1)) >>=_) _ _ s;rwa[aje (aln h c (by simp) ?_)]
  let k:(s.heap.update it (Obj.mapFields (·.setIfInBounds 1 (rawInt ((i:Int)+ 1))))).IsKeyIter it d (i+ 1) es.size ep:=
   ⟨_,aj0 _ h (alj (akO c _)),(Obj.cls_mapFields ..).trans t,by rw[akO c];simp[rawInt]⟩
  rwa[aje (akd ?_)];rwa[aje (wpAny_isOneOf_keyiter (s:={ s with heap:=s.heap.update it (Obj.mapFields (·.setIfInBounds 1 (rawInt ((i:Int)+ 1)))) }) k.typeIs ?_)];show wpAny _ _ (pure (DictEntry.key _)) _ _ _;rwa[ajl (ajl ⟨12,ajl (l _ _ j k (akM ..))⟩)]
def eB.at (x:eB h d es ep)(e:∀o,h.get? d\o->g.get? d\o):eB g d es ep:=let ⟨o,a,r⟩:=x;⟨o,e _ a,r⟩
def walks (m:A.handled=none)(I:Zt)(k:d≠I):Walks prog w A I [I,d] [I] es.size (λi v=>∃c,es[i]?\c/\v=c.key) (λi h=>h.IsKeyIter I d i es.size ep/\eB h d es ep) where
 sub:=λb j=>by cbv
 frame:=λ_ _ _ st l=>⟨st.1.at λo e=>l I (by simp) o e,eB.at st.2 λo e=>l d (by simp) o e⟩
 item:=λi s Q E q st a=>next m st.1 st.2 (λc g e n f=>a _ g s.toks ⟨c,e,2⟩ ⟨n,eB.at st.2 λo e=>f.extBut _ _ k e⟩ λb o j e=>f.extBut b o (λh=>j (by simp[h])) e) λg e=>by simp[q]at e
 done:=λs Q E st a=>next m st.1 st.2 (λc g e=>by simp at e) λp _ f=>a p s.toks λb o j e=>f b o (λh=>j (by simp[h])) e
 self:=λ_ _ _ _ st a=>wpAny_pyIter_keyiter st.1 a
theorem hint {Q:Bool->Zv->Prop}(e:eB s.heap d es ep)(h:Q false s):(prog<|>w) A (Builtin.List.listLengthHint ↑d) Q E s:=by
 unfold Builtin.List.listLengthHint;rwa[aje (wpAny_specialOf (typ e) F.slot_dict_len.lookup ?_)];generalize c:("dict.__len__":String)=f
 wp_delta
 rw[show splitId f=some ("dict","__len__") from by subst c;decide];subst c;rwa[aje (wpAny_isInstance (T:="dict") (b:=true) (typ e) (by rw[isSubtype_type];kernel_rfl) ?_)];rwa[amm (λa=>absurd a ⋯) (λ_=>?_)];rwa[amm (λ_=>?_) (λa=>absurd ⋯ a)];rwa[aje (alk (T:="dict") (typ e) (ajl h))]
theorem extend {R:Result->Zv->Prop}(X:A.handled=none)(O:(d==sysModules)=false)(y:eB s.heap d es ep)(hlen:es.size<=sizeLine)(S:Zt)(res:Zu)(n:Nat)(N:s•S\("list">>>.seq #[] n))
 (Z:∀g1 Q c m,(∀b o,b≠S->s•b\o->g1.get? b\o)->g1.get? S\{ cls:=.type "list",dict:=none,data:=.seq c m,slots:=#[] }->
  ItemsOf (λi v=>∃M,es[i]?\M/\v=M.key) c es.size->R (.ok (.ret res)) { s with heap:=g1,toks:=Q }):
 (prog<|>w) A.in1 (Builtin.List.listExtendWith ↑S ↑d res)
  (λfin g=>match fin with|.done f=>R (.ok f) g|.again m=>m.quiet=true/\codeAny (model prog w) A m R g) (λe g=>R (.error e) g) s:=by
 let l:S≠d:=λe=>by
  let⟨o,L,hc,J⟩:=y
  cbv
 let H:d<↥s:=by let⟨o,L,_⟩:=y;rwa[ajz L]
 let z:S≠↥s:=ajL (ajz N);let I:d≠↥s:=ajL H;unfold Builtin.List.listExtendWith;rwa[aje (alk (T:="dict") (typ y) ?_)];let U:Builtin.List.listSameRef ↑S ↑d=false:=by simp[Builtin.List.listSameRef,l]
 let P:(Value.type "dict"==Value.type "list")=false:=⋯
 let Y:(Value.type "dict"==Value.type "tuple")=false:=⋯
 simp only[U,P,Y,Bool.or_false,aml,amj];rwa[aje (iter O y ?_)];let j:eB (s.heap.push ("dict_keyiterator">>>.fields #[↑d,.int 0 0,.int es.size 0,.int ep 0])) d es ep:=eB.at y λo e=>ajf _ e
 rwa[aje (akd (hint (s:={ s with heap:=s.heap.push ("dict_keyiterator">>>.fields #[↑d,.int 0 0,.int es.size 0,.int ep 0]) }) j ?_))];let k:=ajf ("dict_keyiterator">>>.fields #[↑d,.int 0 0,.int es.size 0,.int ep 0]) N;let r:(s.heap.push ("dict_keyiterator">>>.fields #[↑d,.int 0 0,.int es.size 0,.int ep 0])).IsKeyIter ↥s d 0 es.size ep:=⟨_,ajx _ rfl,22⟩;let kp:∀b o,s•b\o->(s.heap.push ("dict_keyiterator">>>.fields #[↑d,.int 0 0,.int es.size 0,.int ep 0])).get? b\o:=λb o e=>ajf _ e
 change s.heap.push ("dict_keyiterator">>>.fields #[↑d,.int 0 0,.int es.size 0,.int ep 0])=x at k r kp j ⊢;rwa[amm (λ_=>?_) (λB=>absurd ⋯ B)];rwa[aje (amv ?_)];rwa[aje ?_];show wpAny _ _ (updateSeq S (·.push .none) >>=λ_=>updateSeq S (·.pop)) _ _ _;rwa[aje (alX k rfl ?_)];let t:=aj0 (Obj.mapSeq (·.push Value.none)) k rfl;rwa[alX (hz:=by seq_fits) t rfl ?_];let G:=aj0 (Obj.mapSeq (·.pop)) t rfl;let h:∀b o,b≠S->x.get? b\o->((x.update S (Obj.mapSeq (·.push Value.none))).update S (Obj.mapSeq (·.pop))).get? b\o:=λb o p e=>(aj1^akB p).trans ((aj1^akB p).trans e)
 let W:=(walks (prog:=prog) (w:=w) (A:=A.in1) (d:=d) (es:=es) (ep:=ep) X ↥s I).toS
 let C:S∉[↥s,d]:=λa=>by
  rcases ajE.mp a with e|a
  ·rwa[z e]
  ·rwa[l (ajn.mp a)]
 rwa[ajl ⟨alF F.plain_extend_loop _,?_⟩];rwa[codeAny_extend_loopS W hlen S C res es.size 0 _ #[] _ rfl (ajU _) ⟨r.at λo e=>h _ o (akB z) e,eB.at j λo e=>h _ o (akB l) e⟩ G (ItemsOf.nil _) λg c m q D u=>?_]
 rw[Moved.eq_with q];rwa[Z g.heap g.toks c m (λb o p e=>q.heap b o (λa=>?_) (h b o p (kp b o e))) D u];rcases ajE.mp a with V|a
 ·rwa[p V]
 ·rwa[absurd (ajz e) (by rw[ajn.mp a];rwa[akA _])]
def zD {Q:Fin->Zv->Prop}(g:s•a\("list">>>.seq #[]))
 (h:∀f c,f.get? a\("list">>>.seq #[] c)->(∀b o,b≠a->s•b\o->f.get? b\o)->(prog<|>w) A (Builtin.List.listExtendWith ↑a v .none) Q E (s<*f)):(prog<|>w) A (Builtin.«list.__init__» ⟨[↑a,v],[]⟩) Q E s:=by
 show wpAny _ _ (do let old <-Builtin.List.listItems ↑a;Builtin.List.listUpdate ↑a (λ_=>#[]);letGo old.toList.reverse;Builtin.List.listExtendWith ↑a v .none) _ _ s;rwa[aje ?_];unfold Builtin.List.listItems;rwa[aje (al7 g rfl (ajl ?_))];show wpAny _ _ (updateSeq a (λ_=>#[]) >>=λ_=>letGo (#[]:Zn).toList.reverse >>=λ_=>Builtin.List.listExtendWith ↑a v .none) _ _ s;rwa[aje (alX g rfl (aje (amx (h _ _ (aj0 (Obj.mapSeq (λ_=>(#[]:Zn))) g rfl) λb o i e=>(aj1^akB i).trans e))))]
def init {R:Result->Zv->Prop}(B:A.handled=none)(x:(d==sysModules)=false)(u:eB s.heap d es ep)(hlen:es.size<=sizeLine)(S:Zt)(C:s•S\("list">>>.seq #[]))
 (D:∀g1 l a g,(∀b o,b≠S->s•b\o->g1.get? b\o)->g1.get? S\{ cls:=.type "list",dict:=none,data:=.seq a g,slots:=#[] }->
  ItemsOf (λi v=>∃t,es[i]?\t/\v=t.key) a es.size->R (.ok (.ret .none)) { s with heap:=g1,toks:=l }):
 (prog<|>w) A.in1 (Builtin.«list.__init__» ⟨[↑S,↑d],[]⟩)
  (λfin k=>match fin with|.done f=>R (.ok f) k|.again g=>g.quiet=true/\codeAny (model prog w) A g R k) (λe k=>R (.error e) k) s:=by
 let p:d≠S:=λe=>by
  let⟨o,F,G,q⟩:=u
  cbv
 rwa[zD C λz c m h=>extend (s:=(s<*z)) B x (eB.at u λo e=>h _ o p e) hlen S .none _ m λg1 l a g y n j=>D g1 l a g (λb o r e=>y b o r (h b o r e)) n j]
theorem IL (t:A.handled=none)(p:(d==sysModules)=false)(u:eB s.heap d es ep)(hlen:es.size<=sizeLine)
 (q:∀g1 j a h,(∀b o,s•b\o->g1.get? b\o)->g1.get? ↥s\{ cls:=.type "list",dict:=none,data:=.seq a h,slots:=#[] }->ItemsOf (λi v=>∃l,es[i]?\l/\v=l.key) a es.size->Q ↑↥s { s with heap:=g1,toks:=j }):
 (prog<|>w) A (call (.type "list") [↑d]) Q E s:=by
 rwa[callType_codes (Q₁:=λobj c=>obj=↑↥s/\c={ s with heap:=s.heap.push ("list">>>.seq #[]) }) F.called_list (F.typeCall_list_1 _) F.entry_list_init (code_list_new _ ⟨22⟩) λobj c f=>?_]
 let⟨rfl,rfl⟩:=f;let n:(s.heap.push ("list">>>.seq #[])).get? ↥s\("list">>>.seq #[]):=ajx _ rfl;rwa[⟨⟨_,n,2⟩,F.args_list_init_2 _ _,init (A:=A.in1) (s:={ s with heap:=s.heap.push ("list">>>.seq #[]) }) t p (eB.at u λo e=>ajf _ e) hlen _ n λg1 j a h r k g=>?_⟩];rwa[2,q g1 j a h (λb o e=>r b o (ajL (ajz e)) (ajf _ e)) k g]
end
end Dk
structure MDef (K:Za1) (C:Zt) (x q:Str) (st:Stmt) (ps:Zq) (f:Zt) (fd:FuncData):Prop where
 F:sE K x q st f fd
 m:Meth K C x f
 b:Binds K fd ps []
open PySem.W (KasT kas_rev kas_asc kas_desc kas_tail3 kas_descPart kas_count kas_place kas_bin kas_sort kas_ask kas_ask_eq kas_runs kas_st kas_range kas_item kas_item_eq)
namespace Srt
def Gd {b:Type}(P:Nat->Nat->Prop)(f:Nat->Nat->Bool):KasT b->(b->Prop)->Prop
 |.ret a,Q=>Q a
 |.ask i j k,Q=>P i j/\Gd P f (k (f i j)) Q
section
variable {n:Nat}{key:Nat->Int}
structure Pr (n:Nat) (p:Array Nat):Prop where
 sz:p.size=n
 lt:∀i,i<n->p.getD i 0<n
 inj:∀i j,i<n->j<n->p.getD i 0=p.getD j 0->i=j
def Up (key:Nat->Int)(p:Array Nat)(m:Nat):Prop:=∀i j,i<j->j<m->key (p.getD i 0)<key (p.getD j 0)
def Dn (key:Nat->Int)(p:Array Nat)(m:Nat):Prop:=∀i j,i<j->j<m->key (p.getD j 0)<key (p.getD i 0)
def Ok (n:Nat)(key:Nat->Int)(i j:Nat):Prop:=i<n/\j<n/\key i≠key j
def Inj (n:Nat)(key:Nat->Int):Prop:=∀i j,i<n->j<n->key i=key j->i=j
abbrev ask (key:Nat->Int) (i j:Nat):Bool:=decide (key i<key j)
end
end Srt
end L2
namespace L2
open PySem PySem.Spec PyProof.Rows
def IQ:typeLookup (.type "list") "keys"=pure none:=by rw[typeLookup_type,builtinLookup_eq_fast];kernel_rfl
theorem LY {m:Zn}{k:Nat}{Q:Zm->Zv->Prop}
 (n:s•a\("list">>>.seq m k)) (p:A.handled=none)
 (h:∀i j,(∀b o,s•b\o->i.get? b\o)->Q none { s with heap:=i,toks:=j }):
 (P<|>w) A (getAttr? ↑a "keys") Q E s:=by
 let⟨q,g,d,j,os⟩:=s;let l:∀f,(⟨q,g,d,f,os⟩:Zv).TypeIs ↑a "list":=λ_=>⟨_,n,2⟩
 let t:=sub_AttributeError;let z:=F.slot_list_getattribute.lookup;let x:=F.slot_list_getattribute.bind ↑a;let v:=am_list_getattr_none;unfold getAttr? getAttrBy? getAttrBy
 repeat (any_goals (first|assumption|rwa[l _]|((with_reducible show wpAny _ _ (call (Value.builtin "list.__getattribute__") _ _) _ _ _);rwa[call_meets F.slot_list_getattribute (l _) am_entry_list_getattribute (F.args_list_getattribute_2 _ _) (meets_getattribute_miss_list a m k #[] "keys" _ IQ (by decide) (by decide)) ⟨n,p,λi f e c=>?_⟩])|wp_step))
 let⟨r,u,y⟩:=c.there;show wpAny _ _ (getattributeRaised _ _ _ _ _ _ _) _ _ _;unfold getattributeRaised
 repeat (any_goals (first|assumption|wp_step))
 rwa[h^c.keeps]
def p5:entryFor table "dict.update.loop"=some Builtin.«dict.update.loop»:=entryFor_of_fast (by kernel_rfl)
def iN:plainId "dict.update.loop"=true:=⋯
section
variable {prog:Program} {w:World} {K:Type} [DecidableEq K] {knd:KeyKind prog w K} {A:Around} {E:Zu->Zv->Prop}
def GA {R:Result->Zv->Prop}{it l:Zt}{its:Zl}{rs:List (K×Zu)}(hh:A.in1.handled=none)(N:l≠it)(t:d≠it)(O:d≠l)(hlen:⇑its=⇑rs)(hsz:⇑rs<=sizeLine):
 ∀(k i:Nat) (s:Zv),⇑its - i=k->i<=⇑its->s.heap.IsListIter it l i->s.heap.IsList l its.toArray->s.heap.DictOf knd d (merged [] (rs.take i))->
 (∀(j:Nat) (u:Zu) (m:K×Zu),its[j]?\u->rs[j]?\m->∃p a,u=↑p/\p≠d/\p≠it/\knd.is m.1 a=true/\IsTup s.heap p #[a,m.2])->
 (∀h J,h.DictOf knd d (merged [] rs)->(∀b o,b≠d->b≠it->s•b\o->h.get? b\o)->R (.ok (.ret .none)) { s with heap:=h,toks:=J })->
 codeAny (model prog w) A (.builtin "dict.update.loop" ⟨[↑d,↑it,rawInt (i:Int),.none],[]⟩) R s:=by
 let W:=Walks.list (prog:=prog) (w:=w) (A:=A.in1) hh it l N its.toArray;let c:∀b:Zt,b≠it->b∉[it]:=λb f z=>f (ajn.mp z)
 intro k
 induction k with
 |zero=>
  intro i s hk L hit hl H Y hR;let ei:i=⇑its:=∅
  rwa[amk p5 ?_];rw[al6 iN _];show wpAny _ A.in1 (pyNext ↑it >>=_) _ _ s;rwa[aje (W.done s _ _ ⟨by cbv,hl⟩ λh J kp=>?_)];show wpAny _ A.in1 (Builtin.Dict.addKeywords d [] >>=_) _ _ _;rwa[aje (ajl (ajl ?_))];rw[alg ∅]at H;let⟨od,x1,x2,D,q⟩:=id H;rwa[hR h J ⟨od,x1,x2,kp _ _ (c _ t) D,q⟩ λb o _ f e=>kp b o (c _ f) e]
 |succ k ih=>
  intro i s hk L hit hl H Y hR;let ve:i<⇑its:=∅
  rwa[amk p5 ?_];rw[al6 iN _];show wpAny _ A.in1 (pyNext ↑it >>=_) _ _ s;rwa[aje (W.item i s _ _ ∅ ⟨hit,hl⟩ λv h J hP P kp=>?_)];let⟨B,Q⟩:=P;let Z:its[i]?\v:=by simpa using hP
  let x:rs[i]?\(rs[i]'∅):=ajg ∅
  change rs[i]'∅=m at x;let⟨p,a,rfl,pd,pi,C,o,ho,hc,n,y⟩:=Y i v m Z x;let F:=kp _ _ (c _ pi) ho;let V:rs.take (i+ 1)=rs.take i++[m]:=by rw[akx,x];rfl
  let M:h.DictOf knd d (merged [] (rs.take i)):=by
   let⟨od,x1,x2,D,q⟩:=id H;rwa[od,x1,x2,kp _ _ (c _ t) D,q]
  let X2:=merged_length_le ([]:List (K×Zu)) (rs.take i)
  let G:⇑(merged [] (rs.take i))<=sizeLine:=by
   rw[ajN,alv]at X2;ext
  show wpAny _ A.in1 (holding [Value.ref p] _ >>=_) _ _ _;rwa[aje (akd ?_)];rwa[aje (amB ?_)];show wpAny _ A.in1 (typeOf (Value.ref p) >>=_) _ _ _;rwa[aje (alk (T:="tuple") ⟨o,F,hc⟩ ?_)];rw[ajD ⋯];rwa[aje (al7 F y ?_)];rwa[ajl ?_];show wpAny _ A.in1 (holding [a,m.2] (dictSet d a m.2)) _ _ _;rwa[akd (wpAny_dictSet_pairs C M (λg S sb=>?_) G)];let I:∀b o,b≠d->h.get? b\o->g.get? b\o:=λb o f e=>(sb.2 b f).trans e
  rwa[ajl ⟨alF iN _,5⟩];let r:rawInt ((i:Int)+ 1)=rawInt (((i+ 1:Nat)):Int):=rfl;rw[r];rwa[ih (i+ 1) _ ∅ ∅ (B.at λo e=>I _ _ (akB t) e) (Q.at λo e=>I _ _ (akB O) e) ?_ ?_ ?_]
  ·rw[V,merged,aly];rwa[S]
  ·intro j u IU D q;let⟨p,a,rfl,a1,a2,a3,o,b1,b2⟩:=Y j u IU D q;rwa[p,a,2,a1,a2,a3,o,I _ _ a1 (kp _ _ (c _ a2) b1),b2]
  ·intro q U hd4 X;rwa[hR q U hd4 λb o f L e=>X b o f L (I _ _ f (kp _ _ (c _ L) e))]
theorem yL {rs:List (K×Zu)}(J:A.handled=none)(hlen:⇑N=⇑rs)(B:⇑rs<=sizeLine)
 (I:s•a\("list">>>.seq N.toArray n))
 (S:∀(j:Nat) (u:Zu) (r:K×Zu),N[j]?\u->rs[j]?\r->∃p d,u=↑p/\knd.is r.1 d=true/\IsTup s.heap p #[d,r.2])
 (P:∀m H,m.DictOf knd ↥s (merged [] rs)->(∀b o,s•b\o->m.get? b\o)->Q ↑↥s { s with heap:=m,toks:=H }):
 (prog<|>w) A (call (.type "dict") [↑a]) Q E s:=by
 rwa[callType_codes (Q₁:=λobj f=>obj=↑↥s/\f={ s with heap:=s.heap.push ("dict">>>.dict #[]) }) F.kt_called_dict (F.kt_typeCall_dict_1 _) F.entry_dict_init (kt_code_dict_new _ ⟨22⟩) ?_];rintro obj f ⟨rfl,rfl⟩;let c:(s.heap.push ("dict">>>.dict #[])).DictOf knd ↥s []:=Heap.DictOf.new s.heap;let h:(s.heap.push ("dict">>>.dict #[])).get? a\("list">>>.seq N.toArray n):=ajf _ I;let t:=ajz I;erw[c.typeIs,F.args_dict_init_2 _ _];unfold Builtin.«dict.__init__»;rwa[aje ?_];unfold Builtin.Dict.selfAndRest;rwa[aje (alW c.typeIs ?_)];show wpAny _ _ (pure (↥s,[Value.ref a])) _ _ _;rwa[ajl ?_];show wpAny _ _ (Builtin.Dict.updateFrom "dict.__init__" ↥s ↑a [] .none) _ _ _;unfold Builtin.Dict.updateFrom;rwa[aje (alk (T:="list") ⟨_,h,2⟩ ?_)];rw[ajD ⋯];rwa[aje (LY h J λg H kp=>?_)];rw[ajD ⋯];rwa[aje (amv ?_)];let i:=kp^h;rwa[aje (ala (items:=N.toArray) ⟨_,i,2,n,2⟩ ?_)]
 let k:↥s<g.objs.size:=by
  let⟨O,_,_,q,_⟩:=id c;rwa[ajz (kp^q)]
 let z:=ajz i;let M:∀b o,s•b\o->(g.push ("list_iterator">>>.fields #[↑a,.int 0 0])).get? b\o:=λb o e=>ajf _ (kp^ajf _ e)
 rwa[ajl ⟨alF iN _,GA (knd:=knd) (A:=A.in1) (rs:=rs) (its:=N) (l:=a) (it:=g.objs.size) J (ajL z) (ajL k) (aku t) hlen B ⇑N 0 _ rfl (ajU _) ?_ ⟨_,ajf _ i,2,n,2⟩ ?_ ?_ ?_⟩]
 ·rwa[_,ajx _ rfl,22]
 ·let⟨O,W,V,q,v⟩:=id c;rwa[O,W,V,ajf _ (kp^q),v]
 ·intro j u r q v;let⟨p,d,rfl,R,o,D,U⟩:=S j u r q v;let l:=ajz D;rwa[p,d,2,ajL l,ajL (amf l k),R,o,M^D,U]
 ·intro m x C y;rwa[⟨2,P m x C λb o e=>?_⟩];let G:=ajz e;rwa[y b o (ajL G) (ajL (amf G k)) (M^e)]
end
section
variable {X:Cx}
inductive IV (xs:Zb) (H:Hp) (Q:VK):Prop
 |mk (l:Zt) (ps:Zo) (kvs:List (Key×V)):xs=[↑l]->H l\.lst (ps.map V.ref)->⇑ps=⇑kvs->(∀(i:Nat) (p:Zt) (kv:Key×V),ps[i]?\p->kvs[i]?\kv->H p\.tup [kV kv.1,kv.2])->(∀d,H d=none->Q ↑d (upd H d (.dK (iA [] kvs))))->IV xs H Q
def LZ (ok:dz P w H h):∀(c:Zo) (a:List (Key×V)),⇑c=⇑a->(∀(i:Nat) (p:Zt) (b:Key×V),c[i]?\p->a[i]?\b->H p\.tup [kV b.1,b.2])->
 ∃k:List (Key×Zu),KV a k/\∀(j:Nat) (p:Zt) (b:Key×Zu),c[j]?\p->k[j]?\b->∃e,(bT P w).is b.1 e=true/\IsTup h p #[e,b.2]:=by
 intro c
 induction c with
 |nil=>exact λa l _=>by cases a with|nil=>exact⟨[],.nil,λj p b d=>by simp at d⟩|cons=>ext l
 |cons p c y=>
  intro a l n
  cases a with
  |nil=>ext l
  |cons b a=>
   let⟨k,o,x⟩:=y a (by simpa using l) λi q b d g=>n (i+ 1) q b (by simpa using d) (by simpa using g)
   obtain⟨-,s,t,r⟩:=ok p _ (n 0 p b rfl rfl);let⟨u,v,rfl,z,m⟩:=vals2 t;rwa[⟨(b.1,v)::k,.cons ⟨2,m⟩ o,λj q f d g=>?_⟩]
   cases j with
   |zero=>
    obtain rfl:p=q:=by simpa using d
    obtain rfl:(b.1,v)=f:=by simpa using g
    rwa[u,jl z,r]
   |succ j=>exact x j q f (by simpa using d) (by simpa using g)
def xj (M:X.calm=true):iM X (.type "dict") IV:=by
 intro m s P H O R Q I r h;let⟨l,k,a,rfl,C,hlen,B,q⟩:=h;let⟨u,rfl,D⟩:=vals1 r;ext D;let⟨A,y,c,z,v⟩:=I.aM l _ C;obtain rfl:=IK z;let⟨rs,i,G⟩:=LZ I.aM k a hlen B;let t:⇑a=⇑rs:=⇑i;rw[ajk]at A;rwa[yL (knd:=bT X.prog X.w) (rs:=rs) (I.ok.hd M) (by cbv) ∅ v (λj u E b o=>?_) λg w F kp=>?_]
 ·rw[ajq]at b
  cases e:k[j]? with
  |none=>rw[e]at b;ext b
  |some p=>
   rw[e]at b;let⟨d,n,J⟩:=G j p E e o;rwa[p,d,(Za0 b).symm,n,J]
 ·let L:KV (iA [] a) (merged [] rs):=KV.merge i .nil;let f:=mh a [];rw[alv]at f;rwa[↑↥s,_,I.laid (t':=w) kp (ajp _) (sG ∅ (ajH.mpr (akB (ajL I.big))) L F),2,q _ (I.aM.fresh (ajp _))]
end
section
variable {X:Cx}{pins:List (Zt×Obj)}{σ:St}{H:Hp}{s:Zv}{d:Zt}{u:HO}{o:Obj}
def Inv.freeze (I:Inv X pins σ H s)(e:H d\u)(mu:uX (some u))(g:s•d\o):Inv X pins σ (upd H d (.cq o u)) s:=by
 let a:uX (H d):=by rw[e];rwa[mu]
 let b:∀c y,H c\.own y->c≠d:=λc y r z=>by subst z;rw[r]at a;rwa[a]
 let jo:∀c f,H c\.tup f->c≠d:=λc f r z=>by subst z;rw[r]at a;rwa[a]
 let new:bY X.prog X.w (upd H d (.cq o u)) s.heap d u:=(I.aM d u e).fD (λc v _ r=>r) (λc r=>[ai (b^r)]▸r) λc f r=>by rw[ai (jo^r)];rwa[r]
 rwa[kJ (t':=s.toks) I a (Heap.SameBut.refl _ _) ⟨o,g⟩ ⟨g,new⟩]
def Inv.GB (I:Inv X pins σ H s)(e:H d\.cq o u)(mu:uX (some u))(k:∀o u,X.vA d≠some (.cq o u)):Inv X pins σ (upd H d u) s:=by
 let i:∀b,H b=none->b≠d:=λb n z=>by cbv
 let g:∀c y,H c\.own y->c≠d:=λc y r z=>by cbv
 let jo:∀c h,H c\.tup h->c≠d:=λc h r z=>by cbv
 rwa[⟨I.ok,I.os,I.bare,⟨I.base.keep,I.base.slot,λb ob q n w=>?_,I.base.there,λb h q=>?_,λb ob v q=>?_,λb l q=>?_⟩,I.loc,I.cell,5,λx c q=>?_,λp t=>?_,λb v q=>?_,I.len⟩]
 ·let f:=I.base.free b ob q n w;rw[ai (i b f)];rwa[f]
 ·let f:=I.base.ip b h q;rw[ai (jo^f)];rwa[f]
 ·let f:=I.base.gO b ob v q;rw[ai (λz=>k ob v (by rw[<-z];rwa[q]))];rwa[f]
 ·let⟨m,f⟩:=I.base.iq b l q;erw[m];rw[ai (λz=>by cbv)];rwa[f]
 ·rw[ai (i _ I.free)];rwa[I.free]
 ·let f:=I.gP x c q;rw[ai (i _ f)];rwa[f]
 ·let⟨a,b,c⟩:=I.pin p t;rwa[⟨a,5,c⟩];rw[ai (i _ b)];rwa[b]
 ·let st:∀b v,bY X.prog X.w H s.heap b v->bY X.prog X.w (upd H d u) s.heap b v:=λb v q=>q.fD (λc v _ r=>r) (λc r=>[ai (g^r)]▸r) λc h r=>by rw[ai (jo^r)];rwa[r]
  cases j:b=d
  ·subst j;rw[aj]at q;obtain rfl:=Za0 q;rwa[st^(I.aM^e).2]
  ·rw[ai j]at q;rwa[st^I.aM b v q]
def Inv.L1 (I:Inv X pins σ H s)(e:H d\u)(mu:uX (some u)):∀o u,X.vA d≠some (.cq o u):=λo v q=>by
 rw[I.base.gO d o v q]at e;ext e;rwa[mu]
def W7 (t:TS):TS:=λD σ H=>∃(d:Zt) (u:HO),H d\u/\uX (some u)/\
 t { nx:=λ b a=>∃o,a d\.cq o u/\D.nx b (upd a d u),rt:=λv a=>∃o,a d\.cq o u/\D.rt v (upd a d u),
     bk:=λ b a=>∃o,a d\.cq o u/\D.bk b (upd a d u),ct:=λ b a=>∃o,a d\.cq o u/\D.ct b (upd a d u) } σ H
def uo {st:Stmt}{t:TS}(h:PS X st t):PS X st (W7 t):=by
 intro pins s σ H D I q;let⟨d,u,e,mu,q⟩:=q;let i:=I.L1 e mu;rwa[aZ (h pins s σ H _ I q) λf l p=>?_]
 cases f with
 |next=>let⟨a,j,b,o,c,g⟩:=p;rwa[a,_,b.GB c mu i,g]
 |brk=>let⟨a,j,b,o,c,g⟩:=p;rwa[a,_,b.GB c mu i,g]
 |cont=>let⟨a,j,b,o,c,g⟩:=p;rwa[a,_,b.GB c mu i,g]
 |ret v=>let⟨k,a,j,b,r,o,c,g⟩:=p;rwa[k,a,_,b.GB c mu i,r,g]
end
def Oj (d:Zt)(o:Obj)(u:HO)(n:Nat)(Y:Nat->Hp->V->Hp->Prop):It:=⟨λi H=>i<n/\H d\.cq o u,Y,λi H=>i=n/\H d\.cq o u⟩
abbrev Ta (d:Zt) (o:Obj) (kvs:List (Key×V)):It:=Oj d o (.dK kvs) ⇑kvs λi H x H'=>H'=H/\∃kv,kvs[i]?\kv/\x=kV kv.1
theorem zE {c b:Type}{R:c->b->Prop}:∀{e:List c} {ys:List b},Paired R e ys->∀{i:Nat} {x:c} {y:b},e[i]?\x->ys[i]?\y->R x y
 |[],_,h,i,x,y,a,_=>by simp at a
 |k::f,_,h,i,x,y,a,d=>by
  cases h with
  |cons g j=>
   cases i with
   |zero=>rw[<-Za0 a,<-Za0 d];rwa[g]
   |succ i=>exact zE j a d
def Tc {it:Zt}{o:Obj}{u:HO}{b:Array DictEntry}{Y:Nat->Hp->V->Hp->Prop}
 (A:∀(X:Cx) (H:Hp) (h:Heap),dz X.prog X.w H h->H d\.cq o u->eB h d b m/\b.size=n/\∀i f,b[i]?\f->∃x,RelV x f.key/\Y i H x H):Turn P w K e (Oj d o u n Y) [it] it (λi h=>h.IsKeyIter it d i b.size m):=
 HW (λi h ζ=>by let⟨o,a,c,d⟩:=ζ;rwa[⟨o,11,a,c,d,4⟩]) (λi h D st k=>st.at k) (λX l J H s i E C I st q=>by
  let⟨r,rfl,y⟩:=A X H s.heap I.aM (q.elim (·.2) (·.2));let⟨G,j,t,_⟩:=id r;let⟨F,p,z,_⟩:=id st
  rwa[1111,Dk.walks (I.ok.hd C) it (wM j p (by rw[t.1,z];decide)),⟨st,r⟩,λ_ _ h=>h.1,λg=>⟨g.1,λv B=>by
   let⟨f,j,rfl⟩:=B;rwa[y i f j]⟩,λg=>g.1]) λ_ _ _ _ _ st h=>wpAny_pyIter_keyiter st h
def IW {o:Obj}{a:List (Zd×V)}{b:Array DictEntry}(I:dz P w H h)(u:H d\.cq o (.dT a))(q:o.data=.dict b n):
 eB h d b n/\b.size=⇑a/\∀(i:Nat) (f:DictEntry),b[i]?\f->∃g p v,a[i]?\g/\f.key=↑p/\H p\.tup (g.1.map kV)/\f.val=v/\RelV g.2 v:=by
 obtain⟨c,-,C,ys,j,G,E,B,m,x,s,l,F⟩:=I d _ u;rw[c]at m;obtain rfl:=Za0 m;rw[q]at s;injection s with D y
 subst D y;let A:⇑a=⇑ys:=Paired.length j;let z:b.size=⇑ys:=size_of_entries l;rwa[⟨⟨_,c,x,q⟩,z.trans A.symm,λi f e=>?_⟩];let t:i<⇑a:=by cbv
 let r:ys[i]?\(ys[i]'∅):=ajg ∅
 rw[entry_at l,r]at e;obtain rfl:=Za0 e;let k:=zE j (ajg t) r;rwa[111,ajg t,2,k.2.1,2,k.2.2]
def Qr {k:Key}(h:(bT P w).is k v=true):RelV (kV k) v:=by
 cases k with
 |inl i=>
  let a:Value.isInt i v=true:=h
  cases v with
  |int j t=>simp[Value.isInt]at a;subst a;rwa[12]
  |_=>simp[Value.isInt]at a
 |inr x=>
  let a:Value.isStrOf x v=true:=h
  cases v with
  |str j t=>simp[Value.isStrOf]at a;subst a;rwa[12]
  |_=>simp[Value.isStrOf]at a
section
variable {g:TG}{tb:TS}{D:Ends}{σ:St}{H:Hp}{d:Zt}{o:Obj}
def Ol {u:HO}{Y:Nat->Hp->V->Hp->Prop}{a:Nat->St->Hp->Prop}(k:a 0 σ H)(e:∀i σ H,i<=n->a i σ H->H d\.cq o u)
 (l:∀i σ H x b,a i σ H->Y i H x b->g x σ b λ c j=>tb { D with nx:=a (i+ 1),ct:=a (i+ 1),bk:=D.nx } c j) (h:∀ σ H,a n σ H->D.nx σ H):sx (Oj d o u n Y) g tb D σ H:=
 uc k (λi σ H f p=>⟨⟨f,e i σ H (akZ f) p⟩,λx b=>l i σ H x b p⟩) λ σ H p=>⟨⟨2,e n σ H (ajp _) p⟩,h σ H p⟩
end
inductive Dt where
 |i (n:Int)|s (l:Zi)|n|b (k:Bool)|t (xs:List Dt)|l (xs:List Dt)
abbrev Zg:=List Dt
inductive bG (H:Hp):Nat->V->Dt->Prop where
 |i {k:Nat} {n:Int}:bG H k (.int n) (.i n)
 |s {k:Nat} {l:Zi}:bG H k (.str (tx l)) (.s l)
 |n {k:Nat}:bG H k .non .n
 |b {k:Nat} {c:Bool}:bG H k (.bl c) (.b c)
 |t {k:Nat} {a:Zt} {vs:Zb} {ds:Zg}:H a\.tup vs->⇑vs=⇑ds->(∀(j:Nat) (v:V) (d:Dt),vs[j]?\v->ds[j]?\d->bG H k v d)->bG H (k+ 1) ↑a (.t ds)
 |l {k:Nat} {a:Zt} {vs:Zb} {ds:Zg}:H a\.lst vs->⇑vs=⇑ds->(∀(j:Nat) (v:V) (d:Dt),vs[j]?\v->ds[j]?\d->bG H k v d)->bG H (k+ 1) ↑a (.l ds)
def bG.keep (j:∀a e,H a\.tup e->I a\.tup e)(g:∀a e,H a\.lst e->I a\.lst e){k:Nat}{v:V}{d:Dt}(h:bG H k v d):bG I k v d:=by
 induction h with
 |i=>exact .i
 |s=>exact .s
 |n=>exact .n
 |b=>exact .b
 |t a b c f=>exact .t (j^a) b f
 |l a b c f=>exact .l (g^a) b f
def bG.same (s:ao H I){k:Nat}{v:V}{d:Dt}(h:bG H k v d):bG I k v d:=h.keep (λ_ _ e=>s^e) (λ_ _ e=>s^e)
def bG.up {k:Nat}{d:Dt}(h:bG H k q d):bG H (k+ 1) q d:=by
 induction h with
 |i=>exact .i
 |s=>exact .s
 |n=>exact .n
 |b=>exact .b
 |t a b c e=>exact .t a b e
 |l a b c e=>exact .l a b e
def bG.le {k:Nat}{d:Dt}(h:bG H k q d)(a:k<=m):bG H m q d:=by
 let⟨j,rfl⟩:=Nat.exists_eq_add_of_le a;clear a
 induction j with
 |zero=>exact h
 |succ j b=>exact b.up
section
variable {X:Cx}{pins:List (Zt×Obj)}{σ:St}{H:Hp}{s:Zv}
def vf (n:Int)(t a:Tok):SeqAt.EqAt A s (.int n t) (.int n a) true:=by
 have:=SeqAt.EqAt.int_int (A:=A) (s:=s) n t n a
 cbv
def vg (x:Str)(t a:Tok):SeqAt.EqAt A s (.str x t) (.str x a) true:=by
 have:=SeqAt.EqAt.str_str (A:=A) (s:=s) x t x a
 cbv
def W8 (I:Inv X pins σ H s):∀(k:Nat) (A:Around) (v z:V) (u B:Zu) (d:Dt),A.units+ k<cLine->bG H k v d->bG H k z d->RelV v u->RelV z B->SeqAt.EqAt A s u B true:=by
 intro k
 induction k with
 |zero=>
  intro A v z u B d U h m r g
  cases h with
  | @i n=>cases m with|i=>?_
          let⟨t,rfl⟩:=r;let⟨E,rfl⟩:=g;rwa[vf^_]
  | @s l=>cases m with|s=>?_
          let⟨t,rfl⟩:=r;let⟨E,rfl⟩:=g;rwa[vg^_]
  |n=>cases m with|n=>?_
      ext r;ext g;rwa[SeqAt.EqAt.same _]
  | @b c=>cases m with|b=>?_
          ext r;ext g;rwa[SeqAt.EqAt.same _]
 |succ k ih=>
  intro A v z u B d U h m r g
  cases h with
  | @i _ n=>cases m with|i=>?_
            let⟨t,rfl⟩:=r;let⟨E,rfl⟩:=g;rwa[vf^_]
  | @s _ l=>cases m with|s=>?_
            let⟨t,rfl⟩:=r;let⟨E,rfl⟩:=g;rwa[vg^_]
  |n=>cases m with|n=>?_
      ext r;ext g;rwa[SeqAt.EqAt.same _]
  | @b _ c=>cases m with|b=>?_
            ext r;ext g;rwa[SeqAt.EqAt.same _]
  | @t _ a w x G R W=>
    cases m with
    | @t _ b o _ M S g3=>
      ext r;ext g;cases e:a=b
      ·subst e;rwa[SeqAt.EqAt.same _]
      ·rwa[SeqAt.EqAt.of_refs e ?_];let⟨p,q,L,_⟩:=I.tuple (bz.of G);let⟨f,y,D,_⟩:=I.tuple (bz.of M);let l1:=⇑q;let l2:=⇑y;have:=SeqAt.RcAt.tuples (A:=A) (e:=λ_=>true) (show s.heap.IsTuple a p.toArray from L) (show s.heap.IsTuple b f.toArray from D) ∅ (λj F N=>?_)
       ·cbv
       ·let O:j<⇑p:=by simpa using F
        let Y:j<⇑f:=by simpa using N
        let J:w[j]?\(w[j]'∅):=ajg ∅
        let C:o[j]?\(o[j]'∅):=ajg ∅
        let Q:x[j]?\(x[j]'∅):=ajg ∅
        let⟨P,Z,z1⟩:=q.get J;let⟨w2,T,z2⟩:=y.get C
        cbv
  | @l _ a w x G R W=>
    cases m with
    | @l _ b o _ M S g3=>
      ext r;ext g;cases e:a=b
      ·subst e;rwa[SeqAt.EqAt.same _]
      ·rwa[SeqAt.EqAt.of_refs e ?_];let⟨p,q,L,_⟩:=I.list (aI.of G);let⟨f,y,D,_⟩:=I.list (aI.of M);let l1:=⇑q;let l2:=⇑y;have:=SeqAt.RcAt.lists (A:=A) (e:=λ_=>true) L.isList D.isList (by simp;omega) ∅ (λj F N=>?_)
       ·rw[all_true _ _ λ_=>rfl]at this;rwa[this]
       ·let O:j<⇑p:=by simpa using F
        let Y:j<⇑f:=by simpa using N
        let J:w[j]?\(w[j]'∅):=ajg ∅
        let C:o[j]?\(o[j]'∅):=ajg ∅
        let Q:x[j]?\(x[j]'∅):=ajg ∅
        let⟨P,Z,z1⟩:=q.get J;let⟨w2,T,z2⟩:=y.get C
        cbv
end
section
variable {X:Cx}
def BO (I:Inv X o D H s){k:Nat}{A:Around}(t:A.units+ k<cLine){e c:Zb}{b a:Zl}{ds:Zg}(h:Vals e b)(l:Vals c a)(E:⇑e=⇑ds)(F:⇑c=⇑ds)
 (u:∀(j:Nat) (v:V) (d:Dt),e[j]?\v->ds[j]?\d->bG H k v d) (C:∀(j:Nat) (v:V) (d:Dt),c[j]?\v->ds[j]?\d->bG H k v d) (j:Nat) (q:j<b.toArray.size) (B:j<a.toArray.size):SeqAt.EqAt A s b.toArray[j] a.toArray[j] true:=by
 let G:=⇑h;let J:=⇑l;let m:j<⇑b:=by simpa using q
 let x:j<⇑a:=by simpa using B
 let i:e[j]?\(e[j]'∅):=ajg ∅
 let f:c[j]?\(c[j]'∅):=ajg ∅
 let g:ds[j]?\(ds[j]'∅):=ajg ∅
 let⟨n,y,z1⟩:=h.get i;let⟨z,r,z2⟩:=l.get f;let p:b.toArray[j]=n:=by rw[List.getElem_toArray];rwa[Za0 ((ajg m).symm.trans y)]
 let w:a.toArray[j]=z:=by rw[List.getElem_toArray];rwa[Za0 ((ajg x).symm.trans r)]
 rw[p,w];rwa[W8 I k _ _ _ _ _ _ t (u j _ _ i g) (C j _ _ f g) z1 z2]
inductive W9 (x:V) (y:V) (H:Hp) (Q:VK):Prop
 |mk (d:Dt) (a b:Zt):x=↑a->y=↑b->bG H 8 x d->bG H 8 y d->Q (.bl true) H->W9 x y H Q
inductive Om (x:V) (y:V) (H:Hp) (Q:VK):Prop
 |mk (d:Dt) (a b:Zt):x=↑a->y=↑b->bG H 8 x d->bG H 8 y d->Q (.bl false) H->Om x y H Q
def Fg (M:X.A.units+ 8<cLine):gf X (compareOp .NotEq) Om:=by
 intro E s N H x y v u Q I F G h;let⟨d,a,b,rfl,rfl,h,D,q⟩:=h;ext F;ext G
 cases h with
 |t r i A=>
  cases D with
  |t z n C=>
   let⟨o,c,w,_⟩:=I.tuple (bz.of r);let⟨g,f,m,_⟩:=I.tuple (bz.of z);let J:=⇑c;let L:=⇑f;rwa[SeqAt.RcNeAt.tuples (e:=λ_=>true) (show s.heap.IsTuple a _ from w) (show s.heap.IsTuple b _ from m) ∅ (λj p B=>BO I (k:=7) ∅ c f i n A C j p B) X.prog X.w X.xe _ ⟨.bl false,H,I,5,q⟩];show _=Value.bool false
   cbv
 |l r i A=>
  cases D with
  |l z n C=>
   let⟨o,c,w,_⟩:=I.list (aI.of r);let⟨g,f,m,_⟩:=I.list (aI.of z);let J:=⇑c;let L:=⇑f;rwa[SeqAt.RcNeAt.lists (e:=λ_=>true) w.isList m.isList (by simp;omega) ∅ (λj p B=>BO I (k:=7) ∅ c f i n A C j p B) X.prog X.w X.xe _ ⟨.bl false,H,I,5,q⟩];show _=Value.bool false;rw[all_true _ _ λ_=>rfl];rfl
end
noncomputable def nI (l:Zi):Zh:=l.map λn:Nat=>(n:Int)
def bW (l:Zi):⇑(nI l)=⇑l:=ajk ..
def j0 (h:B[i]?\n):(nI B)[i]?\(n:Int):=by unfold nI;rw[ajq,h];rfl
def jc (a b:Zi):nI (a++b)=nI a++nI b:=ajT ..
def Td (l:Zi)(i n:Nat):(nI l).set i (n:Int)=nI (l.set i n):=by unfold nI;rw[List.map_set]
structure RS where
 L:Nat
 q:Nat
 rows:Zg
 ways:List (List (Int×Nat))
 gaps:Za3
 aX:Zi
 called:List Zi
 a9:Zi
def wK (l:List (Int×Nat)):List (Key×V):=l.map λp=>(Sum.inl p.1,V.int p.2)
noncomputable def gK (l:Zh):List (Key×V):=l.map λs=>(Sum.inl s,V.bl true)
noncomputable def fE (l:List (Int×Nat))(s:Int):Zj:=(l.find? λp=>decide (p.1=s)).map (·.2)
noncomputable def j2 (l:List (Int×Nat))(s:Int)(r:Nat):List (Int×Nat):=if (l.any λp=>decide (p.1=s))=true then l.map λp=>if p.1=s then (p.1,r) else p else l++[(s,r)]
def BP (l:List (Int×Nat)):⇑(wK l)=⇑l:=ajk ..
def Te (l:Zh):⇑(gK l)=⇑l:=ajk ..
def Tf (a b:Int):decide ((Sum.inl a:Key)=Sum.inl b)=decide (a=b):=by
 rw[ak0,akn,akn];rwa[Sum.inl.inj,akm Sum.inl]
theorem lK (s:Int):∀l:List (Int×Nat),bB (wK l) (Sum.inl s)=(fE l s).map λr:Nat=>V.int (r:Int)
 |[]=>rfl
 |p::l=>by
  let b:=lK s l;cases h:p.1=s
  ·let e:bB (wK (p::l)) (Sum.inl s)\(V.int p.2):=cS (p:=(Sum.inl p.1,V.int p.2)) (by rw[h]);let a:fE (p::l) s\p.2:=by unfold fE;rw[ams (by cbv)];rfl
   rw[e,a];rfl
  ·let e:bB (wK (p::l)) (Sum.inl s)=bB (wK l) (Sum.inl s):=cM (p:=(Sum.inl p.1,V.int p.2)) (λz=>h (Sum.inl.inj z));let a:fE (p::l) s=fE l s:=by unfold fE;rw[alO (by simpa using h)]
   rw[e,a,b]
def BQ (l:List (Int×Nat))(s:Int)(r:Nat):putK (wK l) (Sum.inl s) (.int r)=wK (j2 l s r):=by
 unfold putK j2
 let a:((wK l).any λb=>decide (b.1=Sum.inl s))=l.any λp=>decide (p.1=s):=by
  unfold wK;rw[List.any_map]
  congr 1
  funext p
  rwa[Tf _ _]
 rw[a];split
 ·unfold wK;rw[aj8,aj8];rwa[ale λp _=>?_]
  cbv
 ·unfold wK;rw[ajT];rfl
def L3 (l:List (Int×Nat))(s t:Int)(r:Nat):fE (j2 l s r) t=if t=s then some r else fE l t:=by
 let c:=lK t (j2 l s r);rw[<-BQ,qC,lK]at c
 let inj:∀a b:Zj,(a.map λr:Nat=>V.int (r:Int))=(b.map λr:Nat=>V.int (r:Int))->a=b:=λa b h=>by
  cases a <;> cases b <;> simp at h ⊢
  ext
 apply inj;rw[<-c];cases e:t=s
 ·rw[ajD e,ajD (by rw[e])];rfl
 ·rw[ajw e,ajw (λz=>e (Sum.inl.inj z))]
def L4 (l:List (Int×Nat))(s:Int)(r:Nat):⇑(j2 l s r)<=⇑l+ 1:=by
 unfold j2;split
 ·rw[ajk];ext
 ·rw[ajh];rwa[ajp _]
def Qs (l:Zh)(s:Int):dC (gK l) (Sum.inl s)=gK (l.filter λx=>decide (x≠s)):=by
 unfold dC gK;rw[List.filter_map]
 congr 1
 rwa[amy λx _=>?_]
 cbv
theorem IX (s:Int):∀l:Zh,bB (gK l) (Sum.inl s)=if s∈l then some (V.bl true) else none
 |[]=>rfl
 |x::l=>by
  cases h:x=s
  ·rw[ajD (by cbv)];rwa[cS (p:=(Sum.inl x,V.bl true)) (by rw[h])]
  ·let e:bB (gK (x::l)) (Sum.inl s)=bB (gK l) (Sum.inl s):=cM (p:=(Sum.inl x,V.bl true)) (λz=>h (Sum.inl.inj z));rw[e,IX s l]
   cbv
theorem zF:∀(more acc:List (Key×V)),((acc++more).map (·.1)).Nodup->iA acc more=acc++more
 |[],acc,_=>(ajQ _).symm
 |p::more,acc,h=>by
  let b:bB acc p.1=none:=by
   unfold bB;rw[List.find?_eq_none.mpr ?_];rfl;intro q a;rw[akn];intro e;rw[ajT,aj4]at h;rwa[h.2.2 q.1 (akV a) p.1 (akV ajA) e]
  show iA (putK acc p.1 p.2) more=_;rw[BD _ b,zF more (acc++[(p.1,p.2)]) ([ajZ]▸h),ajZ];rfl
structure RA where
 dx:Zt
 aR:Zt
 aW:Zt
 aG:Zt
 aE:Zt
 aC:Zt
 aN:Zt
 rs:Zo
 ws:Zo
 gs:Zo
 cs:Zo
noncomputable def fU (L made:Int)(a:RA):List (Str×V):=[("letters",.int L),("made",.int made),("rows",↑a.aR),("ways",↑a.aW),("gaps",↑a.aG),("elders",↑a.aE),("called",↑a.aC),("went",↑a.aN)]
def IY (L m n:Int)(a:RA):bH "made" (.int n) (fU L m a)=fU L n a:=by
 let h:¬(("letters":Str)="made"):=⋯
 unfold fU;simp only[bH,ajw h,amF]
def xk (L m:Int)(a:RA):(fU L m a).lookup ("letters":Str)\(.int L):=by kernel_rfl
def uq (L m:Int)(a:RA):(fU L m a).lookup ("made":Str)\(.int m):=by kernel_rfl
def ur (L m:Int)(a:RA):(fU L m a).lookup ("rows":Str)\↑a.aR:=by kernel_rfl
def iO (L m:Int)(a:RA):(fU L m a).lookup ("ways":Str)\↑a.aW:=by kernel_rfl
def uv (L m:Int)(a:RA):(fU L m a).lookup ("gaps":Str)\↑a.aG:=by kernel_rfl
def jK (L m:Int)(a:RA):(fU L m a).lookup ("elders":Str)\↑a.aE:=by kernel_rfl
def oR (L m:Int)(a:RA):(fU L m a).lookup ("called":Str)\↑a.aC:=by kernel_rfl
def uw (L m:Int)(a:RA):(fU L m a).lookup ("went":Str)\↑a.aN:=by kernel_rfl
def cL (L m:Int)(a:RA){x:Str}(h:x∉(["letters","made","rows","ways","gaps","elders","called","went"]:Zq)):(fU L m a).lookup x=none:=by
 simp only[ajE,akc,alR,not_or]at h;let⟨f,d,i,e,g,b,j,c⟩:=h;unfold fU;simp only[List.lookup,ajH.mpr f,ajH.mpr d,ajH.mpr i,ajH.mpr e,ajH.mpr g,ajH.mpr b,ajH.mpr j,ajH.mpr c]
theorem cU:∀{fs:List (Str×V)},fs.lookup f=none->bH f q fs=fs++[(f,q)]
 |[],_=>rfl
 |(g,x)::r,h=>by
  cases e:g=f
  ·cbv
  ·let a:(f==g)=false:=ajH.mpr (akB e);simp only[List.lookup,a]at h;show (if g=f then _ else _)=_;rw[ajw e,cU h];rfl
inductive nh:Dt->Prop where
 |i {n:Int}:nh (.i n)
 |s {l:Zi}:nh (.s l)
 |t {ds:Zg}:⇑ds<=100000->(∀d∈ds,nh d)->nh (.t ds)
def bG.gj (q:∀a g,H a\.tup g->I a\.tup g){k:Nat}{v:V}{d:Dt}(h:bG H k v d)(m:nh d):bG I k v d:=by
 induction h with
 |i=>exact .i
 |s=>exact .s
 |n=>exact .n
 |b=>exact .b
 |t a b c e=>
  cases m with
  |t _ o=>exact .t (q^a) b λj v d p f=>e j v d p f (o d (ajj f))
 |l a b c e=>ext m
def Each {a:Type}(R:Zt->a->Prop)(b:Zo)(xs:List a):Prop:=⇑b=⇑xs/\∀(i:Nat) (p:Zt) (x:a),b[i]?\p->xs[i]?\x->R p x
def Each.imp {e:Type}{R c:Zt->e->Prop}{a:List e}(h:Each R F a)(f:∀p x,p∈F->x∈a->R p x->c p x):Each c F a:=
 ⟨h.1,λi p x d b=>f p x (ajj d) (ajj b) (h.2 i p x d b)⟩
def Each.snoc {d:Type}{R:Zt->d->Prop}{ps:Zo}{xs:List d}{x:d}(h:Each R ps xs)(f:R a x):Each R (ps++[a]) (xs++[x]):=by
 rwa[⟨by rw[ajh,ajh,h.1];rfl,λi q y c b=>?_⟩];cases e:i<⇑ps
 ·rw[ajs e]at c;rw[ajs (by rw[<-h.1];rwa[e])]at b;rwa[h.2 i q y c b]
 ·rw[ajv ∅]at c;rw[ajv (by rw[<-h.1];omega)]at b;rw[ajn.mp (ajj c),ajn.mp (ajj b)];rwa[f]
def Each.at {a:Type}{R:Zt->a->Prop}{b:List a}(h:Each R F b){i:Nat}{x:a}(d:b[i]?\x):∃p,F[i]?\p/\R p x:=by
 let c:i<⇑F:=by rw[h.1];rwa[(aji.mp d).1]
 rwa[_,ajg c,h.2 i _ x (ajg c) d]
def Each.mem {b:Type}{R:Zt->b->Prop}{xs:List b}(h:Each R F xs){p:Zt}(d:p∈F):∃x,x∈xs/\R p x:=by
 let⟨i,c⟩:=aj9 d;let a:i<⇑xs:=by rw[<-h.1];rwa[(aji.mp c).1]
 rwa[_,ajj (ajg a),h.2 i p _ c (ajg a)]
theorem Each.set {g:Type}{R k:Zt->g->Prop}{xs:List g}{x:g}(h:Each R F xs)(d:F[i]?\a)(m:k a x)(n:F.Nodup)(f:∀q y,q∈F->q≠a->R q y->k q y):Each k F (xs.set i x):=by
 rwa[⟨[ajJ]▸h.1,λj q y b c=>?_⟩];cases e:i=j
 ·subst e;rw[d]at b;obtain rfl:=Za0 b;let l:i<⇑xs:=by rw[<-h.1];rwa[(aji.mp d).1]
  rw[ajV l]at c;obtain rfl:=Za0 c;rwa[m]
 ·rw[ake e]at c;rwa[f q y (ajj b) (λz=>?_) (h.2 j q y b c)];subst z;rwa[e ((List.getElem?_inj (aji.mp d).1 n).mp (d.trans b.symm))]
noncomputable def RA.lists (a:RA):Zo:=a.aR::a.aW::a.aG::a.aE::a.aC::a.aN::a.cs
noncomputable def RA.eM (a:RA):Zo:=a.ws++a.gs
def RA.own (a:RA)(r b:Zt):Prop:=b=r\/b∈a.lists\/b∈a.eM
structure ay (C:Zt) (H:Hp) (r:Zt) (S:RS) (a:RA):Prop where
 ins:H r\(.ins C a.dx (fU S.L S.q a))
 hR:H a.aR\(.lst (a.rs.map V.ref))
 hW:H a.aW\(.lst (a.ws.map V.ref))
 hG:H a.aG\(.lst (a.gs.map V.ref))
 hE:H a.aE\(.lst (au (nI S.aX)))
 hC:H a.aC\(.lst (a.cs.map V.ref))
 hN:H a.aN\(.lst (au (nI S.a9)))
 rR:Each (λp d=>bG H 4 ↑p d) a.rs S.rows
 rW:Each (λp l=>H p\.dK (wK l)) a.ws S.ways
 rG:Each (λp l=>H p\.dK (gK l)) a.gs S.gaps
 rC:Each (λp l=>H p\.lst (au (nI l))) a.cs S.called
 flat:∀d∈S.rows,nh d
 i3:a.lists.Nodup
 ni:a.eM.Nodup
section
variable {C:Zt}{H H':Hp}{r:Zt}{S:RS}{a:RA}
def ay.keep (h:ay C H r S a)(k:∀b o,a.own r b->H b\o->H' b\o)(j:∀b g,H b\.tup g->H' b\.tup g):ay C H' r S a:=by
 let c:∀b o,b∈a.lists->H b\o->H' b\o:=λb o f=>k b o (.inr (.inl f))
 let i:∀b o,b∈a.eM->H b\o->H' b\o:=λb o f=>k b o (.inr (.inr f))
 rwa[k _ _ (.inl rfl) h.ins,c _ _ (by simp[RA.lists]) h.hR,c _ _ (by simp[RA.lists]) h.hW,c _ _ (by simp[RA.lists]) h.hG,c _ _ (by simp[RA.lists]) h.hE,c _ _ (by simp[RA.lists]) h.hC,c _ _ (by simp[RA.lists]) h.hN,h.rR.imp λp x _ l e=>e.gj j (h.flat x l),h.rW.imp λp x d _ e=>i _ _ (ajG _ d) e,h.rG.imp λp x d _ e=>i _ _ (ajo _ d) e,h.rC.imp λp x d _ e=>c _ _ (by simp[RA.lists,d]) e,h.flat,h.i3,h.ni]
def ay.same (h:ay C H r S a)(s:ao H H'):ay C H' r S a:=h.keep (λ_ _ _ e=>s^e) (λ_ _ e=>s^e)
def ay.there (h:ay C H r S a){b:Zt}(c:a.own r b):∃o,H b\o:=by
 rcases c with rfl|c|c
 ·rwa[⟨_,h.ins⟩]
 ·unfold RA.lists at c;simp only[ajE]at c;rcases c with rfl|rfl|rfl|rfl|rfl|rfl|c
  ·rwa[⟨_,h.hR⟩]
  ·rwa[⟨_,h.hW⟩]
  ·rwa[⟨_,h.hG⟩]
  ·rwa[⟨_,h.hE⟩]
  ·rwa[⟨_,h.hC⟩]
  ·rwa[⟨_,h.hN⟩]
  ·let⟨x,_,e⟩:=h.rC.mem c;rwa[_,e]
 ·rcases ajr.mp c with c|c
  ·let⟨x,_,e⟩:=h.rW.mem c;rwa[_,e]
  ·let⟨x,_,e⟩:=h.rG.mem c;rwa[_,e]
def ay.ux (h:ay C H r S a){b:Zt}{f:Zb}(e:H b\.tup f):¬a.own r b:=λc=>by
 rcases c with rfl|c|c
 ·rw[h.ins]at e;ext e
 ·unfold RA.lists at c;simp only[ajE]at c;rcases c with rfl|rfl|rfl|rfl|rfl|rfl|c
  ·rw[h.hR]at e;ext e
  ·rw[h.hW]at e;ext e
  ·rw[h.hG]at e;ext e
  ·rw[h.hE]at e;ext e
  ·rw[h.hC]at e;ext e
  ·rw[h.hN]at e;ext e
  ·let⟨x,_,d⟩:=h.rC.mem c;cbv
 ·rcases ajr.mp c with c|c
  ·let⟨x,_,d⟩:=h.rW.mem c;cbv
  ·let⟨x,_,d⟩:=h.rG.mem c;cbv
end
end L2
variable {S T:L2.RS}{O:L2.RA}
namespace L2
open PySem PySem.Spec PyProof.Rows
section
variable {C:Zt}{H:Hp}{r:Zt}{S:RS}{a:RA}
def gk:a.aR∈a.lists:=by simp[RA.lists]
def gn:a.aW∈a.lists:=by simp[RA.lists]
def jm:a.aG∈a.lists:=by simp[RA.lists]
def gQ:a.aE∈a.lists:=by simp[RA.lists]
def iP:a.aC∈a.lists:=by simp[RA.lists]
def ic:a.aN∈a.lists:=by simp[RA.lists]
def gy (h:b∈a.cs):b∈a.lists:=by simp[RA.lists,h]
def dD (h:b∈a.ws):b∈a.eM:=ajG _ h
def gA (h:b∈a.gs):b∈a.eM:=ajo _ h
def ay.Oo (h:ay C H r S a){b:Zt}(c:b∈a.lists):∃d,H b\(.lst d):=by
 unfold RA.lists at c;simp only[ajE]at c;rcases c with rfl|rfl|rfl|rfl|rfl|rfl|c
 ·rwa[⟨_,h.hR⟩]
 ·rwa[⟨_,h.hW⟩]
 ·rwa[⟨_,h.hG⟩]
 ·rwa[⟨_,h.hE⟩]
 ·rwa[⟨_,h.hC⟩]
 ·rwa[⟨_,h.hN⟩]
 ·let⟨x,_,e⟩:=h.rC.mem c;rwa[_,e]
def ay.rF (h:ay C H r S a){b:Zt}(c:b∈a.eM):∃d,H b\(.dK d):=by
 rcases ajr.mp c with c|c
 ·let⟨x,_,e⟩:=h.rW.mem c;rwa[_,e]
 ·let⟨x,_,e⟩:=h.rG.mem c;rwa[_,e]
def ay.rl (h:ay C H r S a){b:Zt}(c:b∈a.lists):r≠b:=by let⟨d,e⟩:=h.Oo c;rwa[bN h.ins e (by cbv)]
def ay.rd (h:ay C H r S a){b:Zt}(c:b∈a.eM):r≠b:=by let⟨d,e⟩:=h.rF c;rwa[bN h.ins e (by cbv)]
def ay.ld (h:ay C H r S a){b c:Zt}(d:b∈a.lists)(hc:c∈a.eM):b≠c:=by
 let⟨f,e⟩:=h.Oo d;let⟨ys,g⟩:=h.rF hc
 cbv
def ay.tl (h:ay C H r S a){b c:Zt}{d:Zb}(e:H b\.tup d)(hc:c∈a.lists):b≠c:=λz=>h.ux e (.inr (.inl ([z]▸hc)))
def ay.td (h:ay C H r S a){b c:Zt}{d:Zb}(e:H b\.tup d)(hc:c∈a.eM):b≠c:=λz=>h.ux e (.inr (.inr ([z]▸hc)))
def ay.tr (h:ay C H r S a){b:Zt}{c:Zb}(d:H b\.tup c):b≠r:=λz=>h.ux d (.inl z)
def ay.Qt (h:ay C H r S a)(n:Nat):ay C (upd H r (.ins C a.dx (fU S.L n a))) r { S with q:=n } a:=by
 let c:∀b o,b∈a.lists->H b\o->upd H r (.ins C a.dx (fU S.L n a)) b\o:=λb o f e=>by rw[ai (h.rl f).symm];rwa[e]
 let g:∀b o,b∈a.eM->H b\o->upd H r (.ins C a.dx (fU S.L n a)) b\o:=λb o f e=>by rw[ai (h.rd f).symm];rwa[e]
 rwa[aj,c _ _ gk h.hR,c _ _ gn h.hW,c _ _ jm h.hG,c _ _ gQ h.hE,c _ _ iP h.hC,c _ _ ic h.hN,h.rR.imp λp x _ j e=>e.gj (λb k i=>[ai (h.tr i)]▸i) (h.flat x j),h.rW.imp λp x d _ e=>g _ _ (dD d) e,h.rG.imp λp x d _ e=>g _ _ (gA d) e,h.rC.imp λp x d _ e=>c _ _ (gy d) e,h.flat,h.i3,h.ni]
def ay.jL (h:ay C H r S a){q:Zt}{o:HO}(c:q∈a.lists):upd H q o r\.ins C a.dx (fU S.L S.q a)/\(∀b x,b∈a.lists->b≠q->H b\x->upd H q o b\x)/\(∀b x,b∈a.eM->H b\x->upd H q o b\x)/\∀b d,H b\.tup d->upd H q o b\(.tup d):=
 ⟨[ai (h.rl c)]▸h.ins,λb x _ n e=>[ai n]▸e,λb x f e=>[ai (h.ld c f).symm]▸e,λb d e=>[ai (h.tl e c)]▸e⟩
def rH (b:a.lists.Nodup):(a.aR≠a.aW/\a.aR≠a.aG/\a.aR≠a.aE/\a.aR≠a.aC/\a.aR≠a.aN)/\(a.aW≠a.aG/\a.aW≠a.aE/\a.aW≠a.aC/\a.aW≠a.aN)/\(a.aG≠a.aE/\a.aG≠a.aC/\a.aG≠a.aN)/\(a.aE≠a.aC/\a.aE≠a.aN)/\a.aC≠a.aN/\∀p∈a.cs,p≠a.aR/\p≠a.aW/\p≠a.aG/\p≠a.aE/\p≠a.aC/\p≠a.aN:=by
 unfold RA.lists at b
 cbv
def ay.BR (h:ay C H r S a){p:Zt}{d:Dt}(j:bG H 4 ↑p d)(hd:nh d):ay C (upd H a.aR (.lst (a.rs.map V.ref++[↑p]))) r { S with rows:=S.rows++[d] } { a with rs:=a.rs++[p] }:=by
 let⟨m,c,i,g⟩:=h.jL (o:=.lst (a.rs.map V.ref++[↑p])) (gk (a:=a));obtain⟨⟨n1,n2,n,s,k⟩,-,-,-,-,l⟩:=rH h.i3
 rwa[⟨m,5,c _ _ gn n1.symm h.hW,c _ _ jm n2.symm h.hG,c _ _ gQ n.symm h.hE,c _ _ iP s.symm h.hC,c _ _ ic k.symm h.hN,(h.rR.imp λq x _ f e=>e.gj g (h.flat x f)).snoc (j.gj g hd),h.rW.imp λq x b _ e=>i _ _ (dD b) e,h.rG.imp λq x b _ e=>i _ _ (gA b) e,h.rC.imp λq x b _ e=>c _ _ (gy b) (l q b).1 e,λx f=>?_,h.i3,h.ni⟩]
 ·rw[aj,ajT];rfl
 ·rcases ajr.mp f with f|f
  ·rwa[h.flat x f]
  cbv
def ay.Tg (h:ay C H r S a){p:Zt}{l:List (Int×Nat)}(g:H p\.dK (wK l))(t:p∉a.eM):ay C (upd H a.aW (.lst (a.ws.map V.ref++[↑p]))) r { S with ways:=S.ways++[l] } { a with ws:=a.ws++[p] }:=by
 let⟨j,c,f,n⟩:=h.jL (o:=.lst (a.ws.map V.ref++[↑p])) (gn (a:=a));obtain⟨⟨n1,-⟩,⟨n2,k,m,i⟩,-,-,-,u⟩:=rH h.i3;let d:upd H a.aW (.lst (a.ws.map V.ref++[↑p])) p\(.dK (wK l)):=by rw[ai (bN g h.hW f!"")];rwa[g]
 erw[j,c _ _ gk n1 h.hR,5,c _ _ jm n2.symm h.hG,c _ _ gQ k.symm h.hE,c _ _ iP m.symm h.hC,c _ _ ic i.symm h.hN,h.rR.imp λq x _ s e=>e.gj n (h.flat x s),(h.rW.imp λq x b _ e=>f _ _ (dD b) e).snoc d,h.rG.imp λq x b _ e=>f _ _ (gA b) e,h.rC.imp λq x b _ e=>c _ _ (gy b) (u q b).2.1 e,h.flat,h.i3]
 ·show upd H a.aW _ a.aW\.lst ((a.ws++[p]).map V.ref);rw[aj,ajT];rfl
 ·show (a.ws++[p]++a.gs).Nodup;rw[ajZ];rwa[(List.perm_middle.nodup_iff).mpr (ajX.mpr ⟨t,h.ni⟩)]
def ay.Ti (h:ay C H r S a){p:Zt}{l:Zh}(i:H p\.dK (gK l))(u:p∉a.eM):ay C (upd H a.aG (.lst (a.gs.map V.ref++[↑p]))) r { S with gaps:=S.gaps++[l] } { a with gs:=a.gs++[p] }:=by
 let⟨k,c,g,s⟩:=h.jL (o:=.lst (a.gs.map V.ref++[↑p])) (jm (a:=a));obtain⟨⟨-,n1,-⟩,⟨n2,-⟩,⟨m,n,j⟩,-,-,v⟩:=rH h.i3;let d:upd H a.aG (.lst (a.gs.map V.ref++[↑p])) p\(.dK (gK l)):=by rw[ai (bN i h.hG (by cbv))];rwa[i]
 erw[k,c _ _ gk n1 h.hR,c _ _ gn n2 h.hW,5,c _ _ gQ m.symm h.hE,c _ _ iP n.symm h.hC,c _ _ ic j.symm h.hN,h.rR.imp λq x _ f e=>e.gj s (h.flat x f),h.rW.imp λq x b _ e=>g _ _ (dD b) e,(h.rG.imp λq x b _ e=>g _ _ (gA b) e).snoc d,h.rC.imp λq x b _ e=>c _ _ (gy b) (v q b).2.2.1 e,h.flat,h.i3]
 ·rw[aj,ajT];rfl
 ·show (a.ws++(a.gs++[p])).Nodup;rw[<-ajZ];rwa[aj4.mpr ⟨h.ni,by simp,λx f y t z=>?_⟩];rw[ajn.mp t]at z;rwa[u (z ▸ f)]
def ay.zG (h:ay C H r S a)(d:Zi):ay C (upd H a.aE (.lst (au (nI d)))) r { S with aX:=d } a:=by
 let⟨k,c,f,g⟩:=h.jL (o:=.lst (au (nI d))) (gQ (a:=a));obtain⟨⟨-,-,n1,-⟩,⟨-,n2,-⟩,⟨l,-⟩,⟨n,i⟩,-,j⟩:=rH h.i3
 rwa[k,c _ _ gk n1 h.hR,c _ _ gn n2 h.hW,c _ _ jm l h.hG,aj,c _ _ iP n.symm h.hC,c _ _ ic i.symm h.hN,h.rR.imp λq x _ m e=>e.gj g (h.flat x m),h.rW.imp λq x b _ e=>f _ _ (dD b) e,h.rG.imp λq x b _ e=>f _ _ (gA b) e,h.rC.imp λq x b _ e=>c _ _ (gy b) (j q b).2.2.2.1 e,h.flat,h.i3,h.ni]
def ay.Qu (h:ay C H r S a)(d:Zi):ay C (upd H a.aN (.lst (au (nI d)))) r { S with a9:=d } a:=by
 let⟨k,c,f,g⟩:=h.jL (o:=.lst (au (nI d))) (ic (a:=a));obtain⟨⟨-,-,-,-,n1⟩,⟨-,-,-,n2⟩,⟨-,-,l⟩,⟨-,n⟩,i,j⟩:=rH h.i3
 rwa[k,c _ _ gk n1 h.hR,c _ _ gn n2 h.hW,c _ _ jm l h.hG,c _ _ gQ n h.hE,c _ _ iP i h.hC,aj,h.rR.imp λq x _ m e=>e.gj g (h.flat x m),h.rW.imp λq x b _ e=>f _ _ (dD b) e,h.rG.imp λq x b _ e=>f _ _ (gA b) e,h.rC.imp λq x b _ e=>c _ _ (gy b) (j q b).2.2.2.2.2 e,h.flat,h.i3,h.ni]
def ay.IZ (h:ay C H r S a){p:Zt}{l:Zi}(u:H p\.lst (au (nI l)))(j:p∉a.lists):ay C (upd H a.aC (.lst (a.cs.map V.ref++[↑p]))) r { S with called:=S.called++[l] } { a with cs:=a.cs++[p] }:=by
 let⟨m,c,i,t⟩:=h.jL (o:=.lst (a.cs.map V.ref++[↑p])) (iP (a:=a));obtain⟨⟨-,-,-,n1,-⟩,⟨-,-,n2,-⟩,⟨-,n,-⟩,⟨s,-⟩,k,w⟩:=rH h.i3;let f:p≠a.aC:=λz=>j ([z]▸iP)
 let d:upd H a.aC (.lst (a.cs.map V.ref++[↑p])) p\(.lst (au (nI l))):=by rw[ai f];rwa[u]
 rwa[⟨m,c _ _ gk n1 h.hR,c _ _ gn n2 h.hW,c _ _ jm n h.hG,c _ _ gQ s h.hE,5,c _ _ ic k.symm h.hN,h.rR.imp λq x _ g e=>e.gj t (h.flat x g),h.rW.imp λq x b _ e=>i _ _ (dD b) e,h.rG.imp λq x b _ e=>i _ _ (gA b) e,(h.rC.imp λq x b _ e=>c _ _ (gy b) (w q b).2.2.2.2.1 e).snoc d,h.flat,5,h.ni⟩]
 ·show upd H a.aC _ a.aC\.lst ((a.cs++[p]).map V.ref);rw[aj,ajT];rfl
 ·show (a.lists++[p]).Nodup;rwa[aj4.mpr ⟨h.i3,by simp,λx g y v z=>?_⟩];rw[ajn.mp v]at z;rwa[j (z ▸ g)]
def ay.I0 (h:ay C H r S a){i:Nat}{p:Zt}(g:a.cs[i]?\p)(l:Zi):ay C (upd H p (.lst (au (nI l)))) r { S with called:=S.called.set i l } a:=by
 let j:=ajj g;let⟨m,b,f,u⟩:=h.jL (o:=.lst (au (nI l))) (gy j);obtain⟨-,-,-,-,-,z⟩:=rH h.i3;let⟨n1,n2,s,t,k,v⟩:=z p j
 let d:a.cs.Nodup:=by
  have:=h.i3;unfold RA.lists at this;simp only[ajX]at this;rwa[this.2.2.2.2.2.2]
 rwa[m,b _ _ gk n1.symm h.hR,b _ _ gn n2.symm h.hW,b _ _ jm s.symm h.hG,b _ _ gQ t.symm h.hE,b _ _ iP k.symm h.hC,b _ _ ic v.symm h.hN,h.rR.imp λq x _ w e=>e.gj u (h.flat x w),h.rW.imp λq x c _ e=>f _ _ (dD c) e,h.rG.imp λq x c _ e=>f _ _ (gA c) e,h.rC.set g aj d λq y c n e=>b _ _ (gy c) n e,h.flat,h.i3,h.ni]
def ay.Fh (h:ay C H r S a){q:Zt}{o:HO}(c:q∈a.eM):upd H q o r\.ins C a.dx (fU S.L S.q a)/\(∀b x,b∈a.eM->b≠q->H b\x->upd H q o b\x)/\(∀b x,b∈a.lists->H b\x->upd H q o b\x)/\∀b d,H b\.tup d->upd H q o b\(.tup d):=
 ⟨[ai (h.rd c)]▸h.ins,λb x _ n e=>[ai n]▸e,λb x f e=>[ai (h.ld f c)]▸e,λb d e=>[ai (h.td e c)]▸e⟩
def ay.BU (h:ay C H r S a){i:Nat}{p:Zt}(f:a.ws[i]?\p)(l:List (Int×Nat)):ay C (upd H p (.dK (wK l))) r { S with ways:=S.ways.set i l } a:=by
 let g:=ajj f;let⟨j,d,b,k⟩:=h.Fh (o:=.dK (wK l)) (dD g);let nd:=aj4.mp h.ni
 rwa[j,b _ _ gk h.hR,b _ _ gn h.hW,b _ _ jm h.hG,b _ _ gQ h.hE,b _ _ iP h.hC,b _ _ ic h.hN,h.rR.imp λq x _ m e=>e.gj k (h.flat x m),h.rW.set f aj nd.1 λq y c n e=>d _ _ (dD c) n e,h.rG.imp λq x c _ e=>d _ _ (gA c) (λz=>nd.2.2 p g q c z.symm) e,h.rC.imp λq x c _ e=>b _ _ (gy c) e,h.flat,h.i3,h.ni]
def ay.Tj (h:ay C H r S a){i:Nat}{p:Zt}(f:a.gs[i]?\p)(l:Zh):ay C (upd H p (.dK (gK l))) r { S with gaps:=S.gaps.set i l } a:=by
 let g:=ajj f;let⟨j,d,b,k⟩:=h.Fh (o:=.dK (gK l)) (gA g);let nd:=aj4.mp h.ni
 rwa[j,b _ _ gk h.hR,b _ _ gn h.hW,b _ _ jm h.hG,b _ _ gQ h.hE,b _ _ iP h.hC,b _ _ ic h.hN,h.rR.imp λq x _ m e=>e.gj k (h.flat x m),h.rW.imp λq x c _ e=>d _ _ (dD c) (λz=>nd.2.2 q c p g z) e,h.rG.set f aj nd.2.1 λq y c n e=>d _ _ (gA c) n e,h.rC.imp λq x c _ e=>b _ _ (gy c) e,h.flat,h.i3,h.ni]
end
noncomputable def RS.kL (S:RS)(i:Nat)(l:List (Int×Nat)):RS:={ S with ways:=S.ways.set i l }
noncomputable def RS.setG (S:RS)(i:Nat)(l:Zh):RS:={ S with gaps:=S.gaps.set i l }
noncomputable def RS.way (S:RS)(c:Nat):List (Int×Nat):=S.ways.getD c []
def RS.gap (S:RS)(c:Nat):Zh:=S.gaps.getD c []
def RS.by (S:RS)(c:Nat)(z:Int):Zj:=fE (S.way c) z
def RS.cu (S:RS)(c:Nat)(z:Int)(d:Nat):RS:=S.kL c (j2 (S.way c) z d)
def RS.mF (S:RS)(c:Nat)(z:Int):RS:=S.setG c ((S.gap c).filter λx=>decide (x≠z))
def RS.keep (S:RS)(c:Nat)(z:Int)(d:Nat):RS:=(((S.cu c z d).cu d (-z) c).mF c z).mF d (-z)
noncomputable def j7 (c:Nat)(z:Int)(n:Nat):Dt:=.t [.s [110,101,119],.i c,.i z,.i n]
def RS.grown (S:RS)(c:Nat)(z:Int)(gaps:Zh):RS:={ S with q:=S.q+ 1,rows:=S.rows++[j7 c z S.q],ways:=S.ways++[[]],gaps:=S.gaps++[gaps],aX:=S.aX++[S.q],called:=S.called++[[S.q]] }
def RS.make (S:RS)(c:Nat)(z:Int)(gaps:Zh):RS:=(S.grown c z gaps).keep c z S.q
noncomputable def RS.new (L:Nat)(gaps:Zh):RS:=⟨L,(1),[],[[]],[gaps],[0],[[0]],[]⟩
structure RS.Wf (S:RS):Prop where
 w:⇑S.ways=S.q
 g:⇑S.gaps=S.q
 e:⇑S.aX=S.q
 c:⇑S.called=S.q
section
variable {X:Cx}{e:Expr}{f:Str}{ta:TE}{pos:Pos}
def Qw (a:X.K=K)(b:PE X e ta)(c:attributeBase e f X.env (eval e X.env)=eval e X.env):PE X (.Attribute e f pos) (Sd K ta f):=by
 subst a;rwa[aD b c]
end
def sH {J:It}{Q:VK}(n:Nat)(u:Nat->V)(R:Hp->V->Nat->Prop)(G:∀q b v i,ao q b->R q v i->R b v i)(p:n<=sizeLine)
 (l:∀(i:Nat) b,ao H b->i<n->J.go i b) (C:∀(i:Nat) (x:V) (b d:Hp),ao H b->i<n->J.u0 i b x d->d=b/\x=u i) (g:∀b,ao H b->J.stop n b)
 (E:∀(i:Nat) (b:Hp) (y:VK),i<n->ao H b->(∀v d,ao b d->R d v i->y v d)->r (some (u i)::D) b y)
 (z:∀a b ys,ao H b->b a=none->⇑ys=n->(∀(i:Nat) (v:V),ys[i]?\v->R b v i)->Q ↑a (upd b a (.lst ys))):wZ r D Q J H:=by
 erw[λi m ys b=>m=n - i/\i<=n/\⇑ys=i/\ao H b/\∀(j:Nat) (v:V),ys[j]?\v->R b v j,⟨n,by simp,ajU _,2,λ_ _ e=>e,λj v h=>by simp at h⟩];rintro i m ys b ⟨rfl,M,s,s2,t⟩;cases c:i<n
 ·rwa[.inr ⟨l i b s2 c,3,λx d k=>?_⟩];let⟨rfl,rfl⟩:=C i x b d s2 c k;rwa[E i _ _ c s2 λv L o F=>⟨n - (i+ 1),32,c,by rw[ajh,s];rfl,s2.trans o,λj w f=>?_⟩]
  cases I:j<⇑ys
  ·rw[ajs I]at f;rwa[G _ _ _ _ o (t j w f)]
  ·rw[ajv ∅]at f
   let B:j - ⇑ys=0:=by
    have:=(aji.mp f).1;rw[akb]at this;ext
   rw[B]at f;have:j=i:=∅
   subst this;rw[<-Za0 f];rwa[F]
 ·let e:i=n:=∅
  subst e;rwa[.inl ⟨g b s2,3,λa A=>z a b ys s2 A s t⟩]
theorem yM {P:Nat->Zt->Prop}:∀(ys:Zb) (k:Nat),(∀(i:Nat) (v:V),ys[i]?\v->∃p,v=↑p/\P (k+ i) p)->∃a:Zo,ys=a.map V.ref/\∀(i:Nat) (p:Zt),a[i]?\p->P (k+ i) p
 |[],_,_=>⟨[],2,λi p h=>by simp at h⟩
 |v::ys,k,h=>by
  let⟨p,rfl,f⟩:=h 0 v rfl
  let⟨a,rfl,b⟩:=yM (P:=P) ys (k+ 1) λi w c=>by
   let⟨q,e,d⟩:=h (i+ 1) w (by simpa using c)
   cbv
  rwa[⟨p::a,2,λi q d=>?_⟩]
  cases i with
  |zero=>cbv
  |succ i=>
   cbv
theorem jM {f:Str}{v:V}{n:Nat}:∀{fs:List (Str×V)},⇑fs<=n->⇑(bH f v fs)<=n+ 1
 |[],h=>by show 1<=n+ 1;ext
 |(g,x)::r,h=>by
  show ⇑(if g=f then (g,v)::r else (g,x)::bH f v r)<=n+ 1;rw[ajO]at h;split
  ·rw[ajO];ext
  ·have:=jM (f:=f) (v:=v) (n:=n - 1) (fs:=r) ∅;rw[ajO];ext
def Ar (K:Za1):PySem.W.kitOne K (.type "int") (.type "tuple")\false:=by first|rfl|kernel_rfl
def BV (K:Za1):PySem.W.kitOne K (.type "int") (.type "list")\false:=by first|rfl|kernel_rfl
def BW (K:Za1):PySem.W.kitOne K (.type "int") (.type "dict")\false:=by first|rfl|kernel_rfl
def As (K:Za1):PySem.W.kitOne K (.type "str") (.type "tuple")\false:=by first|rfl|kernel_rfl
def BX (K:Za1):PySem.W.kitOne K (.type "str") (.type "list")\false:=by first|rfl|kernel_rfl
def BZ (K:Za1):PySem.W.kitOne K (.type "str") (.type "dict")\false:=by first|rfl|kernel_rfl
theorem sI:∀{d:List DictEntry} {f:List (Key×Zu)} {c:List (Key×V)},Pairs (bT P w) d f->KV c f->Vals (c.map λi=>kV i.1) (d.map (·.key))
 |[],_,_,.nil,r=>by ext r;rwa[.nil]
 |e::d,_,_,.cons g j h,r=>by
  cases r with
  |cons a b=>
   rw[akp,akp];rwa[.cons ?_ (sI h b)];rw[a.1];rwa[Qr g]
theorem pairs_len:∀{b:List DictEntry} {a:List (Key×Zu)},Pairs (bT P w) b a->⇑b=⇑a
 |_,_,.nil=>rfl
 |_,_,.cons _ _ h=>by rw[ajO,ajO,pairs_len h]
section
variable {X:Cx}
inductive I7 (xs:Zb) (H:Hp) (Q:VK):Prop
 |mk (d:Zt) (kvs:List (Key×V)):xs=[↑d]->H d\.dK kvs->(∀l,H l=none->Q ↑l (upd H l (.lst (kvs.map λkv=>kV kv.1))))->I7 xs H Q
def j8 (O:X.calm=true):iM X (.type "list") I7:=by
 intro w s U H S Y Q I r h;let⟨d,c,rfl,x,q⟩:=h;let⟨u,rfl,G⟩:=vals1 r;ext G;let⟨C,n,A,rel,o,g,W,E,k,e,R,t,V⟩:=uk I.aM x;let hlen:⇑c=⇑A:=⇑rel;let m:=pairs_len t;let D:g.size=⇑c:=by rw[<-alE,m,hlen]
 rwa[Dk.IL (I.ok.hd O) n ⟨o,E,k,e⟩ ∅ λF z a y l f b=>?_]
 let N:a.toList=g.toList.map (·.key):=by
  rwa[alb λi=>?_]
  rw[ak1,ajq,ak1]
  cases j:a[i]? with
  |none=>
   let L:g.size<=i:=by
    let p:a.size<=i:=Array.getElem?_eq_none_iff.mp j;rw[b.1]at p;rwa[p]
   rw[Array.getElem?_eq_none L];rfl
  |some v=>
   let⟨T,M,rfl⟩:=b.2 i v j;rw[M];rfl
 let B:a=(g.toList.map (·.key)).toArray:=by rw[<-N]
 rw[B]at f;let j:=sI t rel;rwa[↑↥s,_,I.laid (t':=z) l (ajp _) (show bY X.prog X.w _ F _ (.lst (c.map λJ=>kV J.1)) from ⟨[ajk]▸C,_,y,j,f⟩),2,q _ (I.aM.fresh (ajp _))]
end
section
variable {C:Zt}{H:Hp}{r:Zt}{S:RS}{a:RA}
theorem ay.Tn (h:ay C H r S a){i:Nat}(v:i<⇑a.ws){q:Zt}{l:List (Int×Nat)}(d:H q\.dK (wK l))(w:q∉a.eM):ay C (upd H a.aW (.lst ((a.ws.map V.ref).set i ↑q))) r { S with ways:=S.ways.set i l } { a with ws:=a.ws.set i q }:=by
 let⟨D,g,n,G⟩:=h.jL (o:=.lst ((a.ws.map V.ref).set i ↑q)) (gn (a:=a));obtain⟨⟨n1,-⟩,⟨n2,E,F,B⟩,-,-,-,Q⟩:=rH h.i3;let k:upd H a.aW (.lst ((a.ws.map V.ref).set i ↑q)) q\(.dK (wK l)):=by rw[ai (bN d h.hW f!"")];rwa[d]
 let nd:=aj4.mp h.ni
 erw[D,g _ _ gk n1 h.hR,5,g _ _ jm n2.symm h.hG,g _ _ gQ E.symm h.hE,g _ _ iP F.symm h.hC,g _ _ ic B.symm h.hN,h.rR.imp λq x _ f e=>e.gj G (h.flat x f),5,h.rG.imp λq x d _ e=>n _ _ (gA d) e,h.rC.imp λq x d _ e=>g _ _ (gy d) (Q q d).2.1 e,h.flat,h.i3]
 ·show upd H a.aW _ a.aW\.lst ((a.ws.set i q).map V.ref);rw[aj,List.map_set]
 ·rwa[⟨by show ⇑(a.ws.set i q)=⇑(S.ways.set i l);rw[ajJ,ajJ];rwa[h.rW.1],λj p x O L=>?_⟩];let b:(a.ws.set i q)[j]?\p:=O
  let c:(S.ways.set i l)[j]?\x:=L
  cases z:i=j
  ·subst z;rw[ajV v]at b;rw[ajV (by rw[<-h.rW.1];rwa[v])]at c;obtain rfl:=Za0 b;obtain rfl:=Za0 c;rwa[k]
  ·rw[ake z]at b c;rwa[n _ _ (dD (ajj b)) (h.rW.2 j p x b c)]
 ·show (a.ws.set i q++a.gs).Nodup;let M:q∉a.ws:=λz=>w (ajG _ z)
  let s:q∉a.gs:=λz=>w (ajo _ z)
  rwa[aj4.mpr ⟨5,nd.2.1,λx f y u z=>?_⟩]
  ·have:∀(l:Zo) (i:Nat),l.Nodup->q∉l->(l.set i q).Nodup:=by
    intro l
    induction l with
    |nil=>intro i _ _;simp
    |cons x l P=>
     intro i I m;let⟨N,t⟩:=ajX.mp I;let J:q≠x:=λz=>m ([z]▸ajA)
     let A:q∉l:=λz=>m (ajP _ z)
     cases i with
     |zero=>exact ajX.mpr ⟨A,t⟩
     |succ i=>
      rwa[ajX.mpr ⟨λz=>?_,P i t A⟩];rcases alp z with z|z
      ·rwa[N z]
      ·rwa[J z.symm]
   rwa[this a.ws i nd.1 M]
  ·rcases alp f with f|f
   ·rwa[nd.2.2 x f y u z]
   ·rw[<-f,z]at s;rwa[s u]
end
def Qx (l:List (Int×Nat))(s:Int):dC (wK l) (Sum.inl s)=wK (l.filter λp=>decide (p.1≠s)):=by
 unfold dC wK;rw[List.filter_map]
 congr 1
 rwa[amy λx _=>?_]
 cbv
def I8 (l:List (Int×Nat))(s t:Int):fE (l.filter λp=>decide (p.1≠s)) t=if t=s then none else fE l t:=by
 induction l with
 |nil=>split <;> rfl
 |cons p l a=>
  let b:∀(q:Int×Nat) (m:List (Int×Nat)),fE (q::m) t=if q.1=t then some q.2 else fE m t:=λq m=>by
   unfold fE
   cbv
  cbv
abbrev Way:=Nat×Int×Nat
abbrev Ze:=List Way
def RS.ax (S:RS)(c:Nat):Nat:=S.aX.getD c 0
def RS.cw (S:RS)(c:Nat):Zi:=S.called.getD c []
noncomputable def fF (c:Nat)(z:Int)(x y:Nat):Dt:=.t [.s [109,101,101,116],.i c,.i z,.i x,.i y]
def RS.joined (S:RS)(c:Nat)(z:Int)(x y:Nat):RS:=
 { S with rows:=S.rows++[fF c z x y],a9:=S.a9++[y],aX:=(S.cw y).foldl (λa n=>a.set n x) S.aX,called:=S.called.set x (S.cw x++S.cw y) }
def RS.p6 (S:RS)(c:Nat)(z:Int):RS:=S.kL c ((S.way c).filter λp=>decide (p.1≠z))
def jN (c:Nat)(st:RS×Ze)(p:Int×Nat):RS×Ze:=(if p.2≠c then st.1.p6 p.2 (-p.1) else st.1,st.2++[(c,p.1,p.2)])
def RS.p7 (S:RS)(c:Nat)(a:Ze):RS×Ze:=(S.way c).foldl (jN c) (S.kL c [],a)
def RS.meet (S:RS)(c:Nat)(z:Int)(x y:Nat)(a:Ze):RS×Ze:=(S.joined c z (min x y) (max x y)).p7 (max x y) a
def RS.takeIn (S:RS)(a:Ze)(w:Way):RS×Ze:=
 if (S.by (S.ax w.1) w.2.1).getD (S.ax w.2.2)≠S.ax w.2.2 then S.meet (S.ax w.1) w.2.1 ((S.by (S.ax w.1) w.2.1).getD (S.ax w.2.2)) (S.ax w.2.2) a
 else if (S.by (S.ax w.2.2) (-w.2.1)).getD (S.ax w.1)≠S.ax w.1 then S.meet (S.ax w.2.2) (-w.2.1) ((S.by (S.ax w.2.2) (-w.2.1)).getD (S.ax w.1)) (S.ax w.1) a
 else (S.keep (S.ax w.1) w.2.1 (S.ax w.2.2),a)
structure GC (S:RS) (c:Nat):Prop where
 nd:((S.way c).map (·.1)).Nodup
 lt:∀q∈S.way c,q.2<S.q
 bk:∀q∈S.way c,q.2≠c->(S.by q.2 (-q.1)).isSome=true
def jv {l:List (Int×Nat)}(a:n<⇑S.ways):(S.kL n l).way m=if m=n then l else S.way m:=by
 unfold RS.kL RS.way;show (S.ways.set n l).getD m []=_;rw[ajm,ajm];cases h:n=m
 ·subst h;rw[ajV a,ajD rfl];rfl
 ·rw[ake h,ajw (akB h)]
def jO (a:n<⇑S.ways):(S.cu n z i).by m y=if m=n/\y=z then some i else S.by m y:=by
 unfold RS.cu RS.by;rw[jv a];cases h:m=n
 ·subst h;rw[ajD rfl,L3]
  cbv
 cbv
def GD (a:n<⇑S.ways):(S.p6 n z).by m y=if m=n/\y=z then none else S.by m y:=by
 unfold RS.p6 RS.by;rw[jv a];cases h:m=n
 ·subst h;rw[ajD rfl,I8]
  cbv
 ·rw[ajw h,ajw (λq=>h q.1)]
def Qy {l:List (Int×Nat)}(a:n<⇑S.ways):(S.kL n l).by m z=if m=n then fE l z else S.by m z:=by
 unfold RS.by;rw[jv a];split <;> rfl
def cV (c:Nat)(S:RS)(a:Ze)(b:List (Int×Nat)):RS×Ze:=b.foldl (jN c) (S.kL c [],a)
def iB (c:Nat)(S:RS)(a:Ze)(b:List (Int×Nat))(p:Int×Nat):cV c S a (b++[p])=jN c (cV c S a b) p:=by unfold cV;cbv
def snoc_ind {b:Type}{P:List b->Prop}(f:P [])(d:∀l x,P l->P (l++[x])):∀l,P l:=λl=>by
 have:∀n (l:List b),⇑l=n->P l:=by
  intro n
  induction n with
  |zero=>cbv
  |succ n c=>
   intro l e;let a:l≠[]:=λz=>by rw[z]at e;ext e
   rw[<-ak6 a];rwa[d^(c _ (by rw[List.length_dropLast];omega))]
 rwa[this _ l rfl]
def zH (c:Nat)(S:RS)(a:Ze):∀b:List (Int×Nat),(cV c S a b).2=a++b.map λp=>(c,p.1,p.2):=by
 rwa[snoc_ind (by simp[cV]) λb p d=>?_]
 rw[iB];show (cV c S a b).2++_=_
 cbv
def gN (c:Nat)(S:RS)(a:Ze):∀b:List (Int×Nat),(cV c S a b).1.ways.length=⇑S.ways/\(cV c S a b).1={ S with ways:=(cV c S a b).1.ways }:=by
 rwa[snoc_ind ⟨by simp[cV,RS.kL],2⟩ λb p d=>?_]
 rw[iB];unfold jN;cases h:p.2≠c
 ·simp only[h,amF,alz,ne_eq];erw[5]
  ·show ⇑(List.set^_)=_;rw[ajJ];rwa[d.1]
  ·unfold RS.p6 RS.kL;rw[d.2]
 ·simp only[h,amj];rwa[d]
def yN {c:Ze}(m:n<⇑S.ways):∀f:List (Int×Nat),(∀q∈f,q.2<⇑S.ways)->∀d z,(cV n S c f).1.by d z=if d=n\/∃q∈f,q.2=d/\z= -q.1 then none else S.by d z:=by
 rwa[snoc_ind (λ_ d z=>?_) λf p l i d z=>?_]
 ·show (S.kL n []).by d z=_;rw[Qy m];cases h:d=n
  ·rw[ajD h,ajD (.inl h)];rfl
  ·rw[ajw h,ajw (by rintro (q|⟨q,a,_⟩);rwa[h q];ext a)]
 ·let g:=l (λq a=>i q (ajG _ a)) d z;let j:=i p (ajo _ ajA);rw[iB];unfold jN;cases h:p.2≠n
  ·simp only[h,amF,alz,ne_eq];rw[GD ([(gN n S c f).1]▸j),g];cases e:d=p.2/\z= -p.1
   ·rw[ajD e,ajD (.inr ⟨p,ajo _ ajA,e.1.symm,e.2⟩)]
   ·rw[ajw e];cases b:d=n\/∃q∈f,q.2=d/\z= -q.1
    ·rw[ajD b,ajD (b.imp id λζ=>by let⟨q,a,r⟩:=ζ;rwa[⟨q,ajG _ a,r⟩])]
    ·rw[ajw b,ajw];rintro (q|⟨q,a,r⟩)
     ·rwa[b (.inl q)]
     ·rcases ajr.mp a with a|a
      ·rwa[b (.inr ⟨q,a,r⟩)]
      ·rw[ajn.mp a]at r;rwa[e ⟨r.1.symm,r.2⟩]
  ·simp only[h,amj];rw[g];let k:p.2=n:=alZ.mp h;cases b:d=n\/∃q∈f,q.2=d/\z= -q.1
   ·rw[ajD b,ajD (b.imp id λζ=>by let⟨q,a,r⟩:=ζ;rwa[⟨q,ajG _ a,r⟩])]
   ·rw[ajw b,ajw];rintro (q|⟨q,a,r⟩)
    ·rwa[b (.inl q)]
    ·rcases ajr.mp a with a|a
     ·rwa[b (.inr ⟨q,a,r⟩)]
     ·rw[ajn.mp a]at r;rwa[b (.inl (r.1.symm.trans k))]
inductive Cg (R:Za2):Nat->Nat->Prop where
 |refl (a:Nat):Cg R a a
 |symm {a b:Nat}:Cg R a b->Cg R b a
 |trans {a b c:Nat}:Cg R a b->Cg R b c->Cg R a c
 |step {a a' b b':Nat} {z:Int}:R a z b->R a' z b'->Cg R a a'->Cg R b b'
def Cg.mono {e:Za2}(h:∀a z b,R a z b->e a z b){a b:Nat}(c:Cg R a b):Cg e a b:=by
 induction c with
 |refl=>exact .refl _
 |symm _ d=>exact .symm d
 |trans _ _ f g=>exact .trans f g
 |step r1 r2 _ d=>exact .step (h _ _ _ r1) (h _ _ _ r2) d
def Im (S:RS)(R:Za2)(c:Nat)(z:Int)(d:Nat):Prop:=∃a b,R a z b/\S.ax a=c/\S.ax b=d
def zI (S:RS)(a:Ze)(c:Nat)(z:Int)(d:Nat):Prop:=S.by c z=some d\/∃w∈a,(S.ax w.1=c/\w.2.1=z/\S.ax w.2.2=d)\/(S.ax w.1=d/\w.2.1= -z/\S.ax w.2.2=c)
structure Good (S:RS) (pend:Ze) (R:Za2):Prop where
 wf:S.Wf
 el:∀c,c<S.q->S.ax c<=c/\S.ax (S.ax c)=S.ax c
 ca:∀e,e<S.q->S.ax e=e->∀c,c∈S.cw e↔c<S.q/\S.ax c=e
 cb:∀e c,c∈S.cw e->c<S.q
 cn:∀e,(S.cw e).Nodup
 kn:∀c,((S.way c).map (·.1)).Nodup
 st:∀c z d,S.by c z=some d->c<S.q/\d<S.q/\S.ax c=c/\S.ax d=d
 sy:∀c z d,S.by c z=some d->S.by d (-z)=some c
 pl:∀w∈pend,w.1<S.q/\w.2.2<S.q
 rl:∀c z d,R c z d->c<S.q/\d<S.q/\R d (-z) c
 cv:∀c z d,R c z d->zI S pend (S.ax c) z (S.ax d)
 so:∀c z d,S.by c z=some d->Im S R c z d
 sp:∀w∈pend,Im S R (S.ax w.1) w.2.1 (S.ax w.2.2)
 cg:∀c,c<S.q->Cg R c (S.ax c)
section
variable {S:RS}{pend:Ze}{R:Za2}
def Good.lt (h:Good S pend R){c:Nat}(hc:c<S.q):S.ax c<S.q:=ajt (h.el c hc).1 hc
def Im.back (h:Good S pend R){c d:Nat}{z:Int}(i:Im S R c z d):Im S R d (-z) c:=by
 let⟨b,e,r,a,f⟩:=i;rwa[e,b,(h.rl _ _ _ r).2.2,f,a]
def Good.must (h:Good S pend R){c x y:Nat}{z:Int}(i:Im S R c z x)(j:Im S R c z y):Cg R x y:=by
 let⟨o,m,r1,e,k⟩:=i;let⟨l,n,r2,f1,d⟩:=j;let⟨g,l2,_⟩:=h.rl _ _ _ r1;let⟨m1,f,_⟩:=h.rl _ _ _ r2;let a1:=h.cg _ g;let a2:=h.cg _ l2;let a:=h.cg _ m1;let b:=h.cg _ f;rw[e]at a1;rw[k]at a2;rw[f1]at a;rw[d]at b;rwa[a2.symm.trans ((Cg.step r1 r2 (a1.trans a.symm)).trans b)]
def Good.keep (h:Good S pend R){c d:Nat}{z:Int}(hc:c<S.q)(hd:d<S.q)(B:S.ax c=c)(ed:S.ax d=d)(i:Im S R c z d)(I:S.by c z=none\/S.by c z=some d)(G:S.by d (-z)=none\/S.by d (-z)=some c){f:Ze}(v:∀w∈f,w∈pend)
 (A:∀w∈pend,w∉f->S.ax w.1=c/\w.2.1=z/\S.ax w.2.2=d):Good (S.keep c z d) f R:=by
 let o:c<⇑S.ways:=by rw[h.wf.w];rwa[hc]
 let n:d<⇑S.ways:=by rw[h.wf.w];rwa[hd]
 let k:∀a s,(S.keep c z d).by a s=if a=d/\s= -z then some c else if a=c/\s=z then some d else S.by a s:=λa s=>by
  show ((S.cu c z d).cu d (-z) c).by a s=_;rw[jO (by show d<⇑(S.ways.set c _);rw[ajJ];rwa[n]),jO o]
 let old:∀a s b,S.by a s=some b->(S.keep c z d).by a s=some b:=λa s b e=>by
  rw[k];cases g:a=d/\s= -z
  ·rw[ajD g];let⟨rfl,rfl⟩:=g;rcases G with q|q <;> rw[q]at e <;> ext e
   rfl
  ·rw[ajw g];cases j:a=c/\s=z
   ·rw[ajD j];let⟨rfl,rfl⟩:=j;rcases I with q|q <;> rw[q]at e <;> ext e
    rfl
   ·rw[ajw j];rwa[e]
 let el:∀a,(S.keep c z d).ax a=S.ax a:=λa=>rfl
 let new:∀a s b,(S.keep c z d).by a s=some b->(a=d/\s= -z/\b=c)\/(a=c/\s=z/\b=d)\/S.by a s=some b:=λa s b e=>by
  rw[k]at e;cases g:a=d/\s= -z
  ·rw[ajD g]at e;rwa[.inl ⟨g.1,g.2,(Za0 e).symm⟩]
  ·rw[ajw g]at e;cases j:a=c/\s=z
   ·rw[ajD j]at e;rwa[.inr (.inl ⟨j.1,j.2,(Za0 e).symm⟩)]
   ·rw[ajw j]at e;rwa[.inr (.inr e)]
 let m:(S.keep c z d).by d (-z)=some c:=by rw[k,ajD ⟨22⟩]
 let put2:(S.keep c z d).by c z=some d:=by
  rw[k];cases g:c=d/\z= -z
  ·rw[ajD g,g.1]
  ·rw[ajw g,ajD ⟨22⟩]
 let t:∀(l:List (Int×Nat)) (s:Int) (r:Nat),(l.map (·.1)).Nodup->((j2 l s r).map (·.1)).Nodup:=λl s r C=>by
  unfold j2;split
  ·rw[aj8]
   have:((λx:Int×Nat=>x.1) ∘ λp:Int×Nat=>if p.1=s then (p.1,r) else p)=λx=>x.1:=by
    funext p
    show (if p.1=s then (p.1,r) else p).1=p.1;split <;> rfl
   rw[this];rwa[C]
  ·rename_i q;rw[ajT];rwa[aj4.mpr ⟨C,by simp,λa L b H e=>q ?_⟩];let⟨p,v,rfl⟩:=aj7.mp L;have:b=s:=by simpa using H
   rwa[List.any_eq_true.mpr ⟨p,v,ajF (e.trans this)⟩]
 rwa[⟨⟨55,h.wf.e,h.wf.c⟩,h.el,h.ca,h.cb,h.cn,λa=>?_,λa s b e=>?_,λa s b e=>?_,λw u=>h.pl w (v w u),h.rl,λa s b r=>?_,λa s b e=>?_,λw u=>h.sp w (v w u),h.cg⟩]
 ·show ⇑((List.set^_).set _ _)=S.q;rw[ajJ,ajJ];rwa[h.wf.w]
 ·show ⇑((List.set^_).set _ _)=S.q;rw[ajJ,ajJ];rwa[h.wf.g]
 ·show ((((S.cu c z d).cu d (-z) c).way a).map (·.1)).Nodup;unfold RS.cu;rw[jv (by show d<⇑(S.ways.set c _);rw[ajJ];rwa[n])]
  let k1:∀a,(((S.kL c (j2 (S.way c) z d)).way a).map (·.1)).Nodup:=λa=>by
   rw[jv o];split
   ·rwa[t _ _ _ (h.kn c)]
   ·rwa[h.kn a]
  split
  ·rwa[t _ _ _ (k1 d)]
  ·rwa[k1 a]
 ·rcases new a s b e with ⟨rfl,rfl,rfl⟩|⟨rfl,rfl,rfl⟩|e
  ·rwa[⟨hd,hc,ed,B⟩]
  ·rwa[⟨hc,hd,B,ed⟩]
  ·rwa[h.st a s b e]
 ·rcases new a s b e with ⟨rfl,rfl,rfl⟩|⟨rfl,rfl,rfl⟩|e
  ·rw[akv];rwa[put2]
  ·rwa[m]
  ·rwa[old _ _ _ (h.sy _ _ _ e)]
 ·rcases h.cv a s b r with q|⟨w,u,q⟩
  ·rwa[.inl (old _ _ _ q)]
  ·cases E:w∈f
   ·rwa[.inr ⟨w,E,q⟩]
   ·let⟨f1,D,F⟩:=A w u E;rwa[.inl ?_];show (S.keep c z d).by (S.ax a) s=some (S.ax b);rcases q with ⟨g,j,y⟩|⟨g,j,y⟩
    ·rw[<-g,<-j,<-y,f1,D,F];rwa[put2]
    ·let J:s= -z:=by rw[<-D,j,akv]
     rw[<-g,<-y,f1,F,J];rwa[m]
 ·rcases new a s b e with ⟨rfl,rfl,rfl⟩|⟨rfl,rfl,rfl⟩|e
  ·rwa[Im.back h i]
  ·rwa[i]
  ·rwa[h.so a s b e]
end
theorem B1 (x:Nat):∀(l b:Zi) (a:Nat),(∀n∈l,n<⇑b)->(l.foldl (λb n=>b.set n x) b).getD a 0=if a∈l then x else b.getD a 0
 |[],b,a,_=>by simp
 |n::l,b,a,h=>by
  rw[List.foldl_cons,B1 x l (b.set n x) a (λm c=>[ajJ]▸h m (ajP _ c))]
  cbv
theorem zJ (x:Nat):∀(l a:Zi),⇑(l.foldl (λa n=>a.set n x) a)=⇑a
 |[],_=>rfl
 |n::l,a=>by rw[List.foldl_cons,zJ x l,ajJ]
def sJ {l:List (Int×Nat)}(h:fE l z\n):(z,n)∈l:=by
 let⟨q,a,rfl⟩:=akr.mp h
 cbv
def jP {l:List (Int×Nat)}(a:(l.map (·.1)).Nodup){q:Int×Nat}(h:q∈l):fE l q.1\q.2:=by
 induction l with
 |nil=>ext h
 |cons p l b=>
  unfold fE;rw[akp,ajX]at a;cases e:p.1=q.1
  ·rw[ams (by rwa[ajF e])];rcases ajE.mp h with rfl|h
   ·rfl
   ·rwa[absurd (by rw[e];rwa[akV h]) a.1]
  ·rw[alO (by simpa using e)];rcases ajE.mp h with rfl|h
   ·rwa[absurd rfl e]
   ·rwa[b a.2 h]
theorem mG:∀(n:Nat) (l:Zi),l.Nodup->(∀x∈l,x<n)->⇑l<=n
 |0,[],_,_=>ajp _
 |0,a::l,_,h=>absurd (h a (ajA ..)) ∅
 |n+ 1,l,b,h=>by
  cases c:n∈l
  ·have:=mG n (l.erase n) (b.erase n) (λx d=>by
    cbv)
   rw[alA c]at this;ext
  ·have:=mG n l b (λx d=>by
    cbv)
   ext
theorem sL:∀(k l:Zh),l.Nodup->(∀x∈l,x∈k)->⇑l<=⇑k
 |[],[],_,_=>ajp _
 |[],a::l,_,h=>by have:=h a ajA;cbv
 |y::k,l,b,h=>by
  cases c:y∈l
  ·have:=sL k (l.erase y) (b.erase y) (λx d=>by
    cbv)
   rw[alA c]at this;rw[ajO];ext
  ·have:=sL k l b (λx d=>by
    cbv)
   rw[ajO];ext
def Qz {pend:Ze}(i:n<⇑S.ways)(e:∀a,((S.way a).map (·.1)).Nodup):∀c:List (Int×Nat),(∀q∈c,q.2<⇑S.ways)->∀a,(((cV n S pend c).1.way a).map (·.1)).Nodup:=by
 rwa[snoc_ind (λ_ a=>?_) λc p g d a=>?_]
 ·show (((S.kL n []).way a).map (·.1)).Nodup;rw[jv i];split
  ·rwa[akX]
  ·rwa[e a]
 ·let b:=g (λq f=>d q (ajG _ f));rw[iB];unfold jN;cases h:p.2≠n
  ·simp only[h,amF,alz,ne_eq];unfold RS.p6;rw[jv ([(gN n S pend c).1]▸d p (ajo _ ajA))];split
   ·rwa[List.Nodup.sublist (List.Sublist.map _ alf) (b p.2)]
   ·rwa[b a]
  ·simp only[h,amj];rwa[b a]
section
variable {S:RS}{pend:Ze}{R:Za2}
def zI.back (h:Good S pend R){b:RS}{a:Ze}(sy:∀c z d,b.by c z=some d->b.by d (-z)=some c){c d:Nat}{z:Int}(i:zI b a c z d):zI b a d (-z) c:=by
 rcases i with q|⟨w,j,q⟩
 ·rwa[.inl (sy _ _ _ q)]
 ·rwa[.inr ⟨w,j,?_⟩];rcases q with ⟨e,g,f⟩|⟨e,g,f⟩
  ·rwa[.inr ⟨e,by rw[g,akv],f⟩]
  ·rwa[.inl ⟨e,g,f⟩]
def Good.meet (h:Good S pend R){c x y:Nat}{z:Int}(Y:S.by c z=some x)(hy:y<S.q)(ey:S.ax y=y)(hxy:x≠y)(iy:Im S R c z y){d:Ze}(hp:∀w∈d,w∈pend)
 (hcv:∀w∈pend,w∉d->(S.ax w.1=c/\w.2.1=z/\S.ax w.2.2=y)\/(S.ax w.1=y/\w.2.1= -z/\S.ax w.2.2=c)):
 Good (S.meet c z x y d).1 (S.meet c z x y d).2 R/\(∀a,(S.meet c z x y d).1.ax a=if S.ax a=max x y then min x y else S.ax a)/\(S.meet c z x y d).2=d++(S.way (max x y)).map (λp=>(max x y,p.1,p.2)):=by
 let⟨hc,hxm,ec,ex⟩:=h.st _ _ _ Y;let A:Cg R x y:=h.must (h.so _ _ _ Y) iy;let Q:min x y<S.q:=∅
 let F:max x y<S.q:=∅
 let J:min x y<max x y:=∅
 let T:S.ax (min x y)=min x y:=by rcases amD x y with q|q;rw[akI ∅];rwa[ex];rw[alJ ∅];rwa[ey]
 let N:S.ax (max x y)=max x y:=by rcases amD x y with q|q;rw[ama ∅];rwa[ey];rw[amn ∅];rwa[ex]
 let L:x=min x y\/x=max x y:=∅
 let H:y=min x y\/y=max x y:=∅
 let j:Cg R (max x y) (min x y):=by
  rcases amD x y with q|q
  ·rw[ama (by omega),akI (by omega)];rwa[A.symm]
  ·rw[amn ∅,alJ ∅];rwa[A]
 unfold RS.meet;change max x y=v at F J N L H j ⊢;change min x y=u at Q J T L H j ⊢;let I:v<⇑S.ways:=by rw[h.wf.w];rwa[F]
 let O:∀q∈S.way v,q.2<⇑S.ways:=λq E=>by
  rw[h.wf.w];rwa[(h.st v q.1 q.2 (jP (h.kn v) E)).2.1]
 let hP:((S.joined c z u v).p7 v d)=cV v (S.joined c z u v) d (S.way v):=rfl;rw[hP];let rest:=gN v (S.joined c z u v) d (S.way v);let byJ:∀a s,(S.joined c z u v).by a s=S.by a s:=λa s=>rfl
 let To:∀a s,(cV v (S.joined c z u v) d (S.way v)).1.by a s=if a=v\/S.by a s=some v then none else S.by a s:=λa s=>by
  rw[yN (S:=S.joined c z u v) I _ O,byJ]
  have:(a=v\/∃q∈S.way v,q.2=a/\s= -q.1)↔(a=v\/S.by a s=some v):=by
   rwa[or_congr Iff.rfl ⟨5,λe=>?_⟩]
   ·rintro ⟨q,E,rfl,rfl⟩;rwa[h.sy _ _ _ (jP (h.kn v) E)]
   ·have:=sJ (h.sy _ _ _ e);rwa[_,this,2,(akv s).symm]
  simp only[this]
 let o:(cV v (S.joined c z u v) d (S.way v)).2=d++(S.way v).map λp=>(v,p.1,p.2):=zH _ _ _ _
 let G:=Qz (S:=S.joined c z u v) (pend:=d) I h.kn (S.way v) O
 let heq:∀a,(cV v (S.joined c z u v) d (S.way v)).1.ax a=if S.ax a=v then u else S.ax a:=λa=>by
  rw[rest.2];show ((S.cw v).foldl (λD n=>D.set n u) S.aX).getD a 0=_;rw[B1 u _ _ _ (λn hn=>[h.wf.e]▸h.cb v n hn)];cases i:a<S.q
  ·have:=h.ca v F N a;cases e:S.ax a=v
   ·cbv
   ·rw[ajw (λq=>e (this.mp q).2),ajw e];rfl
  ·let P:S.ax a=0:=by unfold RS.ax;rw[ajm,ajS (by rw[h.wf.e];omega)];rfl
   rw[ajw (λq=>i (h.cb v a q)),ajw ∅];rfl
 let k:∀e,(cV v (S.joined c z u v) d (S.way v)).1.cw e=if e=u then S.cw u++S.cw v else S.cw e:=λe=>by
  rw[rest.2];show (S.called.set u (S.cw u++S.cw v)).getD e []=_;rw[ajm];cases q:e=u
  ·subst q;rw[ajV ([h.wf.c]▸Q),ajD rfl];rfl
  ·rw[ake (akB q),ajw q];unfold RS.cw;cbv
 let f:(cV v (S.joined c z u v) d (S.way v)).1.q=S.q:=by rw[rest.2];rfl
 let M:(cV v (S.joined c z u v) d (S.way v)).1.Wf:=by
  erw[[rest.1,f]▸h.wf.w,55]
  ·rw[rest.2];rwa[h.wf.g]
  ·rw[rest.2];show ⇑((S.cw v).foldl (λD n=>D.set n u) S.aX)=S.q;rw[zJ];rwa[h.wf.e]
  ·rw[rest.2];show ⇑(S.called.set u (S.cw u++S.cw v))=S.q;rw[ajJ];rwa[h.wf.c]
 change (cV v (S.joined c z u v) d (S.way v)).2=P2 at o ⊢;change (cV v (S.joined c z u v) d (S.way v)).1=g at rest To G heq k f M ⊢;rwa[⟨5,heq,o⟩]
 let bo:∀a s b,g.by a s=some b↔S.by a s=some b/\a≠v/\b≠v:=λa s b=>by
  cbv
 let nv2:∀a,g.ax (S.ax a)=g.ax a:=λa=>by
  rw[heq,heq];cases i:a<S.q
  ·rw[(h.el a i).2]
  ·let P:∀a,¬a<S.q->S.ax a=0:=λa i=>by unfold RS.ax;rw[ajm,ajS (by rw[h.wf.e];omega)];rfl
   rw[P a i];have:S.ax 0=0:=by have:=(h.el 0 ∅).1;ext
   rw[this]
 let l:∀{a b},S.ax a=S.ax b->g.ax a=g.ax b:=λ{a b} e=>by cbv
 let C:∀a s b,g.by a s=some b->g.by b (-s)=some a:=λa s b e=>by
  rw[bo]at e ⊢;rwa[h.sy _ _ _ e.1,e.2.2,e.2.1]
 let std:∀{a},S.ax a=a->g.ax a=if a=v then u else a:=λ{a} e=>by rw[heq,e]
 let kept:∀p s q,S.by p s=some q->zI g P2 (g.ax p) s (g.ax q):=λp s q e=>by
  let⟨lp,lq,ep,eq⟩:=h.st _ _ _ e;cases h1:p=v
  ·rwa[.inr ⟨(v,s,q),5,.inl ⟨by rw[h1],22⟩⟩];rw[o];rw[h1]at e;rwa[ajo _ (aj7.mpr ⟨(s,q),sJ e,2⟩)]
  ·cases h2:q=v
   ·rwa[.inr ⟨(v,-s,p),5,.inr ⟨by rw[h2],22⟩⟩];rw[o];let e':=h.sy _ _ _ e;rw[h2]at e';rwa[ajo _ (aj7.mpr ⟨(-s,p),sJ e',2⟩)]
   ·rwa[.inl ?_]
    cbv
 let eu2:g.ax u=u:=by rw[std T,ajw ∅]
 let V:g.ax v=u:=by rw[std N,ajD rfl]
 let exy:g.ax x=g.ax y:=by
  let t:g.ax x=u:=by cbv
  let m:g.ax y=u:=by cbv
  rw[t,m]
 let imq:∀{a b s},Im S R (S.ax a) s (S.ax b)->Im g R (g.ax a) s (g.ax b):=λ{a b s} ζ=>by let⟨a',b',r,e1,e2⟩:=ζ;rwa[⟨a',b',r,l e1,l e2⟩]
 rwa[⟨M,λa i=>?_,λe he ee a=>?_,λe a i=>?_,λe=>?_,G,λa s b e=>?_,C,λw hw=>?_,λa s b r=>?_,λa s b r=>?_,λa s b e=>?_,λw hw=>?_,λa i=>?_⟩]
 ·rw[f]at i;let⟨U,l2⟩:=h.el a i;rw[heq]
  cbv
 ·rw[f]at he ⊢;rw[k];let nev:e≠v:=λz=>by rw[z,V]at ee;ext
  cases q:e=u
  ·subst q;rw[ajD rfl,ajr,h.ca _ Q T,h.ca v F N,heq]
   cbv
  ·rw[ajw q]
   let P:S.ax e=e:=by
    rw[heq]at ee;cases B:S.ax e=v
    ·cbv
    ·cbv
   rw[h.ca e he P,heq]
   cbv
 ·rw[f];rw[k]at i;split at i
  ·rcases ajr.mp i with i|i
   ·rwa[h.cb^i]
   ·rwa[h.cb^i]
  ·rwa[h.cb^i]
 ·rw[k];split
  ·rwa[aj4.mpr ⟨h.cn _,h.cn _,λa i b hb e=>?_⟩];let t:=((h.ca _ Q T a).mp i).2;let m:=((h.ca v F N b).mp hb).2;rw[e,m]at t;ext
  ·rwa[h.cn _]
 ·rw[bo]at e;let⟨U,l2,W,X⟩:=h.st _ _ _ e.1;rwa[[f]▸U,[f]▸l2,by rw[std W,ajw e.2.1],by rw[std X,ajw e.2.2]]
 ·rw[f];rw[o]at hw;rcases ajr.mp hw with hw|hw
  ·rwa[h.pl w (hp w hw)]
  ·let⟨q,E,rfl⟩:=aj7.mp hw;rwa[F,(h.st v q.1 q.2 (jP (h.kn v) E)).2.1]
 ·rw[f];rwa[h.rl a s b r]
 ·rcases h.cv a s b r with q|⟨w,hw,q⟩
  ·cbv
  ·cases hm:w∈d
   ·rwa[.inr ⟨w,by cbv,?_⟩];rcases q with ⟨t,m,B⟩|⟨t,m,B⟩
    ·rwa[.inl ⟨l t,m,l B⟩]
    ·rwa[.inr ⟨l t,m,l B⟩]
   ·let base:zI g P2 (g.ax c) z (g.ax y):=by rw[<-exy];rwa[kept _ _ _ Y]
    let one:∀{p q:Nat},S.ax p=c->S.ax q=y->g.ax p=g.ax c/\g.ax q=g.ax y:=λ{p q} e1 e2=>⟨by cbv,by cbv⟩
    rcases hcv w hw hm with ⟨f1,Z,f3⟩|⟨f1,Z,f3⟩
    ·rcases q with ⟨t,m,B⟩|⟨t,m,B⟩
     ·cbv
     ·let⟨g1,g2⟩:=one (t.symm.trans f1) (B.symm.trans f3);let D:s= -z:=by rw[<-Z,m,akv]
      rw[g1,g2,D];rwa[zI.back h C base]
    ·rcases q with ⟨t,m,B⟩|⟨t,m,B⟩
     ·let⟨g1,g2⟩:=one (B.symm.trans f3) (t.symm.trans f1);let D:s= -z:=by rw[<-m,Z]
      rw[g1,g2,D];rwa[zI.back h C base]
     cbv
 ·rw[bo]at e;let⟨U,l2,W,X⟩:=h.st _ _ _ e.1;have:=h.so _ _ _ e.1
  cbv
 ·rw[o]at hw;rcases ajr.mp hw with hw|hw
  ·rwa[imq (h.sp w (hp w hw))]
  ·let⟨q,E,rfl⟩:=aj7.mp hw;let e:=jP (h.kn v) E;let⟨U,l2,W,X⟩:=h.st v q.1 q.2 e;have:=h.so _ _ _ e
   cbv
 ·rw[f]at i;rw[heq];split
  ·rename_i q;have:=h.cg a i;rw[q]at this;rwa[this.trans j]
  ·rwa[h.cg a i]
end
def RS.stand (S:RS):Nat:=(~~~S.q).countP λc=>decide (S.ax c=c)
theorem mH {p p':Nat->Bool}{v:Nat}(h:∀a,p' a=(p a && decide (a≠v)))(b:p v=true):∀n,(~~~n).countP p'+ (if v<n then 1 else 0)=(~~~n).countP p
 |0=>rfl
 |n+ 1=>by
  let c:=mH h b n;rw[ak3,List.countP_append,List.countP_append,<-c];rw[List.countP_singleton,List.countP_singleton,h n];cases e:n=v
  ·subst e;rw[b,ajw (akA n),ajD (akK n)];simp
  ·have:decide (n≠v)=true:=ajF e;rw[this,Bool.and_true];let d:(v<n+ 1)=(v<n):=propext ⟨λ_=>∅,λ_=>∅⟩;simp only[d];ext
def mu (k:Nat)(S:RS)(pend:Ze):Nat:=S.stand* (k+ 1)+ ⇑pend
section
variable {S:RS}{pend:Ze}{R:Za2}{w:Way}{ks:Zh}
def Good.I9 (h:Good S pend R)(e:∀c z d,R c z d->z∈ks)(c:Nat):⇑(S.way c)<=⇑ks:=by
 have:=sL ks ((S.way c).map (·.1)) (h.kn c) (λx g=>by
  let⟨q,f,rfl⟩:=aj7.mp g;let⟨a,b,r,_⟩:=h.so c q.1 q.2 (jP (h.kn c) f);rwa[e _ _ _ r])
 rw[ajk]at this;rwa[this]
def Good.Tp (h:Good S pend R)(c:Nat):⇑(S.cw c)<=S.q:=mG _ _ (h.cn c) λx a=>h.cb c x a
def Good.take (h:Good S (pend++[w]) R)(L:∀c z d,R c z d->z∈ks):Good (S.takeIn pend w).1 (S.takeIn pend w).2 R/\mu ⇑ks (S.takeIn pend w).1 (S.takeIn pend w).2<mu ⇑ks S (pend++[w])/\(S.takeIn pend w).1.q=S.q/\(S.takeIn pend w).1.L=S.L/\
 ((S.takeIn pend w).1.stand=S.stand/\(S.takeIn pend w).1.rows=S.rows/\(S.takeIn pend w).1.a9=S.a9\/(S.takeIn pend w).1.stand+ 1=S.stand/\∃c z x y,S.by c z=some x/\Im S R c z y/\y<S.q/\S.ax y=y/\x≠y/\(S.takeIn pend w).1.rows=S.rows++[fF c z (min x y) (max x y)]/\(S.takeIn pend w).1.a9=S.a9++[max x y]/\∀a,(S.takeIn pend w).1.ax a=if S.ax a=max x y then min x y else S.ax a):=by
 let hw:=h.pl w (ajo _ ajA);let k:=h.sp w (ajo _ ajA);let hc:=h.lt hw.1;let hd:=h.lt hw.2;let l:=(h.el _ hw.1).2;let ed:=(h.el _ hw.2).2;let F:∀x∈pend,x∈pend++[w]:=λx i=>ajG _ i
 let last:∀x∈pend++[w],x∉pend->x=w:=λx i nx=>by
  cbv
 let met:∀{c x y:Nat} {z:Int},S.by c z=some x->y<S.q->S.ax y=y->x≠y->Im S R c z y->((S.ax w.1=c/\w.2.1=z/\S.ax w.2.2=y)\/(S.ax w.1=y/\w.2.1= -z/\S.ax w.2.2=c))->
  Good (S.meet c z x y pend).1 (S.meet c z x y pend).2 R/\mu ⇑ks (S.meet c z x y pend).1 (S.meet c z x y pend).2<mu ⇑ks S (pend++[w])/\(S.meet c z x y pend).1.q=S.q/\(S.meet c z x y pend).1.L=S.L/\(S.meet c z x y pend).1.stand+ 1=S.stand/\(S.meet c z x y pend).1.rows=S.rows++[fF c z (min x y) (max x y)]/\(S.meet c z x y pend).1.a9=S.a9++[max x y]/\∀a,(S.meet c z x y pend).1.ax a=if S.ax a=max x y then min x y else S.ax a:=by
  intro c x y z i O D s P B;let⟨g,G,M⟩:=h.meet i O D s P F (λx i nx=>[last x i nx]▸B);let⟨hc,U,l,ex⟩:=h.st _ _ _ i;let rest:=(gN (max x y) (S.joined c z (min x y) (max x y)) pend ((S.joined c z (min x y) (max x y)).way (max x y))).2
  let J:(S.meet c z x y pend).1.q=S.q:=by
   show (cV (max x y) (S.joined c z (min x y) (max x y)) pend ((S.joined c z (min x y) (max x y)).way (max x y))).1.q=_;rw[rest];rfl
  let N:(S.meet c z x y pend).1.L=S.L:=by
   show (cV (max x y) (S.joined c z (min x y) (max x y)) pend ((S.joined c z (min x y) (max x y)).way (max x y))).1.L=_;rw[rest];rfl
  let Q:(S.meet c z x y pend).1.rows=S.rows++[fF c z (min x y) (max x y)]:=by
   show (cV (max x y) (S.joined c z (min x y) (max x y)) pend ((S.joined c z (min x y) (max x y)).way (max x y))).1.rows=_;rw[rest];rfl
  let T:(S.meet c z x y pend).1.a9=S.a9++[max x y]:=by
   show (cV (max x y) (S.joined c z (min x y) (max x y)) pend ((S.joined c z (min x y) (max x y)).way (max x y))).1.a9=_;rw[rest];rfl
  let E:S.ax (max x y)=max x y:=by rcases amD x y with q|q;rw[ama ∅];rwa[D];rw[amn ∅];rwa[ex]
  let I:(S.meet c z x y pend).1.stand+ 1=S.stand:=by
   unfold RS.stand;rw[J]
   have:=mH (p:=λc=>decide (S.ax c=c)) (p':=λa=>decide ((S.meet c z x y pend).1.ax a=a)) (v:=max x y) (λa=>by
    rw[G,ak0,aj6,akn,akn,akn];cases q:S.ax a=max x y
    ·rw[ajD q];constructor
     ·intro e;let j:S.ax (min x y)=min x y:=by rcases amD x y with q|q;rw[akI ∅];rwa[ex];rw[alJ ∅];rwa[D]
      rw[e]at j;ext
     ·rintro ⟨V,j⟩;rwa[absurd (V.symm.trans q) j]
    ·rw[ajw q];rwa[λe=>⟨e,λj=>q ([j]▸E)⟩,λe=>e.1]) (ajF E) S.q
   rw[ajD ∅]at this;rwa[this]
  let W:=h.I9 L (max x y);rwa[⟨g,5,J,N,I,Q,T,G⟩];unfold mu;rw[M,<-I,ajh,ajh,ajk,amA,Nat.one_mul];ext
 unfold RS.takeIn;cases f:(S.by (S.ax w.1) w.2.1).getD (S.ax w.2.2)≠S.ax w.2.2
 ·rw[ajD f]
  cases e:S.by (S.ax w.1) w.2.1 with
  |none=>rw[e]at f;rwa[absurd rfl f]
  |some x=>
   rw[e]at f;let⟨A,C,o,t,r,u,n,m⟩:=met e hd ed f k (.inl ⟨222⟩);rwa[A,C,o,t,.inr ⟨r,11,x,_,e,k,hd,ed,f,u,n,m⟩]
 ·rw[ajw f];cases b:(S.by (S.ax w.2.2) (-w.2.1)).getD (S.ax w.1)≠S.ax w.1
  ·rw[ajD b]
   cases e:S.by (S.ax w.2.2) (-w.2.1) with
   |none=>rw[e]at b;rwa[absurd rfl b]
   |some x=>
    rw[e]at b;let H:=Im.back h k;let⟨A,C,o,t,r,u,n,m⟩:=met e hc l b H (.inr ⟨2,(akv _).symm,2⟩);rwa[A,C,o,t,.inr ⟨r,11,x,_,e,H,hc,l,b,u,n,m⟩]
  ·rw[ajw b]
   let k1:S.by (S.ax w.1) w.2.1=none\/S.by (S.ax w.1) w.2.1=some (S.ax w.2.2):=by
    cases e:S.by (S.ax w.1) w.2.1 with
    |none=>exact .inl rfl
    |some x=>rw[e]at f;rwa[.inr (akm some (alZ.mp f))]
   let k2:S.by (S.ax w.2.2) (-w.2.1)=none\/S.by (S.ax w.2.2) (-w.2.1)=some (S.ax w.1):=by
    cases e:S.by (S.ax w.2.2) (-w.2.1) with
    |none=>exact .inl rfl
    |some x=>rw[e]at b;rwa[.inr (akm some (alZ.mp b))]
   rwa[⟨h.keep hc hd l ed k k1 k2 F (λx i nx=>[last x i nx]▸⟨222⟩),522,.inl ⟨222⟩⟩];show S.stand* _+ ⇑pend<S.stand* _+ ⇑(pend++[w]);rw[ajh];have:⇑([w]:Ze)=1:=rfl;ext
def Good.fin (h:Good S [] R){a b:Nat}(i:a<S.q)(k:b<S.q):S.ax a=S.ax b↔Cg R a b:=by
 let det:∀{a d b g:Nat} {z:Int},R a z b->R d z g->S.ax a=S.ax d->S.ax b=S.ax g:=λ{a d b g z} r1 r2 e=>by
  rcases h.cv _ _ _ r1 with p|⟨w,m,_⟩
  ·rcases h.cv _ _ _ r2 with q|⟨w,m,_⟩
   ·cbv
   cbv
  cbv
 constructor
 ·intro e;let j:=h.cg a i;let n:=h.cg b k;rw[e]at j;rwa[j.trans n.symm]
 ·intro c;clear i k
  induction c with
  |refl=>rfl
  |symm _ f=>exact f.symm
  |trans _ _ l o=>exact l.trans o
  |step r1 r2 _ f=>exact det r1 r2 f
def Good.nj (h:Good S [] R){c d:Nat}{z:Int}:S.by c z=some d↔Im S R c z d:=by
 constructor
 ·rwa[h.so c z d]
 ·rintro ⟨b,e,r,rfl,rfl⟩;rcases h.cv _ _ _ r with q|⟨w,a,_⟩
  ·rwa[q]
  cbv
end
noncomputable def eD (R:Za2)(c:Nat)(z:Int)(d:Nat):Za2:=λa s b=>R a s b\/(a=c/\s=z/\b=d)\/(a=d/\s= -z/\b=c)
def jx:∀a s b,R a s b->eD R n z m a s b:=λ_ _ _ r=>.inl r
def qD:eD R n z m n z m:=.inr (.inl ⟨222⟩)
def B6 (L:Nat)(g:Zh):Good (RS.new L g) [] (λ_ _ _=>False) where
 wf:=⟨2222⟩
 el:=λc a=>by
  have:c=0:=by have:c<1:=a;ext
  subst this;rwa[ajp _,2]
 ca:=λe f _ c=>by
  have:e=0:=by have:e<1:=f;ext
  subst this;show c∈[0]↔c<1/\(RS.new L g).ax c=0
  cbv
 cb:=λe c a=>by
  have:(RS.new L g).cw e=[0]\/(RS.new L g).cw e=[]:=by
   rcases e with _|e
   ·rwa[.inl rfl]
   ·rwa[.inr rfl]
  show c<1
  cbv
 cn:=λe=>by
  rcases e with _|e
  ·show [0].Nodup;simp
  ·rwa[akX]
 kn:=λc=>by
  rcases c with _|c <;> rwa[akX]
 st:=λc z d h=>by
  have:(RS.new L g).by c z=none:=by rcases c with _|c <;> rfl
  cbv
 sy:=λc z d h=>by
  have:(RS.new L g).by c z=none:=by rcases c with _|c <;> rfl
  cbv
 pl:=λw b=>by ext b
 rl:=λ_ _ _ h=>h.elim
 cv:=λ_ _ _ h=>h.elim
 so:=λc z d h=>by
  have:(RS.new L g).by c z=none:=by rcases c with _|c <;> rfl
  cbv
 sp:=λw b=>by ext b
 cg:=λc a=>by
  have:c=0:=by have:c<1:=a;ext
  subst this;rwa[.refl _]
section
variable {S:RS}{R:Za2}
def Good.lay (h:Good S [] R){c d:Nat}(z:Int)(hc:c<S.q)(hd:d<S.q)(rows:Zg):Good { S with rows:=rows } [(c,z,d)] (eD R c z d) where
 wf:=⟨h.wf.w,h.wf.g,h.wf.e,h.wf.c⟩
 el:=h.el
 ca:=h.ca
 cb:=h.cb
 cn:=h.cn
 kn:=h.kn
 st:=h.st
 sy:=h.sy
 pl:=λw f=>by rw[ajn.mp f];rwa[hc,hd]
 rl:=by
  rintro a s b (r|⟨rfl,rfl,rfl⟩|⟨rfl,rfl,rfl⟩)
  ·let⟨i,o,j⟩:=h.rl _ _ _ r;rwa[i,o,.inl j]
  ·rwa[hc,hd,.inr (.inr ⟨222⟩)]
  ·rwa[hd,hc,.inr (.inl ⟨2,akv _,2⟩)]
 cv:=by
  rintro a s b (r|⟨rfl,rfl,rfl⟩|⟨rfl,rfl,rfl⟩)
  ·rcases h.cv _ _ _ r with q|⟨w,f,_⟩
   ·rwa[.inl q]
   ·ext f
  ·rwa[.inr ⟨_,ajA,.inl ⟨rfl,rfl,rfl⟩⟩]
  ·rwa[.inr ⟨_,ajA,.inr ⟨rfl,(akv _).symm,rfl⟩⟩]
 so:=λa s b e=>by
  let⟨g,l,r,m,k⟩:=h.so a s b e;rwa[g,l,.inl r,m,k]
 sp:=λw f=>by
  rw[ajn.mp f];rwa[c,d,qD,22]
 cg:=λa n=>(h.cg a n).mono jx
def fI (hw:S.Wf)(c:Nat)(z:Int)(g:Zh)(a:Nat):(S.grown c z g).ax a=if a=S.q then S.q else S.ax a:=by
 unfold RS.ax;show (S.aX++[S.q]).getD a 0=_;rw[ajm];cases e:a=S.q
 ·rw[ajD e,e,ajv ([hw.e]▸ajp _),hw.e,ak4];rfl
 ·rw[ajw e,ajm];cases q:a<S.q
  ·rw[ajs ([hw.e]▸q)]
  ·rw[ajS (by rw[ajh,hw.e];show S.q+ 1<=a;omega),ajS (by rw[hw.e];omega)]
def sM (hw:S.Wf)(c:Nat)(z:Int)(g:Zh)(a:Nat):(S.grown c z g).cw a=if a=S.q then [S.q] else S.cw a:=by
 unfold RS.cw;show (S.called++[[S.q]]).getD a []=_;rw[ajm];cases e:a=S.q
 ·rw[ajD e,e,ajv ([hw.c]▸ajp _),hw.c,ak4];rfl
 ·rw[ajw e,ajm];cases q:a<S.q
  ·rw[ajs ([hw.c]▸q)]
  ·rw[ajS (by rw[ajh,hw.c];show S.q+ 1<=a;omega),ajS (by rw[hw.c];omega)]
def oS (d:S.Wf)(c:Nat)(z:Int)(g:Zh)(a:Nat):(S.grown c z g).way a=S.way a:=by
 unfold RS.way;show (S.ways++[[]]).getD a []=_;rw[ajm,ajm];cases q:a<⇑S.ways
 ·rw[ajs q]
 ·rw[ajv ∅,ajS (l:=S.ways) ∅];cases b:a - ⇑S.ways=0
  ·rw[b];rfl
  ·cbv
def Good.make (h:Good S [] R){c:Nat}{z:Int}(hc:c<S.q)(x:S.ax c=c)(C:S.by c z=none)(g:Zh):Good (S.make c z g) [] (eD R c z S.q):=by
 let hw:=h.wf;let d:∀a,a<S.q->(S.grown c z g).ax a=S.ax a:=λa m=>by rw[fI hw,ajw ∅]
 let f:(S.grown c z g).ax S.q=S.q:=by rw[fI hw,ajD rfl]
 let j:∀a s,(S.grown c z g).by a s=S.by a s:=λa s=>by unfold RS.by;rw[oS hw]
 let G:Good (S.grown c z g) [(c,z,S.q)] (eD R c z S.q):=by
  rwa[⟨⟨5555⟩,λa m=>?_,λe D ee a=>?_,λe a m=>?_,λe=>?_,λa=>?_,λa s b e=>?_,λa s b e=>?_,λw hw=>?_,55,λa s b e=>?_,λw hw=>?_,λa m=>?_⟩]
  ·show ⇑(S.ways++[[]])=S.q+ 1;rw[ajh,hw.w];rfl
  ·show ⇑(S.gaps++[_])=S.q+ 1;rw[ajh,hw.g];rfl
  ·show ⇑(S.aX++[_])=S.q+ 1;rw[ajh,hw.e];rfl
  ·show ⇑(S.called++[_])=S.q+ 1;rw[ajh,hw.c];rfl
  ·let t:a<S.q+ 1:=m;cases e:a=S.q
   ·rw[e,f];rwa[ajp _,f]
   ·let o:a<S.q:=∅
    rw[d a o];let⟨l,k⟩:=h.el a o;rwa[l,[d _ ∅]▸k]
  ·let A:e<S.q+ 1:=D;show _↔a<S.q+ 1/\_;rw[sM hw,fI hw];cases q:e=S.q
   ·subst q;rw[ajD rfl,ajn];constructor
    ·rintro rfl;rwa[3,by cbv]
    ·rintro ⟨l,k⟩;cases n:a=S.q
     ·rwa[n]
     ·rw[ajw n]at k;have:=(h.el a ∅).1;ext
   ·let o:e<S.q:=∅
    rw[d e o]at ee;rw[ajw q,h.ca e o ee a]
    cbv
  ·show a<S.q+ 1;rw[sM hw]at m;split at m
   ·rw[ajn.mp m];ext
   ·rwa[akN (h.cb e a m)]
  ·rw[sM hw];split
   ·simp
   ·rwa[h.cn e]
  ·rw[oS hw];rwa[h.kn a]
  ·rw[j]at e;let⟨l,k,n,B⟩:=h.st a s b e;rwa[akN l,akN k,[d a l]▸n,[d b k]▸B]
  ·rw[j]at e ⊢;rwa[h.sy a s b e]
  ·rw[ajn.mp hw];rwa[akN hc,akK _]
  ·rintro a s b (r|⟨rfl,rfl,rfl⟩|⟨rfl,rfl,rfl⟩)
   ·let⟨l,k,n⟩:=h.rl _ _ _ r;rwa[akN l,akN k,.inl n]
   ·rwa[akN hc,akK _,.inr (.inr ⟨222⟩)]
   ·rwa[akK _,akN hc,.inr (.inl ⟨2,akv _,2⟩)]
  ·rintro a s b (r|⟨rfl,rfl,rfl⟩|⟨rfl,rfl,rfl⟩)
   ·let⟨l,k,_⟩:=h.rl _ _ _ r;rcases h.cv _ _ _ r with q|⟨w,hw,_⟩
    ·rwa[.inl (by rw[d a l,d b k,j];rwa[q])]
    ·ext hw
   ·rwa[.inr ⟨_,ajA,.inl ⟨rfl,rfl,rfl⟩⟩]
   ·rwa[.inr ⟨_,ajA,.inr ⟨rfl,(akv _).symm,rfl⟩⟩]
  ·rw[j]at e;let⟨u,v,r,p,y⟩:=h.so a s b e;let⟨l,k,_⟩:=h.rl _ _ _ r;rwa[u,v,.inl r,[d u l]▸p,[d v k]▸y]
  ·rw[ajn.mp hw];rwa[c,S.q,qD,22]
  ·let t:a<S.q+ 1:=m;cases e:a=S.q
   ·rw[e,f];rwa[.refl _]
   ·rw[d a ∅];rwa[(h.cg a ∅).mono jx]
 let p:(S.grown c z g).ax c=c:=by rw[d c hc];rwa[x]
 let i:=G.sp _ ajA;rw[show (c,z,S.q).1=c from rfl,show (c,z,S.q).2.2=S.q from rfl,p,f]at i;rwa[G.keep (akN hc) (akK _) p f i (.inl ([j]▸C)) (.inl ?_) (λw hw=>by ext hw) (λw hw _=>[ajn.mp hw]▸⟨p,2,f⟩)];rw[j]
 cases e:S.by S.q (-z) with
 |none=>rfl
 |some b=>have:=(h.st _ _ _ e).1;ext
end
def abM (n:Nat)(s:Int):Za2:=λa z b=>(z=s/\b=a+ 1/\b<n)\/(z= -s/\a=b+ 1/\a<n)
inductive Xa (x:V) (y:V) (H:Hp) (Q:VK):Prop
 |mk (a b:Zt) (xs:Zb) (t:Str):x=↑a->y=↑b->H a\.tup xs->H b\.tup [.str t]->(xs=[]\/(∃n,xs=[.int n])\/∃t',xs=[.str t'])->Q (.bl (decide (xs=[V.str t]))) H->Xa x y H Q
end L2
namespace L2
def kM {a z:TS}(h:let b:TS:=z;aS a b G D H):(aS a z) G D H:=h
def da {a b z:TS}(h:let c:TS:=z;let d:TS:=aS b c;aS a d G D H):(aS a (aS b z)) G D H:=h
def iC {a b c z:TS}(h:let f:TS:=z;let e:TS:=aS c f;let d:TS:=aS b e;aS a d G D H):(aS a (aS b (aS c z))) G D H:=h
def qE {b c d a z:TS}(h:let g:TS:=z;let i:TS:=aS a g;let f:TS:=aS d i;let e:TS:=aS c f;aS b e G D H):(aS b (aS c (aS d (aS a z)))) G D H:=h
noncomputable def nu {b c d a e z:TS}(h:let g:TS:=z;let j:TS:=aS e g;let k:TS:=aS a j;let i:TS:=aS d k;let f:TS:=aS c i;aS b f G D H):(aS b (aS c (aS d (aS a (aS e z))))) G D H:=h
def vN {b c d a e f z:TS}(h:let m:TS:=z;let i:TS:=aS f m;let l:TS:=aS e i;let j:TS:=aS a l;let k:TS:=aS d j;let g:TS:=aS c k;aS b g G D H):(aS b (aS c (aS d (aS a (aS e (aS f z)))))) G D H:=h
def B7 {f g b d c e a z:TS}(h:let i:TS:=z;let o:TS:=aS a i;let l:TS:=aS e o;let k:TS:=aS c l;let n:TS:=aS d k;let j:TS:=aS b n;let m:TS:=aS g j;aS f m G D H):(aS f (aS g (aS b (aS d (aS c (aS e (aS a z))))))) G D H:=h
def L5 {g i c e d f b a z:TS}(h:let q:TS:=z;let j:TS:=aS a q;let p:TS:=aS b j;let m:TS:=aS f p;let l:TS:=aS d m;let n:TS:=aS e l;let k:TS:=aS c n;let o:TS:=aS i k;aS g o G D H):(aS g (aS i (aS c (aS e (aS d (aS f (aS b (aS a z)))))))) G D H:=h
def L6 {i j c e d g b a f z:TS}(h:let q:TS:=z;let s:TS:=aS f q;let k:TS:=aS a s;let r:TS:=aS b k;let n:TS:=aS g r;let m:TS:=aS d n;let o:TS:=aS e m;let l:TS:=aS c o;let p:TS:=aS j l;aS i p G D H):(aS i (aS j (aS c (aS e (aS d (aS g (aS b (aS a (aS f z))))))))) G D H:=h
def Ja {k l e g f j d c i a z:TS}(h:let b:TS:=z;let s:TS:=aS a b;let u:TS:=aS i s;let m:TS:=aS c u;let t:TS:=aS d m;let p:TS:=aS j t;let o:TS:=aS f p;let q:TS:=aS g o;let n:TS:=aS e q;let r:TS:=aS l n;aS k r G D H):(aS k (aS l (aS e (aS g (aS f (aS j (aS d (aS c (aS i (aS a z)))))))))) G D H:=h
theorem args_is1 {b:Type}:∀{us:List b},⇑us=1->∃a,us=[a]
 |[a],_=>⟨a,2⟩
theorem args_is2 {c:Type}:∀{us:List c},⇑us=2->∃a b,us=[a,b]
 |[a,b],_=>⟨a,b,2⟩
theorem args_is3 {d:Type}:∀{us:List d},⇑us=3->∃a c b,us=[a,c,b]
 |[a,c,b],_=>⟨a,c,b,2⟩
theorem args_is4 {e:Type}:∀{us:List e},⇑us=4->∃a b d c,us=[a,b,d,c]
 |[a,b,d,c],_=>⟨a,b,d,c,2⟩
theorem args_is5 {f:Type}:∀{us:List f},⇑us=5->∃a c e d b,us=[a,c,e,d,b]
 |[a,c,e,d,b],_=>⟨a,c,e,d,b,2⟩
theorem args_is6 {g:Type}:∀{us:List g},⇑us=6->∃a c e d b f,us=[a,c,e,d,b,f]
 |[a,c,e,d,b,f],_=>⟨a,c,e,d,b,f,2⟩
structure eP (S:RS) (R:Za2) (ks:Zh):Prop where
 sub:∀c,c<S.q->(S.gap c).Sublist ks
 im:∀c,c<S.q->S.ax c=c->∀z∈ks,z∉S.gap c->∃d,Im S R c z d
 by_:∀c z d,S.by c z=some d->z∉S.gap c
section
variable {S:RS}{pend:Ze}{R:Za2}{ks:Zh}
def jQ {x:Nat}(a:n<⇑S.gaps):(S.mF n z).gap x=if x=n then (S.gap n).filter (λy=>decide (y≠z)) else S.gap x:=by
 unfold RS.mF RS.setG RS.gap;show (S.gaps.set n _).getD x []=_;rw[ajm];cases h:x=n
 ·subst h;rw[ajD rfl,ajV a];rfl
 ·rw[ajw h,ake (λe=>h e.symm),ajm]
def zK:(S.mF n z).gaps.length=⇑S.gaps:=by
 rwa[ajJ ..]
def qF {x:Nat}(b:n<⇑S.gaps)(c:m<⇑S.gaps):y∈(S.keep n z m).gap x↔y∈S.gap x/\¬(x=n/\y=z)/\¬(x=m/\y= -z):=by
 unfold RS.keep;let a:∀x,((S.cu n z m).cu m (-z) n).gap x=S.gap x:=λx=>rfl
 rw[jQ ([zK]▸c),jQ (by rwa[b]),jQ (by rwa[b]),a,a,a]
 cbv
def sN {x:Nat}(d:n<⇑S.gaps)(e:m<⇑S.gaps):((S.keep n z m).gap x).Sublist (S.gap x):=by
 unfold RS.keep;let b:∀x,((S.cu n z m).cu m (-z) n).gap x=S.gap x:=λx=>rfl
 rw[jQ ([zK]▸e),jQ (by rwa[d]),jQ (by rwa[d]),b,b,b];cases c:x=m
 ·subst c;rw[ajD rfl];cases a:x=n
  ·subst a;rw[ajD rfl];rwa[List.Sublist.trans alf alf]
  ·rw[ajw a];rwa[alf]
 ·rw[ajw c];cases a:x=n
  ·subst a;rw[ajD rfl];rwa[alf]
  ·rw[ajw a];rwa[List.Sublist.refl _]
def Fi {x:Nat}(b:n<⇑S.ways)(a:m<⇑S.ways):(S.keep n z m).by x y=if x=m/\y= -z then some n else if x=n/\y=z then some m else S.by x y:=by
 show (((S.cu n z m).cu m (-z) n)).by x y=_;rw[jO (by unfold RS.cu RS.kL;rw[ajJ];rwa[a]),jO b]
def eP.keep (h:eP S R ks)(g:Good S pend R){c d:Nat}{z:Int}(hc:c<S.q)(hd:d<S.q)(i:Im S R c z d):eP (S.keep c z d) R ks:=by
 let j:c<⇑S.gaps:=by rw[g.wf.g];rwa[hc]
 let b:d<⇑S.gaps:=by rw[g.wf.g];rwa[hd]
 rwa[⟨λx k=>(sN j b).trans (h.sub x k),λx k ex y o m=>?_,λx y e l=>?_⟩]
 ·rw[qF j b]at m;cases f:x=c/\y=z
  ·rw[f.1,f.2];rwa[d,i]
  ·cases a:x=d/\y= -z
   ·rw[a.1,a.2];rwa[c,i.back g]
   ·rwa[h.im x k ex y o λq=>m ⟨q,f,a⟩]
 ·rw[Fi ([g.wf.w]▸hc) ([g.wf.w]▸hd)]at l;rw[qF j b];rintro ⟨q,n,p⟩;rw[ajw p,ajw n]at l;rwa[h.by_ x y e l q]
def L7 {x:Nat}:(S.meet n z x m pend).1.gaps=S.gaps:=by
 have:=(gN (max x m) (S.joined n z (min x m) (max x m)) pend ((S.joined n z (min x m) (max x m)).way (max x m))).2;have:=akm RS.gaps this;rwa[this]
def eP.meet (h:eP S R ks)(g:Good S pend R){c x y:Nat}{z:Int}(C:S.by c z=some x)(H:y<S.q)(I:S.ax y=y)(m:x≠y){d:Ze}
 (made:(S.meet c z x y d).1.q=S.q) (ax:∀a,(S.meet c z x y d).1.ax a=if S.ax a=max x y then min x y else S.ax a):eP (S.meet c z x y d).1 R ks:=by
 let k:∀a,(S.meet c z x y d).1.gap a=S.gap a:=λa=>by unfold RS.gap;rw[L7]
 let⟨_,D,_,ex⟩:=g.st _ _ _ C;let l:max x y<S.q:=by rcases amE x y with q|q <;> ext
 let t:min x y<max x y:=by rcases Nat.lt_or_gt_of_ne m with q|q <;> ext
 let fD:∀a,a<S.q->(S.meet c z x y d).1.ax a=a->S.ax a=a/\a≠max x y:=λa i e=>by
  rw[ax]at e;let F:=(g.el a i).1;cases q:S.ax a=max x y
  ·rw[ajD q]at e;ext
  ·rw[ajw q]at e;rwa[e,λz=>q (by rw[e,z])]
 rwa[⟨λa i=>[k]▸h.sub a (by rw[<-made];rwa[i]),λa i G s B o=>?_,λa s b u=>?_⟩]
 ·rw[k]at o;let⟨E,w⟩:=fD a (by rw[<-made];rwa[i]) G;let⟨b,p,A,r,n,J⟩:=h.im a (by rw[<-made];rwa[i]) E s B o;rwa[_,p,A,r,[ax,ajw ([n]▸w)]▸n,2]
 ·rw[k]
  let j:∀q∈(S.joined c z (min x y) (max x y)).way (max x y),q.2<(S.joined c z (min x y) (max x y)).ways.length:=λq v=>by
   show q.2<⇑S.ways;rw[g.wf.w];rwa[(g.st _ _ _ (jP (g.kn (max x y)) v)).2.1]
  let f:(cV (max x y) (S.joined c z (min x y) (max x y)) d ((S.joined c z (min x y) (max x y)).way (max x y))).1.by a s=some b:=u;rw[yN (by show max x y<⇑S.ways;rw[g.wf.w];rwa[l]) _ j]at f;split at f
  ·ext f
  ·rwa[h.by_ a s b f]
def zL {x:Nat}:(S.meet n z x m pend).1.q=S.q:=by
 have:=(gN (max x m) (S.joined n z (min x m) (max x m)) pend ((S.joined n z (min x m) (max x m)).way (max x m))).2;have:=akm RS.q this;rwa[this]
def eP.take {w:Way}(hG:eP S R ks)(h:Good S (pend++[w]) R):eP (S.takeIn pend w).1 R ks:=by
 let hw:=h.pl w (ajo _ ajA);let d:=h.sp w (ajo _ ajA);let hc:=h.lt hw.1;let hd:=h.lt hw.2;let i:=(h.el _ hw.1).2;let ed:=(h.el _ hw.2).2;let g:∀x∈pend,x∈pend++[w]:=λx b=>ajG _ b
 let last:∀x∈pend++[w],x∉pend->x=w:=λx b nx=>by
  cbv
 unfold RS.takeIn;cases c:(S.by (S.ax w.1) w.2.1).getD (S.ax w.2.2)≠S.ax w.2.2
 ·rw[ajD c]
  cases e:S.by (S.ax w.1) w.2.1 with
  |none=>cbv
  |some x=>
   rw[e]at c;let⟨_,f,_⟩:=h.meet e hd ed c d g (λx b nx=>[last x b nx]▸.inl ⟨222⟩);rwa[hG.meet h e hd ed c zL f]
 ·rw[ajw c];cases a:(S.by (S.ax w.2.2) (-w.2.1)).getD (S.ax w.1)≠S.ax w.1
  ·rw[ajD a]
   cases e:S.by (S.ax w.2.2) (-w.2.1) with
   |none=>rw[e]at a;rwa[absurd rfl a]
   |some x=>
    rw[e]at a;let⟨_,f,_⟩:=h.meet e hc i a (d.back h) g (λx b nx=>[last x b nx]▸.inr ⟨2,(akv _).symm,2⟩);rwa[hG.meet h e hc i a zL f]
  ·rw[ajw a];rwa[hG.keep h hc hd d]
def eP.more {e:Za2}(h:eP S R ks)(g:∀a z b,R a z b->e a z b):eP S e ks:=⟨h.sub,λc hc i z hz m=>by
 let⟨d,j,k,r,f,l⟩:=h.im c hc i z hz m;rwa[d,j,k,g _ _ _ r,f,l],h.by_⟩
def eP.rows (h:eP S R ks)(rows:Zg):eP { S with rows:=rows } R ks:=⟨h.sub,h.im,h.by_⟩
def QB (L:Nat)(g:Zh):eP (RS.new L g) (λ_ _ _=>False) g:=by
 rwa[⟨λc a=>?_,λc a _ z f b=>?_,λc z d e=>?_⟩]
 ·let a:c<1:=a;rw[show c=0 by ext];rwa[List.Sublist.refl _]
 ·let a:c<1:=a;rw[show c=0 by ext]at b;rwa[absurd f b]
 ·have:(RS.new L g).by c z=none:=by rcases c with _|c <;> rfl
  cbv
def eP.make (h:eP S R ks)(g:Good S [] R){c:Nat}{z:Int}(hc:c<S.q)(B:S.ax c=c)(L:S.by c z=none):eP (S.make c z ks) (eD R c z S.q) ks:=by
 let u:∀x,(S.grown c z ks).gap x=if x=S.q then ks else S.gap x:=λx=>by
  unfold RS.gap;show (S.gaps++[ks]).getD x []=_;rw[ajm,ajm];cases i:x=S.q
  ·subst i;rw[ajD rfl,ajv ([g.wf.g]▸ajp _),g.wf.g,ak4];rfl
  ·rw[ajw i];cases F:x<⇑S.gaps
   ·rw[ajs F]
   ·have:=g.wf.g;rw[ajv ∅,ajS (by rw[akb];omega),ajS ∅]
 let E:∀x y,(S.grown c z ks).by x y=S.by x y:=λx y=>by unfold RS.by;rw[oS g.wf]
 let j:c<(S.grown c z ks).gaps.length:=by show c<⇑(S.gaps++[ks]);rw[ajh,g.wf.g];ext
 let l:S.q<(S.grown c z ks).gaps.length:=by show S.q<⇑(S.gaps++[ks]);rw[ajh,g.wf.g,akb];ext
 let p:c<(S.grown c z ks).ways.length:=by show c<⇑(S.ways++[[]]);rw[ajh,g.wf.w];ext
 let v:S.q<(S.grown c z ks).ways.length:=by show S.q<⇑(S.ways++[[]]);rw[ajh,g.wf.w,akb];ext
 let ee:∀x,(S.make c z ks).ax x=if x=S.q then S.q else S.ax x:=λx=>fI g.wf c z ks x
 let m:∀a s b,S.by a s=some b->a≠S.q:=λa s b e q=>by have:=(g.st _ _ _ e).1;ext
 rwa[⟨λx i=>?_,λx i ex y w f=>?_,λx y e n=>?_⟩]
 ·rwa[(sN j l).trans ?_];rw[u];cases q:x=S.q
  ·cbv
  ·rw[ajw q];let i:x<S.q+ 1:=i;rwa[h.sub x ∅]
 ·let f:y∉((S.grown c z ks).keep c z S.q).gap x:=f;rw[qF j l,u]at f;cases t:x=c/\y=z
  ·erw[S.q,c,S.q,[t.2]▸qD,5]
   ·cbv
   cbv
  ·cases o:x=S.q/\y= -z
   ·erw[c,S.q,c,[o.2]▸.inr (.inr ⟨222⟩),5]
    ·rw[ee,ajD rfl,o.1]
    ·rw[ee,ajw ∅];rwa[B]
   ·cases q:x=S.q
    ·rw[ajD q]at f;rwa[absurd ⟨w,t,o⟩ f]
    ·rw[ajw q]at f;let i:x<S.q+ 1:=i;rw[ee,ajw q]at ex;let⟨d,A,G,r,H,D⟩:=h.im x ∅ ex y w λk=>f ⟨k,t,o⟩
     let J:=g.rl _ _ _ r;rwa[d,A,G,.inl r,[ee,ajw ∅]▸H,[ee,ajw ∅]▸D]
 ·let n:((S.grown c z ks).keep c z S.q).by x y=some e:=n;rw[Fi p v,E]at n;show y∉((S.grown c z ks).keep c z S.q).gap x;rw[qF j l,u];rintro ⟨q,C,I⟩;rw[ajw I,ajw C]at n;rw[ajw (m _ _ _ n)]at q;rwa[h.by_ x y e n q]
def eP.fin (h:eP S R ks)(g:Good S [] R)(nd:ks.Nodup){c:Nat}(hc:c<S.q)(f:S.ax c=c):S.gap c=ks.filter λz=>(S.by c z).isNone:=by
 let sl:∀{l k:Zh},l.Sublist k->k.Nodup->l=k.filter λz=>decide (z∈l):=λ{l k} s=>by
  induction s with
  |slnil=>intro _;rfl
  |cons a s b=>
   cbv
  |cons_cons a s b=>
   intro m;let j:=ajX.mp m;rw[amo (by simp)]
   congr 1
   conv=>lhs;rw[b j.2]
   rwa[amy λz hz=>?_]
   cbv
 rw[sl (h.sub c hc) nd];rwa[amy λz hz=>?_]
 cases e:S.by c z with
 |some d=>
  have:=h.by_ c z d e;simp[this]
 |none=>
  cases q:z∈S.gap c
  ·simp[q]
  ·let⟨d,i⟩:=h.im c hc f z hz q;have:=g.nj.mpr i
   cbv
end
end L2
namespace L2
open PySem PySem.Spec PyProof.Rows
structure Fly (B:Heap) (l:Zr) (x:Zt) (cls a0:Zu) (h:Heap):Prop where
 stays:B.StaysIn h
 new:B.get? x=none
 ahU:h.FunFrames B l
 tr:∃fl,h.TracedAtW B x cls a0 fl
section
variable {X:Cx}{tg:Expr}
def iDK (tl:TE):TI:=λ c H R=>tl c H λx b=>∃d a,x=↑d/\b d\.dK a/\∀o,R (Ta d o a) (upd b d (.cq o (.dK a)))
def GF {tl:TE}(B:PE X e tl):PI X tg e (iDK tl):=by
 intro f s F H R I h;rwa[aZ (B f s F H _ I h) λu Q ζ=>?_];let⟨x,P,w,E,d,b,ex,v,q⟩:=ζ
 subst ex;ext E;obtain⟨-,g,y,rel,o,D,T,c,m,t,z,p,J⟩:=w.aM d _ v;rwa[Dk.iter g ⟨o,c,m,t⟩ (Bk (w.freeze v True.intro c) (Tc λX H h I a=>?_) ⟨_,ajx _ rfl,22⟩ (q o))];obtain⟨j,-,g,y,rel,O,M,C,c,m,k,z,p,J⟩:=I d _ a;rw[j]at c;obtain rfl:=Za0 c;rw[t]at k;injection k with L A
 subst L A;let n:⇑b=⇑y:=KV.length rel;let r:D.size=⇑b:=by rw[<-alE,pairs_len p,n]
 rwa[⟨⟨_,j,m,t⟩,r,λi S a=>?_⟩];let G:i<⇑b:=by cbv
 let⟨N,l,rk⟩:=(sI p rel).get (i:=i) (x:=kV b[i].1) (by cbv);rw[ajq,ak1,a]at l;obtain rfl:=Za0 l;rwa[_,rk,21,ajg G,2]
end
def B9 {g:TG}{e:TS}{o:Obj}{kvs:List (Key×V)}(a:Nat->St->Hp->Prop)(h:a 0 D H)(k:∀i D H,i<=⇑kvs->a i D H->H d\.cq o (.dK kvs))
 (l:∀i b D H,kvs[i]?\b->a i D H->g (kV b.1) D H λ c m=>e { G with nx:=a (i+ 1),ct:=a (i+ 1),bk:=G.nx } c m) (f:∀ D H,a ⇑kvs D H->G.nx D H):sx (Ta d o kvs) g e G D H:=
 Ol h k (λi D H x n p y=>by
  let⟨rfl,b,j,rfl⟩:=y;rwa[l i b D _ j p]) f
inductive X3 (a:Zt) (y z:V) (H:Hp) (Q:VK):Prop
 |mk (kvs:List (Key×V)) (k:Key):H a\.dK kvs->y=kV k->⇑kvs<sizeLine->(∀v,bB kvs k\v->Q v H)->(bB kvs k=none->Q z (upd H a (.dK (putK kvs k z))))->X3 a y z H Q
def Xb (td e tx:TE):TE:=λ b H Q=>td b H λx c=>Fd x c λa=>e b c λy d=>tx b d λz f=>X3 a y z f Q
section
variable {X:Cx}{o e f:Expr}{apos cG:Pos}{td ty tx:TE}
def ie (T:PE X o td)(t:PE X e ty)(S:PE X f tx)(m:M2 X o "setdefault" apos e f cG):PE X (.Call (.Attribute o "setdefault" apos) [e,f] [] cG) (Xb td ty tx):=by
 intro c s p H Q I h;rwa[alw m.base m.few m.line akC ak7 PySem.F.type_dict_setdefault (aZ (T c s p H _ I h) λu Z ζ=>?_)];let⟨x,V,A,rx,a,ex,d,N⟩:=ζ;subst ex;obtain rfl:u=Value.ref a:=rx;let⟨U,F,_⟩:=m8 A d;erw[U,F];rw[m.trees]
 rwa[akj rfl (akP (aki (aZ (t c Z p V _ A N) λiv M ζ=>?_)))];let⟨y,H2,P,ry,q2⟩:=ζ;rwa[ aki (aZ (S c M p H2 _ P q2) λfv s3 ζ=>?_)];let⟨z,J,n,C,g,k,E,ey,G,O,W⟩:=ζ;rwa[akU ?_]
 subst ey;let⟨R,w,B,rel,D⟩:=uk n.aM E;let b:=rel.val k;let j:⇑B<=sizeLine:=by rw[<-⇑rel];rwa[R]
 rwa[alD ak7 D.typeIs PySem.F.entry_dict_setdefault (PySem.F.args_dict_setdefault_3^_) (kt_meets_setdefault (bT X.prog X.w) a (jl ry) w fv) ⟨B,D,j,λv hv=>?_,λhn g1 i sb=>?_⟩]
 ·rw[hv]at b
  cases l:bB g k with
  |none=>rw[l]at b;rwa[b.elim]
  |some r=>
   rw[l]at b;rwa[r,J,n.tok _,b,O r l]
 ·rw[hn]at b
  cases l:bB g k with
  |some r=>rw[l]at b;rwa[b.elim]
  |none=>
   let Y:⇑(putK g k z)<=sizeLine:=by have:=g9 g k z;ext
   let t:∃q,g1.get? a\q:=let ⟨q,_,_,L,_⟩:=i;⟨q,L⟩
   rwa[z,_,kJ n ([E]▸True.intro) sb t (sG Y w (rel.put k C) i),C,W l]
end
namespace Di
section
variable {prog:Program}{w:World}{A:Around}{E:Zu->Zv->Prop}{s:Zv}{d:Zt}{es:Array DictEntry}{ep:Nat}
def meets (d:Zt)(a:(d==sysModules)=false):MeetsIn prog w (Builtin.«dict.items» ⟨[↑d],[]⟩) (λ_ R s=>(∃es ep,eB s.heap d es ep)/\R (.ok (.ret ↑↥s)) { s with heap:=s.heap.push ("dict_items">>>.fields #[↑d]) }):=
 .of_wp λA R s ζ=>by
  let⟨⟨es,ep,b⟩,h⟩:=ζ
  rwa[aje ?_];rwa[aje (alW (Dk.typ b) ?_)];rwa[ajl ?_];unfold Builtin.Dict.showsAll;rw[ajw (by rw[a];decide)];rwa[aje (ajl (aje (ajW (ajl ⟨12,h⟩))))]
theorem iter (c:s.heap.IsItemsView a d)(h:eB s.heap d es ep)
 (j:Q ↑↥s { s with heap:=s.heap.push ("dict_itemiterator">>>.fields #[.none,.bool false,↑d,.int 0 0,.int es.size 0,.int ep 0,.none,.none]) }):(prog<|>w) A (pyIter ↑a) Q E s:=by
 let⟨k,f,i,e⟩:=id c;let⟨o,g,l,b⟩:=id h;rwa[wpAny_pyIter_slot c.typeIs F.slot_dict_items_iter (akw F.slot_dict_items_iter c.typeIs F.entry_dict_items_iter ?_ (F.args_dict_items_iter_1 _))];rwa[aje (ajl (aje ?_))];rwa[aje (aka f e (x:=↑d) rfl (ajl (aje ?_)))];rwa[aje (alY g b (aje (wpAny_dictEpoch g b ?_)))];let own:Builtin.Dict_items.ownsTuple "dict_itemiterator"=true:=⋯
 simp only[own,amF];rwa[ajW (ajl ⟨12,"dict_itemiterator",_,⟨_,ajx _ rfl,2⟩,alK.lookup,5⟩) (by simp only[sizeOk,Builtin.Dict_items.ownedTupleFields,ajI,ajh,ajO,alv,sizeLine_eq];omega)];simpa [rawInt,Builtin.Dict_items.ownedTupleFields] using j
theorem next {it:Zt}{ok:Zu}{Q:Zm->Zv->Prop}(L:A.handled=none)(hit:IsItemIter s.heap it d i es.size ep ok v)(M:eB s.heap d es ep)
 (I:∀en g,es[i]?\en->IsItemIterOut g it d (i+ 1) es.size ep en.key en.val ↥s->g.get? ↥s\("tuple">>>.seq #[en.key,en.val])->
  (∀b o,b≠it->s•b\o->g.get? b\o)->Q (some ↑↥s) (s<*g)) (S:∀g,es[i]?=none->Heap.ExtBut it s.heap g->Q none (s<*g)):(prog<|>w) A (pyNext ↑it) Q E s:=by
 let⟨h,t,r,q,os⟩:=s;let⟨W,p,P,j⟩:=id M;let f:Shared.TypeIs ⟨h,t,r,q,os⟩ ↑it "dict_itemiterator":=⟨_,hit,2⟩;rwa[aje (wpAny_attempt (ako (name:=Str.ofString "__next__") f alK (akw alK f F.entry_dict_itemiterator_next ?_ (F.args_dict_itemiterator_next_1 _))))];rwa[aje (ajl (aje (aje ?_)))]
 first|(rwa[aje (wpAny_typeNameOfWhole_itemiter f (ajl ?_))];skip)|(rwa[aje (wpAny_typeNameOf_itemiter f (ajl ?_))];skip)
 rwa[aje (wpAny_fieldsOf hit rfl ?_)];let own:Builtin.Dict_items.ownsTuple "dict_itemiterator"=true:=⋯
 show wpAny _ _ (if (Value.ref d==Value.none)=true then _ else _) _ _ _;rw[ajw (show ¬((Value.ref d==Value.none)=true) by cbv)];rwa[aje (ajl (aje (alY p j ?_)))];rw[ajw (by simp)];rwa[aje (ajl (aje (wpAny_dictEpoch p j ?_)))];rw[ajw (by simp)];rwa[ajl ?_];rcases u:es[i]? with _|en <;> simp only[show ¬((i:Int)<0) by ext,amj,akg,u]
 all_goals
  rwa[aje ?_]
  first|(rwa[aje (wpAny_typeNameOfWhole_itemiter f (ajl ?_))];skip)|(rwa[aje (wpAny_typeNameOf_itemiter f (ajl ?_))];skip)
 ·show wpAny _ _ (setField ↑it 2 .none >>=_) _ _ _;rwa[aje (aln hit rfl (by simp) ?_)];rwa[aje ?_];rwa[aje (m:=firstArgMember _ _) (wpAny_of_eq (a:=Value.none) (by first|rfl|(simp only[firstArgMember];rfl)) ?_)];rwa[ajW ?_ (by size_fits)];rwa[aje (wpAny_handled ?_)];rw[show A.in1.handled=none from L];rwa[aje (ajl (wpAny_throw ?_))];rwa[aje (wpAny_isInstance (T:="StopIteration") (b:=true) ⟨_,ajx _ rfl,2⟩ isSubtype_stop ?_)];rwa[ajl (S _ u (((akM ..).extBut.push _).push _))]
 ·rwa[aje (wpAny_isOneOf_itemiter f ?_)];show wpAny _ _ (setField ↑it 3 (rawInt ((i:Int)+ 1)) >>=_) _ _ ⟨h,t,r,q,os⟩
  rwa[aje (akt hit (by simp) λg1 B s1=>?_)];let k:Shared.TypeIs ⟨g1,t,r,q,os⟩ ↑it "dict_itemiterator":=⟨_,B,2⟩;rwa[aje (akd (aje (wpAny_isOneOf_itemiter k (aje (wpAny_isOneOf_itemiter k ?_)))))];rwa[aje (wpAny_newTuple ?_)];let l:IsItemIter (g1.push ("tuple">>>.seq #[en.key,en.val])) it d (i+ 1) es.size ep ok v:=ajf _ B;generalize n:g1.push ("tuple">>>.seq #[en.key,en.val])=g2 at l;let z1:g1.objs.size=h.objs.size:=s1.1;let C:it<h.objs.size:=ajz hit;let D:g2.get? h.objs.size\("tuple">>>.seq #[en.key,en.val]):=by rw[<-n,<-z1];rwa[ajx _ rfl]
  let N:∀b o,b≠it->h.get? b\o->g2.get? b\o:=λb o c e=>by rw[<-n];rwa[ajf _ (s1.extBut b o c e)]
  show wpAny _ _ (Builtin.Dict_items.ownedTupleIsFree ↑it >>=_) _ _ ⟨g2,t,r,q,os⟩;rw[z1];rwa[aje ?_];rwa[aje (aka l rfl (x:=.none) rfl (ajl ?_))];rwa[aje (aka l rfl (x:=ok) rfl (aje (aka l rfl (x:=v) rfl ?_)))];rwa[aje (akt l (by simp) λX O s3=>?_)];rwa[aje (akt O (by simp) λU R s4=>?_)];rwa[aje (akt R (by simp) λV G s5=>?_)];rwa[aje (akt G (by simp) λy J H=>?_)];let z:∀b o,b≠it->g2.get? b\o->y.get? b\o:=λb o c e=>H.extBut b o c (s5.extBut b o c (s4.extBut b o c (s3.extBut b o c e)))
  rwa[aje (amx (ajl (ajl ⟨12,ajl (I en y u J (z _ _ (aku C) D) λb o c e=>z b o c (N b o c e))⟩)))]
end
end Di
abbrev L8 (d:Zt) (o:Obj) (kvs:List (Zd×V)):It:=Oj d o (.dT kvs) ⇑kvs λi H x H'=>∃p kp kv,kvs[i]?\kv/\H p=none/\H kp\.tup (kv.1.map kV)/\x=↑p/\H'=upd H p (.tup [↑kp,kv.2])
def QC {elts:Zs}{x1:Nat}{tp:Pos}(d it:Zt)(o:Obj)(R:Array DictEntry)(T:Nat)(t:List (Zd×V))(O:o.data=.dict R T):
 Turn P w K (.Tuple elts x1 tp) (L8 d o t) [it] it (λi h=>∃ok j,IsItemIter h it d i R.size T ok j) where
 mem:=by simp
 obj:=λi h st b f=>by
  cbv
 keep:=λi h h' ζ k=>by let⟨ok,j,e⟩:=ζ;rwa[⟨ok,j,k it (by simp) _ e⟩]
 item:=by
  intro X J F hK L i l s σ H E I m st u;subst J F;let⟨ok,j,hit⟩:=st;let⟨hi,n⟩:=u;let⟨r,z,y⟩:=IW I.aM n O;let M:it<↥s:=ajz hit;refine Di.next (I.ok.hd L) hit r (λen g C G N x=>⟨12,wpAny_letOwnedTupleGo_items G λZ D U=>?_⟩) λg e=>by cbv
  let⟨S,p,v,a,b,c,d,rv⟩:=y i _ C;rw[b,d]at N;rwa[⟨↑↥s,_,I.BI (fp:=[it]) (a:=↥s) (o:=.tup [↑p,S.2]) (h':=Z) (t':=s.toks) (λb B f q=>?_) m (ajp _) ⟨Za4 2,[↑p,v],.cons rfl (.cons rv .nil),_,(U.2 _ (aku M)).trans N,212⟩,2,⟨_,p,S,a,I.aM.fresh (ajp _),c,22⟩,⟨11,D⟩,λb f=>?_⟩]
  ·simp at f;rwa[(U.2 b f).trans (x b B f q)]
  ·rw[ajn.mp f,ai (ajL M)];rwa[(m it (by simp)).1]
 done:=by
  intro X J F hK L i l s σ H E I m st u;subst J F;let⟨ok,j,hit⟩:=st;let⟨hi,n⟩:=u;let⟨r,z,y⟩:=IW I.aM n O;rwa[Di.next (I.ok.hd L) hit r (λen g e=>by cbv) λg _ eb=>⟨2,I.mS (fp:=[it]) (t':=s.toks) (λb B f q=>eb b B (λz=>f (by simp[z])) q) m⟩]
 self:=λA i s Q E ζ h=>by let⟨ok,j,hit⟩:=ζ;rwa[PySem.W.kcp_self hit h]
section
variable {X:Cx}
def iDI (tl:TE):TI:=λ c H R=>tl c H λx b=>∃d a,x=↑d/\b d\.dT a/\∀o,R (L8 d o a) (upd b d (.cq o (.dT a)))
def Xc {tl:TE}{elts:Zs}{apos c:Pos}(N:PE X e tl)(f:attributeBase e "items" X.env (eval e X.env)=eval e X.env)(hline:(apos.endLine==c.line)=true):
 PI X (.Tuple elts n p) (.Call (.Attribute e "items" apos) [] [] c) (iDI tl):=by
 intro r s Q H R I h;rwa[wpAny_Call_method0_late f hline (aZ (N r s Q H _ I h) λu s1 ζ=>?_)];let⟨x,M,k,O,d,j,ex,v,q⟩:=ζ;subst ex;ext O;obtain⟨-,C,ys,V,o,m,t,A,E,D,Y,Z⟩:=k.aM d _ v;let l:eB s1.heap d m t:=⟨o,A,E,D⟩;let B:Fb M d:=.inr ⟨j,.inl v⟩;let⟨F,G,_⟩:=m8 k B;rwa[⟨"dict","dict.items",akC,PySem.F.slot_dict_items,PySem.F.type_dict_items,F,G,akj rfl (PySem.evalArgs_none ?_)⟩];rwa[alD PySem.F.slot_dict_items F PySem.F.entry_dict_items (PySem.F.args_dict_items_1 _) (Di.meets d C) ⟨⟨m,t,l⟩,5⟩];let S:(s1.heap.push ("dict_items">>>.fields #[↑d])).IsItemsView ↥s1 d:=⟨_,ajx _ rfl,22⟩;let g:eB (s1.heap.push ("dict_items">>>.fields #[↑d])) d m t:=⟨o,ajf _ A,E,D⟩;rwa[Di.iter (s:={ s1 with heap:=s1.heap.push ("dict_items">>>.fields #[↑d]) }) S g ?_];let L:=(k.freeze v True.intro A).kept (h':=(s1.heap.push ("dict_items">>>.fields #[↑d])).push ("dict_itemiterator">>>.fields #[.none,.bool false,↑d,.int 0 0,.int m.size 0,.int t 0,.none,.none])) (t':=s1.toks) λb o a=>ajf _ (ajf _ a)
 let i:↥s1<=(s1.heap.push ("dict_items">>>.fields #[↑d])).objs.size:=by rw[akW];ext
 let T:=QC (P:=X.prog) (w:=X.w) (K:=X.K) (elts:=elts) (x1:=n) (tp:=p) d (s1.heap.push ("dict_items">>>.fields #[↑d])).objs.size o m t j D;rwa[⟨111112,L,T,⟨11,ajx _ rfl⟩,λb J=>?_,q o⟩];rw[ajn.mp J];let y:=k.aM.fresh i;rwa[k.Gb i ([ai (λz=>by cbv)]▸y)]
end
def Tq {g:TG}{e:TS}{o:Obj}{kvs:List (Zd×V)}(a:Nat->St->Hp->Prop)(k:a 0 D H)(m:∀i D H,i<=⇑kvs->a i D H->H d\.cq o (.dT kvs))
 (q:∀i b D H p kp,kvs[i]?\b->H p=none->H kp\.tup (b.1.map kV)->a i D H->g ↑p D (upd H p (.tup [↑kp,b.2])) λ c r=>e { G with nx:=a (i+ 1),ct:=a (i+ 1),bk:=G.nx } c r) (f:∀ D H,a ⇑kvs D H->G.nx D H):sx (L8 d o kvs) g e G D H:=
 Ol k m (λi D H x s p y=>by
  let⟨j,kp,b,l,h,n,rfl,rfl⟩:=y;rwa[q i b D _ j kp l h n p]) f
theorem vO:∀(n:Nat) (l:Zh) (lo:Int),l.Nodup->(∀x∈l,lo<=x/\x<lo+ n)->⇑l<=n
 |0,[],_,_,_=>ajp _
 |0,x::l,lo,_,h=>by have:=h x (ajA ..);ext
 |n+ 1,l,lo,b,h=>by
  cases c:lo+ n∈l
  ·let d:=vO n (l.erase (lo+ n)) lo (b.erase _) λx a=>by
    let e:=(b.mem_erase_iff.mp a);let f:=h x e.2;ext
   rw[alA c]at d;ext
  ·let d:=vO n l lo b λx a=>by
    let f:=h x a;let g:x≠lo+ n:=λz=>c (by rw[<-z];rwa[a])
    ext
   ext
section
variable {κ:Type} [DecidableEq κ]
def Jb (b:List (κ×V))(k j:κ):bB (dC b k) j=if j=k then none else bB b j:=by
 unfold dC
 induction b with
 |nil=>split <;> rfl
 |cons p r e=>
  cases c:p.1=k
  ·rw[List.filter_cons_of_neg (by simp[c]),e];cases a:j=k
   ·cbv
   ·rw[ajw a,ajw a,cM (λz=>a (z.symm.trans c))]
  ·rw[amo (by simp[c])];cases a:p.1=j
   ·rw[cS a,ajw (λz=>c (a.trans z)),cS a]
   ·rw[cM a,e];cases d:j=k
    ·cbv
    ·rw[ajw d,ajw d,cM a]
def Ca (a:List (κ×V))(k:κ)(v:V):(putK a k v).map (·.1)=if k∈a.map (·.1) then a.map (·.1) else a.map (·.1)++[k]:=by
 unfold putK;cases h:(a.any λb=>decide (b.1=k))=true
 ·let c:k∈a.map (·.1):=by
   let⟨b,e,d⟩:=List.any_eq_true.mp h;rwa[aj7.mpr ⟨b,e,ajM d⟩]
  rw[ajD h,ajD c,aj8];rwa[ale λb _=>?_]
  cbv
 cbv
def Ts {a:List (κ×V)}(k:κ)(v:V)(h:(a.map (·.1)).Nodup):((putK a k v).map (·.1)).Nodup:=by
 rw[Ca];split
 ·rwa[h]
 ·rename_i b;rwa[aj4.mpr ⟨h,by simp,λx d y c z=>?_⟩];rw[ajn.mp c]at z;rwa[b (by rw[<-z];rwa[d])]
def QD {a:List (κ×V)}(k:κ)(h:(a.map (·.1)).Nodup):((dC a k).map (·.1)).Nodup:=by
 rwa[List.Nodup.sublist ((alf).map _) h]
def ny {a:List (κ×V)}(h:(a.map (·.1)).Nodup){b:κ×V}(hm:b∈a):bB a b.1\b.2:=by
 induction a with
 |nil=>ext hm
 |cons p r c=>
  rw[akp,ajX]at h;rcases ajE.mp hm with e|hm
  ·rw[e];rwa[cS rfl]
  ·rw[cM (λz=>h.1 ([z]▸akV hm))];rwa[c h.2 hm]
def vP {a:List (κ×V)}{k:κ}(h:bB a k\q):(k,q)∈a:=by
 unfold bB at h
 cases e:a.find? λb=>decide (b.1=k) with
 |none=>rw[e]at h;ext h
 |some b=>
  cbv
end
def DI (H:Hp)(d:Zt)(f:Int->Zc):Prop:=∃a:List (Key×V),H d\.dK a/\(a.map (·.1)).Nodup/\(∀b∈a,∃i:Int,b.1=Sum.inl i)/\∀i:Int,bB a (Sum.inl i)=f i
def DI.at {f:Int->Zc}(h:DI H d f)(k:∀o,H d\o->I d\o):DI I d f:=by
 let⟨a,c,b⟩:=h;rwa[a,k _ c,b]
def DI.congr {f g:Int->Zc}(h:DI H d f)(e:∀i,f i=g i):DI H d g:=by
 let⟨a,j,b,k,c⟩:=h;rwa[a,j,b,k,λi=>(c i).trans (e i)]
def Cb {a:List (Key×V)}{f:Int->Zc}(k:(a.map (·.1)).Nodup)(h:∀g∈a,∃i:Int,g.1=Sum.inl i)(l:∀i:Int,bB a (Sum.inl i)=f i)(i:Int)(v:V):DI (upd H d (.dK (putK a (Sum.inl i) v))) d (λj=>if j=i then some v else f j):=by
 rwa[⟨_,aj,Ts^k,λg b=>?_,λj=>?_⟩]
 ·have:g.1∈(putK a (Sum.inl i) v).map (·.1):=akV b;rw[Ca]at this;split at this
  ·let⟨q,c,e⟩:=aj7.mp this;rw[<-e];rwa[h q c]
  ·rcases ajr.mp this with z|z
   ·let⟨q,c,e⟩:=aj7.mp z;rw[<-e];rwa[h q c]
   ·rwa[i,ajn.mp z]
 ·rw[qC];dsimp only;cases e:j=i
  ·rw[ajD e,ajD (by rw[e])]
  ·rw[ajw e,ajw (λz=>e (Sum.inl.inj z)),l]
def yO {a:List (Key×V)}{f:Int->Zc}(e:(a.map (·.1)).Nodup)(g:∀c∈a,∃i:Int,c.1=Sum.inl i)(h:∀i:Int,bB a (Sum.inl i)=f i)(i:Int):DI (upd H d (.dK (dC a (Sum.inl i)))) d (λj=>if j=i then none else f j):=by
 rwa[⟨_,aj,QD _ e,λc b=>g c ((akY.mp b).1),λj=>?_⟩];rw[Jb]
 cbv
def nB {c:List (Key×V)}{f:Int->Zc}(k:(c.map (·.1)).Nodup)(m:∀d∈c,∃i:Int,d.1=Sum.inl i)(p:∀i:Int,bB c (Sum.inl i)=f i){n:Nat}{lo:Int}(o:∀i v,f i\v->lo<=i/\i<lo+ n):⇑c<=n:=by
 let h:=vO n (c.map λd=>match d.1 with|Sum.inl i=>i|Sum.inr _=>0) lo ?_ λx r=>?_
 ·rw[ajk]at h;rwa[h]
 ·let e:c.map (·.1)=(c.map λd=>match d.1 with|Sum.inl i=>i|Sum.inr _=>(0:Int)).map Sum.inl:=by
   rw[aj8];rwa[ale λd g=>?_]
   let⟨i,j⟩:=m d g;show d.1=Sum.inl (match d.1 with|Sum.inl i=>i|Sum.inr _=>(0:Int));rw[j]
  rw[e]at k;rwa[List.Pairwise.imp (λ{a b} q z=>q (akm Sum.inl z)) (al0.mp k)]
 ·let⟨d,g,rfl⟩:=aj7.mp r;let⟨i,j⟩:=m d g;let l:=ny k g;rw[j,p]at l;rw[j];rwa[o i _ l]
abbrev bf:=Int->Int->Int->Bool
structure cy (H:Hp) (k:Zt) (D:Int->Zp) (E:Int->Int->Zp) (S:bf):Prop where
 top:DI H k λc=>(D c).map V.ref
 row:∀c d,D c\d->DI H d λs=>(E c s).map V.ref
 vh:∀c s e,E c s\e->DI H e λo=>if S c s o=true then some (.bl true) else none
 ed:∀c s e,E c s\e->∃d,D c\d
 se:∀c s o,S c s o=true->∃e,E c s\e
 nd:∀c d,D c\d->d≠k
 ne:∀c s e,E c s\e->e≠k
 dd:∀c c' d,D c\d->D c'\d->c=c'
 de:∀c c' s d,D c\d->E c' s\d->False
 ee:∀c s c' s' e,E c s\e->E c' s'\e->c=c'/\s=s'
def cf (k:Zt)(D:Int->Zp)(E:Int->Int->Zp)(b:Zt):Prop:=b=k\/(∃c,D c\b)\/∃c s,E c s\b
section
variable {H H':Hp}{k:Zt}{D:Int->Zp}{E:Int->Int->Zp}{S:bf}
def cy.keep (h:cy H k D E S)(f:∀b o,cf k D E b->H b\o->H' b\o):cy H' k D E S:=
 ⟨h.top.at λo e=>f _ _ (.inl rfl) e,λc d e=>(h.row c d e).at λo q=>f _ _ (.inr (.inl ⟨c,e⟩)) q,λc s e q=>(h.vh c s e q).at λo r=>f _ _ (.inr (.inr ⟨c,s,q⟩)) r,h.ed,h.se,h.nd,h.ne,h.dd,h.de,h.ee⟩
def cy.same (h:cy H k D E S)(s:ao H H'):cy H' k D E S:=h.keep λb o _ e=>s b o e
def cy.there (h:cy H k D E S){b:Zt}(d:cf k D E b):∃a,H b\(.dK a):=by
 rcases d with rfl|⟨c,e⟩|⟨c,s,e⟩
 ·let⟨a,q,_⟩:=h.top;rwa[a,q]
 ·let⟨a,q,_⟩:=h.row c b e;rwa[a,q]
 ·let⟨a,q,_⟩:=h.vh c s b e;rwa[a,q]
def cy.congr (h:cy H k D E S){d:Int->Zp}{b:Int->Int->Zp}{a:bf}(e:∀c,D c=d c)(g:∀c s,E c s=b c s)(f:∀c s o,S c s o=a c s o):cy H k d b a:=by
 obtain rfl:D=d:=funext e;obtain rfl:E=b:=funext λc=>funext (g c)
 obtain rfl:S=a:=funext λc=>funext λs=>funext (f c s)
 rwa[h]
def cy.pL (h:cy H k D E S):∃a:List (Key×V),H k\.dK a/\(a.map (·.1)).Nodup/\(∀b∈a,∃i:Int,b.1=Sum.inl i)/\∀i:Int,bB a (Sum.inl i)=(D i).map V.ref:=h.top
def cy.pM (h:cy H k D E S){c:Int}{d:Zt}(hd:D c\d):∃a:List (Key×V),H d\.dK a/\(a.map (·.1)).Nodup/\(∀b∈a,∃i:Int,b.1=Sum.inl i)/\∀i:Int,bB a (Sum.inl i)=(E c i).map V.ref:=h.row c d hd
def cy.yP (h:cy H k D E S){c s:Int}{e:Zt}(d:E c s\e):∃a:List (Key×V),H e\.dK a/\(a.map (·.1)).Nodup/\(∀b∈a,∃i:Int,b.1=Sum.inl i)/\∀i:Int,bB a (Sum.inl i)=if S c s i=true then some (.bl true) else none:=h.vh c s e d
def cy.Fj (h:cy H k D E S){c s:Int}{d e:Zt}(hd:D c\d)(N:E c s=none){j:List (Key×V)}(B:H d\.dK j)(J:H e\.dK [])(nw:¬cf k D E e):
 cy (upd H d (.dK (putK j (Sum.inl s) ↑e))) k D (λb f=>if b=c/\f=s then some e else E b f) S:=by
 let x:e≠d:=λz=>nw (.inr (.inl ⟨c,[z]▸hd⟩))
 let⟨t,C,L,F,I⟩:=h.row c d hd;rw[B]at C;obtain rfl:j=t:=by cbv
 rwa[⟨h.top.at λo q=>?_,λb u i=>?_,λb f m a=>?_,λb f m a=>?_,λb f o G=>?_,h.nd,λb f m a=>?_,h.dd,λb r f u i a=>?_,λb f r w m p l=>?_⟩]
 ·rw[ai (h.nd c d hd).symm];rwa[q]
 ·cases g:b=c
  ·subst g;have:u=d:=by rw[hd]at i;rwa[(Za0 i).symm]
   subst this;rwa[(Cb L F I s ↑e).congr λf=>?_]
   cbv
  ·let y:u≠d:=λz=>g (h.dd _ _ _ i ([z]▸hd))
   rwa[((h.row b u i).at λo q=>[ai y]▸q).congr λf=>?_]
   cbv
 ·cases g:b=c/\f=s
  ·rw[ajD g]at a;obtain rfl:=Za0 a;let⟨rfl,rfl⟩:=g;rwa[⟨[],[ai x]▸J,by simp,(λM A=>by ext A),λo=>?_⟩]
   cases q:S b f o with
   |true=>let⟨m,z⟩:=h.se _ _ _ q;cbv
   |false=>dsimp only;rw[q];rfl
  ·rw[ajw g]at a;exact(h.vh b f m a).at λo q=>by rw[ai (λz=>h.de c b f d hd (by cbv))];rwa[q]
 ·cases g:b=c/\f=s
  ·cbv
  ·rw[ajw g]at a;rwa[h.ed _ _ _ a]
 ·cases g:b=c/\f=s
  ·rwa[e,ajD g]
  ·let⟨m,z⟩:=h.se _ _ _ G;cbv
 ·cases g:b=c/\f=s
  ·rw[ajD g]at a;obtain rfl:=Za0 a;rwa[λz=>nw (.inl z)]
  ·rw[ajw g]at a;rwa[h.ne _ _ _ a]
 ·cases g:r=c/\f=s
  ·rw[ajD g]at a;obtain rfl:=Za0 a;rwa[nw (.inr (.inl ⟨b,i⟩))]
  ·rw[ajw g]at a;rwa[h.de _ _ _ _ i a]
 ·cases v:b=c/\f=s
  ·rw[ajD v]at p;obtain rfl:=Za0 p;cases n:r=c/\w=s
   ·rwa[v.1.trans n.1.symm,v.2.trans n.2.symm]
   ·rw[ajw n]at l;rwa[(nw (.inr (.inr ⟨r,w,l⟩))).elim]
  ·rw[ajw v]at p;cases n:r=c/\w=s
   ·rw[ajD n]at l;obtain rfl:=Za0 l;rwa[(nw (.inr (.inr ⟨b,f,p⟩))).elim]
   ·rw[ajw n]at l;rwa[h.ee _ _ _ _ _ p l]
def cy.setCell (h:cy H k D E S){c s:Int}{e:Zt}(i:E c s\e){u:HO}{g:Int->Bool}(n:DI (upd H e u) e λo=>if g o=true then some (.bl true) else none):
 cy (upd H e u) k D E (λa d o=>if a=c/\d=s then g o else S a d o):=by
 rwa[⟨h.top.at λo q=>?_,λa m j=>(h.row a m j).at λo q=>?_,λa d p b=>?_,h.ed,λa d o l=>?_,h.nd,h.ne,h.dd,h.de,h.ee⟩]
 ·rw[ai (h.ne _ _ _ i).symm];rwa[q]
 ·rw[ai (λz=>h.de _ _ _ _ j ([z]▸i))];rwa[q]
 ·cases f:a=c/\d=s
  ·let⟨rfl,rfl⟩:=f;rw[i]at b;obtain rfl:=Za0 b;rwa[n.congr λo=>?_]
   simp
  ·refine((h.vh a d p b).at λo q=>?_).congr λo=>by rw[ajw f]
   rw[ai (λz=>f (h.ee _ _ _ _ _ b ([z]▸i)))];rwa[q]
 ·cases f:a=c/\d=s
  ·rwa[e,[f.1,f.2]▸i]
  ·rw[ajw f]at l;rwa[h.se _ _ _ l]
def cy.Jc (h:cy H k D E S){c s:Int}{e:Zt}(j:E c s\e){a:List (Key×V)}(l:H e\.dK a)(o:Int):
 cy (upd H e (.dK (putK a (Sum.inl o) (.bl true)))) k D E (λi f b=>S i f b || (decide (i=c) && decide (f=s) && decide (b=o))):=by
 let⟨d,n,q,p,m⟩:=h.vh c s e j;rw[l]at n;obtain rfl:a=d:=by cbv
 rwa[(h.setCell (g:=λb=>S c s b || decide (b=o)) j ((Cb q p m o (.bl true)).congr λb=>?_)).congr (λ_=>rfl) (λ_ _=>rfl) λi f b=>?_]
 ·cbv
 cbv
def cy.QF (h:cy H k D E S){c s:Int}{e:Zt}(j:E c s\e){a:List (Key×V)}(l:H e\.dK a)(o:Int):
 cy (upd H e (.dK (dC a (Sum.inl o)))) k D E (λi f b=>S i f b && !(decide (i=c) && decide (f=s) && decide (b=o))):=by
 let⟨d,n,q,p,m⟩:=h.vh c s e j;rw[l]at n;obtain rfl:a=d:=by cbv
 rwa[(h.setCell (g:=λb=>S c s b && !decide (b=o)) j ((yO q p m o).congr λb=>?_)).congr (λ_=>rfl) (λ_ _=>rfl) λi f b=>?_]
 ·cbv
 cbv
def cy.yQ (h:cy H k D E S){n:Int}{d:Zt}(hd:D n=none){g:List (Key×V)}(v:H k\.dK g)(A:H d\.dK [])(nw:¬cf k D E d):
 cy (upd H k (.dK (putK g (Sum.inl n) ↑d))) k (λc=>if c=n then some d else D c) E S:=by
 let⟨m,w,B,x,y⟩:=h.top;rw[v]at w;obtain rfl:g=m:=by cbv
 let t:d≠k:=λz=>nw (.inl z)
 let en:∀s,E n s=none:=λs=>by
  cases q:E n s with
  |none=>rfl
  |some e=>let⟨i,z⟩:=h.ed _ _ _ q;cbv
 rwa[⟨(Cb B x y n ↑d).congr λc=>?_,λc i a=>?_,λc s e p=>(h.vh c s e p).at λo q=>?_,λc s e p=>?_,h.se,λc i a=>?_,h.ne,λc r i b f=>?_,λc r s i b f=>?_,h.ee⟩]
 ·cbv
 ·cases e:c=n
  ·rw[ajD e]at a;obtain rfl:=Za0 a;subst e;rwa[⟨[],[ai t]▸A,by simp,(λC u=>by ext u),λs=>?_⟩];dsimp only;rw[en s];rfl
  ·rw[ajw e]at a;exact(h.row c i a).at λo q=>by rw[ai (h.nd^a)];rwa[q]
 ·rw[ai (h.ne _ _ _ p)];rwa[q]
 ·let⟨i,z⟩:=h.ed _ _ _ p
  cbv
 ·cases e:c=n
  ·cbv
  ·rw[ajw e]at a;rwa[h.nd^a]
 ·cases j:c=n
  ·rw[ajD j]at b;obtain rfl:=Za0 b;cases l:r=n
   ·rw[j,l]
   ·rw[ajw l]at f;rwa[(nw (.inr (.inl ⟨_,f⟩))).elim]
  ·rw[ajw j]at b;cases l:r=n
   ·rw[ajD l]at f;obtain rfl:=Za0 f;rwa[(nw (.inr (.inl ⟨_,b⟩))).elim]
   ·rw[ajw l]at f;rwa[h.dd _ _ _ b f]
 ·cases j:c=n
  ·rw[ajD j]at b;obtain rfl:=Za0 b;rwa[nw (.inr (.inr ⟨11,f⟩))]
  ·rw[ajw j]at b;rwa[h.de _ _ _ _ b f]
def cy.L9 (h:cy H k D E S)(m:Int){b:List (Key×V)}(p:H k\.dK b):
 cy (upd H k (.dK (dC b (Sum.inl m)))) k (λc=>if c=m then none else D c) (λc s=>if c=m then none else E c s) (λc s o=>S c s o && !decide (c=m)):=by
 let⟨i,r,v,t,u⟩:=h.top;rw[p]at r;obtain rfl:b=i:=by cbv
 let un:∀{c:Int} {x y:Zp} {z:Zt},(if c=m then x else y)\z->x=none->c≠m/\y\z:=λ{c x y z} q A=>by
  cbv
 rwa[⟨(yO v t u m).congr λc=>?_,λc d hd=>?_,λc s e a=>?_,λc s e a=>?_,λc s o n=>?_,λc d hd=>?_,λc s e a=>?_,λc l d g f=>?_,λc l s d g f=>?_,λc s l w e g f=>?_⟩]
 ·cbv
 ·let⟨j,hd⟩:=un hd rfl;rwa[((h.row c d hd).at λo q=>[ai (h.nd^hd)]▸q).congr λs=>?_]
  rw[ajw j]
 ·let⟨j,a⟩:=un a rfl;rwa[((h.vh c s e a).at λo q=>[ai (h.ne _ _ _ a)]▸q).congr λo=>?_]
  simp[j]
 ·let⟨j,a⟩:=un a rfl;let⟨d,z⟩:=h.ed _ _ _ a
  cbv
 ·rw[aj6]at n;let⟨e,z⟩:=h.se _ _ _ n.1
  cbv
 ·rwa[h.nd^(un hd rfl).2]
 ·rwa[h.ne _ _ _ (un a rfl).2]
 ·rwa[h.dd _ _ _ (un g rfl).2 (un f rfl).2]
 ·rwa[h.de _ _ _ _ (un g rfl).2 (un f rfl).2]
 ·rwa[h.ee _ _ _ _ _ (un g rfl).2 (un f rfl).2]
end
namespace Et
def meets (l:Zt)(items:Zn)(n:Nat)(dct:Zp)(j:Array Zm):
 Meets (Builtin.«enumerate.__new__» ⟨[.type "enumerate",↑l],[]⟩) (λ_ R s=>s•l\{ cls:=.type "tuple",dict:=dct,data:=.seq items n,slots:=j }/\
  R (.ok (.ret (↑(s.heap.push ("tuple_iterator">>>.fields #[↑l,.int 0 0])).objs.size)))
    { s with heap:=(s.heap.push ("tuple_iterator">>>.fields #[↑l,.int 0 0])).push ("enumerate">>>.fields #[.none,.bool false,↑↥s,rawInt 0,.none,.none]) }):=
 .of_wp λb w A R s h=>by
  let⟨i,g,d,k,os⟩:=s;let⟨a,h⟩:=h;let e:=sub_enumerate;let f:Heap.IsTuple (Shared.heap ⟨i,g,d,k,os⟩) l items:=⟨_,a,2,n,2⟩
  wp_walk using alx a;rwa[wpAny_stack_any λst=>ajl ?_]
  split
  ·rename_i c _ _ _ _ _;cases (c==Value.type "enumerate") <;> (wp_walk using alx a,wpAny_pyIter_tuple f;rwa[12,h])
  ·wp_walk using alx a,wpAny_pyIter_tuple f;rwa[12,h]
theorem call {items:Zn}(k:s.heap.IsTuple a items)
 (h:∀g,IsEnum g (↥s+ 1) ↥s 0 .none->g.IsTupleIter ↥s a 0->g.objs.size=↥s+ 2->(∀b o,s•b\o->g.get? b\o)->Q ↑(↥s+ 1) (s<*g)):
 (P<|>w) A (call (.type "enumerate") [↑a]) Q E s:=by
 let⟨⟨c,dct,l,j⟩,m,f,n,d⟩:=k;replace f:c=.type "tuple":=f;replace d:l=.seq items n:=d;subst f d;rwa[callType_new F.called_enumerate ⋯ (F.typeCall_enumerate_1 _) (F.newCall_enumerate_1 _) (λobj=>F.args_object_init_2 obj _) F.entry_enumerate_new (meets a items n dct j) ⟨m,5⟩];let e:(s.heap.push ("tuple_iterator">>>.fields #[↑a,.int 0 0])).objs.size=↥s+ 1:=akW ..;show _/\_;rw[e]
 let i:IsEnum ((s.heap.push ("tuple_iterator">>>.fields #[↑a,.int 0 0])).push ("enumerate">>>.fields #[.none,.bool false,↑↥s,rawInt 0,.none,.none])) (↥s+ 1) ↥s 0 .none:=by
  have:=ajx (s.heap.push ("tuple_iterator">>>.fields #[↑a,.int 0 0])) (o:=("enumerate">>>.fields #[.none,.bool false,↑↥s,rawInt 0,.none,.none])) rfl;rw[e]at this;rwa[this]
 rwa[⟨_,i,2⟩,h _ i ⟨_,ajf _ (ajx _ rfl),22⟩ (by rw[akW,e]) λb o x=>ajf _ (ajf _ x)]
end Et
abbrev abN (K:Za1) (a:Zt):It:=Ff (λH=>bz K H a) Nat.cast
section
variable {X:Cx}
def Tt (K:Za1)(e:TA):TI:=λ f H R=>e f H λc b=>∃a,c=[↑a]/\(∃d,bz K b a d)/\R (abN K a) b
def Ma {elts:Zs}{b d:Pos}(m:Gl X "enumerate")(x:X.mg "enumerate"=none)(y:PE X e r)(j:starEach [e] X.env=[(false,eval e X.env)]):
 PI X (.Tuple elts n p) (.Call (.Name "enumerate" b) [e] [] d) (Tt X.K (jj r jZ)):=by
 intro a s w H R I h;rwa[Call_ (iu I m x boot_enumerate (akk (aZ ((ae y ak j) d a s w H _ I h) λG s1 ζ=>?_) j rfl))];let⟨B,E,i,k,l,c,⟨F,t⟩,q⟩:=ζ;subst c;let⟨u,rfl,z⟩:=vals1 k;ext z;let⟨f,C,pl,D⟩:=i.tuple t;rwa[Et.call (show s1.heap.IsTuple l f.toArray from pl) λA g hit v o=>yK i (EL l _) (λ_=>rfl) g hit o q]
end
section
variable {K:Za1}{mg:Str->Zm}{h:Heap}{C f:Zt}{x q:Str}{st:Stmt}{ps:Zq}{oc kV doc pm b8 ct:Zu}{od an:Zp}{Br:Array Zm}
theorem Def.of (X:K.In h)(G:h.Ns mainGlobals mg)(a:PySem.W.nsIn K mainGlobals x\some ↑f)(l:K.lookup f\⟨oc,od,.func (PySem.W.fnOf x x (dH st) (cI st) (az st) .none kV doc pm an b8 ct),Br⟩)(c:PySem.W.codeIn K b8 x=true)(k:PySem.W.keepIn K ↑f=true)
 (b:∀(kV doc pm:Zu) (an:Zp) (b8 ct:Zu) (us:Zl),⇑us=⇑ps->bindArgs (PySem.W.fnOf x x (dH st) (cI st) (az st) .none kV doc pm an b8 ct) ⟨us,[]⟩=pure (ps.zip us)):Def K mg x st ps f (PySem.W.fnOf x x (dH st) (cI st) (az st) .none kV doc pm an b8 ct):=
 let F:=Iu (st:=st) l c k
 ⟨F,PySem.W.mg_of X G a,F.binds (ps:=ps) b⟩
theorem MDef.of (a:PySem.W.findIn K ↑C x\some ↑f)(i:PySem.W.isFn K ↑f=true)(l:K.lookup f\⟨oc,od,.func (PySem.W.fnOf x q (dH st) (cI st) (az st) .none kV doc pm an b8 ct),Br⟩)(c:PySem.W.codeIn K b8 q=true)(k:PySem.W.keepIn K ↑f=true)
 (b:∀(kV doc pm:Zu) (an:Zp) (b8 ct:Zu) (us:Zl),⇑us=⇑ps->bindArgs (PySem.W.fnOf x q (dH st) (cI st) (az st) .none kV doc pm an b8 ct) ⟨us,[]⟩=pure (ps.zip us)):MDef K C x q st ps f (PySem.W.fnOf x q (dH st) (cI st) (az st) .none kV doc pm an b8 ct):=
 let F:=Iu (st:=st) l c k
 ⟨F,⟨a,i,k⟩,F.binds (ps:=ps) b⟩
def Def.fd {fd:FuncData}(D:Def K mg x st ps f fd):∃(kV doc pm:Zu) (an:Zp) (b8 ct:Zu),fd=PySem.W.fnOf x x (dH st) (cI st) (az st) .none kV doc pm an b8 ct:=by
 let⟨oc,od,kV,doc,pm,an,b8,ct,Br,e,_⟩:=D.F.ex;rwa[kV,doc,pm,an,b8,ct,e]
end
end L2
namespace L2
noncomputable def wk (b:Nat->Int->Zj):Nat->Zh->Zj
 |c,[]=>some c
 |c,z::w=>match b c z with
  |none=>none
  |some d=>wk b d w
section
variable {b:Nat->Int->Zj}
def kO (h:b n z\m):wk b n (z::l)=wk b m l:=by
 show (match b n z with|none=>none|some m=>wk b m l)=_;rw[h]
def xl (h:wk b n (z::l)\m):∃d,b n z\d/\wk b d l\m:=by
 cases q:b n z with
 |none=>
  let a:(match b n z with|none=>none|some d=>wk b d l)\m:=h;rw[q]at a;ext a
 |some d=>rw[kO q]at h;rwa[d,2,h]
theorem xm:∀{u v:Zh} {c d:Nat},wk b c u\d->wk b c (u++v)=wk b d v
 |[],v,c,d,h=>by rw[Za0 h];rfl
 |z::u,v,c,d,h=>by
  let⟨e,f,a⟩:=xl h;rw[alI,kO f];rwa[xm a]
def Tv (h:b n z\m):wk b n [z]\m:=by rw[kO h];rfl
def take_snoc (h:l[i]?\z):l.take (i+ 1)=l.take i++[z]:=by rw[akx,h];rfl
def drop_cons (h:l[i]?\z):l.drop i=z::l.drop (i+ 1):=by
 let a:=(aji.mp h).1;rw[al8 a,(aji.mp h).2]
end
structure Later (S S':RS):Prop where
 el:∀c,c<S.q->S'.ax (S.ax c)=S'.ax c
 by_:∀c z d,S.by c z=some d->S'.by (S'.ax c) z=some (S'.ax d)
def Later.of {l:Za2}(h:Good S [] R)(g:Good T [] l)(i:∀a z b,R a z b->l a z b)(k:S.q<=T.q):Later S T:=by
 let el:∀c,c<S.q->T.ax (S.ax c)=T.ax c:=λc hc=>(g.fin (ajK (h.lt hc) k) (ajK hc k)).mpr ((h.cg c hc).mono i).symm
 rwa[⟨el,λc z d e=>?_⟩];let⟨f,j,r,n,m⟩:=h.so _ _ _ e;let⟨o,l2,_⟩:=h.rl _ _ _ r;rw[<-n,<-m,el f o,el j l2];rwa[g.nj.mpr ⟨f,j,i _ _ _ r,22⟩]
theorem Later.wk (h:Later S T):∀{w:Zh} {c d:Nat},wk S.by c w=some d->wk T.by (T.ax c) w=some (T.ax d)
 |[],c,d,e=>by rw[Za0 e];rfl
 |z::w,c,d,e=>by
  let⟨f,b,a⟩:=xl e;rw[kO (h.by_ _ _ _ b)];rwa[Later.wk h a]
structure Gg where
 which:Nat
 word:Zh
 start:Nat
 front:Nat
 first:Nat
 bC:Nat
 last:Nat
abbrev Zf:=List (Option Gg)
noncomputable def Gg.z1 (g:Gg):Int:=g.word.getD g.first 0
noncomputable def Gg.z2 (g:Gg):Int:=-(g.word.getD g.last 0)
structure GI (S:RS) (g:Gg):Prop where
 fl:g.first<=g.last
 ll:g.last<⇑g.word
 s:g.start<S.q
 f:g.front<S.q
 r:g.bC<S.q
 wf:wk S.by (S.ax g.start) (g.word.take g.first)=some (S.ax g.front)
 wr:wk S.by (S.ax g.bC) (g.word.drop (g.last+ 1))=some (S.ax g.start)
def GI.later {g:Gg}(h:GI S g)(l:Later S T)(a:S.q<=T.q):GI T g:=by
 let c:=l.wk h.wf;let b:=l.wk h.wr;rw[l.el _ h.s,l.el _ h.f]at c;rw[l.el _ h.r,l.el _ h.s]at b;rwa[h.fl,h.ll,ajK h.s a,ajK h.f a,ajK h.r a,c,b]
def Gg.rJ {g:Gg}(h:g.first<⇑g.word):g.word[g.first]?\g.z1:=by
 unfold Gg.z1;rw[ajm,ajg h];rfl
def Gg.at2 {g:Gg}(h:g.last<⇑g.word):g.word[g.last]?\(-g.z2):=by
 unfold Gg.z2;rw[ajm,ajg h,akv];rfl
structure X4 (S:RS) (g g':Gg):Prop where
 wh:g'.which=g.which
 wo:g'.word=g.word
 st:g'.start=g.start
 gi:GI S g'
 ef:S.ax g'.front=g'.front
 er:S.ax g'.bC=g'.bC
 n1:g'.first<g'.last->S.by g'.front g'.z1=none
 n2:g'.first<g'.last->S.by g'.bC g'.z2=none
 k1:S.ax g.front=g.front->S.by g.front g.z1=none->g'.front=g.front/\g'.first=g.first
 k2:S.ax g.bC=g.bC->S.by g.bC g.z2=none->g'.bC=g.bC/\g'.last=g.last
def GI.whole {g:Gg}(h:GI S g)(e:g.first=g.last)(c:S.ax g.start=g.start)(ef:S.ax g.front=g.front)(er:S.ax g.bC=g.bC)(d:S.by g.front g.z1=some g.bC):wk S.by g.start g.word=some g.start:=by
 let b:=h.wf;let a:=h.wr;rw[c,ef]at b;rw[c,er,<-e]at a;let hz:=Gg.rJ (g:=g) ([e]▸h.ll);have:g.word=g.word.take g.first++(g.z1::g.word.drop (g.first+ 1)):=by rw[<-drop_cons hz,List.take_append_drop]
 rw[this,xm b,kO d];rwa[a]
noncomputable def eN (m:Nat)(W:bf)(n:Int):Nat:=(~~~(m* 2001)).countP λc=>W ((c / 2001:Nat):Int) (((c % 2001:Nat):Int) - 1000) n
def xn (m G:Nat)(W:bf):Nat:=((~~~G).map λn:Nat=>eN m W n).sum
def gB (W:bf)(r s:Int):bf:=λb a n=>W b a n && !(decide (b=r) && decide (a=s))
def Tw (a:n<m)(b: -1000<=z/\z<=1000):n* 2001+ (z+ 1000).toNat<m* 2001:=by
 have:(n+ 1)* 2001<=m* 2001:=alq _ a;ext
def Jd {c r:Nat}(f: -1000<=z/\z<=1000):(((c / 2001:Nat):Int)=(r:Int)/\((c % 2001:Nat):Int) - 1000=z)↔c=r* 2001+ (z+ 1000).toNat:=by
 constructor
 ·rintro ⟨e,d⟩;have:=Nat.div_add_mod c 2001;ext
 ·intro h;subst h
  let a:(r* 2001+ (z+ 1000).toNat) / 2001=r:=by
   rw[Nat.mul_comm,Nat.mul_add_div ⋯,Nat.div_eq_of_lt ∅];ext
  let b:(r* 2001+ (z+ 1000).toNat) % 2001=(z+ 1000).toNat:=by
   rw[Nat.mul_comm,Nat.mul_add_mod,Nat.mod_eq_of_lt ∅]
  rw[a,b];ext
def Tx {W:bf}(a:Int)(g:n<m)(d: -1000<=z/\z<=1000):eN m (gB W n z) a+ (if W n z a=true then 1 else 0)=eN m W a:=by
 let f:=Tw g d
 let dec:∀c:Nat,(decide (((c / 2001:Nat):Int)=(n:Int)) && decide (((c % 2001:Nat):Int) - 1000=z))=decide (c=n* 2001+ (z+ 1000).toNat):=λc=>by
  rw[<-Bool.decide_and,decide_eq_decide];rwa[Jd d]
 let at_:=(Jd (c:=n* 2001+ (z+ 1000).toNat) (r:=n) d).mpr rfl;unfold eN gB;cases b:W n z a=true
 ·rw[ajD b]
  have:=mH (p:=λc:Nat=>W ((c / 2001:Nat):Int) (((c % 2001:Nat):Int) - 1000) a) (p':=λc:Nat=>W ((c / 2001:Nat):Int) (((c % 2001:Nat):Int) - 1000) a && !(decide (((c / 2001:Nat):Int)=(n:Int)) && decide (((c % 2001:Nat):Int) - 1000=z))) (v:=n* 2001+ (z+ 1000).toNat) (λc=>by
   rw[dec c,<-decide_not]) ([at_.1,at_.2]▸b) (m* 2001)
  rw[ajD f]at this;rwa[this]
 ·rw[ajw b,Nat.add_zero];rwa[List.countP_congr λc _=>?_]
  rw[aj6];rwa[⟨λh=>h.1,λh=>⟨h,5⟩⟩];rw[dec c]
  cases e:decide (c=n* 2001+ (z+ 1000).toNat) with
  |false=>rfl
  |true=>
   rw[ajM e,at_.1,at_.2]at h;rwa[absurd h b]
theorem zM:∀(l:Zi) (f g h:Nat->Nat),(∀n∈l,f n+ g n=h n)->(l.map f).sum+ (l.map g).sum=(l.map h).sum
 |[],_,_,_,_=>rfl
 |a::l,f,g,h,e=>by
  let c:=zM l f g h λn b=>e n (ajP _ b)
  have:=e a (ajA ..);simp only[akp,List.sum_cons];ext
theorem Fm (p:Nat->Bool):∀l:Zi,(l.map λn=>if p n=true then 1 else 0).sum=l.countP p
 |[]=>rfl
 |a::l=>by
  rw[akp,List.sum_cons,Fm p l,List.countP_cons];ext
def QG {G:Nat}{W:bf}(b:n<m)(c: -1000<=z/\z<=1000):xn m G (gB W n z)+ (~~~G).countP (λa:Nat=>W n z a)=xn m G W:=by
 unfold xn;rw[<-Fm (λa:Nat=>W n z a)];rwa[zM _ _ _ _ λa _=>Tx a b c]
theorem QH:∀{l:Zi} {a b:Nat},l.Nodup->(∀x∈l,x=a\/x=b)->⇑l<=2
 |[],_,_,_,_=>⋯
 |[_],_,_,_,_=>amJ 1
 |[_,_],_,_,_,_=>ajp 2
 |x::y::z::r,a,b,e,h=>by
  let f:=h x (by simp);let c:=h y (by simp);let d:=h z (by simp)
  cbv
def Tz {W:bf}{p q:Int×Int}(h:∀r s,W r s z=true->(r,s)=p\/(r,s)=q):eN m W z<=2:=by
 unfold eN;rw[List.countP_eq_length_filter];rwa[QH (a:=(p.1* 2001+ (p.2+ 1000)).toNat) (b:=(q.1* 2001+ (q.2+ 1000)).toNat) (List.nodup_range.filter _) λc d=>?_]
 let f:=Nat.div_add_mod c 2001;rcases h _ _ (akY.mp d).2 with e|e
 ·left;rw[<-e];dsimp only;ext
 ·right;rw[<-e];dsimp only;ext
theorem Je:∀(l:Zi) (f:Nat->Nat) (k:Nat),(∀n∈l,f n<=k)->(l.map f).sum<=⇑l* k
 |[],_,_,_=>by simp
 |a::l,f,k,h=>by
  let c:=Je l f k λn b=>h n (ajP _ b)
  have:=h a (ajA ..);rw[akp,List.sum_cons,ajO,amA];ext
def QI {W:bf}(h:∀a:Nat,∃p q:Int×Int,∀r s,W r s a=true->(r,s)=p\/(r,s)=q):xn m n W<=2* n:=by
 have:=Je (~~~n) (λa:Nat=>eN m W a) 2 λa _=>by
  let⟨p,q,e⟩:=h a;rwa[Tz e]
 rw[akD]at this;unfold xn;ext
structure CI (S:RS) (bs:List (Nat×Zh×Nat)) (gs:Zf) (ag:Zi) (W:bf) (Ex:Nat->Int->Prop) (x:Zj):Prop where
 len:⇑gs=⇑bs
 al:∀(n:Nat) (g:Gg),gs[n]?\some g->bs[n]?\(g.which,g.word,g.start)/\GI S g/\(n∈ag\/some n=x\/(g.first<g.last/\W g.front g.z1 n=true/\W g.bC g.z2 n=true))
 de:∀(n:Nat) (b:Nat×Zh×Nat),gs[n]?\none->some n≠x->bs[n]?\b->S.ax b.2.2≠b.2.2\/wk S.by b.2.2 b.2.1=some b.2.2
 ab:∀n∈ag,n<⇑gs
 en:∀r s n,W r s n=true->∃r' n':Nat,r=r'/\n=n'/\r'<S.q/\n'<⇑gs/\(-1000<=s/\s<=1000)/\(S.ax r'=r'/\S.by r' s=none\/Ex r' s)
 sl:∀n:Nat,∃p q:Int×Int,(∀r s,W r s n=true->(r,s)=p\/(r,s)=q)/\∀g,gs[n]?\some g->p=((g.front:Int),g.z1)/\q=((g.bC:Int),g.z2)
 bd:∀b∈bs,∀z∈b.2.1,-1000<=z/\z<=1000
def fV:Nat->Int->Prop:=λ_ _=>False
section
variable {S:RS}{bs:List (Nat×Zh×Nat)}{gs:Zf}{ag:Zi}{W:bf}{Ex:Nat->Int->Prop}{x:Zj}{n:Nat}
def CI.pop (h:CI S bs gs (ag++[n]) W Ex none):CI S bs gs ag W Ex (some n):=by
 rwa[⟨h.len,λk g e=>?_,λk b e _=>h.de k b e (λz=>by ext z),λk c=>h.ab k (ajG _ c),h.en,h.sl,h.bd⟩];let⟨f,d,a⟩:=h.al k g e;erw[f,d];rcases a with a|a|a
 ·rcases ajr.mp a with q|q
  ·rwa[.inl q]
  ·rwa[.inr (.inl (by rw[ajn.mp q]))]
 ·ext a
 ·rwa[.inr (.inr a)]
def CI.done (h:CI S bs gs ag W Ex (some n))(e:gs[n]?\none)(k:∀b,bs[n]?\b->S.ax b.2.2≠b.2.2\/wk S.by b.2.2 b.2.1=some b.2.2):CI S bs gs ag W Ex none:=by
 rwa[⟨h.len,λm g c=>?_,λm b c _ d=>?_,h.ab,h.en,h.sl,h.bd⟩]
 ·let⟨i,f,a⟩:=h.al m g c;erw[i,f];rcases a with a|a|a
  ·rwa[.inl a]
  ·cbv
  ·rwa[.inr (.inr a)]
 ·cases q:m=n
  ·rw[q]at d;rwa[k b d]
  ·rwa[h.de m b c (λz=>q (Za0 z)) d]
def eV {c:Type}{l:List c}{a b:c}(h:(l.set i a)[j]?\b):(j=i/\b=a)\/(j≠i/\l[j]?\b):=by
 cases e:i=j
 ·subst e;let d:=(aji.mp h).1;rw[ajJ]at d;rw[ajV d]at h;rwa[.inl ⟨2,(Za0 h).symm⟩]
 ·rw[ake e]at h;rwa[.inr ⟨λz=>e z.symm,h⟩]
def CI.kill (h:CI S bs gs ag W Ex (some n)):CI S bs (gs.set n none) ag W Ex (some n):=by
 rwa[⟨[ajJ]▸h.len,λm g e=>?_,λm b e q f=>?_,λk a=>[ajJ]▸h.ab k a,λr s k e=>?_,λm=>?_,h.bd⟩]
 ·rcases eV e with ⟨_,z⟩|⟨z,e⟩
  ·ext z
  ·rwa[h.al m g e]
 ·rcases eV e with ⟨z,_⟩|⟨z,e⟩
  ·cbv
  ·rwa[h.de m b e q f]
 ·rw[ajJ];rwa[h.en r s k e]
 ·let⟨p,q,d,c⟩:=h.sl m;rwa[⟨p,q,d,λg e=>?_⟩];rcases eV e with ⟨_,z⟩|⟨_,e⟩
  ·ext z
  ·rwa[c g e]
def addW (W:bf)(r s n:Int):bf:=λc a b=>W c a b || (decide (c=r) && decide (a=s) && decide (b=n))
def dE {W:bf}{n c a b:Int}:addW W z y n c a b=true↔W c a b=true\/(c=z/\a=y/\b=n):=by
 unfold addW
 cbv
def di {W:bf}{b a c:Int}:gB W z y b a c=true↔W b a c=true/\¬(b=z/\a=y):=by
 unfold gB
 cbv
def CI.waits (h:CI S bs gs ag W fV (some n)){g c:Gg}(e:gs[n]?\some g)(a:X4 S g c)(d:c.first<c.last):CI S bs (gs.set n (some c)) ag (addW (addW W c.front c.z1 n) c.bC c.z2 n) fV none:=by
 let⟨A,N,_⟩:=h.al n g e;let E:=(aji.mp e).1;let gi:=a.gi;let B:∀z∈c.word,-1000<=z/\z<=1000:=λz hz=>h.bd _ (ajj A) z (by rw[<-a.wo];rwa[hz])
 let F:=B _ (ajj (Gg.rJ (g:=c) (by have:=gi.ll;omega)));let O:=B _ (ajj (Gg.at2 (g:=c) gi.ll));rwa[⟨[ajJ]▸h.len,λm u q=>?_,λm b q _ J=>?_,λk G=>[ajJ]▸h.ab k G,λr s k q=>?_,λm=>?_,h.bd⟩]
 ·rcases eV q with ⟨rfl,z⟩|⟨z,q⟩
  ·ext z;rwa[⟨by rw[A,a.wh,a.wo,a.st],gi,.inr (.inr ⟨d,dE.mpr (.inl (dE.mpr (.inr ⟨222⟩))),dE.mpr (.inr ⟨222⟩)⟩)⟩]
  ·let⟨o,l,f⟩:=h.al m u q;erw[o,l];rcases f with f|f|⟨f,H,I⟩
   ·rwa[.inl f]
   ·rwa[absurd (Za0 f) z]
   ·rwa[.inr (.inr ⟨f,dE.mpr (.inl (dE.mpr (.inl H))),dE.mpr (.inl (dE.mpr (.inl I)))⟩)]
 ·rcases eV q with ⟨_,z⟩|⟨z,q⟩
  ·ext z
  ·rwa[h.de m b q (λy=>z (Za0 y)) J]
 ·rw[ajJ];rcases dE.mp q with q|⟨rfl,rfl,rfl⟩
  ·rcases dE.mp q with q|⟨rfl,rfl,rfl⟩
   ·rwa[h.en r s k q]
   ·rwa[⟨_,n,rfl,rfl,gi.f,E,F,.inl ⟨a.ef,a.n1 d⟩⟩]
  ·rwa[⟨_,n,rfl,rfl,gi.r,E,by ext,.inl ⟨a.er,a.n2 d⟩⟩]
 ·let⟨p,q,o,l⟩:=h.sl m;cases C:m=n
  ·subst C;let⟨L,eq⟩:=l g e;rwa[⟨((c.front:Int),c.z1),((c.bC:Int),c.z2),λr s w=>?_,λu j=>?_⟩]
   ·rcases dE.mp w with w|⟨rfl,rfl,_⟩
    ·rcases dE.mp w with w|⟨rfl,rfl,_⟩
     ·let⟨v,M,er,_,_,_,_,t⟩:=h.en r s m w;rcases t with ⟨D,i⟩|t
      ·rcases o r s w with z|z
       ·rw[L]at z;injection z with z1 z2
        have:v=g.front:=∅
        subst this;let⟨k1,k2⟩:=a.k1 D (by rw[<-z2];rwa[i])
        left
        rw[Prod.mk.injEq];erw[[k1]▸er];rw[z2];unfold Gg.z1;rw[a.wo,k2]
       ·rw[eq]at z;injection z with z1 z2
        have:v=g.bC:=∅
        subst this;let⟨k1,k2⟩:=a.k2 D (by rw[<-z2];rwa[i])
        right
        rw[Prod.mk.injEq];erw[[k1]▸er];rw[z2];unfold Gg.z2;rw[a.wo,k2]
      ·rwa[t.elim]
     ·rwa[.inl rfl]
    ·rwa[.inr rfl]
   ·rcases eV j with ⟨_,z⟩|⟨z,_⟩
    ·ext z;rwa[22]
    ·rwa[absurd rfl z]
  ·rwa[⟨p,q,λr s w=>?_,λu j=>?_⟩]
   ·rcases dE.mp w with w|⟨_,_,z⟩
    ·rcases dE.mp w with w|⟨_,_,z⟩
     ·rwa[o r s w]
     ·ext
    ·ext
   ·rcases eV j with ⟨z,_⟩|⟨_,j⟩
    ·rwa[absurd z C]
    ·rwa[l u j]
def CI.wake (h:CI S bs gs ag W Ex x){r s:Int}{ns:Zi}(f:∀k:Nat,k∈ns↔W r s k=true):CI S bs gs (ag++ns) (gB W r s) Ex x:=by
 rwa[⟨h.len,λm g e=>?_,h.de,λk u=>?_,λt o k q=>h.en _ _ _ (di.mp q).1,λm=>?_,h.bd⟩]
 ·let⟨c,b,a⟩:=h.al m g e;erw[c,b];rcases a with a|a|⟨a,j,l⟩
  ·rwa[.inl (ajG _ a)]
  ·rwa[.inr (.inl a)]
  ·cases i:(g.front:Int)=r/\g.z1=s
   ·rwa[.inl (ajo _ ((f m).mpr (by rw[<-i.1,<-i.2];rwa[j])))]
   ·cases d:(g.bC:Int)=r/\g.z2=s
    ·rwa[.inl (ajo _ ((f m).mpr (by rw[<-d.1,<-d.2];rwa[l])))]
    ·rwa[.inr (.inr ⟨a,di.mpr ⟨j,i⟩,di.mpr ⟨l,d⟩⟩)]
 ·rcases ajr.mp u with q|q
  ·rwa[h.ab k q]
  ·let⟨_,v,_,en,_,y,_⟩:=h.en _ _ _ ((f k).mp q);ext
 ·let⟨p,q,c,b⟩:=h.sl m;rwa[p,q,λt o w=>c^(di.mp w).1,b]
def CI.ex {e:Nat->Int->Prop}(h:CI S bs gs ag W Ex x)(k:∀(r:Nat) s n,W r s n=true->r<S.q->Ex r s->(S.ax r=r/\S.by r s=none)\/e r s):CI S bs gs ag W e x:=by
 rwa[⟨h.len,h.al,h.de,h.ab,λr s n q=>?_,h.sl,h.bd⟩];let⟨g,f,rfl,rfl,a,b,c,d⟩:=h.en r s n q;rwa[g,f,22,a,b,c,d.elim .inl (k g s f q a)]
end
structure ig (S:RS):Prop where
 a:∀c,c<S.q->S.ax c≠c->c∈S.a9
 b:∀c∈S.a9,S.ax c≠c
 c:∀c∈S.a9,c<S.q
section
variable {S S':RS}{pend:Ze}{w:Way}{R:Za2}{ks:Zh}
def Jf {x:Nat}:(S.meet n z x m pend).1.a9=S.a9++[max x m]:=by
 have:=(gN (max x m) (S.joined n z (min x m) (max x m)) pend ((S.joined n z (min x m) (max x m)).way (max x m))).2;have:=akm RS.a9 this;rwa[this]
def vi (h:(S.takeIn pend w).1.a9=S.a9):(S.takeIn pend w).1.aX=S.aX:=by
 let no:∀{c x y:Nat} {z:Int},(S.meet c z x y pend).1.a9=S.a9->False:=λ{c x y z} e=>by
  rw[Jf]at e;have:=akm List.length e;rw[ajh]at this;simp at this
 unfold RS.takeIn at h ⊢;split
 ·rename_i q;rw[ajD q]at h;rwa[(no h).elim]
 ·rename_i q;rw[ajw q]at h;split
  ·rename_i a;rw[ajD a]at h;rwa[(no h).elim]
  ·rfl
def ig.take (f:ig S)(h:Good S (pend++[w]) R)(j:∀c z d,R c z d->z∈ks):ig (S.takeIn pend w).1/\∃l,(S.takeIn pend w).1.a9=S.a9++l:=by
 let⟨_,_,g,_,q⟩:=h.take j;rcases q with ⟨_,_,e⟩|⟨_,c,z,x,y,n,_,p,r,m,_,e,el⟩
 ·let ee:=vi e;let el:∀a,(S.takeIn pend w).1.ax a=S.ax a:=λa=>by unfold RS.ax;rw[ee]
  rwa[⟨⟨λc hc=>?_,λc hc=>?_,λc hc=>by rw[g];rw[e]at hc;rwa[f.c c hc]⟩,[],by rw[e,ajQ]⟩]
  ·rw[g]at hc;rw[el,e];rwa[f.a c hc]
  ·rw[e]at hc;rw[el];rwa[f.b c hc]
 ·let⟨_,o,_,ex⟩:=h.st _ _ _ n;rwa[⟨⟨λa b=>?_,λa b=>?_,λa b=>?_⟩,[max x y],e⟩]
  ·rw[g]at b;rw[el,e];intro i;cases q:S.ax a=a
   ·cbv
   ·rwa[ajG _ (f.a a b q)]
  ·rw[el];rw[e]at b;rcases ajr.mp b with q|q
   ·let i:=f.b a q
    cbv
   cbv
  ·rw[g];rw[e]at b;rcases ajr.mp b with q|q
   ·rwa[f.c a q]
   ·rw[ajn.mp q];rcases amE x y with k|k <;> ext
inductive kP:RS->Ze->RS->Prop where
 |nil (S:RS):kP S [] S
 |take {S S':RS} {pend:Ze} {w:Way}:kP (S.takeIn pend w).1 (S.takeIn pend w).2 S'->kP S (pend++[w]) S'
def kP.all (l:kP S pend S'):Good S pend R->(∀c z d,R c z d->z∈ks)->ig S->Good S' [] R/\ig S'/\S'.q=S.q/\S'.L=S.L/\∃l,S'.a9=S.a9++l:=by
 induction l with
 |nil S=>exact λg _ w=>⟨g,w,22,[],(ajQ _).symm⟩
 |take _ i=>
  intro g e w;let⟨h,_,m1,k,_⟩:=g.take e;let⟨f,l2,m⟩:=w.take g e;let⟨a,b,c,d,n,j⟩:=i h e f;rwa[a,b,c.trans m1,d.trans k,l2++n,by rw[j,m,ajZ]]
end
section
variable {S S':RS}{R:Za2}{bs:List (Nat×Zh×Nat)}{gs:Zf}{ag:Zi}{W:bf}{n c d:Nat}{z:Int}
def CI.lay (h:CI S bs gs ag W fV (some n))(e:gs[n]?\none)(g:Good S [] R)(w:Good S' [] (eD R c z d))(hm:S'.q=S.q)(L:ig S)(C:ig S'){l:Zi}(U:S'.a9=S.a9++l)(hc:c<S.q)(P:S.ax c=c)(hd:d<S.q)(ed:S.ax d=d)
 (k:∀b,bs[n]?\b->S'.ax b.2.2≠b.2.2\/wk S'.by b.2.2 b.2.1=some b.2.2):CI S' bs gs ag W (λr s=>(r=c/\s=z)\/(r=d/\s= -z)\/∃m∈l,r=m\/r=S'.ax m) none:=by
 let lt:=Later.of g w jx (amd hm.symm)
 let i:∀e,e<S.q->S.ax e=e->S'.ax e≠e->e∈l:=λe p j D=>by
  have:=C.a e ([hm]▸p) D;rw[U]at this;rcases ajr.mp this with q|q
  ·rwa[absurd j (L.b e q)]
  ·rwa[q]
 let h0:CI S' bs gs ag W (λr s=>(r=c/\s=z)\/(r=d/\s= -z)\/∃m∈l,r=m\/r=S'.ax m) (some n):=by
  rwa[⟨h.len,λm u q=>?_,λm b A F Q=>?_,h.ab,λr s m q=>?_,h.sl,h.bd⟩]
  ·let⟨p,j,D⟩:=h.al m u q;rwa[p,j.later lt (amd hm.symm),D]
  ·cases t:S'.ax b.2.2=b.2.2
   ·right
    rcases h.de m b A F Q with q|q
    ·cases y:b.2.2<S.q
     ·let p:=(g.el _ y).1;let j:=(w.el _ ([hm]▸g.lt y)).1;rw[lt.el _ y,t]at j;rwa[absurd (Nat.le_antisymm p j) q]
     ·exfalso
      let J:⇑S.aX=S.q:=g.wf.e;let O:⇑S'.aX=S'.q:=w.wf.e;let M:S.ax b.2.2=0:=by unfold RS.ax;rw[ajm,ajS ∅];rfl
      let B:S'.ax b.2.2=0:=by unfold RS.ax;rw[ajm,ajS ∅];rfl
      rwa[q (by rw[M,<-B,t])]
    ·have:=lt.wk q;rw[t]at this;rwa[this]
   ·rwa[.inl t]
  ·let⟨f,N,t,T,I,X,J,q⟩:=h.en r s m q;erw[f,N,t,T,[hm]▸I,X,J];rcases q with ⟨A,F⟩|q
   ·cases p:S'.ax f=f
    ·cases j:S'.by f s with
     |none=>exact .inl ⟨p,2⟩
     |some o=>
      right
      let⟨v,V,x,f1,f2⟩:=w.so _ _ _ j
      let stand:∀e,e<S.q->S.ax e=e->S'.ax e=f->e=f\/∃m∈l,f=m\/f=S'.ax m:=λe Y Z G=>by
       cases H:e=f
       ·rwa[.inl H]
       ·rwa[.inr ⟨e,i e Y Z (by rw[G];rwa[λz=>H z.symm]),.inr G.symm⟩]
      rcases x with x|⟨rfl,rfl,rfl⟩|⟨rfl,rfl,rfl⟩
      ·let⟨E,l2,_⟩:=g.rl _ _ _ x;rcases stand (S.ax v) (g.lt E) (g.el _ E).2 ([lt.el _ E]▸f1) with a|a
       ·exfalso
        have:=g.nj.mpr ⟨v,V,x,a,rfl⟩;rw[F]at this;ext this
       ·rwa[.inr (.inr a)]
      ·rcases stand v hc P f1 with a|a
       ·rwa[.inl ⟨a.symm,rfl⟩]
       ·rwa[.inr (.inr a)]
      ·rcases stand v hd ed f1 with a|a
       ·rwa[.inr (.inl ⟨a.symm,rfl⟩)]
       ·rwa[.inr (.inr a)]
    ·rwa[.inr (.inr (.inr ⟨f,i f I A p,.inl rfl⟩))]
   ·rwa[q.elim]
 rwa[h0.done e k]
end
noncomputable def ck (a:Nat->Int->Zj):Nat->Zh->Zi
 |_,[]=>[]
 |r,z::c=>match a r z with
  |none=>[]
  |some b=>b::ck a b c
def zN {a:Nat->Int->Zj}(h:a n z=none):ck a n (z::l)=[]:=by
 show (match a n z with|none=>[]|some b=>b::ck a b l)=[];rw[h]
def oT {a:Nat->Int->Zj}(h:a n z\m):ck a n (z::l)=m::ck a m l:=by
 show (match a n z with|none=>[]|some m=>m::ck a m l)=_;rw[h]
noncomputable def hH (w:Nat)(p:Zi)(k:Nat):Dt:=.t [.s [114,117,108,101],.i w,.t (p.map λc:Nat=>Dt.i (c:Int)),.i k]
structure Cd (ws:Za3) (nr:Nat) (S:RS) (which:Nat) (word:Zh) (start m c d:Nat) (z:Int):Prop where
 w:ws[which]?\word
 n:which<nr\/start=0
 s:start<S.q/\S.ax start=start
 hz:word[m]?\z
 f:wk S.by start (word.take m)=some c
 r:wk S.by d (word.drop (m+ 1))=some start
 hc:c<S.q/\S.ax c=c
 hd:d<S.q/\S.ax d=d
 o:S.by c z≠some d
def qG (S:RS)(a:Nat)(word:Zh)(start m d:Nat):RS:={ S with rows:=S.rows++[hH a ((start::ck S.by start (word.take m))++(d::ck S.by d (word.drop (m+ 1)))) m] }
inductive Tr (ws:Za3) (nr:Nat):RS->RS->Prop where
 |refl (S:RS):Tr ws nr S S
 |step {S S1 S2:RS} {which:Nat} {word:Zh} {start m c d:Nat} {z:Int}:Tr ws nr S S1->Cd ws nr S1 which word start m c d z->kP (qG S1 which word start m d) [(c,z,d)] S2->Tr ws nr S S2
def TB (S:RS)(c:Nat)(word:Zh):Prop:=wk S.by c word=some c\/∃(i j f r:Nat) (y z:Int),i<j/\word[i]?\y/\word[j]?\z/\wk S.by c (word.take i)=some f/\S.by f y=none/\wk S.by r (word.drop (j+ 1))=some c/\S.by r (-z)=none
structure GH (rs ps:Za3) (S:RS):Prop where
 r:∀w∈rs,∀c,c<S.q->S.ax c=c->TB S c w
 p:∀w∈ps,TB S 0 w
def UW (U:Za2):Nat->Zh->Nat->Prop
 |p,[],q=>p=q
 |p,z::w,q=>∃r,U p z r/\UW U r w q
structure Mdl (ws:Za3) (nr M:Nat) (φ:Nat->Nat) (U:Za2):Prop where
 sy:∀p z q,U p z q->U q (-z) p
 fn:∀p z q q',U p z q->U p z q'->q=q'
 cl:∀(which:Nat) (word:Zh) (start m c d:Nat) (z:Int),ws[which]?\word->which<nr\/start=0->start<M->word[m]?\z->UW U (φ start) (word.take m) (φ c)->UW U (φ d) (word.drop (m+ 1)) (φ start)->U (φ c) z (φ d)
end L2
namespace L2
open PySem PySem.Spec PyProof.Rows
section
variable {X:Cx}
def QJ (K:Za1)(h:TA)(f:TE):TI:=λ c H R=>h c H λd e=>f c e λz b=>∃a n,d=[↑a]/\z=.int n/\0<=n/\n<1000/\(∃g,aI K b a g)/\R (Oi K a n) b
def TC (Q:V->Hp->Prop):Zb->Hp->Prop
 |[z],H=>Q z H
 |_,_=>False
theorem QK {Q:V->Hp->Prop}:∀{a:Zb} {H:Hp},TC Q a H->∃z,a=[z]/\Q z H
 |[z],_,h=>⟨z,2,h⟩
 |[],_,h=>h.elim
 |_::_::_,_,h=>h.elim
def Jg {b:Expr}{w:TE}{elts:Zs}{d a kp:Pos}(D:Gl X "enumerate")(T:X.mg "enumerate"=none)(U:PE X e r)(C:PE X b w)
 (y:starEach [e] X.env=(false,eval e X.env)::starEach [] X.env)
 (i:((backTo a (starEach [e] X.env)).any (·.1) || (backToKw a (keywordEach [⟨some "start",b,kp⟩] X.env)).any (·.1.isNone))=false):
 PI X (.Tuple elts n p) (.Call (.Name "enumerate" d) [e] [⟨some "start",b,kp⟩] a) (QJ X.K (jj r jZ) w):=by
 intro g s A H R I h;rwa[aks (iu I D T boot_enumerate ?_)];rwa[PySem.W.callWith_of (P:=λ_=>True) i (λ_ _=>⟨.machine,.inr (.inl rfl),λ_ _ _ _ _ q=>ajl q⟩) (evalArgs_kw2 rfl (aZ ((ae U ak y) a g s A H _ I h) λus Q ζ=>?_) y)];let⟨G,O,E,c,q⟩:=ζ;rwa[aZ ((EY C Ij:PK X [⟨some "start",b,kp⟩] _) a g Q A O (TC λz t=>∃e f,G=[↑e]/\z=.int f/\0<=f/\f<1000/\(∃x,aI X.K t e x)/\R (Oi X.K e f) t) E q) λws J ζ=>?_];let⟨Y,t,v,S,V⟩:=ζ;rwa[⟨True.intro,5⟩]
 let⟨z,rfl,l,f,M,rfl,j,o,k,N⟩:=QK V;subst M;let⟨x,k⟩:=k;let⟨u,rfl,W⟩:=vals1 c;ext W;let⟨u2,rfl,B,rfl⟩:=vals1 S;let⟨L,rv,pl,hz⟩:=v.list k;show wpAny _ _ (call (.type "enumerate") [↑l] [("start",.int f B)]) _ _ J;rwa[En.Eb pl.isList j o λZ m hit F=>yK v (vE l _) (λ_=>∅) ([show f+ ((0:Nat):Int)=f by ext]▸m) hit F N]
end
section
variable {prog:Program} {w:World} {K:Type} [DecidableEq K] {knd:HeapKind prog w K} {A:Around} {E:Zu->Zv->Prop} {s:Zv} {d a:Zt} {k:K} {xs:List (K×Zt×Zu)}
def Ec {dflt:Zu}(m:knd.room A)(b:knd.is s.heap k a)(C:s.heap.DictOfH knd d xs)
 (u:∀v,(atKey xs k).map (·.2)\v->Q v { s with toks:=s.toks+ knd.draws k })
 (r:atKey xs k=none->∀i,i.DictOfH knd d (storedH xs k a dflt)->Heap.SameBut d s.heap i->Q dflt { s with heap:=i,toks:=s.toks+ knd.draws k })
 (x:⇑xs<=sizeLine):(prog<|>w) A (dictSetDefault d ↑a dflt) Q E s:=by
 let⟨G,B,t,f,g2,c,h,n,l⟩:=C;unfold dictSetDefault
 first|(with_reducible rwa[akd ?_])|skip
 rwa[aje (knd.pyHash m b (aje (wpAny_dictFind_heap (s:={ s with toks:=s.toks+ knd.draws k }) m b f c h n l (λno=>?_) (λj p o=>?_))))]
 ·let I:k∉xs.map (·.1):=not_mem_keys_of_get no;let g:=atKey_none_of_get no;rwa[aje (amv (aje (wpAny_updateDictKeys (hz:=by let e:=size_of_entries h;omega) (s:={ s with toks:=s.toks+ knd.draws k }) f c (ajl (r g _ ?_ (akM ..))))))];erw[11,t+ 1,aj0 _ f (Obj.isFreed_of_dict (Obj.data_mapDictKeys c _)),g2.mapDictKeys _,Obj.data_mapDictKeys c _,55]
  ·rw[storedH_new g];simp[h,entryOfKey]
  ·rw[storedH_new g];intro y z;rcases ajr.mp z with q|q
   ·rwa[knd.keeps (n y q) f c (akM ..)]
   ·rw[ajn.mp q];rwa[knd.keeps b f c (akM ..)]
  ·rw[storedH_new g,ajT,aj4]
   cbv
 ·let D:=atKey_of_get l o;rwa[aje (alY (s:={ s with toks:=s.toks+ knd.draws k }) f c ?_)]
  let F:B[j]?\(entryOfKey knd (k,p)):=by
   rw[entry_at h j,o];rfl
  rw[F];rwa[aje (amv (ajl (u _ (by rw[D];rfl))))]
def Au (knd:HeapKind prog w K)(d a:Zt)(e:(d==sysModules)=false)(dflt:Zu):MeetsIn prog w (Builtin.«dict.setdefault» ⟨[↑d,↑a,dflt],[]⟩) (λA R s=>knd.room A.in1/\∃k xs,knd.is s.heap k a/\s.heap.DictOfH knd d xs/\⇑xs<=sizeLine/\
 (∀v,(atKey xs k).map (·.2)\v->R (.ok (.ret v)) { s with toks:=s.toks+ knd.draws k })/\(atKey xs k=none->∀b,b.DictOfH knd d (storedH xs k a dflt)->Heap.SameBut d s.heap b->R (.ok (.ret dflt)) { s with heap:=b,toks:=s.toks+ knd.draws k })):=
 .of_wp λA R s ζ=>by
  let⟨j,k,xs,c,hm,n,i,h⟩:=ζ
  unfold Builtin.«dict.setdefault» Builtin.Dict.keyAndDefault;rwa[aje (aje (alW hm.typeIs ?_))];show wpAny _ _ (pure (d,Value.ref a,some dflt)) _ _ s;rwa[ajl ?_];show wpAny _ _ (if (d==sysModules)=true then _ else (dictSetDefault d ↑a dflt >>=_)) _ _ s;rw[e];rwa[aje (Ec j c hm (λv g=>ajl ⟨v,2,i v g⟩) (λm b l f=>ajl ⟨dflt,2,h m b l f⟩) n)]
end
inductive TF (a:Zt) (y z:V) (H:Hp) (Q:VK):Prop
 |mk (kvs:List (Zd×V)) (k:Zd) (b:Zt):H a\.dT kvs->y=↑b->H b\.tup (k.map kV)->⇑kvs<sizeLine->(∀v,bB kvs k\v->Q v H)->(bB kvs k=none->Q z (upd H a (.dT (putK kvs k z))))->TF a y z H Q
def TK (td e tx:TE):TE:=λ b H Q=>td b H λx c=>Fd x c λa=>e b c λy d=>tx b d λz f=>TF a y z f Q
section
variable {X:Cx}{o e f:Expr}{apos cG:Pos}{td ty tx:TE}
def Mb (hu:X.A.units+ 1<cLine)(Z:PE X o td)(he:PE X e ty)(Y:PE X f tx)(m:M2 X o "setdefault" apos e f cG):PE X (.Call (.Attribute o "setdefault" apos) [e,f] [] cG) (TK td ty tx):=by
 intro j s r H Q I h;rwa[alw m.base m.few m.line akC ak7 PySem.F.type_dict_setdefault (aZ (Z j s r H _ I h) λu s1 ζ=>?_)];let⟨x,H1,D,rx,a,ex,d,S⟩:=ζ;subst ex;obtain rfl:u=Value.ref a:=rx;let⟨t1,M,_⟩:=m8 D d;erw[t1,M];rw[m.trees]
 rwa[akj rfl (akP (aki (aZ (he j s1 r H1 _ D S) λiv P ζ=>?_)))];let⟨y,H2,V,ry,q2⟩:=ζ;rwa[ aki (aZ (Y j P r H2 _ V q2) λfv s3 ζ=>?_)];let⟨z,E,n,J,i,k,b,A,ey,G,N,U,q4⟩:=ζ;rwa[akU ?_]
 subst ey;cases (show iv=Value.ref b from ry);let⟨W,B,xs,rel,L⟩:=Od n.aM A;let g:=rel.val k;let p:⇑xs<=sizeLine:=by rw[<-Paired.length rel];rwa[W]
 rwa[alD ak7 L.typeIs PySem.F.entry_dict_setdefault (PySem.F.args_dict_setdefault_3^_) (Au _ a b B fv) ⟨ak5 hu,k,xs,lJ n.aM G,L,p,λv hv=>?_,λhn g1 w sb=>?_⟩]
 ·rw[hv]at g
  cases l:bB i k with
  |none=>rw[l]at g;rwa[g.elim]
  |some t=>
   rw[l]at g;rwa[t,E,n.tok _,g,U t l]
 ·rw[hn]at g
  cases l:bB i k with
  |some t=>rw[l]at g;rwa[g.elim]
  |none=>
   let hl:⇑(putK i k z)<=sizeLine:=by have:=g9 i k z;ext
   let⟨q,es,ep,F,O,h3,R,_,T⟩:=w;rwa[⟨z,upd E a (.dT (putK i k z)),kJ n ([A]▸True.intro) sb ⟨q,F⟩ ⟨hl,B,_,(rel.put k G J).keeps λc ys C=>?_,q,es,ep,F,O,h3,R,T⟩,J,q4 l⟩];rw[ai (bN C A (λz=>nomatch z))];rwa[C]
end
section
variable {H:Hp}{k:Zt}{D:Int->Zp}{E:Int->Int->Zp}{S:bf}
def cy.Md (h:cy H k D E S){c s:Int}{d:Zt}(hd:D c\d){l:List (Key×V)}(x:H d\.dK l):
 cy (upd H d (.dK (dC l (Sum.inl s)))) k D (λg f=>if g=c/\f=s then none else E g f) (gB S c s):=by
 let⟨m,n,G,A,F⟩:=h.row c d hd;rw[x]at n;obtain rfl:l=m:=by injection n with n;injection n
 let un:∀{g f:Int} {z:Zt},(if g=c/\f=s then none else E g f)\z->¬(g=c/\f=s)/\E g f\z:=λ{g f z} q=>by
  cases e:g=c/\f=s
  ·rw[ajD e]at q;ext q
  ·rw[ajw e]at q;rwa[e,q]
 rwa[⟨h.top.at λo q=>?_,λg v j=>?_,λg f p i=>?_,λg f p i=>h.ed _ _ _ (un i).2,λg f o C=>?_,h.nd,λg f p i=>h.ne _ _ _ (un i).2,h.dd,λg B f v j i=>h.de _ _ _ _ j (un i).2,λg f B I p y w=>h.ee _ _ _ _ _ (un y).2 (un w).2⟩]
 ·rw[ai (h.nd c d hd).symm];rwa[q]
 ·cases u:g=c
  ·subst u;obtain rfl:v=d:=by rw[hd]at j;rwa[(Za0 j).symm]
   rwa[(yO G A F s).congr λf=>?_]
   cases r:f=s
   ·rw[ajD r,ajD ⟨2,r⟩];rfl
   ·rw[ajw r,ajw (λz=>r z.2)]
  ·rwa[((h.row g v j).at λo q=>by rw[ai λz=>u (h.dd _ _ _ j ([z]▸hd))];rwa[q]).congr λf=>?_]
   rw[ajw (λz=>u z.1)]
 ·let⟨ne,t⟩:=un i;rwa[((h.vh g f p t).at λo q=>[ai (λz=>h.de c g f d hd (by rw[<-z];rwa[t]))]▸q).congr λo=>?_]
  have:gB S c s g f o=S g f o:=by
   rw[ak0,di];rwa[λz=>z.1,λz=>⟨z,ne⟩]
  rw[this]
 ·let⟨a,b⟩:=di.mp C;let⟨e,t⟩:=h.se _ _ _ a;rwa[e,[ajw b]▸t]
end
structure TL (k:Zt) (D:Int->Zp) (E:Int->Int->Zp) (W:bf) (O:Zt->Prop):Prop where
 o:∀b,cf k D E b->O b
 d:∀c x,D c\x->0<=c/\c<100000
 e:∀c s x,E c s\x-> -1000<=s/\s<=1000
 w:∀c s n,W c s n=true->0<=n/\n<100000
def p8 (H:Hp)(k:Zt)(W:bf)(O:Zt->Prop):Prop:=∃D E,cy H k D E W/\TL k D E W O
def fJ (H:Hp)(k:Zt)(W:bf)(O:Zt->Prop)(c:Int)(d:Zt):Prop:=∃D E,cy H k D E W/\TL k D E W O/\D c\d
def qH (H:Hp)(k:Zt)(W:bf)(O:Zt->Prop)(c s:Int)(e:Zt):Prop:=∃D E,cy H k D E W/\TL k D E W O/\E c s\e
def Jh (O:Zt->Prop)(p:Zt):Zt->Prop:=λb=>O b\/b=p
section
variable {H H':Hp}{k:Zt}{W:bf}{O:Zt->Prop}{c s:Int}{d e p:Zt}
def p8.keep (h:p8 H k W O)(f:∀b o,O b->H b\o->H' b\o):p8 H' k W O:=by
 let⟨D,E,g,a⟩:=h;rwa[D,E,g.keep λb o i q=>f b o (a.o b i) q,a]
def p8.rF (h:p8 H k W O):Fb H k:=by
 let⟨D,E,a,_⟩:=h;let⟨b,q,_⟩:=a.top;rwa[.inl ⟨b,.inl q⟩]
def p8.room (h:p8 H k W O)(t:H p=none)(hc:0<=c/\c<100000):∃a,upd H p (.dK []) k\.dK a/\⇑a<sizeLine/\(∀v,bB a (Sum.inl c)\v->∃d,v=↑d/\fJ (upd H p (.dK [])) k W O c d)/\
 (bB a (Sum.inl c)=none->fJ (upd (upd H p (.dK [])) k (.dK (putK a (Sum.inl c) ↑p))) k W (Jh O p) c p):=by
 let⟨D,E,r,f⟩:=h;let y:=ao.upd (o:=.dK []) t;let k1:=r.same y;let⟨a,m,A,w,l⟩:=k1.pL;let nw:¬cf k D E p:=λz=>by let⟨B,q⟩:=r.there z;cbv
 rwa[⟨a,m,5,λv g=>?_,λg=>?_⟩]
 ·rwa[ajt (nB (n:=100000) (lo:=0) A w l λi v g=>?_) ⋯]
  cases e:D i with
  |none=>rw[e]at g;ext g
  |some x=>have:=f.d i x e;ext
 ·rw[l]at g;let⟨d,hd,rfl⟩:=akr.mp g;rwa[d,2,D,E,k1,f,hd]
 ·rw[l]at g;let hd:D c=none:=amt.mp g;rwa[⟨_,E,k1.yQ hd m aj nw,⟨λb u=>?_,λj x q=>?_,f.e,f.w⟩,ajD rfl⟩]
  ·rcases u with z|⟨j,z⟩|z
   ·rwa[.inl (f.o b (.inl z))]
   ·dsimp only at z;cases e:j=c
    ·rw[ajD e]at z;rwa[.inr (Za0 z).symm]
    ·rw[ajw e]at z;rwa[.inl (f.o b (.inr (.inl ⟨j,z⟩)))]
   ·rwa[.inl (f.o b (.inr (.inr z)))]
  ·cases e:j=c
   ·rw[e];rwa[hc]
   ·rw[ajw e]at q;rwa[f.d j x q]
def fJ.rF (h:fJ H k W O c d):Fb H d:=by
 let⟨D,E,a,g,b⟩:=h;let⟨f,q,_⟩:=a.row c d b;rwa[.inl ⟨f,.inl q⟩]
def fJ.own (h:fJ H k W O c d):O d:=by
 let⟨D,E,f,a,b⟩:=h;rwa[a.o d (.inr (.inl ⟨c,b⟩))]
def fJ.same (h:fJ H k W O c d)(s:ao H H'):fJ H' k W O c d:=by
 let⟨D,E,b,a,f⟩:=h;rwa[D,E,b.same s,a,f]
def fJ.cell (h:fJ H k W O c d)(w:H p=none)(C: -1000<=s/\s<=1000):∃a,upd H p (.dK []) d\.dK a/\⇑a<sizeLine/\(∀v,bB a (Sum.inl s)\v->∃e,v=↑e/\qH (upd H p (.dK [])) k W O c s e)/\
 (bB a (Sum.inl s)=none->qH (upd (upd H p (.dK [])) d (.dK (putK a (Sum.inl s) ↑p))) k W (Jh O p) c s p):=by
 let⟨D,E,u,f,hd⟩:=h;let B:=ao.upd (o:=.dK []) w;let k1:=u.same B;let⟨a,t,F,A,m⟩:=k1.pM hd;let nw:¬cf k D E p:=λz=>by let⟨G,q⟩:=u.there z;cbv
 rwa[⟨a,t,5,λv g=>?_,λg=>?_⟩]
 ·rwa[ajt (nB (n:=2001) (lo:=-1000) F A m λi v g=>?_) ⋯]
  cases e:E c i with
  |none=>rw[e]at g;ext g
  |some x=>have:=f.e c i x e;ext
 ·rw[m]at g;let⟨e,r,rfl⟩:=akr.mp g;rwa[e,2,D,E,k1,f,r]
 ·rw[m]at g;let r:E c s=none:=amt.mp g;rwa[⟨D,_,k1.Fj hd r t aj nw,⟨λb y=>?_,f.d,λl j x q=>?_,f.w⟩,ajD ⟨22⟩⟩]
  ·rcases y with z|z|⟨l,j,z⟩
   ·rwa[.inl (f.o b (.inl z))]
   ·rwa[.inl (f.o b (.inr (.inl z)))]
   ·dsimp only at z;cases e:l=c/\j=s
    ·rw[ajD e]at z;rwa[.inr (Za0 z).symm]
    ·rw[ajw e]at z;rwa[.inl (f.o b (.inr (.inr ⟨l,j,z⟩)))]
  ·cases e:l=c/\j=s
   ·rw[e.2];rwa[C]
   ·rw[ajw e]at q;rwa[f.e l j x q]
def qH.own (h:qH H k W O c s e):O e:=by
 let⟨D,E,f,a,b⟩:=h;rwa[a.o e (.inr (.inr ⟨c,s,b⟩))]
def qH.put (h:qH H k W O c s e){n:Int}(o:0<=n/\n<100000):∃a,H e\.dK a/\⇑a<sizeLine/\p8 (upd H e (.dK (putK a (Sum.inl n) (.bl true)))) k (addW W c s n) O:=by
 let⟨D,E,g,b,j⟩:=h;let⟨a,f,r,l,m⟩:=g.yP j;rwa[⟨a,f,5,D,E,g.Jc j f n,b.o,b.d,b.e,λx t u q=>?_⟩]
 ·rwa[ajt (nB (n:=100000) (lo:=0) r l m λi v y=>?_) ⋯];cases w:W c s i=true
  ·have:=b.w _ _ _ w;ext
  cbv
 ·rcases dE.mp q with q|⟨_,_,q⟩
  ·rwa[b.w _ _ _ q]
  ·rw[q];rwa[o]
def p8.get (h:p8 H k W O):∃o,cO H k (.int c) o/\((o=none/\∀s n,W c s n=false)\/∃d,o\↑d/\fJ H k W O c d):=by
 let⟨D,E,a,i⟩:=h;let⟨b,j,r,q,f⟩:=a.pL;let g:=cO.k (k:=Sum.inl c) j;rw[f]at g;erw[_,g]
 cases e:D c with
 |none=>
  rwa[.inl ⟨2,λs n=>?_⟩]
  cases w:W c s n with
  |false=>rfl
  |true=>
   let⟨x,l⟩:=a.se _ _ _ w;let⟨y,m⟩:=a.ed _ _ _ l
   cbv
 |some d=>exact .inr ⟨d,2,D,E,a,i,e⟩
theorem Ce:∀{a:List (Key×V)},(a.map (·.1)).Nodup->(∀b∈a,∃n:Nat,b.1=Sum.inl (n:Int))->∃ns:Zi,a.map (λb=>kV b.1)=au (nI ns)/\ns.Nodup/\∀n:Nat,n∈ns↔Sum.inl (n:Int)∈a.map (·.1)
 |[],_,_=>⟨[],2,akX,λn=>⟨(λz=>by ext z),(λz=>by ext z)⟩⟩
 |b::r,f,h=>by
  rw[akp,ajX]at f;let⟨ns,i,l,j⟩:=Ce f.2 λx o=>h x (ajP _ o)
  let⟨m,g⟩:=h b (ajA ..);rwa[⟨m::ns,5,ajX.mpr ⟨λz=>f.1 ([g]▸(j m).mp z),l⟩,λn=>?_⟩]
  ·rw[akp,i,g];rfl
  cbv
def Fo {a:List (Key×V)}{v:V}(h:bB a (Sum.inl z)\v):Sum.inl z∈a.map (·.1):=aj7.mpr ⟨_,vP h,2⟩
def fJ.pop (h:fJ H k W O c d)(s:Int):∃a,H d\.dK a/\(bB a (Sum.inl s)=none->∀n,W c s n=false)/\
 ∀v,bB a (Sum.inl s)\v->∃(e:Zt) (f:List (Key×V)) (ns:Zi),v=↑e/\e≠d/\H e\.dK f/\f.map (λt=>kV t.1)=au (nI ns)/\ns.Nodup/\(∀n:Nat,n∈ns↔W c s n=true)/\p8 (upd H d (.dK (dC a (Sum.inl s)))) k (gB W c s) O:=by
 let⟨D,E,o,l,hd⟩:=h;let⟨a,A,S,Q,B⟩:=o.pM hd;rwa[⟨a,A,λu n=>?_,λv u=>?_⟩]
 ·rw[B]at u
  cases w:W c s n with
  |false=>rfl
  |true=>
   let⟨x,R⟩:=o.se _ _ _ w
   cbv
 ·rw[B]at u;let⟨e,F,rfl⟩:=akr.mp u;let⟨f,M,y,G,I⟩:=o.yP F
  let r:∀i:Int,Sum.inl i∈f.map (·.1)↔W c s i=true:=λi=>by
   constructor
   ·intro z;let⟨t,g,e⟩:=aj7.mp z;have:=ny y g
    cbv
   ·intro w;rwa[Fo (v:=.bl true) (by rw[I,ajD w])]
  let⟨ns,N,L,P⟩:=Ce y λt g=>by
   let⟨i,C⟩:=G t g;have:=l.w _ _ _ ((r i).mp (by rw[<-C];rwa[akV g]));rwa[i.toNat,by rw[C];congr 1;ext]
  rwa[⟨e,f,ns,2,λz=>o.de _ _ _ _ hd (by rw[<-z];rwa[F]),M,N,L,λn=>(P n).trans (r n),11,o.Md hd A,⟨λb J=>l.o b ?_,l.d,λm j x q=>?_,λm j n q=>l.w _ _ _ (di.mp q).1⟩⟩]
  ·rcases J with z|z|⟨m,j,z⟩
   ·rwa[.inl z]
   ·rwa[.inr (.inl z)]
   ·dsimp only at z;cases e:m=c/\j=s
    ·cbv
    ·rw[ajw e]at z;rwa[.inr (.inr ⟨m,j,z⟩)]
  ·cases e:m=c/\j=s
   ·rw[ajD e]at q;ext q
   ·rw[ajw e]at q;rwa[l.e _ _ _ q]
def Ji {P:Nat->Bool}{G:Nat}:∀{ns:Zi},ns.Nodup->(∀n∈ns,n<G/\P n=true)->⇑ns<=(~~~G).countP P:=by
 intro ns
 induction ns generalizing P with
 |nil=>exact λ_ _=>ajU _
 |cons m r j=>
  intro f h;rw[ajX]at f;let⟨i,g⟩:=h m (ajA ..);have:=mH (p:=P) (p':=λa=>P a && decide (a≠m)) (v:=m) (λa=>rfl) g G;rw[ajD i]at this
  have:=j (P:=λa=>P a && decide (a≠m)) f.2 λn b=>⟨(h n (ajP _ b)).1,by
   rw[(h n (ajP _ b)).2,ajF (show n≠m from λz=>f.1 (by rw[<-z];rwa[b]))];rfl⟩
  rw[ajO];ext
def yR {W:bf}{c s:Int}(h:∀n,W c s n=false):gB W c s=W:=by
 funext b a n
 rw[ak0,di];rwa[⟨λz=>z.1,λz=>⟨z,λq=>?_⟩⟩];rw[q.1,q.2,h]at z;ext z
end
def QL {CX:my}{base:Heap}{k:Nat}{name qual:Str}{params:Arguments}{body:Expr}{scope:Scope}{pm:Zu}{i:Zq}
 {A:Around} {f:Zr} {s:Zv} {H:Hp} {g:Args} {us:Zl} {vs:Zb} {Q:VK} {E:XK} {t:TE} (S:aL Z i scope) (L:⇑vs=⇑i) (m:cD (k+ 1) A) (j:m2 P w K M base A f s H)
 (G:s•a\PySem.W.kla_obj name qual params body scope [] pm c v) (l:s.heap.CodeRec ↑c qual) (B:bindArgs (PySem.W.kla_fn name qual params body scope [] pm ↑c v) g=pure (i.zip us)) (r:Vals vs us)
 (F:PE (cE CX P w K M base Z qual scope a ↑c A f s H E) body t) (C:t (start Z vs) H Q):codeAny (model P w) A (.call ↑a g) (CR CX f P w H s Q E) s:=by
 let lim:s.heap.NoLimit:=j.mod.nolimit.keeps λb o e=>(j.bs b o e).1
 let h:∀y∈i.zip us,scope.names.lookup y.1=some .local\/(scope.names.lookup y.1=some .cell/\((cellsFrom (↥s+ 1) scope.names []).lookup y.1).isSome=true):=λζ N=>by
  let⟨n,d⟩:=ζ
  rcases S.par n (List.of_mem_zip N).1 with q|q
  ·rwa[.inl q]
  ·rwa[.inr ⟨q,amq _ _ _ (.inl q)⟩]
 rwa[PySem.W.kla_callFunE m.depth G rfl S.co S.gen rfl l ?_];rw[B];rwa[ajl (wpAny_newFunctionEnv_cells S.kind h λenv R p x=>?_)];subst R;rwa[⟨lim.keeps x.toInCall.keep,PySem.W.kla_codeExpr ?_⟩];let I:Inv (cE CX P w K M base Z qual scope a ↑c A f s H E) [] (start Z vs) H p:=zx S m.hd j L r x;rwa[akq (F [] p (start Z vs) H Q I C) (λu z ζ=>?_) λe z O=>O];let⟨d,T,J,D,q⟩:=ζ
 rwa[d,T,J.os,J.bare,J.base,J.aM,D,q]
def dF (d:Zt)(pos:Pos)(qual:Str)(H:Hp):Prop:=
 H d=some (.fH #[])\/∃(c:Zt) (b:Obj) (a:Zn) (t:Tok),H d\(.fH #[rawInt pos.line,rawInt pos.col,↑c])/\H c\.cq b (.own c)/\b.data=.fields a/\a[1]?\(.str qual t)
def dF.keep {pos:Pos}{qual:Str}(h:dF a pos qual H)(k:∀b u,H b\u->(∃d,u=.fH d)\/(∃o v,u=.cq o v)->I b\u):dF a pos qual I:=by
 rcases h with h|⟨c,j,e,t,i,f,l,g⟩
 ·rwa[.inl (k _ _ h (.inl ⟨_,rfl⟩))]
 ·rwa[.inr ⟨c,j,e,t,k _ _ i (.inl ⟨_,rfl⟩),k _ _ f (.inr ⟨_,_,rfl⟩),l,g⟩]
def kQ (c:Str->Zm)(base:Heap):Prop:=∃(b:Zt) (a:Obj),c "__builtins__"=some ↑b/\base.get? b\a/\(a.cls=.type "module"/\a.dict\builtinsNs/\a.data=.plain)/\b≠builtinsNs
section
variable {X:Cx}{pins:List (Zt×Obj)}{σ:St}{H:Hp}{s:Zv}
def TN {params:Arguments}{body:Expr}{scope:Scope}{pos:Pos}(I:Inv X pins σ H s)(A:X.env.code=↑c)(hC:PySem.W.codeHdIn X.K c a=true)
 (lL:closureFor scope X.env=pure []) (W:defaultsOf params X.env=([],[])) (hT:dF a pos (X.env.qual++"<lambda>") H)
 (hB:kQ X.mg X.base)
 (h:∀(f g:Zt) (m:Obj) (D:Zn) (t:Tok) (pm j:Zu) (B:Hp) (s2:Zv),Inv X (pins++[(f,PySem.W.kla_obj "<lambda>" (X.env.qual++"<lambda>") params body scope [] pm g j)]) σ B s2->B g\.cq m (.own g)->m.data=.fields D->D[1]?\.str (X.env.qual++"<lambda>") t->
  dF a pos (X.env.qual++"<lambda>") B->(∀b u,b≠a->H b\u->B b\u)->Q ↑f s2):
 X⁻¹ X.A (eval (.Lambda params body scope pos) X.env) Q E s:=by
 let⟨bm,ob,b1,b2,b3,b4⟩:=hB;rwa[PySem.W.kla_eval W ?_]
 let C:s.heap.Ns mainGlobals X.mg:=by
  let⟨o,es,ep,e,r⟩:=I.ok.mod.glob;rwa[o,es,ep,I.bk^e,r]
 let X5:=PySem.W.codeHd_of_K I.dw hC;let R:s•bm\ob:=I.bk^b2
 let hPH:∃ps,H a\(.fH ps):=by
  rcases hT with z|⟨L,_,_,_,z,_⟩
  ·rwa[⟨_,z⟩]
  ·rwa[⟨_,z⟩]
 let⟨V,S⟩:=hPH
 let neP:∀{b:Zt} {o:Obj},s•b\o->o.cls≠.none->b≠a:=λ{b o} e hc z=>by
  have:=I.aM^S;rw[z,show s•a=some { cls:=.none,data:=.fields V } from this]at e
  cbv
 let hbP:bm≠a:=neP R (by cbv)
 let hgP:mainGlobals≠a:=λz=>by
  let⟨o,es,ep,e,hd,_⟩:=C;have:=I.aM^S;rw[z,show s•a=some { cls:=.none,data:=.fields V } from this]at e
  cbv
 let hbG:bm≠mainGlobals:=λz=>by
  let⟨o,es,ep,e,hd,_⟩:=C
  cbv
 let hB:s.heap.BuiltinsAt X.mg a:=⟨bm,ob,b1,b4,hbG,hbP,R,b3.1,b3.2.1,b3.2.2⟩
 let fin:∀{f:Zt} {B:Hp} {s2:Zv} {o:Obj},Inv X pins σ B s2->↥s<=f->s2•f\o->B f=none->(∀v,o.data≠.cell v)->Inv X (pins++[(f,o)]) σ B s2:=λ{f B s2 o} J hf e n hd=>J.jG λp Z=>by
  rcases ajr.mp Z with Z|Z
  ·rwa[J.pin p (ajo _ Z)]
  ·rw[ajn.mp Z];rwa[e,n,aku (ajK I.lt hf),I.F9 hf,hd]
 rcases hT with M|⟨L,m,D,t,M,Jj,x,y⟩
 ·let F:s•a\(PySem.W.tabObj #[]):=I.aM^M;rwa[PySem.W.kla_makeFunction (mg:=X.mg) lL I.ok.glob C A X5 F trivial rfl hgP hB λg j U tk hx G P N O=>?_]
  let⟨c2,m,D,t,e2,Y,x,y⟩:=N;ext e2;let mx:∀b u,H b\u->b≠g:=λb u e z=>absurd (I.aM b u e).lt ([z]▸Nat.not_lt.mpr G)
  let hcP:g≠a:=(mx a _ M).symm;let k1:∀b o,b≠a->s•b\o->(U.push (PySem.W.kla_obj "<lambda>" (X.env.qual++"<lambda>") params body scope [] ((X.mg "__name__").getD .none) g j)).get? b\o:=λb o w e=>ajf _ (hx b o w e)
  let eP2:(upd (upd H a (.fH #[rawInt pos.line,rawInt pos.col,↑g])) g (.cq m (.own g))) a\(.fH #[rawInt pos.line,rawInt pos.col,↑g]):=by rw[ai hcP.symm,aj]
  let i:∀b u,b≠a->H b\u->(upd (upd H a (.fH #[rawInt pos.line,rawInt pos.col,↑g])) g (.cq m (.own g))) b\u:=λb u w e=>by rw[ai (mx b u e),ai w];rwa[e]
  let J:Inv X pins σ (upd (upd H a (.fH #[rawInt pos.line,rawInt pos.col,↑g])) g (.cq m (.own g))) { s with heap:=U.push (PySem.W.kla_obj "<lambda>" (X.env.qual++"<lambda>") params body scope [] ((X.mg "__name__").getD .none) g j),toks:=tk }:=by
   rwa[I.un ⟨λb o e n _ _=>k1 b o (λz=>by cbv) e,λb o e n _ _=>⟨o.slots,k1 b o (λz=>by cbv) e⟩,λb o e n _=>?_,λb o e _=>?_,λb xs e=>i b _ (λz=>by cbv) e,λb o u e=>i b _ (λz=>by cbv) e,λb qs e=>?_⟩ λb u e=>?_]
   ·rw[ai (ajL (ajK (ajz e) G)),ai (λz=>by cbv)];rwa[n]
   ·cases w:b=a
    ·subst w;rwa[_,ajf _ O]
    ·rwa[o,k1 b o w e]
   ·cases w:b=a
    ·cbv
    ·rwa[#[],by rw[i b _ w e];simp]
   ·cases w:b=g
    ·subst w;rw[aj]at e;ext e;rwa[ajf _ Y,m,ajf _ Y]
    ·rw[ai w]at e;cases T:b=a
     ·subst T;rw[aj]at e;ext e;rwa[ajf _ O]
     ·rw[ai T]at e;rwa[(I.aM b u e).fD (λd v hd q=>k1 d v ?_ q) (λd q=>?_) λd xs q=>?_]
      ·cbv
      ·rwa[i d _ (λz=>by cbv) q]
      ·rwa[i d _ (λz=>by cbv) q]
  let l:↥s<=U.objs.size:=aju G (akZ P);rwa[h _ g m D t _ j _ _ (fin J l (ajx _ rfl) ?_ λv z=>nomatch z) aj x y (.inr ⟨g,m,D,t,eP2,aj,x,y⟩) i];rw[ai (aku P),ai (λz=>absurd (I.aM^M).lt (by rw[<-z];rwa[Nat.not_lt.mpr l]))];rwa[I.aM.fresh l]
 ·let F:s•a\(PySem.W.tabObj #[rawInt pos.line,rawInt pos.col,↑L]):=I.aM^M;rwa[PySem.W.kla_makeFunctionHit (mg:=X.mg) (cv:=↑L) lL I.ok.glob C A X5 F (by simp[TriplesOk,rawInt]) (by simp[codeAmong,rawInt]) hB λj U tk k l=>?_]
  let J:Inv X pins σ H { s with heap:=U.push ("function">>>.func (PySem.W.kla_fn "<lambda>" (X.env.qual++"<lambda>") params body scope [] ((X.mg "__name__").getD .none) ↑L j)),toks:=tk }:=I.kept λb u e=>ajf _ (k b u e)
  rwa[h _ L m D t _ j H _ (fin J l (ajx _ rfl) (I.aM.fresh l) λv z=>nomatch z) Jj x y (.inr ⟨L,m,D,t,M,Jj,x,y⟩) λb u _ e=>e]
structure Fp (X:Cx) (pq:List (Zt×Obj)) (H:Hp) (b:Zt):Prop where
 none:H b=none
 loc:b≠X.env.locals
 fs:b∉X.fs
 new:X.ej.heap.objs.size<=b
 cell:∀x c,X.env.cells.lookup x\c->c≠b
 pin:∀p∈X.pn++pq,p.1≠b
def xo (I:Inv X o σ H s)(h:↥s<=b):Fp X o H b:=
 ⟨I.aM.fresh h,aku (ajK I.lt h),I.F9 h,aju I.sz h,λx c e z=>by
  let⟨v,d⟩:=I.cell x c e;rwa[absurd d.lt ([z]▸Nat.not_lt.mpr h)],λp a z=>absurd (ajz (I.pin p a).1) ([z]▸Nat.not_lt.mpr h)⟩
def Inv.GJ {b:List (Zt×Obj)}(I:Inv X (o++b) σ H s):Inv X o σ H s:=I.jG λp a=>I.pin p (ajo _ (ajG _ a))
abbrev TQ (a:Zn) (c:Nat):Obj:={ cls:=.type "list",dict:=none,data:=.seq a c,slots:=#[] }
theorem Jk {it l:Zt}{ys:Zb}{kf:Nat->Int}{R:Result->Zv->Prop}(hh:X.A.in1.handled=none)(hq:aI X.K H l ys)(Z:l≠it)(n1:a≠it)(C:Fp X o H it)(D:Fp X o H a)
 (turn:∀(i:Nat) (y:V) (n:Zu) (pr:List (Zt×Obj)) (s':Zv),ys[i]?\y->RelV y n->Inv X (o++pr) σ H s'->X⁻¹ X.A.in1 (call ↑b [n]) (λu s2=>∃t,u=.int (kf i) t/\Inv X (o++pr) σ H s2) (λ_ _=>False) s')
 (hR:∀n s',(ys=[]/\n=v\/∃(j:Nat) (y:V),ys[j]?\y/\RelV y n/\∀q,q<⇑ys->kf j<=kf q/\(q<j->kf j<kf q))->Inv X o σ H s'->R (.ok (.ret n)) s'):
 ∀(k i:Nat) (s:Zv) (r:Zn) (c:Nat),⇑ys - i=k->i<=⇑ys->Inv X o σ H s->s.heap.IsListIter it l i->s•a\TQ r c->
 ((i=0/\r=#[])\/∃(j:Nat) (y:V) (vb:Zu) (U:Tok),j<i/\ys[j]?\y/\RelV y vb/\r=#[vb,.int (kf j) U]/\∀q,q<i->kf j<=kf q/\(q<j->kf j<kf q))->
 codeAny (model X.prog X.w) X.A (.builtin "min.loop" ⟨[↑it,↑b,↑a],[("default",v)]⟩) R s:=by
 let nm:(toString "min"++toString ".loop":String)="min.loop":=⋯
 let L:∀m:Zt,m≠it->m∉[it]:=λm B z=>B (ajn.mp z)
 intro k
 induction k with
 |zero=>
  intro i s r c hk hi I hit B hold;let⟨E,hv,pl,hz⟩:=I.list hq;let TR:=⇑hv;let W:=Walks.list (prog:=X.prog) (w:=X.w) (A:=X.A.in1) hh it l Z E.toArray;let ei:i=⇑E:=∅
  rwa[amk F.entry_min_loop ?_];rw[al6 alL _];show wpAny _ X.A.in1 (seqItems? ↑a >>=_) _ _ s;rwa[aje (al7 B rfl ?_)];show wpAny _ X.A.in1 (tryCatch (pyNext ↑it) _ >>=_) _ _ s;rwa[aje (amB (W.done s _ _ ⟨by cbv,pl.isList⟩ λh' M kp=>?_))];let O:=kp a _ (L _ n1) B;let I2:Inv X o σ H { s with heap:=h',toks:=M }:=I.turned (λm f B e=>kp m f (L _ B) e) C.none C.loc (.inr C.new) C.cell C.pin;rcases hold with ⟨e0,rfl⟩|⟨j,y,vb,U,hj,hy,rb,rfl,d⟩
  ·let en:ys=[]:=akL (by omega);rwa[aje (amv ?_)];rwa[ajl (hR v _ (.inl ⟨en,2⟩) I2)]
  ·show wpAny _ X.A.in1 (updateSeq a (λ_=>#[]) >>=_) _ _ _;rwa[aje (alX O rfl (aje (amx (ajl ?_))))];rwa[hR _ _ (.inr ⟨j,y,hy,rb,λq S=>d q ∅⟩) (I2.turned (t':=M) (λm f B e=>(aj1^akB B).trans e) D.none D.loc (.inr D.new) D.cell D.pin)]
 |succ k ih=>
  intro i s r c hk hi I hit B hold;let⟨E,hv,pl,hz⟩:=I.list hq;let TR:=⇑hv;let ve:i<⇑E:=∅
  let W:=Walks.list (prog:=X.prog) (w:=X.w) (A:=X.A.in1) hh it l Z E.toArray;rwa[amk F.entry_min_loop ?_];rw[al6 alL _];show wpAny _ X.A.in1 (seqItems? ↑a >>=_) _ _ s;rwa[aje (al7 B rfl ?_)];show wpAny _ X.A.in1 (tryCatch (pyNext ↑it) _ >>=_) _ _ s;rwa[aje (amB (W.item i s _ _ ∅ ⟨hit,pl.isList⟩ λn h' M hP zO kp=>?_))];let⟨⟨oI,hoI,TV,T⟩,zP⟩:=zO;let O:=kp a _ (L _ n1) B;let I2:Inv X o σ H { s with heap:=h',toks:=M }:=I.turned (λm f B e=>kp m f (L _ B) e) C.none C.loc (.inr C.new) C.cell C.pin;let G:ys[i]?\(ys[i]'∅):=ajg ∅
  change ys[i]'∅=y at G;let⟨u,hu,ru⟩:=hv.get (i:=i) (x:=y) G;let Fq:E[i]?\n:=by simpa using hP
  rw[hu]at Fq;let euv:u=n:=Za0 Fq;subst euv;let dI:∀z,oI.data≠.cell z:=λz e=>by rw[T]at e;ext e
  let J2:Inv X (o++[(it,oI),(a,TQ r c)]) σ H { s with heap:=h',toks:=M }:=I2.jG λp Q=>by
   rcases ajr.mp Q with Q|Q
   ·rwa[I2.pin p (ajo _ Q)]
   ·rcases ajE.mp Q with rfl|Q
    ·rwa[⟨hoI,C.none,C.loc,C.fs,dI⟩]
    ·rw[ajn.mp Q];rwa[O,D.none,D.loc,D.fs,λz e=>nomatch e]
  show wpAny _ X.A.in1 (tryCatch (holding [u] (call ↑b [u])) _ >>=_) _ _ _;rwa[aje (amB (akd (akq (turn i y u _ _ G ru J2) (λx J he=>?_) λ_ _ hF=>hF.elim)))];let⟨Y,rfl,J3⟩:=he;let pI:=(J3.pin (it,oI) (ajo _ (ajo _ (.head _)))).1;let pB:=(J3.pin (a,TQ r c) (ajo _ (ajo _ (.tail _ (.head _))))).1;let I3:=J3.GJ;let abO:J.heap.IsListIter it l (i+ 1):=⟨oI,pI,TV,T⟩;let X6:∀(g:Zn->Zn),(J.heap.update a (Obj.mapSeq g)).IsListIter it l (i+ 1):=λg=>⟨oI,(aj1^n1).trans pI,TV,T⟩
  let X7:∀(g:Zn->Zn) (M:Nat),Inv X o σ H { J with heap:=J.heap.update a (Obj.mapSeq g),toks:=M }:=λg M=>I3.turned (λm f B e=>(aj1^akB B).trans e) D.none D.loc (.inr D.new) D.cell D.pin
  rcases hold with ⟨e0,rfl⟩|⟨j,y0,vb,U,hj,hy,rb,rfl,d⟩
  ·subst e0;show wpAny _ X.A.in1 (updateSeq a (λ_=>#[u,.int (kf 0) Y]) >>=_) _ _ _;rwa[aje (alX pB rfl ?_)];rw[nm]
   exact ajl ⟨alF alL _,ih 1 _ _ _ ∅ ∅ (X7 _ _) (X6 _) (aj0 _ pB rfl) (.inr ⟨(0),y,u,Y,3,G,ru,2,λq S=>by
    let e:q=0:=∅
    subst e;rwa[Int.le_refl _,λz=>absurd z (akA _)]⟩)⟩
  ·show wpAny _ X.A.in1 (tryCatch (holding [u,.int (kf i) Y] (richCompare .Lt (.int (kf i) Y) (.int (kf j) U) >>=_)) _ >>=_) _ _ _;rwa[aje (amB (akd (aje (CmpOf.ints_lt (prog:=X.prog) (w:=X.w) (A:=X.A.in1) (P:=λi n=>∃t,n=.int (kf i) t) kf (λi n h=>h) i j _ _ _ _ _ ⟨Y,2⟩ ⟨U,2⟩ ?_))))];rwa[aje (akd (akT ?_))];rwa[aje (amx (ajl ?_))];cases Ci:kf i<kf j
   ·simp only[Ci,decide_true,amF];rwa[aje (alX pB rfl (aje (amx ?_)))];rw[nm];rwa[ajl ⟨alF alL _,ih (i+ 1) _ _ _ ∅ ∅ (X7 _ _) (X6 _) (aj0 _ pB rfl) (.inr ⟨i,y,u,Y,3,G,ru,2,λq S=>?_⟩)⟩];cases e:q=i
    ·subst e;rwa[Int.le_refl _,λz=>absurd z (akA _)]
    ·let h1:=(d q ∅).1;rwa[3,λ_=>∅]
   ·simp only[Ci,decide_false,aml,amj];rwa[aje (amx ?_)];rw[nm];rwa[ajl ⟨alF alL _,ih (i+ 1) _ _ _ ∅ ∅ I3 abO pB (.inr ⟨j,y0,vb,U,3,hy,rb,2,λq S=>?_⟩)⟩];cases e:q=i
    ·subst e;rwa[3,λ_=>∅]
    ·rwa[d q ∅]
def aI.gj {H:Hp}{ys:Zb}{d:Zn}(h:aI K H a ys)(f:H b\.fH d)(k:∀c u,c≠b->H c\u->I c\u):aI K I a ys:=by
 rcases h with h|h
 ·rcases h with e|⟨o,e⟩
  ·rwa[.inl (.inl (k _ _ (λz=>by cbv) e))]
  ·rwa[.inl (.inr ⟨o,k _ _ (λz=>by cbv) e⟩)]
 ·rwa[.inr h]
def Mf (a f d:Zu):checkBuiltinCall "min" ⟨[a],[("key",f),("default",d)]⟩=pure ():=by kernel_rfl
def Xd (K:Za1)(e:Zt)(f:Pos)(qual:Str)(g:TE)(k:TA):TE:=λ σ H Q=>k σ H λh d=>∃(l:Zt) (ys:Zb) (c:Nat->Int),h=[↑l]/\aI K d l ys/\dF e f qual d/\
 ∀a,dF e f qual a->(∀b u,b≠e->d b\u->a b\u)->(∀(i:Nat) (y:V),ys[i]?\y->g [some y] a λv m=>v=.int (c i)/\m=a)/\(ys=[]->Q .non a)/\
  ∀(i:Nat) (y:V),ys[i]?\y->(∀j,j<⇑ys->c i<=c j/\(j<i->c i<c j))->Q y a
theorem QM {body:Expr}{tb:TE}{w O G kq lp:Pos}{k:Nat}{params:Arguments}{scope:Scope}(hc:X.calm=true)(hg:Gl X "min")(hm:X.mg "min"=none)(he:PE X e r)
 (L:X.env.code=↑c) (hC:PySem.W.codeHdIn X.K c a=true) (lL:closureFor scope X.env=pure []) (V:defaultsOf params X.env=([],[]))
 (hB:kQ X.mg X.base) (hr:cD (k+ 2) X.A) (S:aL [x] [x] scope)
 (W:∀(pm C:Zu) (B:Zt) (u:Zu),bindArgs (PySem.W.kla_fn "<lambda>" (X.env.qual++"<lambda>") params body scope [] pm ↑B C) ⟨[u],[]⟩=pure [(x,u)])
 (D:∀(A:Around) (N:Zr) (s:Zv) (H:Hp) (f B:Zt),cD k (A.deeper (envOfC (X.env.qual++"<lambda>") scope ↥s f ↑B))->PE (cE XY X.prog X.w X.K X.mg X.base [x] (X.env.qual++"<lambda>") scope f ↑B A N s H E0) body tb)
 (hs:starEach [e] X.env=(false,eval e X.env)::starEach [] X.env)
 (sO:((backTo w (starEach [e] X.env)).any (·.1) || (backToKw w (keywordEach [⟨some "key",.Lambda params body scope lp,O⟩,⟨some "default",.Constant .none j kq,G⟩] X.env)).any (·.1.isNone))=false):
 PE X (.Call (.Name "min" p) [e] [⟨some "key",.Lambda params body scope lp,O⟩,⟨some "default",.Constant .none j kq,G⟩] w) (Xd X.K a lp (X.env.qual++"<lambda>") tb (jj r jZ)):=by
 intro pins s σ H Q I h;rwa[aks (iu I hg hm PyProof.Rows.boot_min ?_)];rwa[PySem.W.callWith_of (P:=λ_=>True) sO (λ_ _=>⟨.machine,.inr (.inl rfl),λ_ _ _ _ _ q=>ajl q⟩) (evalArgs_kw2 rfl (aZ ((ae he ak hs) w pins s σ H _ I h) λus s1 ζ=>?_) hs)];let⟨vs,H1,I1,g,q⟩:=ζ;let⟨l,ys,kf,rfl,hq,hT,q⟩:=q;let⟨u,rfl,ru⟩:=vals1 g;ext ru;rwa[kwAll_cons (TN I1 L hC lL V hT hB λf B oc cvs ct pm C H2 s2 I2 TX hvs hv1 Z n=>?_)];rwa[aZ ((EY dk Ij:PK X [⟨some "default",.Constant .none j kq,G⟩] _) w _ s2 σ H2 (λzs M=>zs=[.non]/\M=H2) I2 ⟨22⟩) λws s3 ζ=>?_];let⟨zs,M,U,rz,R,e2⟩:=ζ;rwa[⟨True.intro,5⟩]
 subst R e2;let⟨u2,rfl,ru2⟩:=vals1 rz;ext ru2;let⟨q1,q2,q3⟩:=q M Z n
 let T:aI X.K M l ys:=by
  rcases hT with z|⟨_,_,_,_,z,_⟩
  ·rwa[hq.gj z n]
  ·rwa[hq.gj z n]
 show wpAny _ _ (call (.builtin "min") [↑l] [("key",↑f),("default",.none)]) _ _ s3;let nm:(toString "min"++toString ".loop":String)="min.loop":=⋯
 rwa[alM (akQ F.plain_min F.entry_min (wpAny_of_eq (Mf^_) ?_))];show wpAny _ X.A.in1 (Builtin.Builtins.bindParams "min" ["key","default"] 0 ⟨[],[("key",↑f),("default",.none)]⟩ >>=_) _ _ s3;rwa[aje (wpAny_of_eq (show Builtin.Builtins.bindParams "min" ["key","default"] 0 ⟨[],[("key",↑f),("default",.none)]⟩=pure #v[↑f,some .none] from rfl) ?_)];let⟨its,rv,pl,hz⟩:=U.list T;rwa[aje (ajl (aje (ala pl.isList ?_)))];let⟨ol,TY,TV,T1⟩:=id pl.isList;rwa[aje (ajW ?_)];let ve:=ajz TY;let hsz:(s3.heap.push ("list_iterator">>>.fields #[↑l,.int 0 0])).objs.size=↥s3+ 1:=akW ..;let kp4:∀(b:Zt) (o:Obj),s3•b\o->((s3.heap.push ("list_iterator">>>.fields #[↑l,.int 0 0])).push ("list">>>.seq ([]:Zl).toArray)).get? b\o:=λb o d=>ajf _ (ajf _ d)
 let I4:=U.kept (t':=s3.toks) kp4;rw[nm];rwa[ajl ⟨alF alL _,Jk (X:=X) (σ:=σ) (H:=M) (ys:=ys) (kf:=kf) (it:=↥s3) (l:=l) (U.ok.hd hc) T (ajL ve) (by cbv) (xo U (ajp _)) (xo U (by cbv)) (λi y v pr s' hy rv' J=>?_) (λv s' hw J=>?_) _ 0 _ #[] 0 rfl (ajU _) I4 ⟨_,ajf _ (ajx _ rfl),22⟩ (ajx _ rfl) (.inl ⟨22⟩)⟩]
 ·let hf:=(J.pin (f,_) (ajo _ (ajG _ (ajo _ (.head _))))).1;let hcr:s'.heap.CodeRec ↑B (X.env.qual++"<lambda>"):=⟨B,oc,cvs,ct,2,(J.aM^TX).1,hvs,hv1⟩;rwa[alM (alC (QL (CX:=XY) (E:=E0) (k:=k) (vs:=[y]) (us:=[v]) S rfl hr.in1 J.Bn.in1 hf hcr (W pm C B v) (.cons rv' .nil) (D _ _ _ _ f B (hr.in1.deeper _)) (q1 i y hy)) λg s2 m=>?_)]
  cases g with
  |error d=>exact m.elim
  |ok fl=>
   cases fl with
   |next=>exact False.elim m
   |brk=>exact False.elim m
   |cont=>exact False.elim m
   |ret u=>
    let⟨v2,H4,J4,Y,R,e2⟩:=J.after m;subst R e2;let⟨t,rfl⟩:=Y;rwa[t,2,J4]
 ·rcases hw with ⟨R,rfl⟩|⟨i,y,hy,ry,hb⟩
  ·rwa[⟨.non,M,J.GJ,rfl,q2 R⟩]
  ·rwa[⟨y,M,J.GJ,ry,q3 i y hy hb⟩]
end
def Jl {D:Str->Zm}{CX:my}{k:Nat}{fd:FuncData}{O:Sp}{ns:Zh}
 (R:K.In s.heap) (n:s.heap.Ns mainGlobals M) (g:s.heap.Ns builtinsNs D) (G:∀x:Str,x≠"__name__"->D x=bootBuiltins x) (p:s.heap.NoLimit) (hg:s.gens=#[])
 (J:s•b\("list">>>.seq N.toArray)) (Y:IntsAre N ns) (W:⇑ns<=sizeLine) (hr:cD k callerA)
 (Fn:∀base:Heap,K.In base->base.Ns mainGlobals M->kQ M base->dv P w K M base CX k a fd [x] O) (hB:kQ M s.heap) (l:∀(s:Zv) (u:Zu),BindsTo s fd ⟨[u],[]⟩ [(x,u)])
 (L:s•c\(PySem.W.tabObj #[])) (hKP:K.lookup c=none) (E:isCodeTable s.heap c)
 (I:∀H:Hp,H c\(.fH #[])->aI K H b (ns.map V.int)->O [↑b] H (λv _=>v=.bl true) λ_ _ _=>False)
 (F:∀H e i,CX [] H s (λ_ _ _=>False) e i->False):
 codeAny (model P w) callerA (.call ↑a ⟨[↑b],[]⟩) (λr i=>r=.ok (.ret (.bool true))/\OldK s.heap i.heap/\i.os=s.os/\AllBare i.gens) s:=by
 let rv:=zz Y;let C:b≠c:=λz=>by cbv
 let main:∀H:Hp,H c\(.fH #[])->(∀f u,H f\u->K.lookup f=none/\(f=c\/f=b/\∃X,u=.cq ("list">>>.seq N.toArray) (.lst X)))->aI K H b (ns.map V.int)->dz P w H s.heap->
  codeAny (model P w) callerA (.call ↑a ⟨[↑b],[]⟩) (λr i=>r=.ok (.ret (.bool true))/\OldK s.heap i.heap/\i.os=s.os/\AllBare i.gens) s:=by
  intro H T Q h3 S
  let nodict:∀{f:Zt} {o:Obj} {t:Array DictEntry} {A:Nat},s•f\o->o.data=.dict t A->H f=none:=λ{f o t A} e d=>by
   cases q:H f with
   |none=>rfl
   |some u=>
    cbv
  let y:∀{f:Zt} {m:Str->Zm},s.heap.Ns f m->(qv s.heap H).Ns f m:=λ{f m} ζ=>by let⟨o,t,A,e,d,r⟩:=ζ;rwa[⟨o,t,A,vz e (nodict e d),d,r⟩]
  let Z:K.In (qv s.heap H):=λf o e=>vz (R f o e) (by
   cases q:H f with
   |none=>rfl
   |some u=>rw[(Q f u q).1]at e;ext e)
  let md:Mod K M (qv s.heap H):=⟨Z,y n,⟨D,y g,G⟩,let ⟨mc,z1,z2⟩:=p;⟨mc,y z1,z2⟩⟩;let e0:m2 P w K M (qv s.heap H) callerA [] s H:=⟨2,md,λf o e=>P9 e,amd (HK _ _),trivial,λf z=>absurd (show f∈([]:Zo) from z) (by simp),S,.of_eq hg⟩
  let bb:kQ M (qv s.heap H):=by
   let⟨U,ob,b1,b2,b3,b4⟩:=hB;rwa[⟨U,ob,b1,vz b2 ?_,b3,b4⟩]
   cases q:H U with
   |none=>rfl
   |some u=>
    cbv
  rwa[alC ((Fn _ Z (y n) bb).run callerA [] s H ⟨[↑b],[]⟩ [↑b] [↑b] _ _ hr e0 (l s ↑b) (.cons rfl .nil) (I H T h3)) λr i h=>?_]
  cases r with
  |error e=>exact(F H e i h).elim
  |ok fl=>
   cases fl with
   |next=>exact False.elim h
   |brk=>exact False.elim h
   |cont=>exact False.elim h
   |ret u=>
    let⟨v,H',os,bare,un,j,r',q⟩:=h;let q':v=.bl true:=q;subst q';obtain rfl:u=Value.bool true:=r'
    let each:∀f o,s•f\o->asItWas s.heap i.heap f o/\∃o',i•f\o':=λf o e=>by
     cases q:H f with
     |none=>
      let z:=un.keep f o e q (by intro z;rwa[absurd (show f∈([]:Zo) from z) (by simp)]) (by simp);rwa[.inl z,o,z]
     |some u=>
      rcases (Q f u q).2 with rfl|⟨rfl,X,rfl⟩
      ·rw[L]at e;ext e;let⟨more,z⟩:=un.iq^T;let z2:i•f\{ cls:=.none,data:=.fields (#[]++more) }:=j^z;rwa[.inr (.inl ⟨E,2,#[],more,2,z2⟩),_,z2]
      ·let⟨z1,_⟩:=S^q;let⟨z2,_⟩:=j^un.gO _ _ _ q;rw[e]at z1;ext z1;rwa[.inl z2,_,z2]
    rwa[2,⟨λf o e=>(each f o e).1,λf o e=>(each f o e).2⟩,os,bare]
 cases B:K.lookup b with
 |some o=>
  let e:=R b o B;rw[J]at e;ext e;rwa[main (upd (λ_=>none) c (.fH #[])) aj (λf u z=>?_) (.inr ⟨_,N.toArray,_,B,222,[ajI,⇑Y]▸W,3⟩) λf u z=>?_]
  ·cases g:f=c
   ·cbv
   ·rw[ai g]at z;ext z
  ·cases g:f=c
   ·subst g;rw[aj]at z;ext z;rwa[L]
   ·rw[ai g]at z;ext z
 |none=>
  rwa[main (upd (upd (λ_=>none) c (.fH #[])) b (.cq ("list">>>.seq N.toArray) (.lst (ns.map V.int)))) (by rw[ai C.symm,aj]) (λf u z=>?_) (.inl (.inr ⟨_,aj⟩)) λf u z=>?_]
  ·cases g:f=b
   ·subst g;rw[aj]at z;ext z;rwa[B,.inr ⟨212⟩]
   ·rw[ai g]at z;cases g:f=c
    ·cbv
    ·rw[ai g]at z;ext z
  ·cases g:f=b
   ·subst g;rw[aj]at z;ext z;rwa[J,[ajk]▸W,N,_,rv,J]
   ·rw[ai g]at z;cases g:f=c
    ·subst g;rw[aj]at z;ext z;rwa[L]
    ·rw[ai g]at z;ext z
theorem sE.okT {mg:Str->Zm}{base:Heap}{j:my}{qual:Str}{st:Stmt}{fd:FuncData}{f:Zq}{k:Nat}{sp:Sp}(F:sE K x qual st a fd)(hc:fd.code=↑c)(S:aL Z f (az st))(len:∀b H Q E,sp b H Q E->⇑b=⇑f)
 (d:∀(A:Around) (outer:Zr) (s:Zv) (H:Hp) (b:Zb) (Q:VK) (E:XK),cD k (A.deeper (envOfC qual (az st) ↥s a ↑c))->sp b H Q E->
  ∃t,iY (cE j P w K mg base Z qual (az st) a ↑c A outer s H E).uZ (cI st) t/\t { nx:=λ_ p=>Q .non p,rt:=Q } (start Z b) H):dv P w K mg base j (k+ 1) a fd f sp:=by
 let⟨q,u,kV,doc,pm,r,g,ct,m,rfl,lk,i⟩:=F.ex;let e:g=↑c:=hc;subst e;rwa[A5 lk i S len λA outer s H b Q E o h=>?_]
 let⟨t,n,l⟩:=d A outer s H b Q E o h;rwa[t,n.uZ,l]
structure LamAt (K:Za1) (fd:FuncData) (c Pt:Zt):Prop where
 code:fd.code=↑c
 hd:PySem.W.codeHdIn K c Pt=true
 no:K.lookup Pt=none
def Mg {l:PySem.W.OpenLaw}{k:Nat}{loose:Zq}{XP:(Str->Zm)->Heap->Prop}{C:World->Heap->Prop}{d:DefRec}{K:Params->Za1}{CX:World->my}{sp:World->Sp}
 (hn:l.most\n) (y:n<=sizeLine) (q:d.params.defaults=[]) (hr:cD k callerA) (T:∀(w:World) (h:Heap),C w h->(K w.params).In h/\h.get? a\(PySem.W.tabObj #[]))
 (F:∀(w:World) (g:Str->Zm) (j:Zt) (h:Heap),(K w.params).In h->h.Ns mainGlobals g->g d.name\↑j->
  ∃fd:FuncData,(∃fd2 c,LamAt (K w.params) fd2 c a)/\(∀(s:Zv) (u:Zu),BindsTo s fd ⟨[u],[]⟩ [(x,u)])/\∀base:Heap,(K w.params).In base->base.Ns mainGlobals g->kQ g base->dv l.prog w (K w.params) g base (CX w) k j fd [x] (sp w))
 (A:∀(w:World) (H:Hp) (b:Zt) (ns:Zh),⇑ns<=n->H a\(.fH #[])->aI (K w.params) H b (ns.map V.int)->sp w [↑b] H (λv _=>v=.bl true) λ_ _ _=>False)
 (t:∀(w:World) (H:Hp) (s:Zv) (e:Zu) (m:Zv),CX w [] H s (λ_ _ _=>False) e m->False):
 PySem.W.WalkO P loose XP C l.row.toRowW d [] (λf D=>PySem.call f D):=by
 rwa[Att.D0 hn q λw B s g mb j o pm cd doc b D ns G Y ho hd hcd z i hints hlen L=>?_]
 let⟨p,hP⟩:=T w _ Y;let⟨fd,⟨fd2,c,E⟩,J,S⟩:=F w g j _ p G.T.g z;let⟨I,r,_,_,_,_,_,_,_,Z,M,g3,W,_⟩:=PySem.W.codeHd_of_K p E.hd;let hB:kQ g s.heap:=let ⟨X,N,a1,a2,O,U,R,a6⟩:=G.T.bmain;⟨X,N,a1,O,⟨U,R,a6⟩,a2⟩
 rwa[Jl p G.T.g G.T.b G.T.builtins G.T.nolimit L i hints (aju hlen y) hr S hB J hP E.no ⟨c,I,r,Z,M,g3,W⟩ (λH Q hS=>A w H b ns hlen Q hS) λH e m=>t w H s e m]
namespace Lr
def T2:typeLookup (.type "list_reverseiterator") "__len__"=pure none:=by kernel_rfl
def QN:typeLookup (.type "list_reverseiterator") "__length_hint__"=pure (some (.builtin "list_reverseiterator.__length_hint__")):=by kernel_rfl
section
variable {prog:Program}{w:World}{A:Around}{E:Zu->Zv->Prop}{s:Zv}{it l:Zt}{items:Zn}
def hint {Q:Bool->Zv->Prop}(hm:s.heap.IsRevIter it l z)(h:Q false s):(prog<|>w) A (Builtin.List.listLengthHint ↑it) Q E s:=by
 rwa[aje (wpAny_specialOf hm.typeIs T2 ?_)];rwa[aje (wpAny_specialOf hm.typeIs QN ?_)];generalize c:("list_reverseiterator.__length_hint__":String)=d
 wp_delta
 subst c;rwa[aje (wpAny_isInstance (T:="list_reverseiterator") (b:=true) hm.typeIs (by kernel_rfl) ?_)];rwa[amm (λa=>absurd a ⋯) (λ_=>?_)];rwa[amm (λ_=>?_) (λa=>absurd ⋯ a)];rwa[ajl h]
theorem extend {R:Result->Zv->Prop}(z:A.handled=none)(hit:s.heap.IsRevIter it l ((items.size:Int) - 1))(y:s.heap.IsList l items)(k:l≠it)(hlen:items.size<=sizeLine)(S:Zt)(n:S≠it)(x:S≠l)(res:Zu)(g:Nat)(D:s•S\("list">>>.seq #[] g))
 (G:∀g1 t a d,(∀b o,b≠S->b≠it->s•b\o->g1.get? b\o)->g1.get? S\{ cls:=.type "list",dict:=none,data:=.seq a d,slots:=#[] }->
  ItemsOf (λi v=>items[items.size - 1 - i]?\v) a items.size->R (.ok (.ret res)) { s with heap:=g1,toks:=t }):
 (prog<|>w) A.in1 (Builtin.List.listExtendWith ↑S ↑it res)
  (λfin c=>match fin with|.done f=>R (.ok f) c|.again d=>d.quiet=true/\codeAny (model prog w) A d R c) (λe c=>R (.error e) c) s:=by
 rwa[aje (alk (T:="list_reverseiterator") hit.typeIs ?_)];let u:Builtin.List.listSameRef ↑S ↑it=false:=by simp[Builtin.List.listSameRef,n]
 let r:(Value.type "list_reverseiterator"==Value.type "list")=false:=⋯
 let B:(Value.type "list_reverseiterator"==Value.type "tuple")=false:=⋯
 simp only[u,r,B,Bool.or_false,aml,amj];rwa[aje (wpAny_pyIter_revIter hit ?_)];rwa[aje (akd (hint hit ?_))];let W:=(Walks.listRev (prog:=prog) (w:=w) (A:=A.in1) z it l k items).toS
 let m:S∉[it,l]:=λI=>by
  cbv
 rwa[ajl ⟨alF F.plain_extend_loop _,5⟩];rwa[codeAny_extend_loopS W hlen S m res items.size 0 _ #[] _ rfl (ajU _) ⟨ajU _,by simpa using hit,y⟩ D (ItemsOf.nil _) λc a d h p j=>?_]
 rw[Moved.eq_with h];rwa[G c.heap c.toks a d (λb o H C e=>h.heap b o (λq=>?_) e) p j]
 cbv
def init {R:Result->Zv->Prop}(B:A.handled=none)(hit:s.heap.IsRevIter it l ((items.size:Int) - 1))(z:s.heap.IsList l items)(n:l≠it)(hlen:items.size<=sizeLine)(S:Zt)(h:S≠it)(j:S≠l)(C:s•S\("list">>>.seq #[]))
 (D:∀g1 p a g,(∀b o,b≠S->b≠it->s•b\o->g1.get? b\o)->g1.get? S\{ cls:=.type "list",dict:=none,data:=.seq a g,slots:=#[] }->
  ItemsOf (λi v=>items[items.size - 1 - i]?\v) a items.size->R (.ok (.ret .none)) { s with heap:=g1,toks:=p }):
 (prog<|>w) A.in1 (Builtin.«list.__init__» ⟨[↑S,↑it],[]⟩)
  (λfin m=>match fin with|.done f=>R (.ok f) m|.again g=>g.quiet=true/\codeAny (model prog w) A g R m) (λe m=>R (.error e) m) s:=
 Dk.zD C λx c u d=>extend (s:=(s<*x)) B (hit.at λo e=>d _ o h.symm e) (z.at λo e=>d _ o j.symm e) n hlen S h j .none _ u λg1 p a g y q k=>D g1 p a g (λb o t r e=>y b o t r (d b o t e)) q k
theorem call (z:A.handled=none)(hit:s.heap.IsRevIter it l ((items.size:Int) - 1))(q:s.heap.IsList l items)(g:l≠it)(hlen:items.size<=sizeLine)
 (x:∀g1 j a h,(∀b o,b≠it->s•b\o->g1.get? b\o)->g1.get? ↥s\{ cls:=.type "list",dict:=none,data:=.seq a h,slots:=#[] }->ItemsOf (λi v=>items[items.size - 1 - i]?\v) a items.size->Q ↑↥s { s with heap:=g1,toks:=j }):
 (prog<|>w) A (PySem.call (.type "list") [↑it]) Q E s:=by
 rwa[callType_codes (Q₁:=λobj c=>obj=↑↥s/\c={ s with heap:=s.heap.push ("list">>>.seq #[]) }) F.called_list (F.typeCall_list_1 _) F.entry_list_init (code_list_new _ ⟨22⟩) λobj c d=>?_]
 let⟨rfl,rfl⟩:=d;let t:(s.heap.push ("list">>>.seq #[])).get? ↥s\("list">>>.seq #[]):=ajx _ rfl;let p:it<↥s:=let ⟨o,m,_⟩:=hit;ajz m
 let k:l<↥s:=let ⟨o,m,_⟩:=q;ajz m
 rwa[⟨⟨_,t,2⟩,F.args_list_init_2 _ _,init (A:=A.in1) (s:={ s with heap:=s.heap.push ("list">>>.seq #[]) }) z (hit.at λo e=>ajf _ e) (q.at λo e=>ajf _ e) g hlen _ (aku p) (aku k) t λg1 j a h y n f=>?_⟩];rwa[2,x g1 j a h (λb o u e=>y b o (ajL (ajz e)) u (ajf _ e)) n f]
end
end Lr
section
variable {X:Cx}{a e:Expr}{ta:TA}{p p2 pos Gy:Pos}
def Mh (K:Za1)(ta:TA):TE:=λ d H Q=>ta d H λc b=>∃(l:Zt) (ys:Zb),c=[↑l]/\aI K b l ys/\∀D,b D=none->Q ↑D (upd b D (.lst ys.reverse))
def Mi {ys:Zb}{acc:Zn}(d:Vals ys N)(h:ItemsOf (λi v=>N.toArray[N.toArray.size - 1 - i]?\v) acc N.toArray.size):acc.toList=N.reverse:=by
 let f:acc.size=⇑N:=by simpa using h.1
 rwa[alb λi=>?_]
 cases c:i<⇑N
 ·let e:acc[i]?\(acc[i]'∅):=Array.getElem?_eq_getElem ∅
  let b:=h.2 i _ e;rw[ak1,e,List.getElem?_reverse c];simpa using b.symm
 ·rw[ak1,Array.getElem?_eq_none ∅,ajS (by rw[ald];omega)]
theorem sP:∀{ys:Zb} {b:Zl},Vals ys b->Vals ys.reverse b.reverse
 |_,_,.nil=>.nil
 |_,_,.cons r t=>[amw,amw]▸(sP t).append (.cons r .nil)
theorem GK (R:X.calm=true)(P:Gl X "list")(M:X.mg "list"=none)(V:Gl X "reversed")(O:X.mg "reversed"=none)(ha:PA X [a] ta)(hs:starEach [a] X.env=[(false,eval a X.env)])
 (y:starEach [.Call (.Name "reversed" p) [a] [] pos] X.env=[(false,eval (.Call (.Name "reversed" p) [a] [] pos) X.env)]):PE X (.Call (.Name "list" p2) [.Call (.Name "reversed" p) [a] [] pos] [] Gy) (Mh X.K ta):=by
 intro i s N H Q I h;rwa[aks (iu I P M boot_list ?_)];rwa[akk ?_ y rfl];rw[y];show wpAny _ _ (spliced ((false,eval (.Call (.Name "reversed" p) [a] [] pos) X.env)::backTo Gy [])) _ _ s;rwa[aki ?_];rwa[Call_ (iu I V O boot_reversed (akk (aZ (ha pos i s N H _ I h) λus s1 ζ=>?_) hs rfl))];let⟨vs,C,k,U,Z⟩:=ζ;let⟨l,ys,e,Y,q⟩:=Z;subst e;let⟨u,rfl,ru⟩:=vals1 U;ext ru;let⟨g,G,pl,hz⟩:=k.list Y;let hl:=⇑G;let t:∀b o,s1•b\o->(s1.heap.push (revObj l ((g.toArray.size:Int) - 1))).get? b\o:=λb o e=>ajf _ e
 let E:l<↥s1:=let ⟨o,ho,_⟩:=pl.isList;ajz ho
 let w:=xo k (ajp ↥s1);rwa[call_reversed_list pl.isList (akU ?_)];let I2:Inv X i N C { s1 with heap:=s1.heap.push (revObj l ((g.toArray.size:Int) - 1)) }:=k.kept (t':=s1.toks) t;rwa[Lr.call (s:={ s1 with heap:=s1.heap.push (revObj l ((g.toArray.size:Int) - 1)) }) (I.ok.hd R) ⟨_,ajx _ rfl,22⟩ (pl.isList.at λo e=>t^e) (ajL E) (by rw[ajI];omega) λL B acc c W T x=>?_]
 let r:=Mi G x;let F:Inv X i N C { s1 with heap:=L,toks:=B }:=I2.turned (t':=B) (λb o j e=>W b o j e) w.none w.loc (.inr w.new) w.cell w.pin;let J:(s1.heap.push (revObj l ((g.toArray.size:Int) - 1))).objs.size=↥s1+ 1:=akW ..;generalize hD:(s1.heap.push (revObj l ((g.toArray.size:Int) - 1))).objs.size=D at T J ⊢;let f:C D=none:=k.aM.fresh ∅;let A:=xo k (b:=D) ∅;let nD:∀{b:Zt},b∉[D]->b≠D:=λj z=>j (by simp[z])
 refine⟨↑D,upd C D (.lst ys.reverse),Inv.step (s:={ s1 with heap:=L,toks:=B }) F (h':=L) (t':=B) (g':=s1.gens) (d':=s1.drawn) (ch:=[D]) (λb j=>[ajn.mp j]▸⟨.inr A.new,A.loc,A.cell,A.pin⟩) (λb o _ _ _ e _=>e) (λb o _ _ _ e _=>⟨o.slots,e⟩) (λb o R _ n=>[ai (nD R)]▸n) (λb o _ e=>⟨o,e⟩)
  (λb xs e=>[ai (aw e f)]▸e) (λb o u e=>[ai (aw e f)]▸e) (λb ps e=>⟨#[],by rw[ai (aw e f),e];simp⟩) (λm O=>O) (λb u e=>?_) F.bare,2,q D f⟩
 ·cases j:b=D
  ·subst j;rw[aj]at e;ext e;erw[[ald]▸hz,g.reverse,c,sP G];rw[<-r,Array.toArray_toList];rwa[T]
  ·rw[ai j]at e;rwa[(F.aM b u e).fD (λd v _ q=>q) (λd q=>[ai (aw q f)]▸q) λd xs q=>[ai (aw q f)]▸q]
def Cj (d c:TE):TE:=λ b H Q=>d b H Q\/c b H Q
def xq {c:TE}(g:PE X e r)(f:PE X e c):PE X e (Cj r c):=λb s d H Q I h=>h.elim (g b s d H Q I) (f b s d H Q I)
def T3 (C:Zt):TE:=λ_ H Q=>∀x d,H x=none->H d=none->d≠x->Q ↑x (upd (upd H d (.own x)) x (.ins C d []))
def vQ (d:PySem.W.makesIn X.K b=true)(n:PySem.W.findIn X.K ↑b "__init__"=some (some (.builtin "object.__init__")))(kp:PySem.W.keepIn X.K ↑b=true)(j:Gl X x)(q:X.mg x\↑b)
 (f:(x==("__debug__":Str))=false:=by decide):PE X (.Call (.Name x p) [] [] pos) (T3 b):=by
 intro g s r H Q I h;rwa[aks (kD I j q ?_ f)];rwa[PySem.W.callWith_K0 I.dw kp (alM ?_)];let l:=Inv.made (C:=b) I;let k:=h (↥s+ 1) ↥s (I.aM.fresh (amJ _)) (I.aM.fresh (ajp _)) (ajL (akK _));let Y:=PySem.W.makes_of (M:=model X.prog X.w) I.dw d;rwa[Ih I.dw d n (λself=>PySem.W.Looks.of_pure (PySem.W.oi_bind self)) ?_]
 let m:((s.heap.push PySem.W.emptyDict).push (PySem.W.instObj b ↥s)).get? (↥s+ 1)\(PySem.W.instObj b ↥s):=by
  have:=ajx (s.heap.push PySem.W.emptyDict) (o:=PySem.W.instObj b ↥s) rfl
  rwa [akW]at this
 let t1:PySem.W.Looks (model X.prog X.w) ((s.heap.push PySem.W.emptyDict).push (PySem.W.instObj b ↥s)) (typeOf ↑(↥s+ 1)) ↑b:=(PySem.W.Looks.ld m).andThen .now;let i:PySem.W.Looks (model X.prog X.w) ((s.heap.push PySem.W.emptyDict).push (PySem.W.instObj b ↥s)) (isInstance ↑(↥s+ 1) (.type "object")) true:=t1.andThen (Y.top.keeps λc o e=>ajf _ (ajf _ e));rwa[akQ PySem.W.oi_plain PySem.W.entry_oi (@PySem.W.check_slot (model X.prog X.w) _ _ _ "object.__init__" "object" "__init__" ↑(↥s+ 1) [] [] _ PySem.W.oi_kind PySem.W.oi_split i (PySem.W.oi_args ↑(↥s+ 1)) ?_)];rwa[ajl (And.intro rfl ⟨↑(↥s+ 1),_,l,rfl,k⟩)]
inductive Xe (K:Za1) (xs:Zb) (H:Hp) (Q:VK):Prop
 |mk (x:V) (D:Zt) (t:Zu) (b:Bool):xs=[x,↑D]->jY K H x t->PySem.W.kitOne K t ↑D\b->Q (.bl b) H->Xe K xs H Q
end
end L2
namespace L2
def nm (E:Zi)(c:Nat):Nat:=E.getD c 0
def rK (R:Za2)(E:Zi)(a:Nat)(z:Int)(b:Nat):Prop:=∃c d,R c z d/\nm E c=a/\nm E d=b
noncomputable def oU (x y a:Nat):Nat:=if a=y then x else a
def xr (h:n<m)(E:Zi)(c:Nat):nm (E.map (oU n m)) c=oU n m (nm E c):=by
 unfold nm;rw[ajm,ajm,ajq]
 cases E[c]? with
 |some x=>rfl
 |none=>show 0=oU n m 0;unfold oU;rw[ajw ∅]
def GN (u v:Nat)(W:Za2)(a:Nat)(z:Int)(b:Nat):Prop:=∃c d,W c z d/\oU u v c=a/\oU u v d=b
inductive One (ws:Za3) (nr:Nat):Zi->(Za2)->Dt->Zi->(Za2)->Prop
 |meet {E:Zi} {W:Za2} {c u v:Nat} {z:Int}:u<v->E[u]?\u->E[v]?\v->W c z u->W c z v->One ws nr E W (fF c z u v) (E.map (oU u v)) (GN u v W)
 |rule {E:Zi} {W:Za2} {which k c d:Nat} {word:Zh} {p:Zi} {z:Int}:ws[which]?\word->⇑p=⇑word+ 1->p[0]?=p[⇑word]?->(which<nr\/p[0]?\0)->(∀x∈p,E[x]?\x)->word[k]?\z->p[k]?\c->p[k+ 1]?\d->
  (∀(i a b:Nat) (y:Int),i≠k->word[i]?\y->p[i]?\a->p[i+ 1]?\b->W a y b)->One ws nr E W (hH which p k) E (eD W c z d)
inductive Go (ws:Za3) (nr:Nat):Zi->(Za2)->Zg->Zi->(Za2)->Prop
 |nil {E:Zi} {W W':Za2}:(∀a z b,W a z b↔W' a z b)->Go ws nr E W [] E W'
 |cons {E E1 E2:Zi} {W W1 W2:Za2} {row:Dt} {ms:Zg}:One ws nr E W row E1 W1->Go ws nr E1 W1 ms E2 W2->Go ws nr E W (row::ms) E2 W2
section
variable {ws:Za3}{nr:Nat}{E E1 E2:Zi}{W W' W1 W2:Za2}{ms ns:Zg}
def Go.congr (h:Go ws nr E W ms E1 W1):∀{W':Za2},(∀a z b,W' a z b↔W a z b)->Go ws nr E W' ms E1 W1:=by
 induction h with
 |nil e=>exact λh=>.nil λa z b=>(h a z b).trans (e a z b)
 |cons o _ m=>
  intro W' h
  cases o with
  |meet j c l f k=>exact .cons (.meet j c l ((h^_).mpr f) ((h^_).mpr k)) (m λa z b=>by
   constructor
   ·rintro ⟨g,d,q,r⟩;rwa[g,d,(h^_).mp q,r]
   ·rintro ⟨g,d,q,r⟩;rwa[g,d,(h^_).mpr q,r])
  |rule j c l f k v p u w=>exact .cons (.rule j c l f k v p u λi a b y n x s t=>(h^_).mpr (w i a b y n x s t)) (m λa z b=>by
   unfold eD;rw[h])
def Go.app (h:Go ws nr E W ms E1 W1):∀{E2:Zi} {W2:Za2} {ns:Zg},Go ws nr E1 W1 ns E2 W2->Go ws nr E W (ms++ns) E2 W2:=by
 induction h with
 |nil e=>exact λg=>g.congr e
 |cons o _ a=>exact λg=>.cons o (a g)
end
def QO (h:n<m)(a:Nat)(z:Int)(b:Nat):GN n m (rK R B) a z b↔rK R (B.map (oU n m)) a z b:=by
 constructor
 ·rintro ⟨g,i,⟨d,c,r,rfl,rfl⟩,e,f⟩;rwa[d,c,r,by rw[xr h,e],by rw[xr h,f]]
 ·rintro ⟨d,c,r,e,f⟩;rwa[11,⟨d,c,r,22⟩,by rw[<-xr h,e],by rw[<-xr h,f]]
section
variable {ws:Za3}{nr:Nat}{S S':RS}{pend:Ze}{R:Za2}{ks:Zh}
def qI {S:RS}(wf:S.Wf){c:Nat}(a:c<S.q):S.aX[c]?\(S.ax c):=by
 unfold RS.ax;rw[ajm,ajg ([wf.e]▸a)];rfl
def T4 (l:kP S pend S'):Good S pend R->(∀c z d,R c z d->z∈ks)->∃e,S'.rows=S.rows++e/\Go ws nr S.aX (rK R S.aX) e S'.aX (rK R S'.aX):=by
 induction l with
 |nil S=>exact λ_ _=>⟨[],(ajQ _).symm,.nil λ_ _ _=>Iff.rfl⟩
 | @take S S' pend w _ F=>
   intro g r;let⟨g1,_,t,_,q⟩:=g.take r;let⟨e,A,p⟩:=F g1 r;rcases q with ⟨_,j,C⟩|⟨_,c,z,x,y,v,h,E,G,m,j,_,B⟩
   ·rw[vi C]at p;rwa[e,by rw[A,j],p]
   ·let⟨_,o,_,ex⟩:=g.st _ _ _ v;let f:min x y<max x y:=by rcases Nat.lt_or_gt_of_ne m with q|q <;> ext
    let D:(S.takeIn pend w).1.aX=S.aX.map (oU (min x y) (max x y)):=by
     rwa[alb λi=>?_]
     rw[ajq];cases u:i<S.q
     ·rw[qI g1.wf ([t]▸u),qI g.wf u,B];rfl
     ·rw[ajS (by rw[g1.wf.e,t];omega),ajS (by rw[g.wf.e];omega)];rfl
    let ix:rK R S.aX c z x:=g.so _ _ _ v;let h:rK R S.aX c z y:=h;let n:=qI g.wf o;let k:=qI g.wf E;rw[ex]at n;rw[G]at k;rwa[⟨fF c z (min x y) (max x y)::e,by rw[A,j,ajZ];rfl,.cons (.meet f ?_ ?_ ?_ ?_) ((D ▸ p).congr λa s b=>QO f a s b)⟩]
    ·rcases amE x y with q|q
     ·rw[akI q];rwa[n]
     ·rw[alJ q];rwa[k]
    ·rcases amE x y with q|q
     ·rw[ama q];rwa[k]
     ·rw[amn q];rwa[n]
    ·rcases amE x y with q|q
     ·rw[akI q];rwa[ix]
     ·rw[alJ q];rwa[h]
    ·rcases amE x y with q|q
     ·rw[ama q];rwa[h]
     ·rw[amn q];rwa[ix]
theorem sQ {c:Nat->Int->Zj}:∀{w:Zh} {r e:Nat},wk c r w\e->⇑(r::ck c r w)=⇑w+ 1/\(r::ck c r w)[⇑w]?\e/\∀(i:Nat) (y:Int),w[i]?\y->∃a b,(r::ck c r w)[i]?\a/\(r::ck c r w)[i+ 1]?\b/\c a y\b
 |[],r,e,h=>by
  rwa[⟨2,by rw[<-Za0 h];rfl,λi y q=>by simp at q⟩]
 |z::w,r,e,h=>by
  let⟨d,f,j⟩:=xl h;let⟨g,k,l⟩:=sQ j;rw[oT f];rwa[⟨by rw[ajO,g];rfl,k,λi y q=>?_⟩]
  cases i with
  |zero=>rwa[r,d,22,by rw[<-Za0 q];rwa[f]]
  |succ i=>exact l i y q
theorem vR (g:Good S [] R):∀{w:Zh} {r e:Nat},wk S.by r w=some e->S.aX[r]?\r->∀x∈r::ck S.by r w,S.aX[x]?\x
 |[],r,e,h,b,x,a=>by rw[ajn.mp a];rwa[b]
 |z::w,r,e,h,b,x,a=>by
  let⟨d,c,i⟩:=xl h;rcases ajE.mp a with rfl|a
  ·rwa[b]
  ·rw[oT c]at a;let⟨_,f,_,j⟩:=g.st _ _ _ c;have:=qI g.wf f;rw[j]at this;rwa[vR g i this x a]
def Mj (f:nm B n=n)(e:nm B m=m)(a:Nat)(y:Int)(b:Nat):eD (rK R B) n z m a y b↔rK (eD R n z m) B a y b:=by
 constructor
 ·rintro (⟨g,h,r,c,d⟩|⟨rfl,rfl,rfl⟩|⟨rfl,rfl,rfl⟩)
  ·rwa[g,h,.inl r,c,d]
  ·rwa[11,.inr (.inl ⟨222⟩),f,e]
  ·rwa[11,.inr (.inr ⟨222⟩),e,f]
 ·rintro ⟨g,h,r|⟨rfl,rfl,rfl⟩|⟨rfl,rfl,rfl⟩,c,d⟩
  ·rwa[.inl ⟨g,h,r,c,d⟩]
  ·rwa[.inr (.inl ⟨c.symm.trans f,2,d.symm.trans e⟩)]
  ·rwa[.inr (.inr ⟨c.symm.trans e,2,d.symm.trans f⟩)]
def Ml {start:Nat}{word:Zh}(g:Good S [] R)(c:Cd ws nr S n word start m i j z):One ws nr S.aX (rK R S.aX) (hH n ((start::ck S.by start (word.take m))++(j::ck S.by j (word.drop (m+ 1)))) m) S.aX (eD (rK R S.aX) i z j):=by
 let H:m<⇑word:=(aji.mp c.hz).1;let⟨d,B,G⟩:=sQ c.f;let⟨v,C,D⟩:=sQ c.r;let lt:⇑(word.take m)=m:=by rw[ajN];ext
 let ld:⇑(word.drop (m+ 1))=⇑word - (m+ 1):=aj5 ..;rw[lt]at d B;rw[ld]at v C;let u:=qI g.wf c.s.1;rw[c.s.2]at u;let t:=qI g.wf c.hd.1;rw[c.hd.2]at t;let left:∀h,h<=m->((start::ck S.by start (word.take m))++(j::ck S.by j (word.drop (m+ 1))))[h]?=(start::ck S.by start (word.take m))[h]?:=λh A=>ajs (by rw[d];omega)
 let right:∀h,((start::ck S.by start (word.take m))++(j::ck S.by j (word.drop (m+ 1))))[m+ 1+ h]?=(j::ck S.by j (word.drop (m+ 1)))[h]?:=λh=>by
  rw[ajv (by rw[d];omega),d]
  congr 1
  ext
 rwa[.rule c.w (by rw[ajh,d,v];omega) ?_ ?_ (λx k=>?_) c.hz ?_ ?_ λh a b y A w o l=>?_]
 ·rw[left 0 ∅,show ⇑word=m+ 1+ (⇑word - (m+ 1)) by ext,right];rw[C];rfl
 ·rw[left 0 ∅];exact c.n.imp id λe=>by rw[e];rfl
 ·rcases ajr.mp k with k|k
  ·rwa[vR g c.f u x k]
  ·rwa[vR g c.r t x k]
 ·rw[left m (ajp _)];rwa[B]
 ·rw[right 0];rfl
 ·rcases Nat.lt_or_gt_of_ne A with q|q
  ·let⟨F,E,p,s,r⟩:=G h y (by rw[alu q];rwa[w]);rw[left h ∅,p]at o;rw[left (h+ 1) ∅,s]at l;obtain rfl:=Za0 o;obtain rfl:=Za0 l;rwa[g.so _ _ _ r]
  ·obtain⟨f,rfl⟩:∃f,h=m+ 1+ f:=⟨h - (m+ 1),3⟩;let⟨F,E,p,s,r⟩:=D f y ([alS]▸w);rw[right,p]at o;rw[show m+ 1+ f+ 1=m+ 1+ (f+ 1) by ext,right,s]at l;obtain rfl:=Za0 o;obtain rfl:=Za0 l;rwa[g.so _ _ _ r]
def A7 (t:Tr ws nr S S')(C:∀w∈ws,∀z∈w,z∈ks/\-z∈ks):Good S [] R->ig S->(∀a z b,R a z b->z∈ks)->∃p,Good S' [] p/\ig S'/\(∀a z b,p a z b->z∈ks)/\∃j,S'.rows=S.rows++j/\Go ws nr S.aX (rK R S.aX) j S'.aX (rK p S'.aX):=by
 induction t with
 |refl=>exact λg w k=>⟨R,g,w,k,[],(ajQ _).symm,.nil λ_ _ _=>Iff.rfl⟩
 |step _ f u F=>
  rename_i l H h word start m c d z _;intro g x k;let⟨D,g1,n,v,j,E,o⟩:=F g x k;let s:=C word (ajj f.w) z (ajj f.hz)
  let i:∀a y b,eD D c z d a y b->y∈ks:=by
   rintro a y b (r|⟨_,e,_⟩|⟨_,e,_⟩)
   ·rwa[v _ _ _ r]
   ·rw[e];rwa[s.1]
   ·rw[e];rwa[s.2]
  let gl:=g1.lay z f.hc.1 f.hd.1 (l.rows++[hH h ((start::ck l.by start (word.take m))++(d::ck l.by d (word.drop (m+ 1)))) m]);let⟨A,G,_⟩:=u.all gl i ⟨n.a,n.b,n.c⟩;let⟨q,B,go2⟩:=T4 (ws:=ws) (nr:=nr) u gl i;rwa[⟨_,A,G,i,j++(_::q),5,o.app (.cons (Ml g1 f) (go2.congr λa y b=>Mj f.hc.2 f.hd.2 a y b))⟩];rw[B];show (l.rows++[_])++q=_;rw[E,ajZ,ajZ];rfl
end
end L2
namespace L2
open PySem PySem.Spec PyProof.Rows
def X8 (a:Program)(w:World)(A:Around)(env:Env):Zs->(Bool->Zv->Prop)->Zv->Prop
 |[],K,s=>K true s
 |c::_,K,s=>(a<|>w) A (isTrue c env (eval c env)) K (λ_ _=>False) s
def Ck {R:Result->Zv->Prop}{elt target iter:Expr}{cs:Zs}{scope:Scope}{it acc:Zu}{env:Env}(y:⇑cs<=1)(I:Nat->Zv->Prop)
 (turn:∀n s,I n s->(P<|>w) A (pyNext it) (λr f=>match r with
  |none=>R (.ok .next) f
  |some v=>(P<|>w) A (letOwnedTupleGo target it v) (λ_ j=>(P<|>w) A (assign target env v) (λ_ l=>X8 P w A env cs (λb k=>
   match b with
   |true=>(P<|>w) A (eval elt env) (λx d=>(P<|>w) A (call (.builtin "list.append") [acc,x]) (λ_ i=>∃m,m<n/\I m i) (λ_ _=>False) d) (λ_ _=>False) k
   |false=>∃m,m<n/\I m k) l) (λ_ _=>False) j) (λ_ _=>False) f) (λ_ _=>False) s)
 (n:Nat) (h:I n s):codeAny (model P w) A (.compLoop (.ListComp elt [⟨target,iter,cs,(0)⟩] scope p) 0 it acc env) R s:=by
 rwa[codeAny_loop rfl I (λn s u=>wpAny_noted ?_) n h];rcases cs with _|⟨c,_|_⟩;rw[compTurn_list1]
 rotate_left 2
 cbv
 all_goals
  rwa[aje (amg (aje (akq (turn n s u) (λr f g=>?_) λ_ _ e=>e.elim)))]
  cases r with
  |none=>exact ajl g
  |some v=>
   rwa[aje (akq g (λ_ j t=>aje (akq t (λ_ l a=>?_) λ_ _ e=>e.elim)) λ_ _ e=>e.elim)]
   try rwa[aje (wpAny_tests_one (akq a (λok d a=>?_) λ_ _ e=>e.elim))];ext ok;rwa[ajl ⟨2,a⟩]
   rwa[aje (aje (akq a (λx d q=>aje (akq q (λ_ i o=>ajl (ajl ⟨2,o⟩)) λ_ _ e=>e.elim)) λ_ _ e=>e.elim))]
def Oq (X:Cx):Zs->TT->Prop
 |[],a=>a=λ_ H Q=>Q true H
 |c::_,a=>PT X c a
def QP {e:TT}{Q:Bool->Hp->Prop}{K:Bool->Zv->Prop}(h:Oq X C e)(i:X.xe=λ_ _=>False)(I:Inv X o D H s)(q:e D H Q)(k:∀b a d,Inv X o D d a->Q b d->K b a):X8 X.prog X.w X.A X.env C K s:=
 match C,h with
 |[],h=>by
  rw[h]at q;rwa[k true s H I q]
 |c::_,h=>by
  have:=h o s D H Q I q;rw[i]at this;rwa[aZ this λb a ζ=>?_];let⟨d,f,g⟩:=ζ;rwa[k b a d f g]
section
variable {X:Cx}{elt iter xh:Expr}{x:Str}{px pos:Pos}{scope:Scope}{cl:List (Str×Zt)}{fns:Zq}{ixs:Zi}{wi:TI}{tt:TT}{te:TE}
theorem zQ {cs:Zs}{use:Option (Zu->Sem Unit)}{RQ:Zu->Zv->Prop}{Q:VK}(hl:⇑cs<=1)(hc:X.calm=true)(hi:PI X (.Name x px) iter wi)(S:gM X x fns ixs scope cl)
 (ht:∀(C:Zt) (s:Zv) (H:Hp) (ex:Zo),Oq (dB X (x::fns) scope cl C s H ex) cs tt) (he:∀(C:Zt) (s:Zv) (H:Hp) (ex:Zo),PE (dB X (x::fns) scope cl C s H ex) elt te)
 (hs:∀x,foldedSetIterable iter X.env x=pure x) (I:Inv X o D H s) (h:pZ wi (i9 ixs) tt te D H Q)
 (fin:∀(C k:Zt) (H3:Hp) (ys:Zb) (s4:Zv) (m:Str->Zm),s4.heap.Ns C m->(∀G,Heap.SameBut C s4.heap G->Inv X o D (upd H3 k (.lst ys)) (s4<*G))->upd H3 k (.lst ys) C=none->X.env.locals≠C->(∀z c,X.env.cells.lookup z\c->c≠C)->X.ej.heap.objs.size<=C->(∀g∈X.pn++o,g.1≠C)->Q ↑k (upd H3 k (.lst ys))->compPost (model X.prog X.w) X.A X.xe use RQ ↑k C (.ok .next) s4):
 X⁻¹ X.A (comprehension (.ListComp elt [⟨.Name x px,iter,cs,(0)⟩] scope pos) scope X.env p (newList []) false (eval iter X.env) use) RQ X.xe s:=by
 rwa[wpAny_comprehension_free rfl hs S.abF S.kind S.names (aZ (hi o s D H _ I h) λv s1 h1=>aZ h1 λitv s2 h2=>?_)];let⟨it,Y,tn,J,H2,e,A,T,zO,f2,W,⟨m0,w0⟩,turn⟩:=h2;subst e
 let E:∀b∈Y,b<↥s2:=λb t=>by
  let⟨f,ho,_⟩:=T.obj _ _ zO b t;rwa[ajz ho]
 rwa[ajW (wpAny_newFunctionEnv S.cell (by intro y hy;simp at hy) (λMm O N=>?_) S.kind)];generalize Cm:s2.heap.push { cls:=.type "list",dict:=none,data:=.seq ([]:Zl).toArray }=F at O N ⊢;generalize hD:↥s2=k at E ⊢;let hC:F.objs.size=k+ 1:=by rw[<-Cm,akW,hD]
 generalize hCe:F.objs.size=C at hC O N ⊢;let w:k<C:=∅
 let Jm:k≠C:=ajL w;let L:∀b u,s2•b\u->F.get? b\u:=λb u q=>by rw[<-Cm];rwa[ajf _ q]
 let Ot:∀{b u},s2•b\u->b<k:=λq=>by rw[<-hD];rwa[ajz q]
 let U:∀b u,F.get? b\u->Mm.get? b\u:=λb u q=>
  N.extBut b u (ajL (ajK (ajz q) (amd hCe))) (ajf _ q)
 let hDo:F.get? k\{ cls:=.type "list",dict:=none,data:=.seq ([]:Zl).toArray }:=by rw[<-Cm,<-hD];rwa[ajx _ rfl]
 let I3:Inv X o D H2 (s2<*F):=A.kept (t':=s2.toks) L;let Ou:H2 k=none:=A.aM.fresh ∅;let hnC:H2 C=none:=A.aM.fresh ∅
 let Mp:∀b∈k::Y,b∉cJ X.stack:=λb t z=>by
  rcases ajE.mp (A.Bh b z) with e|z
  ·rcases ajE.mp t with Z|t
   ·rwa[absurd A.lt (by rw[<-e,Z,<-hD];rwa[akA _])]
   ·rwa[(f2 b t).2.1 e]
  ·rcases ajE.mp t with Z|t
   ·rwa[A.F9 (by rw[Z,<-hD];rwa[ajp _]) z]
   ·rwa[(f2 b t).2.2.1 z]
 let mx:∀y c,cl.lookup y\c->∀b∈k::Y,c≠b:=λy c q b t z=>by
  let⟨v,hv⟩:=A.cell y c (S.sub y c q);rcases ajE.mp t with Z|t
  ·rwa[absurd hv.lt (by rw[z,Z,<-hD];rwa[akA _])]
  ·rwa[(f2 b t).2.2.2.2.1 y c (S.sub y c q) z]
 let' R:Cx:=dB X (x::fns) scope cl C (s2<*F) H2 (k::Y)
 let ok:R.Ok:={
  mod:=A.ok.mod
  kind:=S.kind
  glob:=A.ok.glob
  blt:=A.ok.blt
  above:=by show F.objs.size<=C;ext
  inj:=λy z c q1 q2=>A.ok.inj y z c (S.sub^q1) (S.sub^q2)
  has:=S.has
  Bg:=λy c q=>nomatch q
  hd:=A.ok.hd
  frames:=A.ok.frames
  EF:=.inl rfl
  NF:=λb t=>⟨by
   rcases ajE.mp t with Z|t
   ·rw[Z];rwa[Jm]
   ·rwa[ajL (amf (E b t) w)],λy c q=>mx y c q b t⟩
  bs:=I3.bs
  su:=aju I3.ok.su I3.sz
  vB:=λb f q t=>by
   rcases ajE.mp t with Z|t
   ·rwa[absurd (Ot (A.bs b f q).1) (by rw[Z];rwa[akA _])]
   ·rcases (f2 b t).2.2.2.1 with z|z
    ·rwa[A.ok.vB b f q z]
    ·rwa[absurd (ajz (A.ok.bs b f q).1) (Nat.not_lt.mpr z)]
  yy:=Mp
  jq:=I3.stack
  uY:=I3.pU }
 let start:∀(v0:Zc),v0=none->Inv R [(k,{ cls:=.type "list",dict:=none,data:=.seq ([]:Zl).toArray })] (v0::i9 ixs D) H2 { s2 with heap:=Mm,toks:=s2.toks+ ⇑([]:List (Str×Zu)) }:=λv0 hv0=>{
  ok:=ok
  os:=rfl
  bare:=A.bare
  base:=Un.kept U
  loc:=⟨_,O,λi y v e1 Z e3=>by
   cases i with
   |zero=>rw[hv0]at Z;ext Z
   |succ j=>
    let e1':fns[j]?\y:=e1
    let T5:(i9 ixs D)[j]?\(some v):=Z
    let⟨i,hi1,hi2,hk,c,Jj,TX⟩:=S.at_ j y e1';unfold i9 at T5;rw[ajq,hi1]at T5
    let e3':D[i]?\(some v):=by
     let z:(D[i]?).join\v:=Za0 T5
     cases q:D[i]? with
     |none=>rw[q]at z;ext z
     |some f=>rw[q]at z;rw[show f=some v from z]
    let⟨m,_,hl⟩:=A.loc;let⟨u,r,l⟩:=hl i y v hi2 e3' (hk.elim (λz=>.inr (.inl z)) λz=>.inr (.inr z));rwa[⟨u,r,.inr ⟨TX,c,Jj,5⟩⟩];rcases l with ⟨z,_⟩|⟨_,c',hc',Xf⟩
    ·rcases hk with hk|hk <;> cbv
    ·have:c'=c:=Za0 (hc'.symm.trans (S.sub^Jj));subst this;let⟨f,ho,hd⟩:=Xf;rwa[f,U^L^ho,hd]⟩
  cell:=λy c q=>by
   let⟨v,f,ho,hd⟩:=A.cell y c (S.sub y c q);rwa[v,f,U^L^ho,hd]
  free:=hnC
  gP:=λy c q=>A.gP y c (S.sub y c q)
  pin:=λg hp=>by
   let T6:g=(k,{ cls:=.type "list",dict:=none,data:=.seq ([]:Zl).toArray }):=by simpa [R,dB] using hp
   subst T6;rwa[U^hDo,Ou,Jm,Mp k (ajA ..),λv z=>nomatch z]
  aM:=(A.aM.kept L).kept U
  len:=by show ⇑(v0::i9 ixs D)=⇑(x::fns);simp[i9,S.len] }
 let T7:∀{H':Hp} {P:List (Zt×Obj)},(∀b∈Y,H' b=none)->(∀g∈P,g.1=k)->∀b∈Y,qy R P H' b:=λ{H' P} hn hp b t=>
  ⟨hn b t,ajL (amf (E b t) w),Mp b (ajP _ t),.inl (ajP _ t),λy c q=>mx y c q b (ajP _ t),λg q=>by
   let q':g∈P:=by simpa [R,dB] using q
   rw[hp g q'];rwa[aku (E b t)]⟩
 let loop:codeAny (model X.prog X.w) X.A (.compLoop (.ListComp elt [⟨.Name x px,iter,cs,(0)⟩] scope pos) 0 ↑it ↑k (compEnvC scope cl C X.env))
  (compPost (model X.prog X.w) X.A X.xe use RQ ↑k C) { s2 with heap:=Mm,toks:=s2.toks+ ⇑([]:List (Str×Zu)) }:=by
  refine Ck hl (λn s'=>∃(i:Nat) (ys:Zb) (M:Zl) (nn:Nat) (v0:Zc) (H':Hp),Inv R [(k,{ cls:=.type "list",dict:=none,data:=.seq M.toArray nn })] (v0::i9 ixs D) H' s'/\tn i s'.heap/\(∀b∈Y,H' b=none)/\Vals ys M/\W i n ys H') ?_ m0
   ⟨(0),[],[],(0),none,H2,start none rfl,T.keep _ _ _ zO λb _ f q=>U^L^q,λb t=>(f2 b t).1,.nil,w0⟩
  rintro n s3 ⟨i,ys,M,nn,v0,H3,J3,X9,Ya,vv,w3⟩
  let Mq:∀g∈([(k,({ cls:=.type "list",dict:=none,data:=.seq M.toArray nn }:Obj))]:List (Zt×Obj)),g.1=k:=λg hp=>by
   cbv
  rcases turn i n ys H3 w3 with ⟨stop,hlen,q⟩|⟨go,hlen,step⟩
  ·-- the end
   rwa[aZ (T.done R rfl rfl rfl hc i _ s3 _ H3 _ J3 (T7 Ya Mq) X9 stop) λr s4 ζ=>?_];let⟨hr,J4⟩:=ζ
   subst hr;let⟨m,hn,_⟩:=J4.loc;let⟨gD,nD,_,_,_⟩:=J4.pin (k,{ cls:=.type "list",dict:=none,data:=.seq M.toArray nn }) (by simp[R,dB]);let B:=J4.base
   let inv:∀G,Heap.SameBut C s4.heap G->Inv X o D (upd H3 k (.lst ys)) (s4<*G):=λG hsb=>by
    let kC:∀b u,b≠C->s4•b\u->G.get? b\u:=λb u t q=>(hsb.2 b t).trans q
    let ne:∀{b f},s2•b\f->b≠C/\b≠k:=λq=>⟨ajL (amf (Ot q) w),ajL (Ot q)⟩
    let xt:∀{b f},s2•b\f->b∉Y->b∉k::Y:=λq hx z=>(ajE.mp z).elim (ne q).2 hx
    let uu:Un (cJ X.stack) Y H2 (upd H3 k (.lst ys)) s2.heap G:={
     keep:=λb f q n t hx=>kC b f (ne q).1 (B.keep b f (L b f q) n t (xt q hx))
     slot:=λb f q n t hx=>by
      let⟨sl,e⟩:=B.slot b f (L b f q) n t (xt q hx);rwa[sl,kC b _ (ne q).1 e]
     free:=λb f q n hx=>by rw[ai (ne q).2];rwa[B.free b f (L b f q) n (xt q hx)]
     there:=λb f q hx=>by
      let⟨o',e⟩:=B.there b f (L b f q) (xt q hx);rwa[o',kC b _ (ne q).1 e]
     ip:=λb xs q=>by rw[ai (aw q Ou)];rwa[B.ip b xs q]
     gO:=λb f xs q=>by rw[ai (aw q Ou)];rwa[B.gO b f xs q]
     iq:=λb ps q=>by
      let⟨more,e⟩:=B.iq b ps q;rwa[⟨more,[ai (aw q Ou)]▸e⟩ ]}
    let aM:dz X.prog X.w (upd H3 k (.lst ys)) G:=λb u e=>by
     cases t:b=k
     ·subst t;rw[aj]at e;ext e;rwa[hlen,M,nn,vv,kC _ _ Jm gD]
     ·rw[ai t]at e;refine(J4.aM b u e).fD (λc v hc q=>kC c v ?_ q) (λc q=>[ai (aw q nD)]▸q) λc xs q=>by rw[ai (aw q nD)];rwa[q]
      let fC:H3 C=none:=J4.free
      cbv
    rwa[A.Ga (s':=(s4<*G)) J4.os uu aM J4.bare (λb t=>⟨(f2 b t).2.2.2.1,(f2 b t).2.1,(f2 b t).2.2.2.2.1,(f2 b t).2.2.2.2.2⟩)]
   let ab:∀{b f},s2•b\f->b≠C:=λq z=>absurd (Ot q) ([z]▸Nat.not_lt.mpr (akZ w))
   rwa[fin C k H3 ys s4 m hn inv ([ai (akB Jm)]▸J4.free) (λz=>?_) (λz c hz=>?_) (aju (by have:=A.sz;rw[hD]at this;rwa[this]) (akZ w)) (λg hp=>ab (A.pin g hp).1) (q k nD)]
   ·let h1:=A.lt
    cbv
   ·let⟨v,f,ho,_⟩:=A.cell z c hz;rwa[ab ho]
  ·-- a turn
   rwa[aZ (T.item R rfl rfl rfl hc i _ s3 _ H3 _ J3 (T7 Ya Mq) X9 go) λr s4 ζ=>?_];let⟨u,hr,h4⟩:=ζ
   subst hr;rwa[aZ h4 λ_ s5 ζ=>?_];let⟨xv,H5,J5,r5,y5,Jn,Jo⟩:=ζ
   let J5':=J5.pinned (T7 Jo Mq) (T.obj^Jn);let hg:PG R (.Name x px) (oM 0):=EI (X:=R) (i:=0) S.nd rfl (.inl (va S.own)) (.inr (va S.own));rwa[aZ (hg _ s5 _ H5 xv u (λ gL H'=>gL=some xv::i9 ixs D/\H'=H5) J5' r5 ⟨22⟩) λ_ s6 ζ=>?_];let⟨σ6,H6,J6,e6,e6'⟩:=ζ
   subst e6 e6';rwa[QP (ht C (s2<*F) H2 (k::Y)) rfl J6 (step xv H6 y5) λbt Yb T8 Jp q6=>?_]
   cases bt with
   |true=>
    rwa[aZ (he C (s2<*F) H2 (k::Y) _ Yb _ T8 _ Jp q6) λyv s7 ζ=>?_];let⟨y,H7,J7,r7,m',T9,w7⟩:=ζ
    let⟨gD,nD,_,_,_⟩:=J7.pin (k,{ cls:=.type "list",dict:=none,data:=.seq M.toArray nn }) (by simp[R,dB]);let Ua:tn (i+ 1) s7.heap:=T.keep _ _ _ Jn λb t f e=>(J7.pin (b,f) (ajo _ (ajo _ (iL t e)))).1
    let Ub:∀b∈Y,H7 b=none:=λb t=>by
     let⟨f,e,d⟩:=T.obj _ _ Jn b t;rwa[(J7.pin (b,f) (ajo _ (ajo _ (iL t e)))).2.1]
    let J7':Inv R [] (some xv::i9 ixs D) H7 s7:=J7.jG λg hp=>nomatch hp
    rwa[wpAny_list_append_plain (hsz:=by rw[ajI,<-⇑vv];omega) ⟨nn,gD⟩ λh8 pl8 Yc=>?_]
    let⟨n8,g8⟩:=pl8
    let J8:Inv R [] (some xv::i9 ixs D) H7 (s7<*h8):=J7'.turned (t':=s7.toks) (it:=k) (λb f t e=>(Yc.2 b t).trans e) nD (Jm) (.inl (ajA ..))
     (λy c q=>mx y c q k (ajA ..)) (λg hp=>by simp[R,dB]at hp)
    rwa[⟨m',T9,i+ 1,ys++[y],M++[yv],n8,some xv,H7,J8.jG λg hp=>?_,5,Ub,vv.append (.cons r7 .nil),w7⟩]
    ·cbv
    ·rwa[T.keep _ _ _ Ua λb t f e=>(Yc.2 b (ajL (E b t))).trans e]
   |false=>
    let⟨m',T9,w7⟩:=q6;let⟨gD,nD,_,_,_⟩:=Jp.pin (k,{ cls:=.type "list",dict:=none,data:=.seq M.toArray nn }) (by simp[R,dB]);let Ua:tn (i+ 1) Yb.heap:=T.keep _ _ _ Jn λb t f e=>(Jp.pin (b,f) (ajo _ (ajo _ (iL t e)))).1
    let Ub:∀b∈Y,T8 b=none:=λb t=>by
     let⟨f,e,d⟩:=T.obj _ _ Jn b t;rwa[(Jp.pin (b,f) (ajo _ (ajo _ (iL t e)))).2.1]
    rwa[⟨m',T9,i+ 1,ys,M,nn,some xv,T8,Jp.jG λg hp=>?_,Ua,Ub,vv,w7⟩]
    cbv
 rwa[codeAny_compStart_list loop (T.self _ 0 _ _ _ (T.keep _ _ _ zO λb _ f q=>U^L^q) loop)]
def Cp {cs:Zs}(e:⇑cs<=1)(k:X.calm=true)(g:PI X (.Name x px) iter wi)(S:gM X x fns ixs scope cl)(d:∀(C:Zt) (s:Zv) (H:Hp) (ex:Zo),Oq (dB X (x::fns) scope cl C s H ex) cs tt)
 (j:∀(C:Zt) (s:Zv) (H:Hp) (ex:Zo),PE (dB X (x::fns) scope cl C s H ex) elt te) (f:∀x,foldedSetIterable iter X.env x=pure x):PE X (.ListComp elt [⟨.Name x px,iter,cs,(0)⟩] scope pos) (pZ wi (i9 ixs) tt te):=by
 intro c s o H Q I h;rwa[zQ e k g S d j f I h λC D n ys l m i inv _ _ _ _ _ q=>⟨m,i,λa b=>⟨↑D,_,inv a b,2,q⟩⟩]
def vj {cs:Zs}{a:Pos}(L:⇑cs<=1)(P:X.N.Nodup)(i:X.N[n]?\f)(M:Loc X.env.scope f)(T:X.calm=true)(O:PI X (.Name x px) iter wi)(S:gM X x fns ixs scope cl)(B:∀(C:Zt) (s:Zv) (H:Hp) (ex:Zo),Oq (dB X (x::fns) scope cl C s H ex) cs tt)
 (R:∀(C:Zt) (s:Zv) (H:Hp) (ex:Zo),PE (dB X (x::fns) scope cl C s H ex) elt te) (N:∀x,foldedSetIterable iter X.env x=pure x) (r:swapsWith (.ListComp elt [⟨.Name x px,iter,cs,(0)⟩] scope pos) (some (.Name f p)) a.line X.env=pure true)
 (l:X.fn f=true\/X.env.scope.names.lookup f=some .local):PS X (.Assign [.Name f p] (.ListComp elt [⟨.Name x px,iter,cs,(0)⟩] scope pos) a) (yA (pZ wi (i9 ixs) tt te) (oM n)):=by
 intro d s σ H U I h;rw[exec_Assign_Name_used _ _ _ _ r];rwa[aje (amg (aje ?_))];rwa[aje (akq (zQ (RQ:=λ_ w=>SP X d U .next w) L T O S B R N I h λC D Z ys V m Q inv t A z sz J q=>?_) (λ_ w F=>ajl (ajl F)) λ_ _ e=>e)];rwa[wpAny_assign_Name (zm (inv _ ⟨2,λ_ _=>rfl⟩) P i M (v:=↑D) rfl (λs5 G c=>?_) l)];let⟨y,j,k⟩:=c
 let g:C≠y:=by
  rcases k with e|e
  ·cbv
  ·rwa[akB (z f y e)]
 rwa[⟨m,Q.sameBut j g,λh6 u=>?_⟩];rwa[11,G.turned (t':=s5.toks) (it:=C) (λb o E e=>(u.2 b E).trans e) t (akB A) (.inr sz) z J,q]
def kS (c:X.calm=true)(d:PI X (.Name x px) iter wi)(S:gM X x fns ixs scope cl)
 (a:∀(C:Zt) (s:Zv) (H:Hp) (ex:Zo),PE (dB X (x::fns) scope cl C s H ex) elt te)
 (b:∀x,foldedSetIterable iter X.env x=pure x:=by intro _;rfl):
 PE X (.ListComp elt [⟨.Name x px,iter,[],(0)⟩] scope pos) (N8 wi (i9 ixs) te):=Cp (cs:=[]) ⋯ c d S (λ_ _ _ _=>rfl) a b
def GO (e:X.calm=true)(b:PI X (.Name x px) iter wi)(S:gM X x fns ixs scope cl)
 (c:∀(C:Zt) (s:Zv) (H:Hp) (ex:Zo),PT (dB X (x::fns) scope cl C s H ex) xh tt) (a:∀(C:Zt) (s:Zv) (H:Hp) (ex:Zo),PE (dB X (x::fns) scope cl C s H ex) elt te)
 (d:∀x,foldedSetIterable iter X.env x=pure x):
 PE X (.ListComp elt [⟨.Name x px,iter,[xh],(0)⟩] scope pos) (pZ wi (i9 ixs) tt te):=Cp (cs:=[xh]) (ajp _) e b S c a d
def vk {iy:Nat}{a:Pos}(i:X.N.Nodup)(c:X.N[iy]?\f)(g:Loc X.env.scope f)(j:X.calm=true)(k:PI X (.Name x px) iter wi)(S:gM X x fns ixs scope cl)
 (e:∀(C:Zt) (s:Zv) (H:Hp) (ex:Zo),PE (dB X (x::fns) scope cl C s H ex) elt te)
 (h:∀x,foldedSetIterable iter X.env x=pure x:=by intro _;rfl) (d:swapsWith (.ListComp elt [⟨.Name x px,iter,[],(0)⟩] scope pos) (some (.Name f p)) a.line X.env=pure true:=by rfl)
 (b:X.fn f=true\/X.env.scope.names.lookup f=some .local:=by trivial):
 PS X (.Assign [.Name f p] (.ListComp elt [⟨.Name x px,iter,[],(0)⟩] scope pos) a) (yA (N8 wi (i9 ixs) te) (oM iy)):=vj (cs:=[]) ⋯ i c g j k S (λ_ _ _ _=>rfl) e h d b
def Av {iy:Nat}{a:Pos}(j:X.N.Nodup)(c:X.N[iy]?\f)(g:Loc X.env.scope f)(k:X.calm=true)(l:PI X (.Name x px) iter wi)(S:gM X x fns ixs scope cl)
 (h:∀(C:Zt) (s:Zv) (H:Hp) (ex:Zo),PT (dB X (x::fns) scope cl C s H ex) xh tt) (e:∀(C:Zt) (s:Zv) (H:Hp) (ex:Zo),PE (dB X (x::fns) scope cl C s H ex) elt te)
 (i:∀x,foldedSetIterable iter X.env x=pure x) (d:swapsWith (.ListComp elt [⟨.Name x px,iter,[xh],(0)⟩] scope pos) (some (.Name f p)) a.line X.env=pure true)
 (b:X.fn f=true\/X.env.scope.names.lookup f=some .local):
 PS X (.Assign [.Name f p] (.ListComp elt [⟨.Name x px,iter,[xh],(0)⟩] scope pos) a) (yA (pZ wi (i9 ixs) tt te) (oM iy)):=vj (cs:=[xh]) (ajp _) j c g k l S h e i d b
end
def TrD (h base:Heap)(e:Zt)(cls:Zu)(g:Zp)(f:Zu):Prop:=
 ∃a b T d c,h.get? e\a/\(a.cls=cls/\a.dict=g)/\a.data=.fields b/\b[1]?\↑T/\base.get? T=none/\T≠e/\h.get? T\d/\d.data=.fields c/\c[3]?\f
def mj (base:Heap)(l:Zr)(e:Zt)(cls:Zu)(b:Zp)(a:Zu)(h:Heap):Prop:=base.StaysIn h/\base.get? e=none/\h.FunFrames base l/\TrD h base e cls b a
def zR (f:Zn->Zn)(o:Obj):(Obj.mapFields f o).dict=o.dict:=by
 let⟨a,b,d,e⟩:=o;cases d <;> rfl
section
variable {M:Model}{A:Around}{E:Zu->Zv->Prop}{s:Zv}{base:Heap}{env:Env}{outer:Zr}{L e:Zt}{cls:Zu}{dx:Zp}
theorem Jq {x:Obj}{u:Zn}{head:Zu}{p:Bool}(G:A.frames\(env::outer))(F:s.heap.FunFrames base (env::outer))(R:env.frame\L)
 (O:s•e\x) (I:base.StaysIn s.heap) (y:base.get? e=none) (C:x.data=.fields u) (z:1<u.size)
 (h:∀H,mj base (env::outer) e x.cls x.dict (rawInt L) H->s.heap.UpToSlots H->U () (s<*H)):
 wpAny M A (do let a <-frameOf env;let pl <-entryPlaceOf L p;let b <-EntryCells.newEntry head a .none (rawInt L) .none pl;setField ↑e 1 b) U E s:=by
 let w:e∉(env::outer).filterMap (·.frame):=λN=>by
  let⟨_,o,D,i⟩:=F.mem N;rw[O]at D;injection D with D;subst D;rwa[i u C]
 rwa[aje (wpAny_frameOf_fun G F R λc f=>?_)];rwa[aje (wpAny_entryPlaceOf λpl v=>?_)];unfold EntryCells.newEntry newFields;rwa[aje (ajW ?_ (v.sizeOk5 _ _ _ _ _))];let l:c.get? e\x:=(f.2.1 e w).trans O;let k:base.StaysIn c:=λb o g=>(f.2.1 b λN=>by rw[(F.mem N).1]at g;ext g).trans (I b o g)
 let m:=ajf (h:=c) { cls:=.type "traceback",dict:=none,data:=.fields ([head,↑L,.none,rawInt L,.none]++(if pl.isEmpty then List.replicate 6 Value.none else pl)).toArray } l;rwa[aln m C z ?_];let B:c.objs.size≠e:=aku (ajz l);let n:=akO C (·.setIfInBounds 1 (Value.ref c.objs.size));let t:=aj0 (Obj.mapFields (·.setIfInBounds 1 (Value.ref c.objs.size))) m (alj n)
 let r:=(aj1 (c.push { cls:=.type "traceback",dict:=none,data:=.fields ([head,↑L,.none,rawInt L,.none]++(if pl.isEmpty then List.replicate 6 Value.none else pl)).toArray })
  (Obj.mapFields (·.setIfInBounds 1 (Value.ref c.objs.size))) (akB B)).trans (ajx c rfl)
 let keep:∀b o,b≠e->c.get? b\o->_\o:=λb o P j=>(aj1 (c.push { cls:=.type "traceback",dict:=none,data:=.fields ([head,↑L,.none,rawInt L,.none]++(if pl.isEmpty then List.replicate 6 Value.none else pl)).toArray }) (Obj.mapFields (·.setIfInBounds 1 (Value.ref c.objs.size))) (akB P)).trans (ajf _ j)
 let d:∀b o,s•b\o->(∀u,o.data≠.fields u)->b≠e:=λb o j i q=>by
  rw[q,O]at j;injection j with j;subst j;rwa[i u C]
 rwa[h _ ⟨λb o g=>keep b o (λq=>by rw[q,y]at g;ext g) (k b o g),y,F.of_keeps λb o j i=>?_,5⟩ λb o j i=>?_]
 ·let⟨Q,J⟩:=f.2.2 b o j;rwa[_,keep b _ (d b o j i) J,2]
 ·rwa[11,c.objs.size,11,t,⟨Obj.cls_mapFields _ _,zR _ _⟩,n,by simp[z],k.fresh,B,r,2,by first|(simp;done)|(rcases v with rfl|⟨_,_,_,_,_,_,_,rfl⟩ <;> simp)]
 ·let⟨Q,J⟩:=f.2.2 b o j;rwa[Q,keep b _ (d b o j i) J]
def Uc {z:Obj}{r:Zn}{n:Obj}{k:Zn}{l:Zr}(y:base.StaysIn s.heap)(x:base.get? e=none)(D:s.heap.FunFrames base l)
 (G:s•e\n) (H:n.cls=cls/\n.dict=dx) (B:n.data=.fields k) (C:k[1]?\↑a) (m:base.get? a=none) (p:a≠e) (w:s•a\z) (g:z.data=.fields r) (F:r[3]?\v)
 (h:∀t,mj base l e cls dx u t->s.heap.UpToSlots t->U () (s<*t)):wpAny M A (setField ↑a 3 u) U E s:=by
 let i:3<r.size:=(akS.mp F).1;let other:∀b,b≠a->(s.heap.update a (Obj.mapFields (·.setIfInBounds 3 u))).get? b=s•b:=λb d=>aj1^akB d
 let c:∀b o,s•b\o->(∀k,o.data≠.fields k)->b≠a:=λb o d f q=>by
  rw[q,w]at d;injection d with d;subst d;rwa[f r g]
 rwa[aln w g i (h _ ⟨λb o j=>(other b λq=>by rw[q,m]at j;ext j).trans (y b o j),x,D.of_keeps λb o d f=>⟨o,(other b (c b o d f)).trans d,2⟩,5⟩ λb o d f=>⟨o.slots,(other b (c b o d f)).trans d⟩)]
 rwa[n,k,a,11,(other e (akB p)).trans G,H,B,C,m,p,aj0 _ w (alj (akO g _)),akO g _,by simp[i]]
def xu {l:Zr}(p:mj base l e cls dx v s.heap)(m:∀c,mj base l e cls dx .none c->s.heap.UpToSlots c->U () (s<*c)):wpAny M A (setFlight ↑e none) U E s:=by
 let⟨h,f,o,u,t,T,r,w,k,a,i,j,d,g,n,b,q⟩:=p;unfold setFlight;rwa[aje (aka k i j ?_)];rw[ajD (show (Value.ref T !=Value.none)=true from by simp)];rwa[Uc h f o k a i j d g n b q m]
def Ov (g:A.frames\(env::outer))(q:env.frame\L)(l:mj base (env::outer) e cls dx .none s.heap)
 (x:∀d,mj base (env::outer) e cls dx (rawInt L) d->s.heap.UpToSlots d->U () (s<*d)):wpAny M A (noteFrame ↑e env) U E s:=by
 let⟨b,a,k,N,J,T,I,O,u,⟨rfl,rfl⟩,n,p,h,j,o,c,t⟩:=l;unfold noteFrame;simp only[q];rwa[aje (aka u n p ?_)];rw[ajD (show (Value.ref T !=Value.none)=true from by simp)];rwa[aje (aka o c t ?_)];rw[ajw (show ¬((Value.none==rawInt L)=true) from by simp[rawInt])];rwa[aje (Uc b a k u ⟨22⟩ n p h j o c t λw H z=>?_)];let⟨b,a,k,B,y,P,G,F,m,⟨D,v⟩,f,i,_⟩:=H;rwa[Jq (s:=(s<*w)) g k q m b a f (akS.mp i).1 λd r C=>?_]
 rw[D,v]at r;rwa[x d r (z.trans C)]
def QQ (b:A.frames\(env::outer))(f:env.frame\L)(c:mj base (env::outer) e cls dx .none s.heap)
 (n:∀a,mj base outer e cls dx .none a->s.heap.UpToSlots a->U () (s<*a)):wpAny M A (leaving env ↑e) U E s:=by
 unfold leaving;rwa[aje (Ov b f c λl h o=>xu (s:=(s<*l)) h λj ζ k=>?_)];let⟨d,g,⟨11,i⟩,m⟩:=ζ;rwa[n j ⟨d,g,i,m⟩ (o.trans k)]
def Mr {b:Obj}{i:Zn}(c:A.frames\(env::outer))(t:s.heap.FunFrames base (env::outer))(j:env.frame\L)
 (k:s•e\b) (g:base.StaysIn s.heap) (f:base.get? e=none) (h:b.data=.fields i) (a:i[1]?=some .none)
 (n:∀d,mj base outer e b.cls b.dict .none d->s.heap.UpToSlots d->U () (s<*d)):wpAny M A (leaving env ↑e) U E s:=by
 unfold leaving noteFrame;simp only[j];rwa[aje (aje (aka k h a ?_))];rw[ajw ⋯];rwa[Jq c t j k g f h (akS.mp a).1 λa o r=>xu (s:=(s<*a)) o λm ζ q=>?_];let⟨l,u,⟨11,p⟩,v⟩:=ζ;rwa[n m ⟨l,u,p,v⟩ (r.trans q)]
end
end L2
namespace L2
open PySem PySem.Spec PyProof.Rows PySem.Calls PySem.W Builtin Builtin.ObjectAttr
def zS (x C:Zt)(e:Zp)(d:Bool)(h:Heap):Prop:=∃b c,h.get? x\b/\b.cls=↑C/\b.dict=e/\b.data=.fields c/\(d=true->c[1]?=some .none/\∃a,c[0]?\↑a)
noncomputable def XO (x C:Zt)(b:Zp)(a:Bool):HO:=.ext (zS x C b a)
def zS.fD {x:Zt}{dx:Zp}{nw:Bool}(p:zS x a dx nw h)(k:∀o,h.get? x\o->g.get? x\o):zS x a dx nw g:=by
 let⟨ob,b,e,r⟩:=p;rwa[ob,b,k _ e,r]
def zS.ex {x:Zt}{dx:Zp}{nw:Bool}(p:zS x a dx nw h):Gw x a h:=let ⟨ob,b,e,c,_,d,_⟩:=p;⟨ob,b,e,c,d⟩
def Cq (d:Zt)(fs:List (Str×V))(h:Heap):Prop:=∃a,h.Ns1 d a/\(∀f,eJ (fs.lookup f) (a f))/\Within a (fs.map (·.1))
noncomputable def XD (d:Zt)(fs:List (Str×V)):HO:=.ext (Cq d fs)
def Cq.fD {fs:List (Str×V)}(p:Cq d fs h)(k:∀o,h.get? d\o->g.get? d\o):Cq d fs g:=by
 let⟨a,n,r⟩:=p;rwa[a,n.at k,r]
def A8 {x:Zt}{c:Zp}{b:Bool}(p:zS x a c b h):bY P w H h x (XO x a c b):=⟨p,let ⟨d,_,e,_⟩:=p;⟨d,e⟩,λ_ _ q k=>q.fD k⟩
def Ow {fs:List (Str×V)}(p:Cq d fs h):bY P w H h d (XD d fs):=⟨p,let ⟨_,⟨o,_,_,e,_⟩,_⟩:=p;⟨o,e⟩,λ_ _ q k=>q.fD k⟩
noncomputable def nF:Zl->Bool
 |.ref _::r=>nF r
 |l=>l==BK
def GP (e:nF N=true):(∃c r,N=↑c::r/\nF r=true)\/N=BK:=by
 cases N with
 |nil=>exact .inr (beq_iff_eq.mp e)
 |cons c r=>cases c <;> first|rwa[.inl ⟨_,_,rfl,e⟩]|rwa[.inr (beq_iff_eq.mp e)]
theorem rL (self:Zu):∀(l:Zl),nF l=true->refuseLoop self "__setattr__" l=pure ()/\l.contains (.type "object")=true/\l.isEmpty=false
 |[],e=>by ext e
 |v::l,e=>by
  rcases GP e with ⟨c,r,q,e⟩|q
  ·injection q with b d
   subst b d;let a:=rL self l e;rwa[[refuseLoop_ref]▸a.1,by cbv,2]
  ·rw[q];rwa[PySem.F.store_ValueError.passes self,42]
structure yS (K:Za1) (C:Zt):Prop where
 mr:(clsIn K C).any (λcd=>nF cd.mro)=true
 hd:hasDictIn K C=true
 sa:findIn K ↑C "__setattr__"=some (some (.builtin "object.__setattr__"))
 ga:findIn K ↑C "__getattribute__"=some (some (.builtin "BaseException.__getattribute__"))
 gt:findIn K ↑C "__getattr__"=some none
 be:subIn K ↑C (.type "BaseException")\true
section
variable {prog:Program}{w:World}{A:Around}{R:Result->Zv->Prop}{s:Zv}{K:Za1}{x C:Zt}{name:Str}{v:Zu}
def Fs {p:Obj}{t:Option Obj}{g:Tok}(X:K.In s.heap)(I:PySem.W.InstAt s.heap x p C t)(m:(clsIn K C).any (λcd=>nF cd.mro)=true)(j:takerIn K C name\none)
 (h:∀b,(prog<|>w) A.in1 (storeInOwnDict ↑x ↑C (.str name g) name v b)
  (λfin d=>match fin with|.done f=>R (.ok f) d|.again i=>i.quiet=true/\codeAny (model prog w) A i R d) (λe d=>R (.error e) d) s):
 codeAny (model prog w) A (.call (.builtin "object.__setattr__") ⟨[↑x,.str name g,v],[]⟩) R s:=by
 let c:=PySem.F.store_object;let⟨cd,y,o⟩:=any_some m;let⟨n,B,z⟩:=rL ↑x _ o;let sub:Looks (model prog w) s.heap (isInstance ↑x (.type "object")) true:=I.type.andThen (looks_mroIn X (by unfold mroIn;cbv));rwa[akQ c.slot.plain c.entry (@check_slot (model prog w) _ _ s "object.__setattr__" "object" "__setattr__" ↑x [.str name g,v] [] _ c.kind c.split sub (c.args ↑x (.str name g) v) ?_)];let⟨attr,u,r⟩:=Option.bind_eq_some_iff.mp j;let hm:Looks (model prog w) s.heap (mroOf ↑C) cd.mro:=(looks_clsIn X y).andThen .now
 let l:Looks (model prog w) s.heap (storeTaker? attr) none:=by
  cases attr with
  |none=>exact .now
  |some a=>
   let⟨b,k,q⟩:=akr.mp r;rwa[(looks_takesIn X k).andThen ?_]
   cases b with
   |true=>ext q
   |false=>exact .now
 rw[osa_eq,refuse_eq];rwa[aje (aje (I.type.here (aje (hm.here ?_))))];rw[n];rwa[ajl (aje (I.type.here (aje ((looks_findIn X u).here (aje (l.here ?_))))))];rwa[h _]
def abP {ns:Zq}{f:Obj}{t:Zn}(X:K.In s.heap)(c:yS K C)(z:s•x\f)(j:f.cls=↑C)(q:f.data=.fields t)(D:takerIn K C name\none)
 (e:f.dict\d) (B:s.heap.Ns1 d M) (I:PySem.Within M ns) (H:⇑ns<=sizeLine)
 (h:∀i,i.Ns1 d (λy=>if y=name then some v else M y)->Heap.SameBut d s.heap i->U () { s with heap:=i,toks:=s.toks+ 2 }):
 (prog<|>w) A (setAttr ↑x name v) U E s:=by
 let⟨P,L,O,p⟩:=f;dsimp only at j q e;subst j q e;let⟨u,S,T,F,r⟩:=id B;let J:PySem.W.InstAt s.heap x ⟨↑C,some d,.fields t,p⟩ C (some u):=⟨z,22,F⟩;rwa[set_plain X J c.sa (Fs (s:={ s with toks:=s.toks+ 1 }) X J c.mr D λb=>?_)];let⟨Q,j,o⟩:=any_some c.hd;rwa[aje (ajl (aje (aje (wpAny_loadPart z (aje (Looks.here (s:={ s with toks:=s.toks+ 1 }) (looks_clsIn X j) ?_))))))];rw[o];rwa[ajl (a:=some d) (aje (ajl (aje ?_)))];rwa[wpAny_nsSet1 (s:={ s with toks:=s.toks+ 1 }) B λi g l=>?_]
 let⟨u,N,G,n,k,m⟩:=g.count (PySem.Within.cons name v I);rwa[aje (wpAny_lookBehind n ([k]▸pastItsLine_dict (aju m (by rw[ajO];omega))) ?_)];rwa[ajl (h _ g l)]
def Xg {f:Obj}{r:Zn}(X:K.In s.heap)(c:yS K C)(n:s•x\f)(p:f.cls=↑C)(F:f.data=.fields r)(G:takerIn K C name\none)(g:f.dict=none)
 (h:∀j,j.Ns1 ↥s (λy=>if y=name then some v else none)->j.get? x\{ f with dict:=some ↥s }->(∀b o,b≠x->s•b\o->j.get? b\o)->U () { s with heap:=j,toks:=s.toks+ 2 }):
 (prog<|>w) A (setAttr ↑x name v) U E s:=by
 let⟨P,L,O,m⟩:=f;dsimp only at p F g;subst p F g;let J:PySem.W.InstAt s.heap x ⟨↑C,none,.fields r,m⟩ C none:=⟨n,22,True.intro⟩;rwa[set_plain X J c.sa (Fs (s:={ s with toks:=s.toks+ 1 }) X J c.mr G λb=>?_)];let⟨S,p,D⟩:=any_some c.hd;rwa[aje (ajl (aje (aje (wpAny_loadPart n (aje (Looks.here (s:={ s with toks:=s.toks+ 1 }) (looks_clsIn X p) ?_))))))];rw[D];let d:(s.heap.push ("dict">>>.dict #[])).get? x\⟨↑C,none,.fields r,m⟩:=ajf _ n;let i:x≠↥s:=ajL (ajz n);rwa[aje (wpAny_alloc' ?_)];rwa[aje (wpAny_update' d ?_)];rwa[ajl (a:=some ↥s) (aje (ajl (aje ?_)))]
 let q:((s.heap.push ("dict">>>.dict #[])).update x λo=>{ cls:=o.cls,dict:=some ↥s,data:=o.data,slots:=o.slots }).get? ↥s
  =some ("dict">>>.dict #[]):=(Heap.get?_update_ne _ _ _ _ i.symm).trans (Heap.get?_push_at rfl rfl)
 let u:((s.heap.push ("dict">>>.dict #[])).update x λo=>{ cls:=o.cls,dict:=some ↥s,data:=o.data,slots:=o.slots }).Ns ↥s (λ_=>none):=
  ⟨_,#[],_,q,2,λe M=>absurd M (by simp),λ_=>rfl⟩
 rwa[wpAny_nsSet1 (s:={ s with heap:=(s.heap.push ("dict">>>.dict #[])).update x λo=>{ cls:=o.cls,dict:=some ↥s,data:=o.data,slots:=o.slots },toks:=s.toks+ 1 }) (Heap.Ns1.of_empty u) λj l k=>?_]
 let⟨Q,N,I,B,t,z⟩:=l.count (Within.cons name v Within.nil);rwa[aje (wpAny_lookBehind B ([t]▸pastItsLine_dict (aju z (by rw[ajO,alv,sizeLine_eq];omega))) ?_)];rwa[ajl (h _ l ?_ λb o H e=>?_)]
 ·rwa[(k.2 x i).trans (aj0 _ d rfl)]
 ·rwa[(k.2 b (ajL (ajz e))).trans ((Heap.get?_update_ne _ _ _ _ H).trans (ajf _ e))]
end
section
variable {prog:Program}{w:World}{A:Around}{E:Zu->Zv->Prop}{s:Zv}{K:Za1}{x C:Zt}{name:Str}
def abQ {b:Bool}{m:Obj}{i:Obj}(X:K.In s.heap)(c:yS K C)(I:PySem.W.InstAt s.heap x m C (some i))(l:findObj K C (some i) name\.value v)(o:handedIn v=true)(h:Q v { s with toks:=s.toks+ 1 }):
 (prog<|>w) A (getAttr ↑x name b) Q E s:=by
 let⟨n,g,d,t,os⟩:=s;let j:=I.type (M:=model prog w);let q:=looks_findIn (M:=model prog w) X c.ga;let L2:=looks_findIn (M:=model prog w) X c.gt;let k:Looks (model prog w) n (isSubtype ↑C (.type "BaseException")) true:=looks_subIn X c.be;let r:=looks_find (M:=model prog w) X I l;let a:(Value.builtin "BaseException.__getattribute__"==Value.builtin "object.__getattribute__")=false:=⋯
 let e:(onTheHeap (Value.ref C) && Value.builtin "BaseException.__getattribute__"==Value.builtin "object.__getattribute__")=false:=by rw[a];rfl
 let f:(b && onTheHeap (Value.builtin "BaseException.__getattribute__"))=false:=by cases b <;> rfl
 let p:=PySem.F.excAttr_ValueError.ga.bind ↑x;unfold getAttr getAttrBy;rwa[aje (wpAny_mkText (akd (aje (j.at (aje (q.at ?_))))))];dsimp only;rw[ajw (by rw[e];decide)];unfold getAttrByItsOwn hookBefore;rw[ajD (show onTheHeap (Value.ref C)=true from rfl)];rwa[aje (L2.at (aje (wpAny_attempt (akd ?_))))];unfold callGetattribute boundAndCalled;rw[ajw (by rw[f];decide),p];rwa[aje (ajl ?_)];show wpAny _ _ (call (.builtin "BaseException.__getattribute__") [↑x,.str name t]) _ _ _;rwa[alM (akQ PySem.F.excAttr_ValueError.ga.plain PySem.F.entry_bexc_ga (IJ j k ?_))];unfold Builtin.«object.__getattribute__»
 repeat lk
 show wpAny _ _ (handedOut v) _ _ _;rw[handedOut_of o];rwa[ajl h]
end
end L2
namespace L2
open PySem PySem.Spec PyProof.Rows PySem.Calls PySem.W
noncomputable def yT (K:Frag)(C f:Zt):Bool:=match K.lookup C with
 |some ⟨.type "type",_,.cls cd,c⟩=>(match cd.mro,c.toList with
  |.ref b::a,#v[_,_,_,_,.builtin n,_]=>b==C && n=="ValueError.__new__" && !cd.hasDel && tailIn K BK a && nsOkIn K cd.ns && nsIn K cd.ns "__init__"==some (some ↑f)
  |_,_=>false)
 |_=>false
def QR {K:Frag}(X:K.In h)(G:h.Ns a M)(e:nsIn K a x\some v):M x\v:=by
 let⟨o,m,p,i,b,_,g⟩:=G;unfold nsIn at e;split at e
 ·rename_i c d f k l q;have:=X^q;rw[i]at this;ext this;ext b;split at e
  ·rename_i n j;ext e;rw[<-g];unfold nsFind findBy;rw[<-Array.find?_toList,j];rfl
  ·split at e <;> ext e
 ·ext e
def Cr (XK:K.In h)(q:yT K a b=true):∃n N nm o bs k s sub r col t E A G D F w,
 h.get? a=some (excClassObj nm o a N bs n k s sub r col t E A G D F "ValueError.__new__")/\h.Ns N w/\w "__init__"=some ↑b/\OwnTail h BK n:=by
 unfold yT at q;split at q
 ·rename_i t cls m j;split at q
  ·rename_i H n x y z u nid v f c;simp only[aj6,beq_iff_eq,al1]at q;let⟨⟨⟨⟨⟨rfl,rfl⟩,e⟩,g⟩,i⟩,d⟩:=q;let⟨nm,bs,mro,C,o,B,s,sub,r,col,del⟩:=cls;dsimp only at f e i d;subst f e
   let p:m=#[x,y,z,u,some (.builtin "ValueError.__new__"),v]:=by
    let⟨l⟩:=m;simp only at c;rw[c]
   subst p;rwa[n,C,nm,o,bs,B,s,sub,r,col,t,x,y,z,u,v,_,XK^j,.of_isNs (PySem.W.isNs_of_in XK i),QR XK (.of_isNs (PySem.W.isNs_of_in XK i)) d,PySem.W.tail_of_in XK g]
  ·ext q
 ·ext q
section
variable {prog:Program}{w:World}{A:Around}{E:Zu->Zv->Prop}{h:Heap}{g:Array GenState}{d:Drawn}{t:Nat}{os:OsState}
variable {nm q:Str}{C N:Zt}{bs bm Ox:Zl}{hdct:Bool}{sn:Zq}{sub:Zl}{ab:Bool}{col:Option Bool}{dd:Zp}{k0 k1 k2 k3 k5:Zm}{B newId Jr:String}
theorem xA (F:ExcBaseFacts B newId Jr Ox)(T:OwnTail h Ox bm){n:Str->Zm}{rest:Zl}{s:Zt}{y:Obj}{Q:Fin->Zv->Prop}
 (j:h.get? C\excClassObj nm q C N bs bm hdct sn sub ab col dd k0 k1 k2 k3 k5 newId) (L:h.Ns N n) (J:n "__init__"=some ↑s)
 (u:h.get? s\y) (p:y.cls=.type "function")
 (G:∀l e,Heap.MadeExcOf h l e ↑C rest->
  (prog<|>w) A (call ↑s (↑e::rest)) (λr v=>r=.none/\Q (.done (.ret ↑e)) v) E ⟨l,g,d,t,os⟩) (Xh:⇑rest<=sizeLine):
 (prog<|>w) A (Builtin.«type.__call__» ⟨↑C::rest,[]⟩) Q E ⟨h,g,d,t,os⟩:=by
 repeat (first|with_reducible rwa[al3 j ?_]|with_reducible rwa[wpAny_madeBy_exc j ?_]|wp_step)
 rwa[codeAny_call_builtin_code (Code.quiet_builtin _ F.quiet) (wpAny_check_new_subT F T j ?_)];rwa[codeAny_exc_new_subT F T j ?_ Xh];show wpAny _ _ _ _ _ _
 let a:=ajf { cls:=↑C,data:=.fields #[↑h.objs.size,.none,.none,.none,.bool false,.none] }
  (ajf ("tuple">>>.seq rest.toArray) j)
 let c:=ajf { cls:=↑C,data:=.fields #[↑h.objs.size,.none,.none,.none,.bool false,.none] }
  (ajf ("tuple">>>.seq rest.toArray) u)
 let i:((h.push ("tuple">>>.seq rest.toArray)).push { cls:=↑C,data:=.fields #[↑h.objs.size,.none,.none,.none,.bool false,.none] }).Ns N n:=
  let ⟨o,I,M,e,r⟩:=L;⟨o,I,M,ajf _ (ajf _ e),r⟩
 let f:((h.push ("tuple">>>.seq rest.toArray)).push
  { cls:=↑C,data:=.fields #[↑h.objs.size,.none,.none,.none,.bool false,.none] }).get? (h.objs.size+ 1)=some
  { cls:=↑C,data:=.fields #[↑h.objs.size,.none,.none,.none,.bool false,.none] }:=by heap_get
 let m:(Value.ref C::bm).contains ↑C=true:=by simp
 let k:=T.keeps (h':=(h.push ("tuple">>>.seq rest.toArray)).push { cls:=↑C,data:=.fields #[↑h.objs.size,.none,.none,.none,.bool false,.none] })
  λb o e=>ajf _ (ajf _ e)
 unfold isInstance
 repeat (first|with_reducible rwa[al3 f ?_]|(with_reducible rwa[wpAny_isSubtype_exc a ?_];rw[m])|wp_step)
 show wpAny _ _ (typeLookup ↑C _) _ _ _;rwa[wpAny_typeLookup_tail a i k F.mroIs F.init.lookup ?_];rw[J];rwa[akd (aje ?_)];unfold bindSpecial;rwa[aje (alk (T:="function") ⟨_,c,p⟩ ?_)];rw[ajD ⋯];rwa[ajl (aje (akq (G _ (h.objs.size+ 1) ⟨λb o z=>ajf _ (ajf _ z),Heap.get?_none_of_le (amJ _),h.objs.size,f,Heap.get?_none_of_le (ajp _),5⟩) (λr v H=>?_) λ_ _ x=>x))]
 ·rwa[ajf _ (Heap.get?_push_at rfl rfl)]
 ·let⟨rfl,D⟩:=H
  wp_walk
  rwa[D]
def GQ (F:ExcBaseFacts B newId Jr Ox)(T:OwnTail h Ox bm){k:Str->Zm}{rest:Zl}{i:Zt}{l:Obj}{Q:Zu->Zv->Prop}
 (b:h.get? C\excClassObj nm q C N bs bm hdct sn sub ab col dd k0 k1 k2 k3 k5 newId) (p:h.Ns N k) (o:k "__init__"=some ↑i)
 (j:h.get? i\l) (f:l.cls=.type "function")
 (n:∀c e,Heap.MadeExcOf h c e ↑C rest->
  (prog<|>w) (A.under (.builtin "type.__call__" ⟨↑C::rest,[]⟩)) (call ↑i (↑e::rest)) (λr m=>r=.none/\Q ↑e m) E ⟨c,g,d,t,os⟩) (a:⇑rest<=sizeLine):
 (prog<|>w) A (call ↑C rest) Q E ⟨h,g,d,t,os⟩:=by
 let u:=tc_lookup;let x:=tc_bind ↑C;let v:(⟨h,g,d,t,os⟩:Zv).TypeIs ↑C "type":=⟨_,b,2⟩;rwa[alM (codeAny_of_tree ?_)];show wpAny _ _ (callAny ↑C _) _ _ _
 repeat (any_goals (first|assumption|with_reducible rwa[al3 b ?_]|wp_step))
 erw[2];rwa[codeAny_call_builtin_at (Code.quiet_builtin _ ⋯) entry_typeCall (wpAny_check_type_call_sub b (xA (Xh:=a) F T b p o j f λc e s=>?_))];rwa[n c e s]
def Ms {M:Model}{env:Env}{x:Sem Zu}{Q:Flow->Zv->Prop}(b:bm.contains (.type "BaseException")=true)(r:A.handled=none)
 (h:wpAny M A x (λv a=>∃e f i,v=↑e/\a•C\excClassObj nm q C N bs bm hdct sn sub ab col dd k0 k1 k2 k3 k5 newId/\
  a•e=some f/\f.cls=↑C/\f.data=.fields i/\i[1]?=some .none/\E ↑e a) E s):
 wpAny M A (raiseStmt env (some x) none) Q E s:=by
 let j:(Value.ref C::bm).contains (.type "BaseException")=true:=by rw[List.contains_cons,b,Bool.or_true]
 unfold raiseStmt;rwa[aje (akq h (λv a c=>?_) λ_ _ x=>x)];let⟨e,f,i,rfl,l,m,n,k,o,p⟩:=c;let⟨F,g,d,D,os⟩:=a;let⟨z,G,y,u⟩:=f;dsimp only at n k;subst n k
 repeat (first|with_reducible rwa[al3 m ?_]|with_reducible rwa[al3 l ?_]|(with_reducible rwa[wpAny_isSubtype_exc l ?_];rw[j])|with_reducible rwa[aje (aka m rfl o ?_)]|wp_step)
 all_goals rwa[wpAny_raiseNew_none r p]
end
end L2
namespace L2
open PySem PySem.Spec PyProof.Rows
inductive cZ (P:Program) (w:World) (outer:Zr) (H:Hp) (s:Zv) (E:XK) (e:Zu) (s':Zv):Prop
 |mk (x C:Zt) (dx:Zp) (B:Heap) (H':Hp):e=↑x->s'.os=s.os->AllBare s'.gens->mj B outer x ↑C dx .none s'.heap->Un (cJ outer) [] H H' s.heap s'.heap->dz P w H' B->(∀b o,s•b\o->H b=none->b∉cJ outer->B.get? b\o)->(∀b o,s•b\o->b∉cJ outer->∃o',B.get? b\o')->E ↑C dx H'->cZ P w outer H s E e s'
noncomputable def del (H:Hp)(x:Zt):Hp:=λb=>if b=x then none else H b
def sR {x:Zt}(h:b≠x):del H x b=H b:=by unfold del;rw[ajw h]
def Mt {x:Zt}{u:HO}(h:del H x b\u):b≠x/\H b\u:=by
 unfold del at h
 cbv
def fK:Passes (cZ P w) X (λ_ _ _=>False):=λ_ _ _ _ _ _ _ ζ=>by let⟨_,_,_,_,_,_,_,_,_,_,_,_,_,q⟩:=ζ;rwa[q.elim]
def Oy {a:Zr}(h:cZ P w a H s (λ_ _ _=>False) v t):False:=let ⟨_,_,_,_,_,_,_,_,_,_,_,_,_,q⟩:=h;q
section
variable {P:Program}{w:World}{K:Za1}{mg:Str->Zm}{base:Heap}{N:Zq}{qual:Str}{scope:Scope}{f:Zt}{cd:Zu}{A:Around}{outer:Zr}{s:Zv}{H:Hp}{E:XK}{pins:List (Zt×Obj)}{σ:St}{H1:Hp}{s1:Zv}
def qJ {o:Obj}(I:Inv (cE (cZ P w) P w K mg base N qual scope f cd A outer s H E) pins σ H1 s1)(e:s•b\o)(a:b∉cJ outer):b∉cJ (cE (cZ P w) P w K mg base N qual scope f cd A outer s H E).stack:=λz=>by
 rcases ajE.mp (show b∈↥s::cJ outer from z) with z|z
 ·rwa[absurd (ajz e) (by rw[z];rwa[akA _])]
 ·rwa[a z]
def Ud {x:Zt}{R:Zp}(I:Inv (cE (cZ P w) P w K mg base N qual scope f cd A outer s H E) pins σ H1 s1)(F:H1 x\XO x a R true)(Z:s•x=none)(q:E ↑a R (del H1 x)):
 (cE (cZ P w) P w K mg base N qual scope f cd A outer s H E).xe ↑x s1:=by
 let t:=I.ok.frames;let C:∀env∈(cE (cZ P w) P w K mg base N qual scope f cd A outer s H E).stack,∀b,env.frame\b->b∈x::cJ (cE (cZ P w) P w K mg base N qual scope f cd A outer s H E).stack:=λenv X b k=>ajP _ (amh.mpr ⟨env,X,k⟩)
 let G:=PySem.W.funFrames_hide I.stack C;let⟨⟨ob,vs,d,rfl',rfl,i,l⟩,_,_⟩:=I.aM x _ F;let nx:∀b o,s•b\o->b≠x:=λb o e z=>by cbv
 let out:∀b o,s•b\o->b∉cJ outer->b∉x::cJ (cE (cZ P w) P w K mg base N qual scope f cd A outer s H E).stack:=λb o e k z=>(ajE.mp z).elim (nx b o e) (qJ I e k)
 rwa[Mr (s:=s1) (base:=PySem.W.hideAll s1.heap (x::cJ (cE (cZ P w) P w K mg base N qual scope f cd A outer s H E).stack)) (L:=↥s) t G rfl d (λb o z=>PySem.W.of_hideAll _ z) (PySem.W.hideAll_none _ (.head _)) i (l rfl).1 λy r ups=>?_]
 let S:∀b o,s•b\o->H b=none->b∉cJ outer->(PySem.W.hideAll s1.heap (x::cJ (cE (cZ P w) P w K mg base N qual scope f cd A outer s H E).stack)).get? b\o:=λb o d g h=>
  amb _ (I.base.keep b o d g h (by simp[cE])) (out b o d h)
 let O:∀b o,s•b\o->b∉cJ outer->∃j,(PySem.W.hideAll s1.heap (x::cJ (cE (cZ P w) P w K mg base N qual scope f cd A outer s H E).stack)).get? b\j:=λb o d h=>by
  let⟨j,i⟩:=I.base.there b o d (by simp[cE]);rwa[j,amb _ i (out b o d h)]
 let M:∀b o,s1•b\o->b∈cJ outer->∃B,y.get? b\{ o with slots:=B }:=λb o d g=>by
  let⟨_,o2,h,Y⟩:=I.stack.mem (show b∈cJ (cE (cZ P w) P w K mg base N qual scope f cd A outer s H E).stack from ajP _ g);rw[d]at h;ext h;rwa[ups b o d Y]
 let dl:∀{b:Zt} {u:HO},H1 b\u->(∀ T,u≠.ext T)->del H1 x b\u:=λ{b u} e n=>by
  rw[sR]
  ·rwa[e]
  ·intro z;rw[z,F]at e;rwa[n _ (Za0 e).symm]
 rw[rfl']at r;rwa[⟨x,a,11,del H1 x,2,I.os,I.bare,r,⟨λb o d g h _=>r.1 b o (S b o d g h),λb o d g h _=>?_,λb o d g _=>?_,λb o d _=>?_,λb Q e=>dl (I.base.ip b Q e) (by cbv),λb o u e=>dl (I.base.gO b o u e) (by cbv),λb V e=>?_⟩,5,S,O,q⟩]
 ·let⟨B,i⟩:=I.base.slot b o d g h (by simp[cE]);let⟨D,l⟩:=M b _ i h;rwa[D,l]
 ·rw[sR (nx b o d)];rwa[I.base.free b o d g (by simp[cE])]
 ·cases k:b∈cJ outer
  ·let⟨j,i⟩:=I.base.there b o d (by simp[cE]);let⟨B,l⟩:=M b j i k;rwa[_,l]
  ·let⟨j,i⟩:=O b o d k;rwa[j,r.1 b j i]
 ·let⟨m,g⟩:=I.base.iq b V e;rwa[m,dl g (by cbv)]
 ·intro b u d;let⟨U,d⟩:=Mt d
  let p:∀c v,c≠x->H1 c\v->c∉x::cJ (cE (cZ P w) P w K mg base N qual scope f cd A outer s H E).stack:=λc v J g z=>by
   rcases ajE.mp z with z|z
   ·rwa[J z]
   ·rw[I.pU c z]at g;ext g
  rwa[(I.aM b u d).fD (λc v J z=>amb _ z ?_) (λc z=>dl z (by cbv)) λc Q z=>dl z (by cbv)]
  rcases J with z2|z2
  ·rw[z2];rwa[p b u U d]
  ·rwa[p c _ (λz=>by rw[z,F]at z2;ext z2) z2]
def Xi:Passes (cZ P w) (cE (cZ P w) P w K mg base N qual scope f cd A outer s H E) E:=by
 intro pins σ H1 s1 e T I F;let⟨x,C,Q,B,O,rfl,os,bare,J,un,m,R,G,q⟩:=F;rwa[QQ (L:=↥s) I.ok.frames rfl J λu k ups=>?_]
 let r:∀b o,s•b\o->H b=none->b∉cJ outer->B.get? b\o:=λb o a d c=>
  R b o (I.base.keep b o a d c (by simp[cE])) (I.base.free b o a d (by simp[cE])) (qJ I a c)
 let n:∀b o,s•b\o->b∉cJ outer->∃h,B.get? b\h:=λb o a c=>by
  let⟨h,g⟩:=I.base.there b o a (by simp[cE]);rwa[G b h g (qJ I a c)]
 let y:∀b o,s1•b\o->b∈cJ outer->∃t,u.get? b\{ o with slots:=t }:=λb o a d=>by
  let i:b∈cJ (cE (cZ P w) P w K mg base N qual scope f cd A outer s H E).stack:=ajP _ d;let⟨_,U,c,S⟩:=I.stack.mem i;rw[a]at c;ext c;let⟨t,g⟩:=un.slot b o a (I.pU b i) i (by simp);let⟨j,l⟩:=ups b _ g S;rwa[j,l]
 rwa[⟨x,C,Q,B,O,2,os.trans I.os,bare,k,⟨λb o a d c _=>k.1 b o (r b o a d c),λb o a d c _=>?_,λb o a d _=>?_,λb o a _=>?_,λb p a=>un.ip b p (I.base.ip b p a),λb o p a=>un.gO b o p (I.base.gO b o p a),λb D a=>?_⟩,m,r,n,q⟩]
 ·let⟨t,g⟩:=I.base.slot b o a d c (by simp[cE]);let⟨j,l⟩:=y b _ g c;rwa[j,l]
 ·let⟨h,g⟩:=I.base.there b o a (by simp[cE]);rwa[un.free b h g (I.base.free b o a d (by simp[cE])) (by simp)]
 ·cases v:b∈cJ outer
  ·let⟨h,g⟩:=I.base.there b o a (by simp[cE]);let⟨t,l⟩:=y b h g v;rwa[_,l]
  ·let⟨h,g⟩:=n b o a v;rwa[h,k.1 b h g]
 ·let⟨M,d⟩:=I.base.iq b D a;let⟨z,c⟩:=un.iq b _ d;rwa[M++z,by rw[c,Array.append_assoc]]
end
section
variable {P:Program}{w:World}{K:Za1}{mg:Str->Zm}{base:Heap}
theorem sE.Ue {qual:Str}{st:Stmt}{fd:FuncData}{e:Zq}{k:Nat}{sp:Sp}(F:sE K x qual st a fd)(S:aL Z e (az st))(len:∀c H Q E,sp c H Q E->⇑c=⇑e)
 (d:∀(b:Zu) (A:Around) (outer:Zr) (s:Zv) (H:Hp) (c:Zb) (Q:VK) (E:XK),cD k (A.deeper (envOfC qual (az st) ↥s a b))->sp c H Q E->
  ∃t,iY (cE (cZ P w) P w K mg base Z qual (az st) a b A outer s H E) (cI st) t/\t { nx:=λ_ i=>Q .non i,rt:=Q } (start Z c) H):dv P w K mg base (cZ P w) (k+ 1) a fd e sp:=by
 let⟨l,n,kV,doc,pm,m,b,ct,j,rfl,lk,g⟩:=F.ex;rwa[A5 lk g S len λA outer s H c Q E h f=>d b A outer s H c Q E h f]
end
section
variable {X:Cx}{pins:List (Zt×Obj)}{σ:St}{H:Hp}{s:Zv}{h':Heap}{e C:Zt}{vs:Zl}
def Inv.Xj (I:Inv X pins σ H s)(hm:Heap.MadeExcOf s.heap h' e ↑C vs)(hex:X.ex=[]):H e=none/\X.ej.heap.get? e=none/\Inv X pins σ (upd H e (XO e C none true)) (s<*h'):=by
 let a:H e=none:=by
  cases q:H e with
  |none=>rfl
  |some u=>
   let⟨o,d⟩:=(I.aM e u q).get;rw[hm.new]at d;ext d
 let ne:∀b o,s•b\o->b≠e:=λb o q z=>by rw[z,hm.new]at q;ext q
 let h:X.ej.heap.get? e=none:=by
  cases q:X.ej.heap.get? e with
  |none=>rfl
  |some o=>
   let⟨l,d⟩:=I.base.there e o q (by rw[hex];simp);rw[hm.new]at d;ext d
 rwa[⟨a,h,I.un (t':=s.toks) ⟨λb u q _ _ _=>hm.keeps b u q,λb u q _ _ _=>⟨u.slots,hm.keeps b u q⟩,λb u q n _=>[ai (ne b u q)]▸n,λb u q _=>⟨u,hm.keeps b u q⟩,λb g q=>[ai (aw q a)]▸q,λb u g q=>[ai (aw q a)]▸q,λb k q=>⟨#[],by rw[ai (aw q a),q];simp⟩⟩ λb u q=>?_⟩];cases f:b=e
 ·subst f;rw[aj]at q;ext q;let⟨t,i,_,_⟩:=hm.there;rwa[A8 ⟨11,i,222,λ_=>⟨212⟩⟩]
 ·rw[ai f]at q;rwa[(I.aM b u q).fD (λc v _ q=>hm.keeps c v q) (λc q=>[ai (aw q a)]▸q) λc g q=>[ai (aw q a)]▸q]
end
section
variable {X:Cx}{k:Nat}{f C:Zt}{fd:FuncData}{ps:Zq}{sp:Sp}{x:Str}{p pos cG:Pos}{e:Expr}{es:Zs}{t:TA}{E:XK}
def Yd (X:Cx)(C:Zt)(E:XK):Prop:=∀(a:List (Zt×Obj)) (c:St) (H:Hp) (s:Zv) (x:Zt) (b:Zp),Inv X a c H s->H x\XO x C b true->X.ej.heap.get? x=none->E ↑C b (del H x)->X.xe ↑x s
def lvD {base:Heap}{qual:Str}{scope:Scope}{f C:Zt}{a:Zr}{E:XK}:Yd (cE (cZ P w) P w K M base Z qual scope f v A a s H E) C E:=λ_ _ _ _ _ _ I c b q=>Ud I c b q
def QS (C:Zt)(sp:Sp)(E:XK)(t:TA):TS:=λ_ g H=>t g H λd b=>∀x,b x=none->sp (↑x::d) (upd b x (XO x C none true)) (λv a=>v=.non/\∃c,a x\XO x C c true/\E ↑C c (del a x)) (λ_ _ _=>False)
theorem Js (F:dv X.prog X.w X.K X.mg X.base (cZ X.prog X.w) k f fd ps sp)(hr:cD (k+ 1) X.A)(hb:Binds X.K fd ps [])(hc:X.calm=true)(hg:Gl X x)(hm:X.mg x\↑C)(hC:yT X.K C f=true)(hf:PySem.W.isFn X.K ↑f=true)(hk:PySem.W.keepIn X.K ↑C=true)
 (ha:PA X (e::es) t) (lv:Yd X C E) (hex:X.ex=[]) (Jt:⇑ps<=1000) (w:(x==("__debug__":Str))=false) (he:starEach (e::es) X.env=(false,eval e X.env)::starEach es X.env) (G:(backTo cG (starEach es X.env)).any (·.1)=false):
 PS X (.Raise (some (.Call (.Name x p) (e::es) [] cG)) none pos) (QS C sp E t):=by
 intro c s σ H D I h;let⟨R,N,nm,qn,bs,i,sn,sub,Q,col,dd,k0,k1,T,Z,k5,mN,W,o2,o3,o4⟩:=Cr I.ok.mod.wJ hC;let kp:∀{P O n},Inv X c P O n->∀b o,X.base.get? b\o->n•b\o:=λJ b o q=>(J.bs b o q).1
 rw[arm_exec_Raise];rwa[aje (amg (Ms (C:=C) (nm:=nm) (q:=qn) (N:=N) (bs:=bs) (bm:=R) (hdct:=i) (sn:=sn) (sub:=sub) (ab:=Q) (col:=col) (dd:=dd) (k0:=k0) (k1:=k1) (k2:=T) (k3:=Z) (k5:=k5) (newId:="ValueError.__new__") (o4.hasType ⋯) (I.ok.hd hc) (aje (akq (E:=X.xe) ?_ (λv Y m=>aje (amg (ajl m))) λ_ _ x=>x))))];rwa[aks (kD I hg hm ?_ w)];rwa[alP (h₀:=X.base) I.ok.mod.wJ hk (aZ (ha cG c s σ H _ I h) λus s1 ζ=>?_) he G];let⟨vs,H1,j,r,q⟩:=ζ;rwa[⟨j.dw,5⟩];let⟨oI,M,B⟩:=akr.mp (beq_iff_eq.mp hf)
 let len:⇑us<=1000:=by
  let h1:=F.len _ _ _ _ (q (↥s1) (j.aM.fresh (ajp _)));rw[ajO]at h1;rw[<-⇑r];ext
 let⟨hh,g,d,tk,os⟩:=s1;rwa[GQ (A:=X.A) ali (o4.keeps (kp j)) (kp j _ _ W) (o2.keeps (kp j)) o3 (j.dw^M) B (λh' y z=>?_) (aju len ⋯)];let⟨hn,h0,J⟩:=j.Xj z hex;let hq:=q y hn;let r2:Vals (V.ref y::vs) (Value.ref y::us):=.cons rfl r
 let hl:⇑(Value.ref y::us++[])=⇑ps:=by
  rw[ajQ,<-⇑r2];rwa[F.len _ _ _ _ hq]
 let l:=hb _ (Value.ref y::us) J.dw hl;rw[ajQ]at l;rwa[alM (alC (F.run _ X.stack _ _ ⟨Value.ref y::us,[]⟩ (Value.ref y::us) _ _ _ (hr.make C us []) (J.Bn.make C us []) l r2 hq) λr n a=>?_)]
 cases r with
 |error e=>exact(Oy a).elim
 |ok fl=>
  cases fl with
  |ret u=>
   let⟨v,O,L,rv,ev,dx,S,q3⟩:=J.after a;subst ev;let⟨⟨ob,ws,a1,a2,a3,a4,a5⟩,_,_⟩:=L.aM y _ S;rwa[rv,y,ob,ws,2,kp L _ _ W,a1,a2,a4,(a5 rfl).1,lv c σ O n y dx L S h0 q3]
  |next=>exact False.elim a
  |brk=>exact False.elim a
  |cont=>exact False.elim a
end
end L2
namespace L2
open PySem PySem.Spec PyProof.Rows PySem.W
section
variable {M:Model}{A:Around}{E:Zu->Zv->Prop}{s:Zv}{x a:Zt}{ob:Obj}{vs:Zn}{tv:Zu}
def Mu {Q:Fin->Zv->Prop}(e:s•x\ob)(c:ob.data=.fields vs)(d:vs[0]?\↑a)
 (h:Q (.done (.ret .none)) { s with heap:=(s.heap.push ("tuple">>>.seq #[tv])).update x (Obj.mapFields (·.setIfInBounds 0 ↑↥s)) }):wpAny M A (Builtin.«BaseException.__init__» ⟨[↑x,tv],[]⟩) Q E s:=by
 let b:=ajf ("tuple">>>.seq #[tv]) e;unfold Builtin.«BaseException.__init__»;rwa[aje (wpAny_newTuple ?_)];unfold Builtin.BaseException.bexcPut;rwa[aje (aje (aka b c d (aje (aln b c (akS.mp d).1 ?_))))]
 wp_walk
 rwa[h]
end
section
variable {X:Cx}{Y:Zt}{y f:Str}{np apos pos pos':Pos}{e:Expr}{es:Zs}{t:TA}
structure Mv (K:Za1) (Y:Zt):Prop where
 sp:specialIn K ↑Y "__getattribute__"=some (some (.builtin "type.__getattribute__"))
 rd:readsIn K Y (.type "type")=true
 fc:(match findCls K ↑Y (.type "type") "__init__" with|some (.val (.builtin i))=>i=="ValueError.__init__" | _=>false)=true
def Mv.find {Y:Zt}(b:Mv K Y):findCls K ↑Y (.type "type") "__init__"=some (.val (.builtin "ValueError.__init__")):=by
 have:=b.fc
 cbv
def abR (C:Zt)(t:TA):TE:=λ d H Q=>t d H λb a=>∃(x:Zt) (c:Zp) (l:Zi),b=[↑x,.str (tx l)]/\a x\XO x C c true/\Q .non a
def Mw {pl:Sem Bool}(hC:yT X.K a b=true)(B:Mv X.K Y)(W:Gl X y)(hm:X.mg y\↑Y)(ha:PA X (e::es) t)(v:(y==("__debug__":Str))=false)
 (A:starEach (e::es) X.env=(false,eval e X.env)::starEach es X.env) (C:(backTo pos (starEach es X.env)).any (·.1)=false)
 (S:eval (.Call (.Attribute (.Name y np) "__init__" apos) (e::es) [] pos) X.env=(do
  let P <-eval (.Name y np) X.env
  standAt apos.atName
  let (f,first) <-holding [P] (getMethod P "__init__" pl)
  callWith pos f first (backTo pos (starEach (e::es) X.env)) (backToKw pos (keywordEach [] X.env)))):
 PE X (.Call (.Attribute (.Name y np) "__init__" apos) (e::es) [] pos) (abR a t):=by
 intro k s σ H Q I h;rwa[methodCall_KW (pl:=pl) (kD I W hm ?_ v) S];rwa[method_cls I.dw B.sp (cls_value I.dw B.rd B.find rfl ?_)];rwa[PyProof.Rows.callWith_builtin1 (aZ (ha pos k _ σ H _ (I.tok _) h) λus s1 ζ=>?_) A C];let⟨vs,n,w,r,x,G,l,ev,p,q⟩:=ζ;subst ev;let⟨u,O,rfl,rx,ry⟩:=vals2 r;ext rx;let⟨bm,N,nm,qn,bs,F,sn,sub,ab,col,dd,k0,k1,k2,k3,k5,mN,Z,o2,o3,o4⟩:=Cr I.ok.mod.wJ hC;let kp:∀d o,X.base.get? d\o->s1•d\o:=λd o q=>(w.bs d o q).1
 let⟨⟨ob,ws,m,M,a3,L,a5⟩,_,_⟩:=w.aM x _ p;let⟨V,c,E⟩:=a5 rfl;let⟨g,gg,dr,U,os⟩:=s1;rwa[alM (akQ ali.init.plain ali.initEntry (wpAny_check_init_subT ali (o4.keeps kp) (kp^Z) m M ?_))];rwa[Mu m L E ?_];let R:x≠g.objs.size:=ajL (ajz m);let D:=ajf ("tuple">>>.seq #[O]) m;let i:=akO L (·.setIfInBounds 0 (Value.ref g.objs.size));let j:=aj0 (Obj.mapFields (·.setIfInBounds 0 (Value.ref g.objs.size))) D (alj i)
 let J:=w.write (h':=(g.push ("tuple">>>.seq #[O])).update x (Obj.mapFields (·.setIfInBounds 0 ↑g.objs.size))) (t':=U) (o:=XO x a G true) (x:=x) (e:=x) ([p]▸True.intro) (.inl rfl) (λd u T z=>(aj1^akB T).trans (ajf _ z)) ⟨_,j⟩
  (A8 ⟨11,j,(Obj.cls_mapFields _ _).trans M,(zR _ _).trans a3,i,λ_=>⟨[Array.getElem?_setIfInBounds_ne ⋯]▸V,g.objs.size,by simp[(akS.mp E).1]⟩⟩)
 let eH:upd n x (XO x a G true)=n:=by
  funext d
  cases z:d=x
  ·rw[z,aj,p]
  ·rw[ai z]
 rw[eH]at J;rwa[.non,n,J,2,q]
def Xk (K:Za1)(k i:TE)(f:Str):TS:=λD c H=>i c H λy j=>k c j λx b=>∃(a C:Zt) (h:Zp) (g:Bool),x=↑a/\b a\XO a C h g/\yS K C/\lH K C f/\
 match h with
 |none=>∀d,b d=none->D.nx c (upd (upd b d (XD d [(f,y)])) a (XO a C (some d) g))
 |some d=>∃fs,d≠a/\b d\XD d fs/\⇑fs<1000/\D.nx c (upd b d (XD d (bH f y fs)))
def Ju {fs:List (Str×V)}{mA:Str->Zm}{y:V}(r:∀f,eJ (fs.lookup f) (mA f))(a:PySem.Within mA (fs.map (·.1)))(c:RelV y u):(∀g,eJ ((bH f y fs).lookup g) (if g=f then some u else mA g))/\PySem.Within (λg=>if g=f then some u else mA g) ((bH f y fs).map (·.1)):=by
 rwa[⟨λg=>?_,λg b=>?_⟩]
 ·rw[pK];cases q:g=f
  ·rw[ajD q,ajD q];rwa[c]
  cbv
 ·cases q:g=f
  ·rw[q];rwa[(lG f y fs).1]
  ·rwa[(lG f y fs).2 g (a g λz=>b ?_)]
   cbv
def Ft {o value:Expr}{Q:TE}(ha:PE X o r)(hv:PE X value Q)(hs:swapsWith value (some (.Attribute o f pos')) pos.line X.env=pure false):PS X (.Assign [.Attribute o f pos'] value pos) (Xk X.K r Q f):=by
 intro k s A H D I h;rwa[plainObj_wpAny_Assign_Attribute (aZ (hv k s A H _ I h) λu s1 ζ=>?_) hs];let⟨y,H1,Z,S,q⟩:=ζ;rwa[aZ (ha k s1 A H1 _ Z q) λov s2 ζ=>?_];let⟨x,H2,l,rx,a,C,dx,nw,ex,U,c,n,B⟩:=ζ;subst ex;obtain rfl:ov=Value.ref a:=rx;let⟨⟨ob,vs,N,O,R,L,a5⟩,_,_⟩:=l.aM a _ U
 cases dx with
 |some d=>
  let⟨fs,nd,T,hl,B⟩:=B;let⟨⟨mA,hn,i,P⟩,_,_⟩:=l.aM d _ T;rwa[abP l.dw c N O L n.Gj R hn P (by rw[ajk,sizeLine_eq];omega) λp j sb=>?_]
  let⟨M,F⟩:=Ju (f:=f) i P S;let⟨w,_,_,v,_⟩:=id j;rwa[A,_,l.write (x:=d) (e:=d) ([T]▸True.intro) (.inl rfl) (λb u G z=>(sb.2 b G).trans z) ⟨w,v⟩ (Ow ⟨_,j,M,F⟩),B]
 |none=>
  rwa[Xg l.dw c N O L n.Gj R λp j m kp=>?_]
  let V:H2 ↥s2=none:=l.aM.fresh (ajp _);let E:↥s2≠a:=aku (ajz N);let⟨w,es,ep,v,W⟩:=id j;let⟨M,F⟩:=Ju (fs:=[]) (mA:=λ_=>none) (f:=f) (λ_=>True.intro) (λg hg=>absurd rfl hg) S;let J:=l.laid (a:=↥s2) (o:=XD ↥s2 [(f,y)]) (h':=s2.heap.push w) (t':=s2.toks) (λb u z=>ajf _ z) (ajp _) (Ow ⟨_,⟨w,es,ep,Heap.get?_push_at rfl (Heap.get?_some_iff.mp v).2,W⟩,M,F⟩);rwa[⟨A,_,J.write (h':=p) (x:=a) (e:=a) (o:=XO a C (some ↥s2) nw) ([ai E.symm,U]▸True.intro) (.inl rfl) (λb u G z=>?_) ⟨_,m⟩ (A8 ⟨11,m,O,2,L,a5⟩),B _ V⟩];rcases Heap.get?_push_cases z with ⟨rfl,rfl⟩|z
  ·rwa[v]
  ·rwa[kp b u G z]
inductive Ug (K:Za1) (f:Str) (x:V) (H:Hp) (Q:VK):Prop
 |mk (a C d:Zt) (nw:Bool) (fs:List (Str×V)) (v:V):x=↑a->H a\XO a C (some d) nw->H d\XD d fs->yS K C->lH K C f->fs.lookup f\v->Q v H->Ug K f x H Q
def Xl (K:Za1)(b:TE)(f:Str):TE:=λ c H Q=>b c H λx a=>Ug K f x a Q
def QT {e:Expr}(S:PE X e r)(z:attributeBase e f X.env (eval e X.env)=eval e X.env):PE X (.Attribute e f pos) (Xl X.K r f):=by
 intro g s N H Q I h;rwa[EX z (aZ (S g s N H _ I h) λu s1 ζ=>?_)];let⟨x,F,i,M,a,C,d,nw,fs,v,ex,U,O,c,n,l,q⟩:=ζ;subst ex;obtain rfl:u=Value.ref a:=M;let⟨⟨E,B,T,p,k,m,a5⟩,_,_⟩:=i.aM a _ U;let⟨⟨R,P,b,W⟩,_,_⟩:=i.aM d _ O;let⟨u,L,w⟩:=eJ.some_of (v:=v) (o:=R f) (by rw[<-l];rwa[b f]);let⟨D,A,G⟩:=zp P;let⟨Z,od,V,j⟩:=E;dsimp only at p k m;subst p k m;let J:PySem.W.InstAt s1.heap a ⟨↑C,some d,.fields B,j⟩ C (some D):=⟨T,22,A⟩;rwa[abQ i.dw c J (findObj_own c.hd n rfl (by rw[G,L])) (zq w) ⟨v,F,i.tok _,w,q⟩]
end
end L2
namespace L2
open PySem PySem.Spec PyProof.Rows
def eX (X:Cx)(a:List (Zt×Obj))(g:St)(d:Hp)(x C:Zt)(f:Zp)(s:Zv):Prop:=
 ∃(B:Heap) (c:Hp) (s1:Zv),Inv X a g c s1/\s.os=s1.os/\AllBare s.gens/\mj B X.stack x ↑C f .none s.heap/\Un (cJ X.stack) [] c d s1.heap s.heap/\dz X.prog X.w d B/\
  (∀b o,s1•b\o->c b=none->b∉cJ X.stack->B.get? b\o)/\(∀b o,s1•b\o->b∉cJ X.stack->∃e,B.get? b\e)
section
variable {X:Cx}{pins:List (Zt×Obj)}{σ:St}{H':Hp}{x C:Zt}{dx:Zp}{s:Zv}
def eX.of {E:XK}(I:Inv X pins σ H t)(c:cZ X.prog X.w X.stack H t E v s):∃x C dx H',v=↑x/\eX X pins σ H' x C dx s/\E ↑C dx H':=by
 let⟨x,C,dx,B,H',rfl,os,bare,fl,un,a,d,b,q⟩:=c;rwa[x,C,dx,H',2,⟨B,H,t,I,os,bare,fl,un,a,d,b⟩,q]
def eX.step {fl:Zu}{s1:Zv}(I:Inv X pins σ H s1)(os:s.os=s1.os)(bare:AllBare s.gens)(un:Un (cJ X.stack) [] H H' s1.heap s.heap)(aM:dz X.prog X.w H' g)
 (q:∀b o,s1•b\o->H b=none->b∉cJ X.stack->g.get? b\o) (p:∀b o,s1•b\o->b∉cJ X.stack->∃i,g.get? b\i) (a:mj g X.stack x ↑C dx .none h) (u:s.heap.UpToSlots h):eX X pins σ H' x C dx (s<*h):=by
 let n:∀b o,s1•b\o->b∈cJ X.stack->∃sl,h.get? b\{ o with slots:=sl }:=λb o e c=>by
  let⟨t,f,r⟩:=I.Oh c;rw[e]at f;ext f;let⟨sl,m⟩:=un.slot b o e (I.pU b c) c (by simp);let⟨k,j⟩:=u b _ m r;rwa[k,j]
 rwa[⟨g,H,s1,I,os,bare,a,⟨λb o d f l _=>a.1 b o (q b o d f l),λb o d _ l _=>n b o d l,un.free,λb o d _=>?_,un.ip,un.gO,un.iq⟩,aM,q,p⟩];cases c:b∈cJ X.stack
 ·let⟨sl,j⟩:=n b o d c;rwa[_,j]
 ·let⟨i,m⟩:=p b o d c;rwa[i,a.1 b i m]
def eX.look (t:eX X pins σ H' x C dx s)(a:X.stack=X.env::X.outer)(k:X.env.frame\X.env.locals)(hA:A.frames\X.stack)
 (h:∀d,eX X pins σ H' x C dx (s<*d)->U () (s<*d)):
 X⁻¹ A (noteFrame ↑x X.env) (λ_ f=>X⁻¹ A (setFlight ↑x none) U E f) E s:=by
 let⟨B,o,p,I,os,bare,fl,un,aM,n,j⟩:=t;let b:=fl;rw[a]at b;rwa[Ov (base:=B) (hA.trans (by rw[a])) k b λe l i=>?_]
 rwa[xu (s:=(s<*e)) l λm c g=>h m (eX.step (fl:=.none) I os bare un aM n j ([a]▸c) (i.trans g))]
def eX.again (t:eX X pins σ H' x C dx s)(h:∀b,eX X pins σ H' x C dx (s<*b)->U () (s<*b)):
 X⁻¹ A (setFlight ↑x none) U E s:=by
 let⟨B,f,g,I,os,bare,fl,un,aM,d,c⟩:=t;rwa[xu fl λe a u=>h e (eX.step (fl:=.none) I os bare un aM d c a u)]
def eX.inv (t:eX X pins σ H' x C dx s):Inv X pins σ H' s:=by
 let⟨B,c,d,I,os,bare,fl,un,aM,e,a⟩:=t;rwa[I.Ga (ch:=[]) os un (aM.kept fl.1) bare (λb z=>absurd z (by simp))]
def eX.none (t:eX X pins σ H' x C dx s):H' x=none:=by
 let⟨B,c,d,I,os,bare,fl,un,aM,f,b⟩:=t
 cases e:H' x with
 |none=>rfl
 |some u=>
  let⟨o,a⟩:=(aM x u e).get;rw[fl.2.1]at a;ext a
def eX.at (t:eX X pins σ H' x C dx s):zS x C dx false s.heap:=by
 let⟨B,e,f,I,os,bare,fl,un,aM,g,d⟩:=t;let⟨_,_,_,c,a,_,_,_,b,hc,hd,_⟩:=fl;rwa[c,a,b,hc.1,hc.2,hd,λz=>by ext z]
def eX.abS (t:eX X pins σ H' x C dx s):Inv X pins σ (upd H' x (XO x C dx false)) s:=by
 let F:=t.none;let h:=t.at;let⟨B,D,E,I,os,bare,fl,un,aM,l,y⟩:=t;let⟨r,p,G,_,_,hd,_⟩:=id h;let ne:∀b u,H' b\u->b≠x:=λb u e z=>by cbv
 rwa[I.Ga (ch:=[]) os ⟨un.keep,un.slot,λb o d f k=>?_,un.there,λb g e=>?_,λb o u e=>?_,λb j e=>?_⟩ (λb u e=>?_) bare (λb z=>absurd z (by simp))]
 ·rwa[(ai ?_).trans (un.free b o d f k)];rintro rfl;cases a:b∈cJ X.stack
  ·let⟨w,i,A⟩:=I.Oh a;rw[d]at i;ext i;let⟨sl,n⟩:=un.slot b o d f a (by simp)
   cbv
  ·have:=l b o d f a;rw[fl.2.1]at this
   cbv
 ·have:=un.ip b g e;rw[ai (ne^this)];ext
 ·have:=un.gO b o u e;rw[ai (ne^this)];ext
 ·let⟨m,this⟩:=un.iq b j e;rwa[m,by rw[ai (ne^this)];ext]
 ·cases a:b=x
  ·subst a;rw[aj]at e;ext e;rwa[A8 h]
  ·rw[ai a]at e;rwa[(aM b u e).fD (λc v _ q=>fl.1 c v q) (λc q=>[ai (ne^q)]▸q) λc g q=>[ai (ne^q)]▸q]
end
abbrev Jv:=Zt->Zp->St->Hp->Prop
abbrev Oz:=St->Hp->VK->Jv->Prop
abbrev zT:=Ends->Jv->St->Hp->Prop
def Uh (X:Cx)(a:List (Zt×Obj))(R:Jv)(e:Zu)(s:Zv):Prop:=∃x C b c H,e=↑x/\eX X a c H x C b s/\R C b c H
def Ye (X:Cx)(e:Expr)(t:Oz):Prop:=
 ∀(a:List (Zt×Obj)) (s:Zv) (b:St) (H:Hp) (Q:VK) (R:Jv),Inv X a b H s->t b H Q R->X⁻¹ X.A (eval e X.env) (EP X a b Q) (Uh X a R) s
def Fu (X:Cx)(st:Stmt)(t:zT):Prop:=
 ∀(a:List (Zt×Obj)) (s:Zv) (b:St) (H:Hp) (D:Ends) (R:Jv),Inv X a b H s->t D R b H->X⁻¹ X.A (exec st X.env) (SP X a D) (Uh X a R) s
section
variable {X:Cx}{k:Nat}{f:Zt}{fd:FuncData}{ps:Zq}{sp:Sp}{x:Str}{p pos:Pos}{e:Expr}{es:Zs}{t:TA}{ds:Zl}{dvs:Zb}
def Ui (sp:Sp)(dvs:Zb)(t:TA):Oz:=λ a H Q R=>t a H λd g=>sp (d++dvs) g Q λc h b=>∃C,c=↑C/\R C h a b
theorem Ct (F:dv X.prog X.w X.K X.mg X.base (cZ X.prog X.w) k f fd ps sp)(N:cD k X.A)(E:Gl X x)(P:X.mg x\↑f)(G:PySem.W.keepIn X.K ↑f=true)(D:Binds X.K fd ps ds)(A:Vals dvs ds)
 (W:PA X.uZ (e::es) t) (m:(x==("__debug__":Str))=false:=by decide) (U:starEach (e::es) X.env=(false,eval e X.env)::starEach es X.env:=by rfl) (g:(backTo pos (starEach es X.env)).any (·.1)=false:=by rfl):
 Ye X (.Call (.Name x p) (e::es) [] pos) (Ui sp dvs t):=by
 intro b s j H Q R I h;rwa[aks (kD I E P ?_ m)];rwa[alP (h₀:=X.base) I.ok.mod.wJ G (akq (W pos b s j H _ (I.wish _) h) (λd i ζ=>?_) λ_ _ z=>False.elim z) U g];let⟨o,v,n,r,q⟩:=ζ;rwa[⟨n.dw,5⟩];let J:=n.iw;let w:Vals (o++dvs) (d++ds):=r.append A;let M:⇑(d++ds)=⇑ps:=by rw[<-⇑w];rwa[F.len _ _ _ _ q]
 rwa[alM (alC (F.run X.A X.stack i v ⟨d,[]⟩ (d++ds) (o++dvs) Q _ N J.Bn (D i d J.dw M) w q) λr B a=>?_)]
 cases r with
 |error e=>
  let a:cZ X.prog X.w X.stack v i (λc l S=>∃C,c=Value.ref C/\R C l j S) e B:=a;let⟨x,C,l,Y,rfl,L,Z,T,z⟩:=eX.of J a;ext T;rwa[x,C,l,j,Y,2,L,z]
 |ok O=>
  cases O with
  |ret u=>exact J.after a
  |next=>exact False.elim a
  |brk=>exact False.elim a
  |cont=>exact False.elim a
def Xm (i:Nat)(b:Oz):zT:=λD R a H=>b a H (λv c=>D.nx (a.set i (some v)) c) R
def Fv {x:Str}{b:Oz}{pos':Pos}(w:X.N.Nodup)(o:X.N[i]?\x)(r:Loc X.env.scope x)(u:Ye X e b)(n:swapsWith e (some (.Name x pos')) pos.line X.env=pure false:=by rfl)(l:X.fn x=true\/X.env.scope.names.lookup x=some .local:=by trivial):
 Fu X (.Assign [.Name x pos'] e pos) (Xm i b):=by
 intro a s q H D R I h;rwa[wpAny_Assign_Name (aZ (u a s q H _ R I h) λv A ζ=>?_) n];let⟨y,m,d,c,g⟩:=ζ;rwa[qx d w o r c (λz j=>⟨_,m,j,g⟩) l]
def abT (c:TT)(t u:zT):zT:=λD R a H=>c a H λb d=>if b=true then t D R a d else u D R a d
def Uj {c:Expr}{a b:Stmt}{o:TT}{u w:zT}(E:PT X.uZ c o)(C:Fu X a u)(y:Fu X b w):Fu X (.If c [a] [b] pos) (abT o u w):=by
 intro g s l H D R I h
 let one:∀{st:Stmt} {m:zT} {j:Zv} {i:Hp},Fu X st m->Inv X g l i j->m D R l i->X⁻¹ X.A (execs [st] X.env) (SP X g D) (Uh X g R) j:=λ{st m j i} A J q=>
  wpAny_execs_cons (aZ (A g j l i D R J q) λB F z=>by
   cases B with
   |next=>exact alr z
   |ret v=>exact z
   |brk=>exact z
   |cont=>exact z)
 rwa[wpAny_If (akq (E g s l H _ (I.wish _) h) (λd j ζ=>?_) λ_ _ z=>False.elim z)];let⟨i,n,r⟩:=ζ
 cases d with
 |true=>exact one C n.iw r
 |false=>exact one y n.iw r
end
abbrev zU:=Ends->Zt->Zp->St->Hp->Prop
def OB (X:Cx)(d:List ExceptHandler)(t:zU):Prop:=
 ∀(a:List (Zt×Obj)) (s:Zv) (c:St) (H:Hp) (x C:Zt) (b:Zp) (D:Ends),eX X a c H x C b s->t D C b c H->X⁻¹ X.A (handleBy ↑x X.env d) (SP X a D) X.xe s
section
variable {X:Cx}{y n:Str}{Y:Zt}{np pos:Pos}{Gx:Stmt}{suite:List Stmt}{rest:List ExceptHandler}{tb:TS}{tr:zU}{i:Nat}
def Xn (K:Za1)(Y:Zt)(i:Nat)(tb:TS)(tr:zU):zU:=λD C d e H=>∃b,PySem.W.exmOne K ↑C ↑Y\b/\
 if b=true then ∀x,H x=none->tb { nx:=λ a c=>D.nx (a.set i none) c,rt:=D.rt,bk:=λ a c=>D.bk (a.set i none) c,ct:=λ a c=>D.ct (a.set i none) c } (e.set i (some ↑x)) (upd H x (XO x C d false)) else tr D C d e H
def Uk (l:X.N.Nodup)(k:X.N[i]?\n)(g:X.env.scope.names.lookup n=some .local)(B:Gl X y)(N:X.mg y\↑Y)(A:∀x,iY (X.zC x) (Gx :: suite) tb)(G:OB X rest tr)(w:(y==("__debug__":Str))=false):
 OB X (.ExceptHandler (some (.Name y np)) (some n) (Gx :: suite) pos::rest) (Xn X.K Y i tb tr):=by
 intro a s M H x C O D j h;let⟨b,p,h⟩:=h;let I:=j.inv;rwa[wpAny_handleBy_cons (codeAny_handlers_test ?_) f!""];rwa[kD (X:=X.zC x) (I.zC x) B N ?_ w];rwa[PySem.W.exm_one I.dw j.at.ex.WT p _ _ _ _ (λ_ _ e=>e) ?_]
 cases b with
 |false=>exact G a s M H x C O D j h
 |true=>
  let h:=h x j.none;rwa[codeAny_handlers_suite_as (j.again λP o=>?_)];let J:=o.abS;rwa[qx (X:=X.zC x) (J.zC x) l k (.inl g) (v:=↑x) rfl (λE F=>?_) (.inr g)];rwa[akq (A x a E _ _ _ F h) (λL Q q=>?_) λ_ _ z=>False.elim z]
  cases L with
  |next=>let⟨f,t,d,q⟩:=q;rwa[um (d.A6 I.ok) l k g λm c=>⟨11,c,q⟩]
  |brk=>let⟨f,t,d,q⟩:=q;rwa[um (d.A6 I.ok) l k g λm c=>⟨11,c,q⟩]
  |cont=>let⟨f,t,d,q⟩:=q;rwa[um (d.A6 I.ok) l k g λm c=>⟨11,c,q⟩]
  |ret u=>let⟨v,f,t,d,r,q⟩:=q;rwa[um (d.A6 I.ok) l k g λm c=>⟨v,11,c,r,q⟩]
def Xo:zU:=λ_ _ _ _ _=>False
def Ul:OB X rest Xo:=λ_ _ _ _ _ _ _ _ _ h=>h.elim
def Xp (t:zT)(c:zU):TS:=λD e H=>t D (λC d a b=>c D C d a b) e H
def QV {st:Stmt}{t:zT}{b:ExceptHandler}{j:List ExceptHandler}{c:zU}(d:X.stack=X.env::X.outer)(l:X.env.frame\X.env.locals)(k:Fu X st t)(o:OB X (b :: j) c):
 PS X (.Try [st] (b :: j) [] [] pos) (Xp t c):=by
 intro a s u H D I h;rwa[wpAny_Try_except (wpAny_execs_cons (akq (k a s u H D _ I h) (λp r q=>?_) λe r q=>?_))]
 ·cases p with
  |next=>exact alr (alr q)
  |ret v=>exact q
  |brk=>exact q
  |cont=>exact q
 ·let⟨x,C,w,g,m,rfl,c,q⟩:=q;rwa[c.look d l I.ok.frames λz f=>o a _ g m x C w D f q]
end
def GR (K:Za1)(C:Zt):Bool:=match PySem.W.findIn K ↑C "__init__" with
 |some (some ↑f)=>yT K C f
 |_=>false
def Fw (h:GR K a=true)(e:PySem.W.findIn K ↑a "__init__"=some (some ↑b)):yT K a b=true:=by
 unfold GR at h;rw[e]at h;rwa[h]
structure abU (K:Za1) (x qual:Str) (st:Stmt) (f:Zt) (fd:FuncData) (dV:Zu):Prop where
 ex:∃(oc:Zu) (od:Zp) (kV doc pm:Zu) (an:Zp) (b8 ct:Zu) (Br:Array Zm),
  fd=PySem.W.fnOf x qual (dH st) (cI st) (az st) dV kV doc pm an b8 ct/\K.lookup f\⟨oc,od,.func fd,Br⟩/\PySem.W.codeIn K b8 qual=true
 kp:PySem.W.keepIn K ↑f=true
structure DDef (K:Za1) (mg:Str->Zm) (x:Str) (st:Stmt) (ps:Zq) (f:Zt) (fd:FuncData) (d:Str):Prop where
 F:∃dV,abU K x x st f fd dV
 kp:PySem.W.keepIn K ↑f=true
 m:mg x\↑f
 b:Binds K fd ps []
 bd:∃t,Binds K fd ps [.str d t]
section
variable {P:Program}{w:World}{K:Za1}{mg:Str->Zm}{base:Heap}
theorem DDef.Ue {st:Stmt}{fd:FuncData}{e:Zq}{k:Nat}{sp:Sp}(D:DDef K mg x st e a fd f)(S:aL Z e (az st))(len:∀c H Q E,sp c H Q E->⇑c=⇑e)
 (d:∀(b:Zu) (A:Around) (outer:Zr) (s:Zv) (H:Hp) (c:Zb) (Q:VK) (E:XK),cD k (A.deeper (envOfC x (az st) ↥s a b))->sp c H Q E->
  ∃t,iY (cE (cZ P w) P w K mg base Z x (az st) a b A outer s H E) (cI st) t/\t { nx:=λ_ j=>Q .non j,rt:=Q } (start Z c) H):dv P w K mg base (cZ P w) (k+ 1) a fd e sp:=by
 let⟨dV,F⟩:=D.F;let⟨m,o,kV,doc,pm,n,b,ct,l,rfl,lk,h⟩:=F.ex;rwa[A5 lk h S len λA outer s H c Q E i g=>d b A outer s H c Q E i g]
def DDef.of {st:Stmt}{y d:Zp}{j r:Array Zm}{kV doc pm ct A:Zu}{dd:Zp}{t:Tok}(X:K.In h)(G:h.Ns mainGlobals mg)(e:PySem.W.nsIn K mainGlobals x\some ↑a)(l:K.lookup a\⟨v,y,.func (PySem.W.fnOf x x (dH st) (cI st) (az st) ↑b kV doc pm d u ct),j⟩)(c:PySem.W.codeIn K u x=true)(k:PySem.W.keepIn K ↑a=true)
 (lt:K.lookup b\⟨A,dd,.seq #[.str f t] n,r⟩)
 (g:∀(kV doc pm:Zu) (d:Zp) (u ct:Zu) (us:Zl),⇑us=⇑Z->∃i:Option Zn->Sem (List (Str×Zu)),bindArgs (PySem.W.fnOf x x (dH st) (cI st) (az st) ↑b kV doc pm d u ct) ⟨us,[]⟩=seqItems? ↑b >>=i/\i (some #[.str f t])=pure (Z.zip us))
 (z:∀(kV doc pm:Zu) (d:Zp) (u ct:Zu) (us:Zl),⇑us+ 1=⇑Z->∃i:Option Zn->Sem (List (Str×Zu)),bindArgs (PySem.W.fnOf x x (dH st) (cI st) (az st) ↑b kV doc pm d u ct) ⟨us,[]⟩=seqItems? ↑b >>=i/\i (some #[.str f t])=pure (Z.zip (us++[.str f t]))):
 DDef K mg x st Z a (PySem.W.fnOf x x (dH st) (cI st) (az st) ↑b kV doc pm d u ct) f:=by
 rwa[⟨⟨_,⟨v,y,kV,doc,pm,d,u,ct,j,2,l,c⟩,k⟩,k,PySem.W.mg_of X G e,λs us p m=>?_,t,λs us p m=>?_⟩]
 ·rw[ajQ]at m ⊢;let⟨i,q,o⟩:=g kV doc pm d u ct us m;rwa[BindsTo.of_defaults (T:=b) rfl (p^lt) rfl q o]
 ·let⟨i,q,o⟩:=z kV doc pm d u ct us (by simpa using m);rwa[BindsTo.of_defaults (T:=b) rfl (p^lt) rfl q o]
end
end L2
namespace L2
def GU {c:Nat}{g:Zh}(b:S.Wf):(S.make c z g).stand=S.stand+ 1:=by
 unfold RS.stand;show (~~~(S.q+ 1)).countP _=_;rw[ak3,List.countP_append,List.countP_singleton]
 let d:(S.make c z g).ax S.q=S.q:=by
  show (S.grown c z g).ax S.q=S.q;rw[fI b,ajD rfl]
 rw[show decide ((S.make c z g).ax S.q=S.q)=true from ajF d,ajD rfl]
 congr 1
 rwa[List.countP_congr λa e=>?_]
 have:(S.make c z g).ax a=S.ax a:=by
  show (S.grown c z g).ax a=S.ax a;rw[fI b,ajw (by have:=akF.mp e;omega)]
 rw[this]
def Cu (hw:S.Wf)(d:n<S.q):(S.make n z l).by m y=if m=S.q/\y= -z then some n else if m=n/\y=z then some S.q else S.by m y:=by
 unfold RS.make RS.keep;let b:(S.grown n z l).ways.length=S.q+ 1:=by show ⇑(S.ways++[[]])=_;rw[ajh,hw.w];rfl
 let c:∀a s,(S.grown n z l).by a s=S.by a s:=λa s=>by unfold RS.by;rw[oS hw]
 show (((S.grown n z l).cu n z S.q).cu S.q (-z) n).by m y=_;rw[jO (by show ⇑((S.grown n z l).ways.set n _) > _;rw[ajJ,b];omega),jO (by rw[b];omega),c]
def zV (h:ig S)(g:S.Wf)(c:Nat)(z:Int)(f:Zh):ig (S.make c z f):=by
 let e:∀b,(S.make c z f).ax b=if b=S.q then S.q else S.ax b:=λb=>fI g c z f b
 rwa[⟨λb d a=>?_,λb d=>?_,λb d=>?_⟩]
 ·let d:b<S.q+ 1:=d;rw[e]at a;cases q:b=S.q
  ·rw[ajD q,q]at a;rwa[absurd rfl a]
  ·rw[ajw q]at a;rwa[h.a b ∅ a]
 ·let d:b∈S.a9:=d;have:=h.c b d;rw[e,ajw ∅];rwa[h.b b d]
 ·let d:b∈S.a9:=d;have:=h.c b d;show b<S.q+ 1;ext
def Fx (d:Dt):Prop:=(∃n,d=.i n)\/∃l,d=.s l
def Fx.low {k:Nat}{d:Dt}(h:Fx d)(a:bG H k q d):bG H n q d:=by
 rcases h with ⟨b,rfl⟩|⟨l,rfl⟩
 ·ext a;rwa[.i]
 ·ext a;rwa[.s]
def QW {k:Nat}{b:Zg}(h:∀x∈b,Fx x)(a:bG H (k+ 1) q (.t b)):bG H (n+ 1) q (.t b):=by
 cases a with
 |t g f i=>exact .t g f λj q d e c=>(h d (ajj c)).low (i j q d e c)
def Dp (d:Dt):Prop:=∃a,d=.t a/\∀x∈a,Fx x\/∃as,x=.t as/\∀y∈as,Fx y
def Dp.low {d:Dt}(h:Dp d)(b:bG H 4 q d):bG H 2 q d:=by
 let⟨k,rfl,h⟩:=h
 cases b with
 |t g f i=>
  rwa[.t g f λj q d e c=>?_]
  let b:=i j q d e c;rcases h d (ajj c) with a|⟨as,rfl,a⟩
  ·rwa[a.low b]
  ·rwa[QW a b]
def Fy {a:Zg}(h:∀x∈a,Fx x):Dp (.t a):=⟨a,rfl,λx b=>.inl (h x b)⟩
def Um (c:Nat)(z:Int)(n:Nat):Dp (j7 c z n):=Fy λx a=>by
 simp only[ajE,akc,alR]at a;rcases a with rfl|rfl|rfl|rfl
 ·rwa[.inr ⟨_,rfl⟩]
 all_goals rwa[.inl ⟨_,rfl⟩]
def Uo {e:Za3}{b:Zi}{W:Za2}{row:Dt}(h:One e n B W row b R):Dp row:=by
 cases h with
 |meet=>
  rwa[Fy λx a=>?_]
  simp only[ajE,akc,alR]at a;rcases a with rfl|rfl|rfl|rfl|rfl
  ·rwa[.inr ⟨_,rfl⟩]
  all_goals rwa[.inl ⟨_,rfl⟩]
 |rule=>
  rwa[⟨12,λx a=>?_⟩];simp only[ajE,akc,alR]at a;rcases a with rfl|rfl|rfl|rfl
  ·rwa[.inl (.inr ⟨_,rfl⟩)]
  ·rwa[.inl (.inl ⟨_,rfl⟩)]
  ·rwa[.inr ⟨_,rfl,λy d=>?_⟩];let⟨c,_,rfl⟩:=aj7.mp d;rwa[.inl ⟨12⟩]
  ·rwa[.inl (.inl ⟨12⟩)]
def Xq {e:Za3}{c:Zi}{W:Za2}{b:Zg}(h:Go e n B W b c R):∀x∈b,Dp x:=by
 induction h with
 |nil=>cbv
 |cons o _ d=>
  intro x a;rcases ajE.mp a with rfl|a
  ·rwa[Uo o]
  ·rwa[d x a]
section
variable {S S':RS}{R:Za2}{ks:Zh}{pend:Ze}
def kP.gap (l:kP S pend S'):Good S pend R->(∀c z d,R c z d->z∈ks)->eP S R ks->eP S' R ks:=by
 induction l with
 |nil S=>exact λ_ _ h=>h
 |take _ b=>
  intro g a h;rwa[b (g.take a).1 a (h.take g)]
def kP.wr (l:kP S pend S'):Good S pend R->(∀c z d,R c z d->z∈ks)->⇑S.a9<=⇑S.rows->⇑S'.a9<=⇑S'.rows:=by
 induction l with
 |nil S=>exact λ_ _ h=>h
 |take _ i=>
  intro g e h;let⟨f,_,_,_,q⟩:=g.take e;rwa[i f e ?_];rcases q with ⟨_,a,b⟩|⟨_,_,_,_,_,_,_,_,_,_,a,b,_⟩
  ·rw[a,b];rwa[h]
  ·rw[a,b,ajh,ajh,akb,akb];ext
structure YS (S:RS) (L:Nat) (ks:Zh) (R:Za2):Prop where
 g:Good S [] R
 w:ig S
 k:∀a z b,R a z b->z∈ks
 gi:eP S R ks
 l:S.L=L
 m:0<S.q
 d:∀x∈S.rows,Dp x
 wr:⇑S.a9<=⇑S.rows
def YS.new {L:Nat}{ks:Zh}:YS (RS.new L ks) L ks (λ_ _ _=>False):=by
 rwa[⟨B6 L _,⟨λc hc e=>?_,(λc hc=>by ext hc),(λc hc=>by ext hc)⟩,(λ_ _ _ z=>z.elim),QB L _,2,Nat.one_pos,(λx a=>by ext a),ajp _⟩];have:c=0:=by have:c<1:=hc;ext
 subst this;rwa[absurd rfl e]
def YS.make (h:YS S n ks R)(hc:m<S.q)(f:S.ax m=m)(g:S.by m z=none)(hz:z∈ks)(c: -z∈ks):YS (S.make m z ks) n ks (eD R m z S.q):=by
 erw[h.g.make hc f g _,zV h.w h.g.wf _ _ _,λa y b r=>?_,h.gi.make h.g hc f g,h.l,Nat.succ_pos _,λx d=>?_]
 ·rcases r with r|⟨_,e,_⟩|⟨_,e,_⟩
  ·rwa[h.k _ _ _ r]
  ·rw[e];rwa[hz]
  ·rw[e];rwa[c]
 ·let d:x∈S.rows++[j7 m z S.q]:=d;rcases ajr.mp d with p|p
  ·rwa[h.d x p]
  ·rw[ajn.mp p];rwa[Um^_]
 ·show ⇑S.a9<=⇑(S.rows++[_]);rw[ajh];have:=h.wr;ext
def YS.tr {ws:Za3}(t:Tr ws m S S')(o:∀w∈ws,∀z∈w,z∈ks/\-z∈ks)(h:YS S n ks R):∃u,YS S' n ks u/\S'.q=S.q/\(∀a z b,R a z b->u a z b)/\∃v,S'.rows=S.rows++v/\∃E W B F,Go ws m E W v B F:=by
 induction t with
 |refl=>rwa[R,h,2,λ_ _ _ r=>r,[],(ajQ _).symm,1111,.nil (E:=S.aX) (W:=λ_ _ _=>False) λ_ _ _=>Iff.rfl]
 |step L ra j O=>
  rename_i k Y which word start f c d z;let⟨C,g,m1,M,N,e1,E,W,B,F,Z⟩:=O;let hz:=o word (ajj ra.w) z (ajj ra.hz)
  let i:∀a y b,eD C c z d a y b->y∈ks:=by
   rintro a y b (r|⟨_,e,_⟩|⟨_,e,_⟩)
   ·rwa[g.k _ _ _ r]
   ·rw[e];rwa[hz.1]
   ·rw[e];rwa[hz.2]
  let gl:=g.g.lay z ra.hc.1 ra.hd.1 (qG k which word start f d).rows;let⟨I,P,A,l2,_⟩:=j.all gl i ⟨g.w.a,g.w.b,g.w.c⟩;let gp:=j.gap gl i ((g.gi.more λa y b r=>.inl r).rows _);let⟨u,V,Q,X,H,J,p⟩:=A7 (Tr.step (Tr.refl k) ra j) (R:=C) o g.g g.w g.k;let⟨R0,T,w0,U,l,G,s⟩:=A7 (Tr.step L ra j) (R:=R) o h.g h.w h.k;rwa[⟨_,⟨I,P,i,gp,l2.trans g.l,[A]▸g.m,λx D=>?_,j.wr gl i (by show ⇑k.a9<=⇑(k.rows++[_]);rw[ajh];have:=g.wr;omega)⟩,A.trans m1,λa y b r=>.inl (M _ _ _ r),l,G,1111,s⟩];rw[J]at D;rcases ajr.mp D with q|q
  ·rwa[g.d x q]
  ·rwa[Xq p x q]
end
def CI.make {bs:List (Nat×Zh×Nat)}{gs:Zf}{W:bf}(h:CI S bs gs [] W fV none)(d:Good S [] R)(hc:n<S.q)(x:S.ax n=n)(A:S.by n z=none)(f:∀b∈bs,b.2.2<S.q)(g:Zh):CI (S.make n z g) bs gs [] W (λr s=>r=n/\s=z) none:=by
 let i:=d.make hc x A g;let k:S.q<=(S.make n z g).q:=amJ _;let lt:=Later.of d i jx k;let el:∀b,b<S.q->(S.make n z g).ax b=S.ax b:=λb c=>(fI d.wf n z g b).trans (ajw ∅)
 rwa[⟨h.len,λa u q=>?_,λa b B I m=>?_,(λa j=>by ext j),λr s a q=>?_,h.sl,h.bd⟩]
 ·let⟨C,v,E⟩:=h.al a u q;rwa[C,v.later lt k,E]
 ·let c:=f b (ajj m);rw[el _ c];rcases h.de a b B I m with w|w
  ·rwa[.inl w]
  ·cases e:S.ax b.2.2=b.2.2
   ·right
    have:=lt.wk w;rw[el _ c,e]at this;rwa[this]
   ·rwa[.inl e]
 ·let⟨l,p,G,D,o,j,F,w⟩:=h.en r s a q;erw[l,p,G,D,ajK o k,j,F];rcases w with ⟨t,H⟩|w
  ·cases e:l=n/\s=z
   ·rwa[.inr e]
   ·left
    rw[el _ o,Cu d.wf hc,ajw (λy=>by omega),ajw e];rwa[t,H]
  ·rwa[w.elim]
noncomputable def pw (s:Int)(n:Nat):Zh:=List.replicate n s
def GV (h:(pw z n)[m]?\y):m<n/\y=z:=by
 unfold pw at h;rw[List.getElem?_replicate]at h;split at h
 ·rwa[3,(Za0 h).symm]
 ·ext h
structure Pth (S:RS) (P:Nat->Int) (lo:Int):Prop where
 el:∀c,c<S.q->S.ax c=c
 rg:∀c,c<S.q->lo<=P c/\P c<lo+ S.q
 on:∀t:Int,lo<=t->t<lo+ S.q->∃c,c<S.q/\P c=t
 inj:∀a b,a<S.q->b<S.q->P a=P b->a=b
 by_:∀a z b,S.by a z=some b->(z=1\/z= -1)/\P b=P a+ z
 ch:∀a b,a<S.q->b<S.q->P b=P a+ 1->S.by a 1=some b
section
variable {S:RS}
structure Rng (S:RS) (G:Int->Nat) (M:Nat):Prop where
 st:∀t,S.by (G t) 1=some (G (t+ 1))
 pm:∀t,G (t+ M)=G t
end
def Per (G:Int->Nat)(k:Int):Prop:=∀t,G (t+ k)=G t
end L2
namespace L2
open PySem PySem.Spec PyProof.Rows
inductive Uq (K:Za1) (xs:Zb) (H:Hp) (Q:VK):Prop
 |mk (l:Zt) (ns:Zh):xs=[↑l]->aI K H l (au ns)->⇑ns<64->(∀D ms,H D=none->ms.Perm ns->ms.Pairwise (·<= ·)->Q ↑D (upd H D (.lst (au ms))))->Uq K xs H Q
inductive QX (x:V) (vs:Zb) (H:Hp) (Q:VK):Prop
 |mk (a:Zt) (ns:Zh) (k:Int):x=↑a->vs=[.int k]->H a\.lst (au ns)->Q (.int (ns.count k:Nat)) H->QX x vs H Q
abbrev Def.Ok {K:Za1} {mg:Str->Zm} {x:Str} {st:Stmt} {ps:Zq} {f:Zt} {fd:FuncData} (_:Def K mg x st ps f fd) (P:Program) (w:World) (base:Heap) (k:Nat) (sp:Sp):Prop:=dv P w K mg base (cZ P w) k f fd ps sp
abbrev MDef.Ok {K:Za1} {C:Zt} {x q:Str} {st:Stmt} {ps:Zq} {f:Zt} {fd:FuncData} (_:MDef K C x q st ps f fd) (mg:Str->Zm) (P:Program) (w:World) (base:Heap) (k:Nat) (sp:Sp):Prop:=dv P w K mg base (cZ P w) k f fd ps sp
section
variable {P:Program}{w:World}{K:Za1}{mg:Str->Zm}{base:Heap}{x q:Str}{st:Stmt}{ps N:Zq}{f C:Zt}{fd:FuncData}{k:Nat}{sp:Sp}
def Def.on (D:Def K mg x st ps f fd)(S:aL N ps (az st))
 (a:∀(b:Zu) (A:Around) (outer:Zr) (s:Zv) (H:Hp) (c:Zb) (Q:VK) (E:XK),cD k (A.deeper (envOfC x (az st) ↥s f b))->sp c H Q E->
  ∃t,iY (cE (cZ P w) P w K mg base N x (az st) f b A outer s H E).uZ (cI st) t/\t { nx:=λ_ d=>Q .non d,rt:=Q } (start N c) H) (len:∀c H Q E,sp c H Q E->⇑c=⇑ps:=by intro _ _ _ _ h;rcases h with ⟨⟩;subst_vars;rfl):D.Ok P w base (k+ 1) sp:=D.F.okN S len a
def MDef.on (D:MDef K C x q st ps f fd)(S:aL N ps (az st))
 (a:∀(b:Zu) (A:Around) (outer:Zr) (s:Zv) (H:Hp) (c:Zb) (Q:VK) (E:XK),cD k (A.deeper (envOfC q (az st) ↥s f b))->sp c H Q E->
  ∃t,iY (cE (cZ P w) P w K mg base N q (az st) f b A outer s H E).uZ (cI st) t/\t { nx:=λ_ d=>Q .non d,rt:=Q } (start N c) H) (len:∀c H Q E,sp c H Q E->⇑c=⇑ps:=by intro _ _ _ _ h;rcases h with ⟨⟩;subst_vars;rfl):D.Ok mg P w base (k+ 1) sp:=D.F.okN S len a
end
section
variable {X:Cx}{x q m:Str}{st:Stmt}{ps:Zq}{f C:Zt}{fd:FuncData}{k j i:Nat}{sp:Sp}{e o:Expr}{es:Zs}{t:TA}{ta te:TE}{p pos pos' apos:Pos}
def pc (D:Def X.K X.mg x st ps f fd)(F:dv X.prog X.w X.K X.mg X.base (cZ X.prog X.w) k f fd ps sp)(g:cD j X.A)(d:PA X (e::es) t)(hj:k<=j:=by decide)(h:Gl X x:=by rfl)(b:(x==("__debug__":Str))=false:=by decide)(c:starEach (e::es) X.env=(false,eval e X.env)::starEach es X.env:=by rfl)(a:(backTo pos (starEach es X.env)).any (·.1)=false:=by rfl):
 PE X (.Call (.Name x p) (e::es) [] pos) (N0 sp [] (λ_ _ _=>False) t):=yB F (g.mono hj) h D.m D.F.kp D.b .nil fK d b c a
def pm {pl:Sem Bool}(g:PE X o ta)(c:jX X.K C)(D:MDef X.K C m q st ps f fd)(F:dv X.prog X.w X.K X.mg X.base (cZ X.prog X.w) k f fd ps sp)(n:cD j X.A)(l:PA X (e::es) t)(h:k<=j:=by decide)(a:starEach (e::es) X.env=(false,eval e X.env)::starEach es X.env:=by rfl)(b:(backTo pos (starEach es X.env)).any (·.1)=false:=by rfl)
 (r:eval (.Call (.Attribute o m apos) (e::es) [] pos) X.env=(do
  let d <-eval o X.env
  standAt apos.atName
  let (f,first) <-holding [d] (getMethod d m pl)
  callWith pos f first (backTo pos (starEach (e::es) X.env)) (backToKw pos (keywordEach [] X.env))):=by rfl):
 PE X (.Call (.Attribute o m apos) (e::es) [] pos) (lA C m sp [] (λ_ _ _=>False) ta t):=kH g c D.m F (n.mono h) D.b .nil fK l a b r
def xB {pl:Sem Bool}(b:PE X o ta)(c:jX X.K C)(D:MDef X.K C m q st ps f fd)(F:dv X.prog X.w X.K X.mg X.base (cZ X.prog X.w) k f fd ps sp)(g:cD j X.A)(d:k<=j:=by decide)
 (h:eval (.Call (.Attribute o m apos) [] [] pos) X.env=(do
  let a <-eval o X.env
  standAt apos.atName
  let (f,first) <-holding [a] (getMethod a m pl)
  callWith pos f first (backTo pos (starEach [] X.env)) (backToKw pos (keywordEach [] X.env))):=by rfl):
 PE X (.Call (.Attribute o m apos) [] [] pos) (lA C m sp [] (λ_ _ _=>False) ta jZ):=Lh b c D.m F (g.mono d) D.b .nil fK h
def bP (i:Nat)(d:X.N.Nodup)(b:PE X e te)(g:X.N[i]?\x:=by rfl)(h:Loc X.env.scope x:=by trivial)(c:swapsWith e (some (.Name x pos')) pos.line X.env=pure false:=by rfl)(a:X.fn x=true\/X.env.scope.names.lookup x=some .local:=by trivial):
 PS X (.Assign [.Name x pos'] e pos) (yA te (oM i)):=RT d g h b c a
def fL (i:Nat)(a:X.N.Nodup)(b:X.N[i]?\x:=by rfl)(c:Loc X.env.scope x:=by trivial)(d:X.fn x=true\/X.env.scope.names.lookup x=some .local:=by trivial):PG X (.Name x pos) (oM i):=EI a b c d
end
inductive Xr (x:V) (y:V) (H:Hp) (Q:VK):Prop
 |mk (a b:Zt) (xs:Zb):x=↑a->y=↑b->H a\.lst xs->H b\.lst []->Q (.bl (!decide (⇑xs=0))) H->Xr x y H Q
section
variable {C:Zt}{fd:FuncData}{ps:Zq}{x d:Str}{pos:Pos}
def Ur (K:Za1)(fd:FuncData)(ps:Zq)(d:Str):Prop:=∀(s:Zv) (a:Zl) (v:Zu),K.In s.heap->⇑(a++[v])=⇑ps->BindsTo s fd { pos:=a,kw:=[(d,v)] } (ps.zip (a++[v]))
inductive Xs (K:Za1) (xs:Zb) (H:Hp) (Q:VK):Prop
 |mk (x C:Zt) (dx:Zp) (nw:Bool) (y:V) (c:Zu) (b:Bool):xs=[↑x,y]->H x\XO x C dx nw->abJ K C->vOf y\c->PySem.W.kitOne K ↑C c\b->Q (.bl b) H->Xs K xs H Q
end
section
variable {K:Za1}{mg:Str->Zm}
structure ahH (K:Za1) (mg:Str->Zm) (x:Str) (st:Stmt) (ps:Zq) (f:Zt) (fd:FuncData) (d nm:Str):Prop extends DDef K mg x st ps f fd d where
 bk:Ur K fd ps nm
end
inductive Xt (x:V) (y:V) (H:Hp) (Q:VK):Prop
 |mk (a b p q:Zt) (t:Zi) (ns:Zh):x=↑a->y=↑b->H a\.lst [↑p]->H b\.lst [↑q]->H p\.tup (.str (tx t)::au ns)->H q\.tup (.str (tx t)::au ns)->Q (.bl true) H->Xt x y H Q
end L2
namespace M11
noncomputable def flip (k:Nat):Nat:=if k % 2=0 then k+ 1 else k - 1
noncomputable def nx (T:Za3)(k i:Nat):Nat:=((T.getD i []).getD k 0).toNat
structure Tab (L:Nat) (T:Za3):Prop where
 pos:1<=⇑T
 top:⇑T<=300
 let1:1<=L
 ahV:L<=40
 row:∀(i:Nat) (r:Zh),T[i]?\r->⇑r=2* L
 val:∀i k,i<⇑T->k<2* L->∃r:Zh,T[i]?\r/\r[k]?\((nx T k i:Nat):Int)
 lt:∀i k,i<⇑T->k<2* L->nx T k i<⇑T
 back:∀i k,i<⇑T->k<2* L->nx T (flip k) (nx T k i)=i
noncomputable def pl (s:Int):Nat:=if 0<s then 2* s.natAbs - 2 else 2* s.natAbs - 1
def walk (T:Za3)(w:Zh)(i:Nat):Nat:=w.foldl (λi s=>nx T (pl s) i) i
def du (L:Nat)(w:Zh):Prop:=∀s∈w,s≠0/\s.natAbs<=L
noncomputable def back (w:Zh):Zh:=w.reverse.map λz=>-z
structure Pm (p:Nat) (r:Zh):Prop where
 len:⇑r=p
 nd:r.Nodup
 rg:∀z∈r,0<=z/\z<(p:Int)
def ahI (L:Nat)(f:Nat->Int->Int)(come:Zh)(x:Int)(r:Zh)(m:Nat):Prop:=⇑r=m/\∀k,k<m->∃j:Nat,r[k]?\(j:Int)/\come[j]?\(f k x)
theorem oV:∀(n:Nat) (l:Zi),l.Nodup->(∀x∈l,x<n)->⇑l<=n
 |0,[],_,_=>ajp _
 |0,a::l,_,h=>absurd (h a (ajA ..)) ∅
 |n+ 1,l,b,h=>by
  cases c:n∈l
  ·have:=oV n (l.erase n) (b.erase n) (λx d=>by
    cbv)
   rw[alA c]at this;ext
  ·have:=oV n l b (λx d=>by
    cbv)
   ext
def ahJ (p:Nat)(r t:Zh):Prop:=⇑t=p/\∀k j:Nat,r[k]?\(j:Int)->t[j]?\(k:Int)
def ahK (p:Nat)(r t:Zh)(n:Nat):Prop:=⇑t=p/\∀k j:Nat,k<n->r[k]?\(j:Int)->t[j]?\(k:Int)
end M11
namespace M12
open M11
def Fc (W:Nat)(E:Zh)(N:Nat):Prop:=(∀z∈E,0<=z/\z<(N:Int))/\∀j:Nat,0<j->j<N->∃p:Nat,p<j* W/\E[p]?\(j:Int)/\∀(q:Nat) (z:Int),q<p->E[q]?\z->z<(j:Int)
noncomputable def st (k:Nat):Int:=if k % 2=0 then ((k / 2+ 1:Nat):Int) else -((k / 2+ 1:Nat):Int)
def OD (k:Nat):pl (st k)=k:=by
 unfold pl st;cases h:k % 2=0
 ·rw[ajD h,ajD ∅];ext
 ·rw[ajw h,ajw ∅];ext
def Xu {k:Nat}(h:k<2* n):st k≠0/\(st k).natAbs<=n:=by
 unfold st;split <;> ext
def Ut:Zi->Zi->Prop
 |a::u,b::v=>a<b\/(a=b/\Ut u v)
 |_,_=>False
def adE (u v:Zi):Prop:=⇑u<⇑v\/(⇑u=⇑v/\Ut u v)
def Lw (L:Nat)(T:Za3)(ws:List Zi):Prop:=⇑ws=⇑T/\ws[0]?\[]/\
 ∀(j p:Nat),0<j->j<⇑T->T.flatten[p]?\(j:Int)->(∀(q:Nat) (z:Int),q<p->T.flatten[q]?\z->z<(j:Int))->∃u,ws[p / (2* L)]?\u/\ws[j]?\(u++[p % (2* L)])
end M12
namespace M24
noncomputable def add (come:Zi)(y:Nat):Zi:=if y∈come then come else come++[y]
def kU (f:Nat->Nat->Nat)(x:Nat)(come:Zi)(k:Nat):Zi:=(~~~k).foldl (λc i=>add c (f i x)) come
def oW (f:Nat->Nat->Nat)(x:Nat)(come:Zi)(k:Nat):kU f x come (k+ 1)=add (kU f x come k) (f k x):=by
 unfold kU;rw[ak3,aly];rfl
def bZ (f:Nat->Nat->Nat)(k a:Nat):Nat->Zi
 |0=>[a]
 |n+ 1=>match (bZ f k a n)[n]? with
  |some x=>kU f x (bZ f k a n) k
  |none=>bZ f k a n
def Cv (f:Nat->Nat->Nat)(k a:Nat):bZ f k a 0=[a]:=rfl
def iD {f:Nat->Nat->Nat}{k x:Nat}(h:(bZ f k n m)[m]?\x):bZ f k n (m+ 1)=kU f x (bZ f k n m) k:=by
 rw[bZ,h]
def qK {f:Nat->Nat->Nat}{k:Nat}(h:(bZ f k n m)[m]?=none):bZ f k n (m+ 1)=bZ f k n m:=by
 rw[bZ,h]
def QY (come:Zi)(y:Nat):∃t,add come y=come++t:=by
 unfold add;split
 ·rwa[[],(ajQ _).symm]
 cbv
theorem vS (f:Nat->Nat->Nat)(x:Nat)(come:Zi):∀k,∃t,kU f x come k=come++t
 |0=>⟨[],(ajQ _).symm⟩
 |k+ 1=>by
  let⟨t,b⟩:=vS f x come k;let⟨u,a⟩:=QY (kU f x come k) (f k x);rwa[t++u,by rw[oW,a,b,ajZ]]
def Cw (f:Nat->Nat->Nat)(k a n:Nat):∃t,bZ f k a (n+ 1)=bZ f k a n++t:=by
 cases h:(bZ f k a n)[n]? with
 |none=>rwa[[],by rw[qK h,ajQ]]
 |some x=>let⟨t,b⟩:=vS f x (bZ f k a n) k;rwa[t,by rw[iD h,b]]
def QZ {come:Zi}:m∈add come n↔m∈come\/m=n:=by
 unfold add
 cbv
def Uu {come:Zi}(h:come.Nodup)(y:Nat):(add come y).Nodup:=by
 unfold add
 cbv
theorem uy {f:Nat->Nat->Nat}{x:Nat}{come:Zi}(h:come.Nodup):∀k,(kU f x come k).Nodup
 |0=>h
 |k+ 1=>[oW]▸Uu (uy h k) _
theorem p9 (f:Nat->Nat->Nat)(k a:Nat):∀n,(bZ f k a n).Nodup
 |0=>by rw[Cv];simp
 |n+ 1=>by
  cases h:(bZ f k a n)[n]? with
  |none=>rw[qK h];rwa[p9 f k a n]
  |some x=>rw[iD h];rwa[uy (p9 f k a n) k]
theorem kX {f:Nat->Nat->Nat}{x:Nat}{come:Zi}{z:Nat}:∀{k:Nat},z∈kU f x come k↔z∈come\/∃i,i<k/\z=f i x
 |0=>⟨.inl,λq=>q.elim id λζ=>by let⟨i,a,_⟩:=ζ;rwa[absurd a (Nat.not_lt_zero _)]⟩
 |k+ 1=>by
  rw[oW,QZ,kX (k:=k)]
  cbv
theorem uz {f:Nat->Nat->Nat}{k:Nat}{P:Nat->Prop}(b:P m)(c:∀x i,P x->i<k->P (f i x)):∀n,∀z∈bZ f k m n,P z
 |0,z,a=>by rw[Cv,ajn]at a;rw[a];rwa[b]
 |n+ 1,z,a=>by
  cases h:(bZ f k m n)[n]? with
  |none=>rw[qK h]at a;rwa[uz b c n z a]
  |some x=>
   rw[iD h,kX]at a;rcases a with a|⟨i,d,rfl⟩
   ·rwa[uz b c n z a]
   ·rwa[c _ _ (uz b c n x (ajj h)) d]
theorem qL {f:Nat->Nat->Nat}{k:Nat}:∀{n j x i:Nat},j<n->(bZ f k m n)[j]?\x->i<k->f i x∈bZ f k m n
 |n+ 1,j,x,i,g,b,c=>by
  cases h:(bZ f k m n)[n]? with
  |none=>
   rw[qK h]at b ⊢;let o:=al9.mp h;let l:=(aji.mp b).1;rwa[qL (show j<n by omega) b c]
  |some y=>
   let⟨t,d⟩:=vS f y (bZ f k m n) k;let p:=(aji.mp h).1
   let a:(bZ f k m n)[j]?\x:=by
    rw[iD h,d,ajs ∅]at b;rwa[b]
   cases e:j=n
   ·rw[e,h]at a;rw[iD h,kX];rwa[.inr ⟨i,c,by cbv⟩]
   ·rw[iD h,kX];rwa[.inl (qL (show j<n by omega) a c)]
noncomputable def ix (come:Zi)(y:Nat):Nat:=come.findIdx λz=>z==y
theorem GW:∀{come:Zi} {i y:Nat},come.Nodup->come[i]?\y->ix come y=i
 |[],i,y,_,h=>by simp at h
 |a::l,0,y,_,h=>by
  let e:a=y:=Za0 h;unfold ix
  cbv
 |a::l,i+ 1,y,d,h=>by
  rw[List.getElem?_cons_succ]at h;let f:=ajj h
  let b:(a==y)=false:=by
   rw[ajH];intro e;rwa[(ajX.mp d).1 (by cbv)]
  let c:ix l y=i:=GW (ajX.mp d).2 h;unfold ix at c ⊢;rw[List.findIdx_cons,b];show l.findIdx _+ 1=i+ 1;rw[c]
def Jw {come:Zi}(b:(come++B).Nodup)(h:n∈come):ix (come++B) n=ix come n:=by
 let⟨i,a⟩:=aj9 h;let c:(come++B)[i]?\n:=by rw[ajs (aji.mp a).1];rwa[a]
 rw[GW b c,GW (aj4.mp b).1 a]
def Cy (f:Nat->Nat->Nat)(k:Nat)(come:Zi):Za3:=come.map λx=>(~~~k).map λi=>((ix come (f i x):Nat):Int)
def Uv {come:Zi}(h:n∉come):ix (come++[n]) n=⇑come:=by
 induction come with
 |nil=>unfold ix;rw[alT,List.findIdx_cons];simp
 |cons a l b=>
  rw[ajE,not_or]at h;let c:(a==n)=false:=by rw[ajH];rwa[λe=>h.1 e.symm]
  have:=b h.2;unfold ix at this ⊢
  cbv
def pN (f:Nat->Nat->Nat)(k a n:Nat):Za3:=((bZ f k a n).take n).map λx=>(~~~k).map λi=>((ix (bZ f k a n) (f i x):Nat):Int)
def Jx {f:Nat->Nat->Nat}{k x:Nat}(h:(bZ f k n m)[m]?\x):pN f k n (m+ 1)=pN f k n m++[(~~~k).map λi=>((ix (bZ f k n (m+ 1)) (f i x):Nat):Int)]:=by
 let⟨t,e⟩:=Cw f k n m;let b:=p9 f k n (m+ 1);let q:=(aji.mp h).1
 let l:(bZ f k n (m+ 1)).take (m+ 1)=(bZ f k n m).take m++[x]:=by
  rw[e,List.take_append_of_le_length ∅,akx,h];rfl
 unfold pN;rw[l,ajT]
 congr 1
 rwa[ale λc o=>?_]
 rwa[ale λi p=>?_]
 let⟨j,d⟩:=aj9 o
 let a:j<m:=by
  have:=(aji.mp d).1;rw[ajN]at this;ext
 rw[alu a]at d;let g:=qL a d (akF.mp p);rw[e]at b ⊢;rw[Jw b g]
def Mx {f:Nat->Nat->Nat}{k:Nat}(h:⇑(bZ f k n m)=m):pN f k n m=Cy f k (bZ f k n m):=by
 unfold pN Cy
 cbv
end M24
namespace K44
open PySem L2
noncomputable def top (i:Nat):Stmt:=PySem.Challenge.pw_cosetyard_k44_whole_papers_of_filling.main.body.getD i (.Pass ⟨(0),(0),(0),(0)⟩)
abbrev Cz:Stmt:=top 1
abbrev CB:Stmt:=top 8
abbrev qb:Stmt:=top 9
abbrev xC:Stmt:=top 13
abbrev xD:Stmt:=top 15
abbrev xE:Stmt:=top 16
abbrev xF:Stmt:=top 21
abbrev xG:Stmt:=top 22
abbrev xH:Stmt:=top 25
abbrev OG:Stmt:=top 26
abbrev Jy:Stmt:=top 28
abbrev zW:Stmt:=top 30
abbrev xI:Stmt:=top 31
abbrev vl:Stmt:=top 32
abbrev vm:Stmt:=top 33
abbrev nH:Stmt:=top 34
abbrev sS:Stmt:=top 35
abbrev sT:Stmt:=top 36
abbrev sU:Stmt:=top 37
abbrev vn:Stmt:=top 38
abbrev sV:Stmt:=top 39
abbrev OI:Stmt:=top 40
abbrev nJ:Stmt:=inClass (top 2) 0
abbrev rM:Stmt:=inClass (top 2) 1
abbrev mz:Stmt:=inClass (top 2) 2
abbrev lM:Stmt:=inClass (top 2) 3
abbrev lO:Stmt:=inClass (top 2) 4
abbrev qc:Stmt:=inClass (top 2) 5
abbrev sW:Stmt:=inClass (top 2) 6
abbrev rN:Stmt:=inClass (top 2) 7
abbrev rO:Stmt:=inClass (top 2) 8
abbrev j9:Stmt:=inClass (top 2) 9
abbrev lP:Stmt:=inClass (top 6) 0
abbrev nL:Stmt:=inClass (top 10) 0
abbrev oX:Stmt:=inClass (top 10) 1
abbrev vo:Stmt:=inClass (top 10) 2
abbrev lQ:Stmt:=inClass (top 11) 0
abbrev jR:Stmt:=inClass (top 11) 1
abbrev oY:Stmt:=inClass (top 11) 2
abbrev nM:Stmt:=inClass (top 11) 3
abbrev qd:Stmt:=inClass (top 11) 4
abbrev o8:Stmt:=inClass (top 11) 5
abbrev qe:Stmt:=inClass (top 11) 6
abbrev rP:Stmt:=inClass (top 11) 7
abbrev qf:Stmt:=inClass (top 11) 8
abbrev qg:Stmt:=inClass (top 11) 9
abbrev lS:Stmt:=inClass (top 11) 10
abbrev vp:Stmt:=inClass (top 18) 0
abbrev kb:Stmt:=inClass (top 19) 0
abbrev sX:Stmt:=inClass (top 20) 0
abbrev nS:Stmt:=inClass (top 24) 0
abbrev sY:Stmt:=inClass (top 24) 1
abbrev vq:Stmt:=inClass (top 24) 2
abbrev xJ:Stmt:=inClass (top 24) 3
abbrev rQ:Stmt:=inClass (top 24) 4
abbrev nT:Stmt:=inClass (top 24) 5
abbrev rS:Stmt:=inClass (top 24) 6
abbrev mB:Stmt:=inClass (top 24) 7
abbrev sZ:Stmt:=inClass (top 24) 8
abbrev pe:Stmt:=inClass (top 24) 9
abbrev kc:Stmt:=inClass (top 24) 10
abbrev pf:Stmt:=inClass (top 24) 11
set_option genInjectivity false in
structure ph where
 My:Zt
 Mz:FuncData
 MA:Zt
 MB:FuncData
 yU:Zt
 yV:FuncData
 GX:Zt
 GY:FuncData
 GZ:Zt
 G0:FuncData
 G3:Zt
 G4:FuncData
 xK:Zt
 xM:FuncData
 G5:Zt
 G6:FuncData
 G7:Zt
 G8:FuncData
 uA:Zt
 uB:FuncData
 Jz:Zt
 JB:FuncData
 JC:Zt
 JD:FuncData
 G9:Zt
 Hd:FuncData
 Ed:Zt
 Ee:FuncData
 Ef:Zt
 Eg:FuncData
 vT:Zt
 vU:FuncData
 CD:Zt
 CF:FuncData
 CH:Zt
 CJ:FuncData
 CK:Zt
 CL:FuncData
 Eh:Zt
 Ei:FuncData
 CM:Zt
 CN:FuncData
 Xv:Zt
 Xw:FuncData
 nU:Zt
 vV:FuncData
 Aw:Zt
 Ax:FuncData
 uK:Zt
 uL:FuncData
 tf:Zt
 ti:FuncData
 tj:Zt
 tm:FuncData
 yW:Zt
 yX:FuncData
 CP:Zt
 CQ:FuncData
 Ay:Zt
 Az:FuncData
 AB:Zt
 AF:FuncData
 qM:Zt
 qN:FuncData
 tq:Zt
 tu:FuncData
 nV:Zt
 vW:FuncData
 xN:Zt
 xO:FuncData
 Ej:Zt
 Ek:FuncData
 lT:Zt
 tD:FuncData
 qh:Zt
 qi:FuncData
 xP:Zt
 xQ:FuncData
 vX:Zt
 vY:FuncData
 yZ:Zt
 y1:FuncData
 xR:Zt
 xS:FuncData
 y3:Zt
 y4:FuncData
 AG:Zt
 AH:FuncData
 y6:Zt
 y7:FuncData
 y8:Zt
 y9:FuncData
 tE:Zt
 tF:FuncData
 El:Zt
 Em:FuncData
 pj:Zt
 kg:FuncData
 CT:Zt
 CV:FuncData
 nX:Zt
 vZ:FuncData
 CW:Zt
 CY:FuncData
 Eo:Zt
 Ep:FuncData
 He:Zt
 Hf:FuncData
 AI:Zt
 AJ:FuncData
 v7:Zt
 wc:FuncData
 AK:Zt
 AO:FuncData
 uM:Zt
 uN:FuncData
 CZ:Zt
 C0:FuncData
 xT:Zt
 xU:FuncData
 qO:Zt
 qP:FuncData
 xV:Zt
 xW:FuncData
 lB:Zt
 pk:Zt
 bE:Zt
 cQ:Zt
 bJ:Zt
 cF:Zt
 aB:Zt
 aO:Zt
 aF:Zt
 a8:Zt
 abV:Zt
 eQ:Zt
set_option genInjectivity false in
structure Txt (K:Za1) (mg:Str->Zm) (A:ph):Prop where
 xX:Def K mg "judged" Cz ["letters","rules","part","paper"] A.My A.Mz
 walked:Def K mg "walked" CB ["rooms","room","word"] A.MA A.MB
 nY:Def K mg "first_places" qb ["rules"] A.yU A.yV
 qQ:Def K mg "steps_of" xC ["letters"] A.GX A.GY
 numbered:Def K mg "numbered" xD ["rooms"] A.GZ A.G0
 nZ:Def K mg "place_of" xE ["step"] A.G3 A.G4
 qR:Def K mg "order_by" xF ["name"] A.xK A.xM
 m9:Def K mg "first_of" xG ["rooms","some"] A.G5 A.G6
 qS:Def K mg "all_gaps" xH ["letters"] A.G7 A.G8
 own:Def K mg "own" OG ["value"] A.uA A.uB
 fill:DDef K mg "fill" Jy ["letters","rules","part","limit","order"] A.Jz A.JB (tx [114,111,111,109,115])
 mW:Def K mg "_law_at" zW ["_law_script","_law_k"] A.JC A.JD
 gR:Def K mg "_law_mix" xI ["_law_number","_law_place"] A.G9 A.Hd
 iE:Def K mg "_law_word" vl ["_law_cells","_law_letters"] A.Ed A.Ee
 tG:Def K mg "_law_back" vm ["_law_word_here"] A.Ef A.Eg
 kY:Def K mg "_law_cut_words" nH ["_law_cells"] A.vT A.vU
 qT:Def K mg "_law_rules" sS ["_law_number","_law_cells"] A.CD A.CF
 qU:Def K mg "_law_group" sT ["_law_script"] A.CH A.CJ
 qV:Def K mg "_law_limit" sU ["_law_number"] A.CK A.CL
 tH:Def K mg "_law_part" vn ["_law_script","_law_letters"] A.Eh A.Ei
 qW:Def K mg "_law_paper" sV ["_law_letters","_law_rules_here","_law_part_here","_law_limit_here","_law_order"] A.CM A.CN
 law:Def K mg "law" OI ["_law_script"] A.Xv A.Xw
 gC:MDef K A.a8 "__init__" "Judge.__init__" nJ ["self","letters","rules","part"] A.nU A.vV
 pO:MDef K A.a8 "takes" "Judge.takes" rM ["self","row"] A.Aw A.Ax
 kh:MDef K A.a8 "takes_new" "Judge.takes_new" mz ["self","room","step","number"] A.uK A.uL
 jy:MDef K A.a8 "takes_rule" "Judge.takes_rule" lM ["self","which","path","at"] A.tf A.ti
 jz:MDef K A.a8 "takes_meet" "Judge.takes_meet" lO ["self","room","step","less","more"] A.tj A.tm
 ki:MDef K A.a8 "stands" "Judge.stands" qc ["self","room"] A.yW A.yX
 qX:MDef K A.a8 "fits" "Judge.fits" sW ["self","which","path"] A.CP A.CQ
 jd:MDef K A.a8 "knows" "Judge.knows" rN ["self","room","step","other"] A.Ay A.Az
 hJ:MDef K A.a8 "learn" "Judge.learn" rO ["self","room","step","other"] A.AB A.AF
 iF:MDef K A.a8 "put_in_place" "Judge.put_in_place" j9 ["self","less","more"] A.qM A.qN
 dQ:MDef K A.bE "__init__" "TooMany.__init__" lP ["self","made","rows"] A.tq A.tu
 gE:MDef K A.aO "__init__" "Going.__init__" nL ["self","which","word","start"] A.nV A.vW
 ml:MDef K A.aO "advance" "Going.advance" oX ["self","rooms"] A.xN A.xO
 tI:MDef K A.aO "row" "Going.row" vo ["self","rooms"] A.Ej A.Ek
 eY:MDef K A.aF "__init__" "Closing.__init__" lQ ["self","rooms","rules","part"] A.lT A.tD
 fq:MDef K A.aF "begin_rules" "Closing.begin_rules" jR ["self","room"] A.qh A.qi
 jn:MDef K A.aF "begin" "Closing.begin" oY ["self","which","word","room"] A.xP A.xQ
 iQ:MDef K A.aF "settle" "Closing.settle" nM ["self"] A.vX A.vY
 oh:MDef K A.aF "make" "Closing.make" qd ["self","room","step"] A.yZ A.y1
 mn:MDef K A.aF "go_on" "Closing.go_on" o8 ["self","number"] A.xR A.xS
 kj:MDef K A.aF "wait" "Closing.wait" qe ["self","number","room","step"] A.y3 A.y4
 pP:MDef K A.aF "lay" "Closing.lay" rP ["self","going"] A.AG A.AH
 eZ:MDef K A.aF "wake" "Closing.wake" qf ["self","room","step"] A.y6 A.y7
 oi:MDef K A.aF "hear" "Closing.hear" qg ["self"] A.y8 A.y9
 jA:MDef K A.aF "wake_all" "Closing.wake_all" lS ["self","room"] A.tE A.tF
 jS:MDef K A.cQ "gap" "Order.gap" vp ["self","rooms"] A.El A.Em
 gZ:MDef K A.bJ "gap" "ByLetters.gap" kb ["self","rooms"] A.pj A.kg
 iR:MDef K A.cF "gap" "Newest.gap" sX ["self","rooms"] A.CT A.CV
 gF:MDef K A.aB "__init__" "Rooms.__init__" nS ["self","letters"] A.nX A.vZ
 qY:MDef K A.aB "make" "Rooms.make" sY ["self","room","step"] A.CW A.CY
 tJ:MDef K A.aB "lay" "Rooms.lay" vq ["self","room","step","other","row"] A.Eo A.Ep
 iG:MDef K A.aB "by" "Rooms.by" xJ ["self","room","step"] A.He A.Hf
 hM:MDef K A.aB "elder" "Rooms.elder" rQ ["self","room"] A.AI A.AJ
 eT:MDef K A.aB "standing" "Rooms.standing" nT ["self"] A.v7 A.wc
 lC:MDef K A.aB "paper" "Rooms.paper" rS ["self"] A.AK A.AO
 fM:MDef K A.aB "first_gap" "Rooms.first_gap" mB ["self","room"] A.uM A.uN
 mI:MDef K A.aB "keep" "Rooms.keep" sZ ["self","room","step","other"] A.CZ A.C0
 mq:MDef K A.aB "take_in" "Rooms.take_in" pe ["self","way","pending"] A.xT A.xU
 fN:MDef K A.aB "put_together" "Rooms.put_together" kc ["self","room","step","one","other","pending"] A.qO A.qP
 mv:MDef K A.aB "put_off" "Rooms.put_off" pf ["self","room","pending"] A.xV A.xW
 lD:mg "enumerate"=none
 OJ:mg "min"=none
 Xx:mg "max"=none
 mX:mg "range"=none
 fO:mg "len"=none
 qj:mg "tuple"=none
 gG:mg "list"=none
 kl:mg "isinstance"=none
 adF:mg "bool"=none
 ahL:mg "int"=none
 JF:mg "dict"=none
 Hg:mg "reversed"=none
 Xy:mg "abs"=none
 Xz:mg "all"=none
 Er:mg "YardError"=some ↑A.lB
 Yf:mg "NoOrder"=some ↑A.pk
 zX:mg "TooMany"=some ↑A.bE
 Q0:mg "Order"=some ↑A.cQ
 Es:mg "ByLetters"=some ↑A.bJ
 MC:mg "Newest"=some ↑A.cF
 Q5:mg "Rooms"=some ↑A.aB
 Q6:mg "Going"=some ↑A.aO
 JG:mg "Closing"=some ↑A.aF
 Q7:mg "Judge"=some ↑A.a8
 MD:PySem.W.plainGet K A.aB Str.empty=true
 MF:PySem.W.hasDictIn K A.aB=true
 MG:PySem.W.plainOver K A.aB=true
 MH:PySem.W.findIn K ↑A.aB "__setattr__"=some (some (.builtin "object.__setattr__"))
 wg:PySem.W.makesIn K A.aB=true
 MJ:PySem.W.keepIn K ↑A.aB=true
 tK:PySem.W.findIn K ↑A.aB "letters"=some none
 qk:PySem.W.findIn K ↑A.aB "made"=some none
 tL:PySem.W.findIn K ↑A.aB "rows"=some none
 je:PySem.W.findIn K ↑A.aB "ways"=some none
 tM:PySem.W.findIn K ↑A.aB "gaps"=some none
 jB:PySem.W.findIn K ↑A.aB "elders"=some none
 oj:PySem.W.findIn K ↑A.aB "called"=some none
 tN:PySem.W.findIn K ↑A.aB "went"=some none
 MK:PySem.W.plainGet K A.aO Str.empty=true
 ML:PySem.W.hasDictIn K A.aO=true
 MN:PySem.W.plainOver K A.aO=true
 MP:PySem.W.findIn K ↑A.aO "__setattr__"=some (some (.builtin "object.__setattr__"))
 wj:PySem.W.makesIn K A.aO=true
 MQ:PySem.W.keepIn K ↑A.aO=true
 C1:PySem.W.findIn K ↑A.aO "which"=some none
 jT:PySem.W.findIn K ↑A.aO "word"=some none
 qZ:PySem.W.findIn K ↑A.aO "start"=some none
 gS:PySem.W.findIn K ↑A.aO "front"=some none
 e8:PySem.W.findIn K ↑A.aO "first"=some none
 hX:PySem.W.findIn K ↑A.aO "rear"=some none
 iS:PySem.W.findIn K ↑A.aO "last"=some none
 Hh:PySem.W.plainGet K A.aF Str.empty=true
 Hi:PySem.W.hasDictIn K A.aF=true
 Hj:PySem.W.plainOver K A.aF=true
 Hk:PySem.W.findIn K ↑A.aF "__setattr__"=some (some (.builtin "object.__setattr__"))
 q8:PySem.W.makesIn K A.aF=true
 Hl:PySem.W.keepIn K ↑A.aF=true
 fb:PySem.W.findIn K ↑A.aF "rooms"=some none
 C2:PySem.W.findIn K ↑A.aF "rules"=some none
 jU:PySem.W.findIn K ↑A.aF "goings"=some none
 lU:PySem.W.findIn K ↑A.aF "agenda"=some none
 km:PySem.W.findIn K ↑A.aF "waiting"=some none
 om:PySem.W.findIn K ↑A.aF "heard"=some none
 MR:PySem.W.plainGet K A.cQ Str.empty=true
 MS:PySem.W.hasDictIn K A.cQ=true
 MT:PySem.W.plainOver K A.cQ=true
 MV:PySem.W.findIn K ↑A.cQ "__setattr__"=some (some (.builtin "object.__setattr__"))
 MX:PySem.W.makesIn K A.cQ=true
 MY:PySem.W.keepIn K ↑A.cQ=true
 MZ:PySem.W.findIn K ↑A.cQ "__init__"=some (some (.builtin "object.__init__"))
 abW:PySem.W.findIn K ↑A.cQ "__class__"=some (some (.builtin "object.__class__"))
 abX:PySem.W.mroIn K A.cQ (.type "object")\true
 C3:PySem.W.plainGet K A.bJ Str.empty=true
 C4:PySem.W.hasDictIn K A.bJ=true
 C5:PySem.W.plainOver K A.bJ=true
 C6:PySem.W.findIn K ↑A.bJ "__setattr__"=some (some (.builtin "object.__setattr__"))
 C7:PySem.W.makesIn K A.bJ=true
 C8:PySem.W.keepIn K ↑A.bJ=true
 C9:PySem.W.findIn K ↑A.bJ "__init__"=some (some (.builtin "object.__init__"))
 Uw:PySem.W.findIn K ↑A.bJ "__class__"=some (some (.builtin "object.__class__"))
 Ux:PySem.W.mroIn K A.bJ (.type "object")\true
 JH:PySem.W.plainGet K A.cF Str.empty=true
 JK:PySem.W.hasDictIn K A.cF=true
 JL:PySem.W.plainOver K A.cF=true
 JM:PySem.W.findIn K ↑A.cF "__setattr__"=some (some (.builtin "object.__setattr__"))
 JN:PySem.W.makesIn K A.cF=true
 JP:PySem.W.keepIn K ↑A.cF=true
 JQ:PySem.W.findIn K ↑A.cF "__init__"=some (some (.builtin "object.__init__"))
 Yg:PySem.W.findIn K ↑A.cF "__class__"=some (some (.builtin "object.__class__"))
 Yh:PySem.W.mroIn K A.cF (.type "object")\true
 Yi:PySem.W.excIn K A.pk BK "ValueError.__new__"=true
 xY:L2.GR K A.bE=true
 Hm:PySem.W.keepIn K ↑A.bE=true
 Yj:PySem.W.exmOne K ↑A.bE ↑A.bE\true
 Hn:(PySem.W.clsIn K A.bE).any (λcd=>L2.nF cd.mro)=true
 Ho:PySem.W.hasDictIn K A.bE=true
 Hq:PySem.W.findIn K ↑A.bE "__setattr__"=some (some (.builtin "object.__setattr__"))
 Hr:PySem.W.findIn K ↑A.bE "__getattribute__"=some (some (.builtin "BaseException.__getattribute__"))
 Hs:PySem.W.findIn K ↑A.bE "__getattr__"=some none
 Ht:PySem.W.subIn K ↑A.bE (.type "BaseException")\true
 Q8:PySem.W.findIn K ↑A.bE "made"=some none
 Fz:PySem.W.findIn K ↑A.bE "rows"=some none
 abY:PySem.W.specialIn K ↑A.lB "__getattribute__"=some (some (.builtin "type.__getattribute__"))
 abZ:PySem.W.readsIn K A.lB (.type "type")=true
 ab1:(match PySem.W.findCls K ↑A.lB (.type "type") "__init__" with|some (.val (.builtin i))=>i=="ValueError.__init__" | _=>false)=true
 M0:PySem.W.plainGet K A.a8 Str.empty=true
 M3:PySem.W.hasDictIn K A.a8=true
 M4:PySem.W.plainOver K A.a8=true
 M5:PySem.W.findIn K ↑A.a8 "__setattr__"=some (some (.builtin "object.__setattr__"))
 wm:PySem.W.makesIn K A.a8=true
 M6:PySem.W.keepIn K ↑A.a8=true
 xZ:PySem.W.findIn K ↑A.a8 "letters"=some none
 rh:PySem.W.findIn K ↑A.a8 "words"=some none
 zY:PySem.W.findIn K ↑A.a8 "common"=some none
 uC:PySem.W.findIn K ↑A.a8 "made"=some none
 gT:PySem.W.findIn K ↑A.a8 "known"=some none
 lam:LamAt K A.kg A.abV A.eQ
def PVN(e:Lean.Term):Lean.MacroM Lean.Term:=if e.raw.isNatLit?.isSome then`(pv $e)else pure e
local macro_rules|`(#[$x,*])=>do
  if x.getElems.size=0 then Lean.Macro.throwUnsupported
  let mut r←`(ak)
  for e in x.getElems.reverse do r←`(ae $(←PVN e) $r)
  return r
local macro_rules(kind:=«term{_}»)|`({$x,*})=>do
  let a:=x.getElems
  let mut r←`(aq $(a.back!))
  for e in a.pop.reverse do r←`(ah $e $r)
  return r
local macro_rules|`($x&&&$y)=>do`(bA bR $(←PVN x) $(←PVN y) λ_ _=>rfl)
local macro_rules|`($x|||$y)=>do`(bA bO $(←PVN x) $(←PVN y) λ_ _=>rfl)
local macro_rules|`($x<<<$y)=>do
  let x←PVN x
  if y.raw.isNatLit?=some 0 then`(bQ bM rfl $(Lean.mkIdent `T.fO) akf #[$x])else`(aD $x rfl)
def aH {A:ph}(T:Txt K M A):jX K A.aB:=⟨T.MD,T.MF,T.MG,T.MH⟩
def wg {A:ph}(T:Txt K M A):Mk K A.aB A.nX:=⟨T.wg,T.gF.m.at_,T.gF.m.fn,T.MJ⟩
def aU {A:ph}(T:Txt K M A):jX K A.aO:=⟨T.MK,T.ML,T.MN,T.MP⟩
def wj {A:ph}(T:Txt K M A):Mk K A.aO A.nV:=⟨T.wj,T.gE.m.at_,T.gE.m.fn,T.MQ⟩
def aJ {A:ph}(T:Txt K M A):jX K A.aF:=⟨T.Hh,T.Hi,T.Hj,T.Hk⟩
def q8 {A:ph}(T:Txt K M A):Mk K A.aF A.lT:=⟨T.q8,T.eY.m.at_,T.eY.m.fn,T.Hl⟩
def bD {A:ph}(T:Txt K M A):jX K A.a8:=⟨T.M0,T.M3,T.M4,T.M5⟩
def wm {A:ph}(T:Txt K M A):Mk K A.a8 A.nU:=⟨T.wm,T.gC.m.at_,T.gC.m.fn,T.M6⟩
def Dc {A:ph}(T:Txt K M A):jX K A.cQ:=⟨T.MR,T.MS,T.MT,T.MV⟩
def tO {A:ph}(T:Txt K M A):jX K A.bJ:=⟨T.C3,T.C4,T.C5,T.C6⟩
def zZ {A:ph}(T:Txt K M A):jX K A.cF:=⟨T.JH,T.JK,T.JL,T.JM⟩
def pz:aL ["letters","rules","part","paper","judge","place","row"] ["letters","rules","part","paper"] (az Cz):=(by ac_rfl)
def pA:aL ["rooms","room","word","path","step"] ["rooms","room","word"] (az CB):=(by ac_rfl)
def il:aL ["rules","places","which","rule"] ["rules"] (az qb):=(by ac_rfl)
def pS:aL ["letters","steps","letter"] ["letters"] (az xC):=(by ac_rfl)
def fW:aL ["rooms","steps","found","numbers","rows","others","other"] ["rooms"] (az xD):=(by ac_rfl)
def Eu:aL ["step"] ["step"] (az xE):=(by ac_rfl)
def Ew:aL ["name"] ["name"] (az xF):=(by ac_rfl)
def pT:aL ["rooms","some","room","step"] ["rooms","some"] (az xG):=(by ac_rfl)
def Ey:aL ["letters"] ["letters"] (az xH):=(by ac_rfl)
def Uy:aL ["value"] ["value"] (az OG):=(by ac_rfl)
def mY:aL ["letters","rules","part","limit","order","chosen","rooms","closing","gap"] ["letters","rules","part","limit","order"] (az Jy):=(by ac_rfl)
def Hu:aL ["_law_script","_law_k"] ["_law_script","_law_k"] (az zW):=(by ac_rfl)
def hY:aL ["_law_number","_law_place","_law_turn","_law_part_here"] ["_law_number","_law_place"] (az xI):=(by ac_rfl)
def gH:aL ["_law_cells","_law_letters","_law_steps","_law_cell","_law_number","_law_step"] ["_law_cells","_law_letters"] (az vl):=(by ac_rfl)
def Dd:aL ["_law_word_here"] ["_law_word_here"] (az vm):=(by ac_rfl)
def eG:aL ["_law_cells","_law_words","_law_kept","_law_cell"] ["_law_cells"] (az nH):=(by ac_rfl)
def fG:aL ["_law_number","_law_cells","_law_one","_law_two","_law_both","_law_rules_here","_law_word_here"] ["_law_number","_law_cells"] (az sS):=(by ac_rfl)
def mw:aL ["_law_script","_law_number","_law_rules_here"] ["_law_script"] (az sT):=(by ac_rfl)
def AQ:aL ["_law_number"] ["_law_number"] (az sU):=(by ac_rfl)
def gI:aL ["_law_script","_law_letters","_law_number","_law_part_here","_law_k","_law_some","_law_cells"] ["_law_script","_law_letters"] (az vn):=(by ac_rfl)
def eF:aL ["_law_letters","_law_rules_here","_law_part_here","_law_limit_here","_law_order","_law_found","_law_refused","e"] ["_law_letters","_law_rules_here","_law_part_here","_law_limit_here","_law_order"] (az sV):=(by ac_rfl)
def jf:aL ["_law_script","_law_letters","_law_rules_here","_law_part_here","_law_number","_law_order","_law_handed","_law_paper_here","_law_kept","_law_place"] ["_law_script"] (az OI):=(by ac_rfl)
def uO:aL ["self","letters","rules","part"] ["self","letters","rules","part"] (az nJ):=(by ac_rfl)
def za:aL ["self","row"] ["self","row"] (az rM):=(by ac_rfl)
def tP:aL ["self","room","step","number"] ["self","room","step","number"] (az mz):=(by ac_rfl)
def ft:aL ["self","which","path","at","word","place","step"] ["self","which","path","at"] (az lM):=(by ac_rfl)
def sg:aL ["self","room","step","less","more"] ["self","room","step","less","more"] (az lO):=(by ac_rfl)
def x8:aL ["self","room"] ["self","room"] (az qc):=(by ac_rfl)
def AU:aL ["self","which","path"] ["self","which","path"] (az sW):=(by ac_rfl)
def zb:aL ["self","room","step","other"] ["self","room","step","other"] (az rN):=(by ac_rfl)
def kZ:aL ["self","room","step","other","led_to","come_from"] ["self","room","step","other"] (az rO):=(by ac_rfl)
def d0:aL ["self","less","more","gone_by","step","other"] ["self","less","more"] (az j9):=(by ac_rfl)
def sh:aL ["self","made","rows"] ["self","made","rows"] (az lP):=(by ac_rfl)
def uP:aL ["self","which","word","start"] ["self","which","word","start"] (az nL):=(by ac_rfl)
def jC:aL ["self","rooms","room"] ["self","rooms"] (az oX):=(by ac_rfl)
def oq:aL ["self","rooms","ahead","behind"] ["self","rooms"] (az vo):=(by ac_rfl)
def fu:aL ["self","rooms","rules","part","room","which","word"] ["self","rooms","rules","part"] (az lQ):=(by ac_rfl)
def fX:aL ["self","room","rule","which"] ["self","room"] (az jR):=(by ac_rfl)
def wq:aL ["self","which","word","room"] ["self","which","word","room"] (az oY):=(by ac_rfl)
def uQ:aL ["self"] ["self"] (az nM):=(by ac_rfl)
def ya:aL ["self","room","step"] ["self","room","step"] (az qd):=(by ac_rfl)
def ou:aL ["self","number","going"] ["self","number"] (az o8):=(by ac_rfl)
def ko:aL ["self","number","room","step","steps","numbers"] ["self","number","room","step"] (az qe):=(by ac_rfl)
def ql:aL ["self","going","step"] ["self","going"] (az rP):=(by ac_rfl)
def yb:aL ["self","room","step"] ["self","room","step"] (az qf):=(by ac_rfl)
def yc:aL ["self"] ["self"] (az qg):=(by ac_rfl)
def fw:aL ["self","room","step","elder"] ["self","room"] (az lS):=(by ac_rfl)
def De:aL ["self","rooms"] ["self","rooms"] (az vp):=(by ac_rfl)
def oy:aL ["self","rooms","gaps"] ["self","rooms"] (az kb):=(by ac_rfl)
def AV:aL ["self","rooms"] ["self","rooms"] (az sX):=(by ac_rfl)
def uR:aL ["self","letters"] ["self","letters"] (az nS):=(by ac_rfl)
def rT:aL ["self","room","step","number"] ["self","room","step"] (az sY):=(by ac_rfl)
def tS:aL ["self","room","step","other","row","pending"] ["self","room","step","other","row"] (az vq):=(by ac_rfl)
def Ez:aL ["self","room","step"] ["self","room","step"] (az xJ):=(by ac_rfl)
def zc:aL ["self","room"] ["self","room"] (az rQ):=(by ac_rfl)
def uS:aL ["self"] ["self"] (az nT):=(by ac_rfl)
def zf:aL ["self"] ["self"] (az rS):=(by ac_rfl)
def lV:aL ["self","room","step"] ["self","room"] (az mB):=(by ac_rfl)
def AW:aL ["self","room","step","other"] ["self","room","step","other"] (az sZ):=(by ac_rfl)
def dR:aL ["self","way","pending","room","step","other","led_to","come_from"] ["self","way","pending"] (az pe):=(by ac_rfl)
def eh:aL ["self","room","step","one","other","pending","less","more","number"] ["self","room","step","one","other","pending"] (az kc):=(by ac_rfl)
def gU:aL ["self","room","pending","ways","step","other"] ["self","room","pending"] (az pf):=(by ac_rfl)
section
variable {P:Program}{w:World}{K:Za1}{mg:Str->Zm}{base:Heap}{A:ph}
def eR {o:HO}(e:upd H a o=I)(n:H a=none):ao H I/\I a\o:=by
 subst e;rwa[ao.upd n,aj]
def yd {c:PySem.Const}{p:PySem.Pos}{a:List PySem.Expr}{env:PySem.Env}:PySem.starEach (.Constant c j p::a) env=(false,PySem.eval (.Constant c j p) env)::PySem.starEach a env:=rfl
def A9 (K:Za1)(d:Zt):Sp:=λb H Q _=>∃(a:Zt) (ns:Zh),b=[↑a]/\aI K H a (ns.map V.int)/\⇑ns<=63/\H d\(.fH #[])/\∀c,Q (.bl true) c
def bF (n:Nat):Zh:=(~~~n).map M12.st
def uD (n:Nat):⇑(bF n)=n:=by unfold bF;cbv
def ye (h:i<n):(bF n)[i]?\(M12.st i):=by
 unfold bF;rw[ajq,List.getElem?_range h];rfl
def Q9 (i:Nat):bF (2* i)++[1+ (i:Int)]++[-(1+ (i:Int))]=bF (2* (i+ 1)):=by
 let e:2* (i+ 1)=2* i+ 1+ 1:=∅
 rw[e];unfold bF;rw[ak3,ak3,ajT,ajT];let a:M12.st (2* i)=1+ (i:Int):=by unfold M12.st;rw[ajD ∅];ext
 let b:M12.st (2* i+ 1)= -(1+ (i:Int)):=by unfold M12.st;rw[ajw ∅];ext
 show _=(~~~(2* i)).map M12.st++[M12.st (2* i)]++[M12.st (2* i+ 1)];rw[a,b]
def JR (n:Nat):(bF n).Nodup:=by
 unfold bF;rwa[al0.mpr (List.Pairwise.imp ?_ List.nodup_range)];intro a b c z;let d:=M12.OD a;rw[z,M12.OD]at d;rwa[c d.symm]
def fP {rs:Zo}(h:rs[i]?\a):iZ (rs.map V.ref) (i:Int)\(V.ref a):=cj (by rw[ajq,h];rfl)
def M7:Sp:=λb H Q _=>∃L:Nat,b=[.int L]/\1<=L/\L<=200/\∀l a,ao H a->a l\.lst (au ((~~~(2* L)).map M12.st))->Q ↑l a
def Uz:Sp:=λb H Q _=>∃L:Nat,b=[.int L]/\1<=L/\L<=200/\∀d a,ao H a->H d=none->a d\.dK (gK (bF (2* L)))->Q ↑d a
inductive OL (C:Zt) (vs:Zb) (H:Hp) (Q:VK) (E_:XK):Prop
 |mk (x dx:Zt) (L:Nat):vs=[↑x,.int L]->H x\.ins C dx []->1<=L->L<=200->(∀a H',(∀b o,H b\o->b≠x->H' b\o)->ay C H' x (RS.new L (bF (2* L))) a->(∀b,a.own x b->b=x\/H b=none)->Q .non H')->OL C vs H Q E_
def cW (a:RA)(r:Zt)(H c:Hp):Prop:=∀b o,¬a.own r b->H b\o->c b\o
inductive JT (C:Zt) (vs:Zb) (H:Hp) (Q:VK) (E_:XK):Prop
 |mk (r:Zt) (S:RS) (a:RA) (c d:Nat) (z:Int):vs=[↑r,.int c,.int z,.int d]->ay C H r S a->S.Wf->c<S.q->d<S.q->(∀l∈S.ways,⇑l<=100000)->(∀H',cW a r H H'->ay C H' r (S.keep c z d) a->Q .non H')->JT C vs H Q E_
inductive JV (C:Zt) (vs:Zb) (H:Hp) (Q:VK) (E_:XK):Prop
 |mk (r:Zt) (S:RS) (a:RA) (c:Nat) (z:Int):vs=[↑r,.int c,.int z]->ay C H r S a->S.Wf->1<=S.L->S.L<=200->c<S.q->S.q<=100000->⇑S.rows<=1000000->(∀l∈S.ways,⇑l<=100000)->(∀a' H',cW a r H H'->ay C H' r (S.make c z (bF (2* S.L))) a'->(∀b,a'.own r b->a.own r b\/H b=none)->Q (.int S.q) H')->JV C vs H Q E_
inductive OO (C:Zt) (vs:Zb) (H:Hp) (Q:VK) (E_:XK):Prop
 |mk (r:Zt) (S:RS) (a:RA) (c:Nat) (z:Int):vs=[↑r,.int c,.int z]->ay C H r S a->c<⇑S.ways->(Q (((S.by c z).map λn:Nat=>V.int (n:Int)).getD .non) H)->OO C vs H Q E_
inductive FC (C:Zt) (vs:Zb) (H:Hp) (Q:VK) (E_:XK):Prop
 |mk (r:Zt) (S:RS) (a:RA) (c e:Nat):vs=[↑r,.int c]->ay C H r S a->S.aX[c]?\e->Q (.int e) H->FC C vs H Q E_
inductive yf (C:Zt) (vs:Zb) (H:Hp) (Q:VK) (E_:XK):Prop
 |mk (r:Zt) (S:RS) (a:RA):vs=[↑r]->ay C H r S a->S.Wf->S.q<=100000->(∀l,H l=none->Q ↑l (upd H l (.lst (au (nI ((~~~S.q).filter λc=>decide (S.aX[c]?\c)))))))->yf C vs H Q E_
def yg (k:Nat):Sp:=λc H Q _=>∃(v:V) (d:Dt),c=[v]/\bG H k v d/\nh d/\∀b a,ao H a->bG a k b d->Q b a
inductive FD (k:Nat) (C:Zt) (vs:Zb) (H:Hp) (Q:VK) (E_:XK):Prop
 |mk (r:Zt) (S:RS) (a:RA):vs=[↑r]->ay C H r S a->⇑S.rows<=1000000->(∀p d,d∈S.rows->bG H 4 ↑p d->bG H k ↑p d)->(∀l ps H',ao H H'->H l=none->H' l\.lst (ps.map V.ref)->Each (λp d=>bG H' 4 ↑p d) ps S.rows->Q ↑l H')->FD k C vs H Q E_
def UA:Nat->Sp
 |0=>λ_ _ _ _=>False
 |n+ 1=>yg n
def wu {dp lv:Nat}(T:Txt K mg A)(o:dv P w K mg base (cZ P w) lv A.uA A.uB ["value"] (UA dp)):dv P w K mg base (cZ P w) (lv+ 1) A.uA A.uB ["value"] (yg dp):=by
 rwa[T.own.F.okN Uy (λf H Q E h=>?_) (λb8 AA G s H f Q E I h=>?_)]
 ·let⟨v,d,rfl,_⟩:=h;rfl
 ·let⟨v,d,rfl,L,u,k⟩:=h
  erw[_,{bI (ja (bQ qA rfl T.kl ak8 #[0,ub (v:=.ty "tuple") rfl T.qj ak9 rfl]))
   {aY (cR jk rfl T.qj ak9 #[kS (fns:=[]) (ixs:=[]) (cl:=[]) rfl (wN (pv 0)) (dW [] rfl True.intro rfl) (λC s H ex=>(pc (hj:=ajp _) T.own o I #[0]))])}
   bu,bI (ja (bQ qA rfl T.kl ak8 #[0,ub (v:=.ty "list") rfl T.gG aj2 rfl]))
    zo
    bu,bI (ja (bQ qA rfl T.kl ak8 #[0,ub (v:=.ty "dict") rfl T.JF PyProof.Rows.boot_dict rfl]))
    zo
    bu,aY (pv 0)}]
  rwa[iC ?_];intro jg fe U
  let atom:(∃n,v=.int n)\/(∃l,v=.str (tx l))\/∃(a:Zt) (f:Zb) (ds:Zg) (m:Nat),dp=m+ 1/\v=↑a/\d=.t ds/\(H a\.tup f/\⇑f=⇑ds/\∀(j:Nat) (v:V) (x:Dt),f[j]?\v->ds[j]?\x->bG H m v x):=by
   cases L with
   |i=>exact .inl ⟨12⟩
   |s=>exact .inr (.inl ⟨12⟩)
   |n=>ext u
   |b=>ext u
   |t g M J=>exact .inr (.inr ⟨1111222,g,M,J⟩)
   |l=>ext u
  rcases atom with ⟨n,rfl⟩|⟨l,rfl⟩|⟨a,f,ds,m,rfl,rfl,rfl,B⟩
  ·rwa[⟨_,rfl,_,_,_,_,rfl,.int n,Ar K,_,rfl,dA ?_⟩];rwa[⟨1211112,.int n,BV K,12,dA ?_⟩];rwa[⟨1211112,.int n,BW K,12,dA ?_⟩];rwa[12,k _ H (λ_ _ e=>e) L]
  ·rwa[⟨1211112,.str (tx l),As K,12,dA ?_⟩];rwa[⟨1211112,.str (tx l),BX K,12,dA ?_⟩];rwa[⟨1211112,.str (tx l),BZ K,12,dA ?_⟩];rwa[12,k _ H (λ_ _ e=>e) L]
  ·let⟨g,M,J⟩:=B;obtain⟨hz,p⟩:⇑ds<=100000/\∀x∈ds,nh x:=by cases u with|t a b=>exact⟨a,b⟩
   rwa[⟨1211112,.tup g,Bu K "tuple",12,dX ?_⟩];erw[12,a,2,⟨_,bz.of g⟩];rwa[sH ⇑f (λi=>f.getD i .non) (λc v i=>∃x,ds[i]?\x/\nh x/\bG c m v x) (λH1 c v i s ζ=>by let⟨x,e,hn,q⟩:=ζ;rwa[⟨x,e,hn,q.same s⟩]) ?_ (λi c s2 r=>Bs (bz.of (s2^g)) i r) (λi x c Y s2 r y=>?_) (λc s2=>vI (bz.of (s2^g))) (λi c Rr r s2 Z=>?_) (λD c ys s2 X hl I=>?_)]
   ·rwa[aju ∅ (show 100000<=sizeLine by decide)]
   ·let⟨e,B⟩:=yF (bz.of (s2^g)) i x Y r y
    cbv
   ·let B:f[i]?\(f.getD i .non):=by rw[ajm,ajg r];rfl
    let z:ds[i]?\(ds[i]'∅):=ajg ∅
    rwa[⟨12112,(J i _ _ B z).same s2,p _ (ajj z),λS H' R q'=>Z S H' R ⟨_,z,p _ (ajj z),q'⟩⟩]
   ·rwa[⟨D,ys,2,.inl ⟨aI.of aj,λl F=>?_⟩⟩];let N:ao c (upd c D (.lst ys)):=ao.upd X;let O:ao (upd c D (.lst ys)) (upd (upd c D (.lst ys)) l (.tup ys)):=ao.upd F;rwa[k _ _ (s2.trans (N.trans O)) (.t aj ∅ λj v x e1 e2=>?_)];obtain⟨y,e3,-,q⟩:=I j v e1;obtain rfl:y=x:=Za0 (e3.symm.trans e2);rwa[q.same (N.trans O)]
def JX (T:Txt K mg A):dv P w K mg base (cZ P w) 2 A.uA A.uB ["value"] (yg 0):=wu (dp:=0) (lv:=1) T ⟨λ_ _ _ _ h=>h.elim,λ_ _ _ _ _ _ _ _ _ _ _ _ _ h=>h.elim⟩
def JY (T:Txt K mg A):dv P w K mg base (cZ P w) 3 A.uA A.uB ["value"] (yg 1):=wu T (JX T)
def z0 (T:Txt K mg A):dv P w K mg base (cZ P w) 4 A.uA A.uB ["value"] (yg 2):=wu T (JY T)
def vt (T:Txt K mg A):T.qQ.Ok P w base 1 M7:=by
 rwa[T.qQ.on pS (λu B f s H z Q E C h=>?_) (len:=by rintro _ _ _ _ ⟨L,rfl,_⟩;rfl)]
 ·let⟨L,rfl,t,y,k⟩:=h
  erw[_,{bP 1 pS.nd (cH ak),cX ajR rfl (HY rfl T.mX #[av,aV cY (pv 0) av] rfl rfl) (fL 2 pS.nd)
    {aT (df ajy ajB ajC bK (pv 1) #[2]),aT (df ajy ajB ajC bK (pv 1) #[fm dJ (pv 2)])},aY (pv 1)}]
  rwa[da ?_];intro x q;rwa[⟨ajU _,λl g=>?_⟩];let p:ao H (upd H l (.lst [])):=ao.upd g;let m:upd H l (.lst []) l\(.lst (au (bF (2* 0)))):=aj;change upd H l _=H0 at p m ⊢;erw[121122,(1),(L:Int)+ 1,2,⟨3333⟩];rwa[oN (lo:=1) (n:=((L:Int)+ 1 - 1).toNat) (λi j c=>∃v:Zc,j=#v[.int L,↑l,v]/\ao H c/\c l\.lst (au (bF (2* i)))) ⟨none,2,p,m⟩ ?_ ?_]
  ·rintro i j c D ⟨v,rfl,d,a⟩;let r:i<L:=∅
   erw[12,.inl ⟨21,aI.of a⟩,12,l,1122,a,5]
   ·rw[aP,uD];rwa[ajt (show 2* i<=400 by omega) ⋯]
   erw[12,.inl ⟨21,aI.of aj⟩,1212,l,1122,aj,5]
   ·rw[ajh,aP,uD];rwa[ajt (show 2* i+ 1<=400 by omega) ⋯]
   erw[12,λb o e=>?_]
   ·rw[ai (aw e g),ai (aw e g)];rwa[d^e]
   ·rw[aj,<-Q9,ints_app,ints_app];rfl
  ·rintro j c ⟨v,rfl,d,a⟩;rw[show ((L:Int)+ 1 - 1).toNat=L by ext]at a;rwa[12,k l c d a]
def vu (T:Txt K mg A):T.qS.Ok P w base 2 Uz:=by
 rwa[T.qS.on Ey (λY AA n s H vs Q E B h=>?_) (len:=by rintro _ _ _ _ ⟨L,rfl,_⟩;rfl)]
 ·let⟨L,rfl,o,G,k⟩:=h;erw[_,{aY (cR (xj rfl) rfl T.JF PyProof.Rows.boot_dict #[kS (fns:=[]) (ixs:=[]) (cl:=[]) rfl (dZ (pc T.qQ (vt T) B #[0])) (dW [] rfl True.intro rfl) (λC s H ex=>(dM #[0,fk]))])}];rwa[⟨12,L,2,o,G,λl Z s1 j=>⟨l,2,⟨_,aI.of j⟩,5⟩⟩];let hn:⇑(au ((~~~(2* L)).map M12.st))=2* L:=by rw[aP,ajk,akD]
  rwa[sH (2* L) (λi=>.int (M12.st i)) (λc v i=>∃p,v=↑p/\c p\.tup [.int (M12.st i),.bl true]) (λZ c v i s ζ=>by let⟨p,e,q⟩:=ζ;rwa[⟨p,e,s^q⟩]) ?_ (λi c s2 f=>sF (aI.of (s2^j)) i ∅) (λi x c U s2 f y=>?_) (λc s2=>?_) (λi c Rr f s2 X=>?_) (λD c ys s2 S u B=>?_)]
  ·rwa[aju (show 2* L<=400 by omega) ⋯]
  ·let⟨e,hx⟩:=pY (aI.of (s2^j)) i x U ∅ y;erw[e];rw[show (au ((~~~(2* L)).map M12.st))[i]?=some (.int (M12.st i)) from cP (ye f)]at hx
   cbv
  ·have:=m5 (aI.of (K:=K) (s2^j));rw[hn]at this;rwa[this]
  ·rwa[⟨12,(Za4 2),λt R=>X _ _ (ao.upd R) ⟨t,2,aj⟩⟩]
  ·let⟨g,rfl,F⟩:=yM (P:=λi p=>c p\.tup [.int (M12.st i),.bl true]) ys 0 (λi v hv=>[Nat.zero_add]▸B i v hv);let J:ao c (upd c D (.lst (g.map V.ref))):=ao.upd S;rw[ajk]at u;rwa[⟨D,g,gK (bF (2* L)),2,aj,by rw[Te,uD,u],λi p kv M r=>?_,λd I=>?_⟩]
   ·let f:i<2* L:=by rw[<-u];rwa[(aji.mp M).1]
    have:=F i p M;rw[Nat.zero_add]at this;unfold gK at r;rw[ajq,ye f]at r;rw[<-Za0 r];rwa[J^this]
   ·let e:iA [] (gK (bF (2* L)))=gK (bF (2* L)):=by
     rw[zF _ _ ?_,alT];rw[alT];unfold gK;rw[aj8];rwa[al0.mpr (List.Pairwise.imp (λ{a b} m z=>m (Sum.inl.inj z)) (JR _))]
    rw[e];let O:ao (upd c D (.lst (g.map V.ref))) (upd (upd c D (.lst (g.map V.ref))) d (.dK (gK (bF (2* L))))):=ao.upd I;let N:=s1.trans (s2.trans J);rwa[k d _ (N.trans O) (N.free I) aj]
def ia (T:Txt K mg A):T.iG.Ok mg P w base 1 (OO A.aB):=by
 rwa[T.iG.on Ez (λf n d s H m Q E j h=>?_)]
 ·let⟨r,S,a,c,z,rfl,h,l,k⟩:=h;let b:=ib j;erw[_,{aY (LN b ((0<<<1)|||1) (pv 2) ⟨2222⟩)}];let i:S.ways[c]?\(S.way c):=by unfold RS.way;rw[ajm,ajg l];rfl
  let⟨p,g,e⟩:=h.rW.at i;erw[12,r,_,a.dx,112,h.ins,aH T,T.je,iO^_,12,a.aW,11122,aI.of h.hW,fP g,p,2,.inl ⟨_,.inl e⟩,121,cO.k (k:=Sum.inl z) e];rw[lK];rwa[k]
def iT (T:Txt K mg A):T.hM.Ok mg P w base 1 (FC A.aB):=by
 rwa[T.hM.on zc (λd j b s H g Q E i h=>?_)]
 ·let⟨r,S,a,c,e,rfl,h,f,k⟩:=h;erw[_,{aY ((0<<<1)|||1)}];rwa[12,r,_,a.dx,112,h.ins,aH T,T.jB,jK^_,12,a.aE,11122,aI.of h.hE,cj (cP (j0 f)),k]
def qm {c:Nat}(h:c<⇑S.ways):S.ways[c]?\(S.way c):=by unfold RS.way;cbv
def yh {c:Nat}(h:c<⇑S.gaps):S.gaps[c]?\(S.gap c):=by unfold RS.gap;cbv
def Df (h:∀l∈S.ways,⇑l<=m):⇑(S.way n)<=m:=by
 unfold RS.way;rw[ajm]
 cases e:S.ways[n]? with
 |none=>exact ajU _
 |some l=>exact h l (ajj e)
def OQ (h:O.ws[i]?\b):O.own a b:=.inr (.inr (dD (ajj h)))
def XA (h:O.gs[i]?\b):O.own a b:=.inr (.inr (gA (ajj h)))
def cW.upd {o:HO}(h:O.own a b):cW O a H (upd H b o):=λc u d e=>[ai (λz=>d ([z]▸h))]▸e
def cW.trans (h:cW O a H I)(d:cW O a I J):cW O a H J:=λb u c e=>d b u c (h b u c e)
def rV (T:Txt K mg A):T.mI.Ok mg P w base 1 (JT A.aB):=by
 rwa[T.mI.on AW (λb8 AA F s H vs Q E hr h=>?_)]
 ·let⟨r,S,a,c,d,z,rfl,h,hw,hc,M,Y,k⟩:=h;let j:=ib hr
  erw[_,{kK j ((0<<<1)|||1) (pv 2) (pv 3) rfl,kK j ((0<<<1)|||3) (fm dJ (pv 2)) (pv 1) rfl,aT (vM ((0<<<1)|||1) (pv 2) dk ⟨2222⟩),aT (vM ((0<<<1)|||3) (fm dJ (pv 2)) dk ⟨2222⟩)}]
  rwa[iC ?_];intro jg fe fh;let⟨p,b,J⟩:=h.rW.at (qm (S:=S) (c:=c) ([hw.w]▸hc));let b1:⇑(S.way c)<=100000:=Df Y;erw[1212,r,_,a.dx,112,h.ins,aH T,T.je,iO^_,12,a.aW,11122,aI.of h.hW,fP b,12,p,12,m7.k (k:=Sum.inl z) J ([BP]▸ajt b1 ⋯)];rw[BQ];let n:ay A.aB _ r (S.cu c z d) a:=h.BU b (j2 (S.way c) z d);let X:cW a r H (upd H p (.dK (wK (j2 (S.way c) z d)))):=cW.upd (OQ b);change upd H p _=G at n X ⊢;let w1:(S.cu c z d).ways.length=S.q:=by show ⇑(S.ways.set c _)=_;rw[ajJ,hw.w]
  let⟨q,D,B⟩:=n.rW.at (qm (S:=S.cu c z d) (c:=d) ([w1]▸M))
  let b2:⇑((S.cu c z d).way d)<=100001:=Df λl g=>by
   rcases alp g with g|rfl
   ·rwa[Nat.le_succ_of_le (Y l g)]
   ·rwa[aju (L4^_) (by omega)]
  rwa[⟨_,rfl,_,rfl,r,_,a.dx,_,_,rfl,n.ins,aH T,T.je,iO^_,_,rfl,a.aW,_,_,_,rfl,rfl,aI.of n.hW,fP D,_,rfl,_,rfl,q,_,rfl,m7.k (k:=Sum.inl (-z)) B (by rw[BP];rwa[ajt b2 (by decide)]),?_⟩];rw[BQ];let f:ay A.aB _ r ((S.cu c z d).cu d (-z) c) a:=n.BU D (j2 ((S.cu c z d).way d) (-z) c);let O:cW a r G (upd G q (.dK (wK (j2 ((S.cu c z d).way d) (-z) c)))):=cW.upd (OQ D);change upd G q _=H2 at f O ⊢;generalize U:(S.cu c z d).cu d (-z) c=C at f ⊢;let N:⇑C.gaps=S.q:=by rw[<-U];rwa[hw.g]
  let⟨p3,o,m⟩:=f.rG.at (yh (S:=C) (c:=c) ([N]▸hc))
  let pop:∀{H:Hp} {S:RS} {c:Nat} {z:Int} {p:Zt},ay A.aB H r S a->a.gs[c]?\p->H p\.dK (gK (S.gap c))->∀{Q:V->Hp->Prop},(∀v L,cW a r H L->ay A.aB L r (S.mF c z) a->Q v L)->
   LK p (.int z) .non H Q:=by
   intro H S c z p h b J Q B
   suffices q:(∀v,bB (gK (S.gap c)) (Sum.inl z)\v->Q v (upd H p (.dK (dC (gK (S.gap c)) (Sum.inl z)))))/\(bB (gK (S.gap c)) (Sum.inl z)=none->Q .non H) from ⟨_,Sum.inl z,J,2,q.1,q.2⟩
   rw[IX,Qs];cases I:z∈S.gap c
   ·rw[ajD I];rwa[λv _=>B _ _ (cW.upd (XA b)) (h.Tj b _),λz=>by ext z]
   ·rw[ajw I];rwa[⟨λv z=>(by ext z),λ_=>B _ _ (λ_ _ _ e=>e) ?_⟩];let e:(S.gap c).filter (λx=>decide (x≠z))=S.gap c:=List.filter_eq_self.mpr λx hx=>ajF λz=>I (z ▸ hx)
    let g:c<⇑S.gaps:=by rw[<-h.rG.1];rwa[(aji.mp b).1]
    have:S.mF c z=S:=by
     unfold RS.mF RS.setG;rw[e]
     let es:S.gaps.set c (S.gap c)=S.gaps:=alb λi=>by
      cases Z:c=i
      ·subst Z;rw[ajV g,yh g]
      ·rw[ake Z]
     rw[es]
    rw[this];rwa[h]
  rwa[⟨12,r,_,a.dx,112,f.ins,aH T,T.tM,uv^_,12,a.aG,11122,aI.of f.hG,fP o,p3,2,.inl ⟨_,.inl m⟩,12,pop f o m λv H3 u3 t=>?_⟩];generalize e3:C.mF c z=S3 at t;let g3:⇑S3.gaps=S.q:=by rw[<-e3];show ⇑(C.gaps.set c _)=_;rw[ajJ,N]
  let⟨p4,y,u⟩:=t.rG.at (yh (S:=S3) (c:=d) ([g3]▸M));rwa[⟨12,r,_,a.dx,112,t.ins,aH T,T.tM,uv^_,12,a.aG,11122,aI.of t.hG,fP y,p4,2,.inl ⟨_,.inl u⟩,1212,pop t y u λv H4 u4 R=>?_⟩];rwa[k H4 (X.trans (O.trans (u3.trans u4))) ?_];rw[<-e3,<-U]at R;rwa[R]
def uT (T:Txt K mg A):T.gF.Ok mg P w base 3 (OL A.aB):=by
 rwa[T.gF.on uR (λb8 AA outer s H vs Q E hr h=>?_)]
 ·let⟨x,B,L,rfl,hx,yi,Aa,k⟩:=h
  erw[_,{bL (pv 0) (pv 1) rfl,bL (pv 0) av rfl,bL (pv 0) (cH ak) rfl,bL (pv 0) (cH #[c9]) rfl,bL (pv 0) (cH #[pc T.qS (vu T) hr #[1]]) rfl,bL (pv 0) (cH #[av]) rfl,bL (pv 0) (cH #[cH #[av]]) rfl,bL (pv 0) (cH ak) rfl}]
  rwa[B7 ?_];intro OS FE rX oz jg fe fh
  let st:∀{H0:Hp} {fs:List (Str×V)} {f:Str} {v:V},H0 x\.ins A.aB B fs->(∀b o,H b\o->b≠x->H0 b\o)->upd H0 x (.ins A.aB B (bH f v fs)) x\.ins A.aB B (bH f v fs)/\(∀b o,H b\o->b≠x->upd H0 x (.ins A.aB B (bH f v fs)) b\o)/\∀b o,b≠x->H0 b\o->upd H0 x (.ins A.aB B (bH f v fs)) b\o:=
   λ_ h=>⟨aj,λb o e n=>[ai n]▸h b o e n,λb o n e=>[ai n]▸e⟩
  erw[1212,x,_,B,12,hx,aH T,T.tK,(by show 0<1000;decide)];obtain⟨x1,o1,-⟩:=st (f:="letters") (v:=.int L) hx (λb o e _=>e);change upd H x _=H1 at x1 o1 ⊢;let f1:⇑(bH "letters" (.int L) ([]:List (Str×V)))<=1:=jM (n:=0) (ajp _);erw[12,x,_,B,12,x1,aH T,T.qk,ajt f1 ⋯];obtain⟨x2,o2,-⟩:=st (f:="made") (v:=.int 1) x1 o1;let f2:=jM (f:="made") (v:=.int 1) f1;generalize e2:bH "made" (.int 1) (bH "letters" (.int L) [])=fs2 at x2 o2 f2 ⊢;change upd H1 x _=H2 at x2 o2 ⊢;rwa[⟨ajU _,λu nR=>⟨12,x,_,B,12,ao.upd nR _ _ x2,aH T,T.tL,ajt f2 ⋯,5⟩⟩];let Yk:upd H2 u (.lst []) u\(.lst []):=aj;let C:u≠x:=(aw x2 nR).symm;let s3:=ao.upd (o:=.lst []) nR
  let n0:∀{b:Zt} {H0:Hp},(∀c o,H c\o->c≠x->H0 c\o)->H0 b=none->b≠x->H b=none:=λ{b H0} h n nx=>by
   cases e:H b with
   |none=>rfl
   |some o=>rw[h b o e nx]at n;ext n
  let kR:=n0 o2 nR C;change upd H2 u _=H3 at Yk s3 ⊢;let⟨x4,o4,k4⟩:=st (f:="rows") (v:=↑u) (s3^x2) (λb o e n=>s3^o2 b o e n);let f4:=jM (f:="rows") (v:=↑u) f2;generalize e4:bH "rows" ↑u fs2=fs4 at x4 o4 f4 k4 ⊢;let UB:=k4 _ _ C Yk;change upd H3 x _=H4 at x4 o4 UB ⊢;intro wd JZ;let l:wd≠x:=(aw x4 JZ).symm;let Yl:=n0 o4 JZ l;generalize e_:upd H4 wd _=H5;let⟨s5,ab2⟩:=eR e_ JZ;rwa[⟨(Za4 1),λG nW=>⟨12,x,_,B,12,ao.upd nW _ _ (s5^x4),aH T,T.je,ajt f4 ⋯,5⟩⟩];let U:G≠x:=(aw (s5^x4) nW).symm;let kW:=n0 (λb o e n=>s5^o4 b o e n) nW U;let nWR:G≠u:=(aw (s5^UB) nW).symm;generalize e_:upd H5 G _=H6;let⟨s6,hW6⟩:=eR e_ nW;let⟨x7,o7,k7⟩:=st (f:="ways") (v:=↑G) (s6^s5^x4) (λb o e n=>s6^s5^o4 b o e n);let f7:=jM (f:="ways") (v:=↑G) f4;generalize e7:bH "ways" ↑G fs4=fs7 at x7 o7 f7 k7 ⊢;let UC:=k7 _ _ C (s6^s5^UB);let UD:=k7 _ _ U hW6;let M8:=k7 _ _ l (s6^ab2);change upd H6 x _=H7 at x7 o7 UC UD M8 ⊢;rwa[⟨12,L,2,yi,Aa,λgd H8 s8 UE ab3=>?_⟩];let t:gd≠x:=(aw x7 UE).symm;let kgd:=n0 o7 UE t;let ngw:gd≠wd:=(aw M8 UE).symm;rwa[⟨(Za4 1),λN nG=>⟨12,x,_,B,12,ao.upd nG _ _ (s8^x7),aH T,T.tM,ajt f7 ⋯,5⟩⟩];let J0:N≠x:=(aw (s8^x7) nG).symm;let kG:=n0 (λb o e n=>s8^o7 b o e n) nG J0;let nGR:N≠u:=(aw (s8^UC) nG).symm;let nGW:N≠G:=(aw (s8^UD) nG).symm;generalize e_:upd H8 N _=H9;let⟨s9,hG9⟩:=eR e_ nG;let⟨x10,OU,Y⟩:=st (f:="gaps") (v:=↑N) (s9^s8^x7) (λb o e n=>s9^s8^o7 b o e n);let J1:=jM (f:="gaps") (v:=↑N) f7;generalize e10:bH "gaps" ↑N fs7=ab4 at x10 OU J1 Y ⊢;let M9:=Y _ _ C (s9^s8^UC);let Nb:=Y _ _ U (s9^s8^UD);let OV:=Y _ _ l (s9^s8^M8);let Nc:=Y _ _ J0 hG9;let OW:=Y _ _ t (s9^ab3);change upd H9 x _=Dg at x10 OU M9 Nb OV Nc OW ⊢;rwa[⟨4,λI nE=>⟨12,x,_,B,12,ao.upd nE _ _ x10,aH T,T.jB,ajt J1 ⋯,5⟩⟩];let OX:I≠x:=(aw x10 nE).symm;let kE:=n0 OU nE OX;let nER:I≠u:=(aw M9 nE).symm;let nEW:I≠G:=(aw Nb nE).symm;let nEG:I≠N:=(aw Nc nE).symm;generalize e_:upd Dg I _=UG;let⟨y,ab5⟩:=eR e_ nE;let⟨X,J9,F⟩:=st (f:="elders") (v:=↑I) (y^x10) (λb o e n=>y^OU b o e n);let UH:=jM (f:="elders") (v:=↑I) J1;generalize e12:bH "elders" ↑I ab4=ab6 at X J9 UH F ⊢;let R:=F _ _ C (y^M9);let J:=F _ _ U (y^Nb);let OY:=F _ _ l (y^OV);let S:=F _ _ J0 (y^Nc);let OZ:=F _ _ t (y^OW);let O:=F _ _ OX ab5;change upd UG x _=UI at X J9 R J OY S OZ O ⊢;rwa[⟨4,λcl r=>⟨(Za4 1),λM nC=>⟨12,x,_,B,12,ao.upd nC _ _ (ao.upd r _ _ X),aH T,T.oj,ajt UH ⋯,5⟩⟩⟩];let Nf:cl≠x:=(aw X r).symm;let kcl:=n0 J9 r Nf;let ncR:cl≠u:=(aw R r).symm;let ncW:cl≠G:=(aw J r).symm;let ncG:cl≠N:=(aw S r).symm;let ncE:cl≠I:=(aw O r).symm;let a:=ao.upd (o:=.lst [.int 0]) r;let z:upd UI cl (.lst [.int 0]) cl\(.lst [.int 0]):=aj;change upd UI cl _=H13 at a z nC ⊢;let UJ:M≠x:=(aw (a^X) nC).symm;let kC:=n0 (λb o e n=>a^J9 b o e n) nC UJ;let nCR:M≠u:=(aw (a^R) nC).symm;let nCW:M≠G:=(aw (a^J) nC).symm;let nCG:M≠N:=(aw (a^S) nC).symm;let nCE:M≠I:=(aw (a^O) nC).symm;let nCc:M≠cl:=(aw z nC).symm;generalize e_:upd H13 M _=H14;let⟨m,ab7⟩:=eR e_ nC;let⟨Ka,O6,q⟩:=st (f:="called") (v:=↑M) (m^a^X) (λb o e n=>m^a^J9 b o e n);let O8:=jM (f:="called") (v:=↑M) UH;generalize e15:bH "called" ↑M ab6=ab8 at Ka O6 O8 q ⊢;let Ng:=q _ _ C (m^a^R);let Nh:=q _ _ U (m^a^J);let O9:=q _ _ l (m^a^OY);let Ni:=q _ _ J0 (m^a^S);let Pa:=q _ _ t (m^a^OZ);let Nj:=q _ _ OX (m^a^O);let D:=q _ _ Nf (m^z);let Nk:=q _ _ UJ ab7;change upd H14 x _=H15 at Ka O6 Ng Nh O9 Ni Pa Nj D Nk ⊢;rwa[⟨ajU _,λZ nN=>⟨12,x,_,B,12,ao.upd nN _ _ Ka,aH T,T.tN,ajt O8 ⋯,5⟩⟩];let Ym:Z≠x:=(aw Ka nN).symm;let kN:=n0 O6 nN Ym;let nNR:Z≠u:=(aw Ng nN).symm;let nNW:Z≠G:=(aw Nh nN).symm;let nNG:Z≠N:=(aw Ni nN).symm;let nNE:Z≠I:=(aw Nj nN).symm;let nNC:Z≠M:=(aw Nk nN).symm;let nNc:Z≠cl:=(aw D nN).symm;generalize e_:upd H15 Z _=H16;let⟨g,ab9⟩:=eR e_ nN;let⟨Yn,Yo,j⟩:=st (f:="went") (v:=↑Z) (g^Ka) (λb o e n=>g^O6 b o e n)
  let ef:bH "went" ↑Z ab8=fU (L:Int) 1 ⟨B,u,G,N,I,M,Z,[],[wd],[gd],[cl]⟩:=by
   rw[<-e15,<-e12,<-e10,<-e7,<-e4,<-e2]
   kernel_rfl
  rw[ef]at Yn Yo j ⊢;rwa[k ⟨B,u,G,N,I,M,Z,[],[wd],[gd],[cl]⟩ _ Yo ⟨Yn,j _ _ C (g^Ng),j _ _ U (g^Nh),j _ _ J0 (g^Ni),j _ _ OX (g^Nj),j _ _ UJ (g^Nk),j _ _ Ym ab9,⟨2,(λi p d h=>by simp at h)⟩,555,(λd hd=>by ext hd),55⟩ ?_]
  ·rwa[Each.snoc (ps:=[]) (xs:=[]) ⟨2,λi p d h=>by simp at h⟩ (j _ _ l (g^O9))]
  ·rwa[Each.snoc (ps:=[]) (xs:=[]) ⟨2,λi p d h=>by simp at h⟩ (j _ _ t (g^Pa))]
  ·rwa[Each.snoc (ps:=[]) (xs:=[]) ⟨2,λi p d h=>by simp at h⟩ (j _ _ Nf (g^D))]
  ·show [u,G,N,I,M,Z,cl].Nodup;simp only[ajX,ajE,akc,alR,not_or,akX,and_true,alz]
   cbv
  ·show [wd,gd].Nodup;simp only[ajX,ajE,akc,alR,akX,and_true,alz];rwa[ngw.symm]
  ·intro b hb;rcases hb with rfl|hb|hb
   ·rwa[.inl rfl]
   ·simp only[RA.lists,ajE,akc,alR]at hb
    cbv
   ·simp only[RA.eM,ajr,ajE,akc,alR]at hb
    cbv
def _root_.Lake.L2.ay.Dh (h:ay a H b S O){p:Zt}(c:H p=none):¬O.own b p:=λz=>by
 let⟨o,e⟩:=h.there z
 cbv
theorem AX (T:Txt K mg A):T.qY.Ok mg P w base 3 (JV A.aB):=by
 rwa[T.qY.on rT (λb8 AA outer s H vs Q E hr h=>?_)]
 ·let⟨r,S,a,c,z,rfl,h,hw,yi,Aa,hc,hm,Ac,hz,k⟩:=h
  erw[_,{bP 3 rT.nd (0<<<1),bL (pv 0) (aV cY (pv 3) av) rfl,aT (df ajy ajB ajC bK (0<<<1) #[dM #[dP (l:=[110,101,119]) rfl,1,2,3]]),aT (df ajy ajB ajC bK (0<<<1) #[c9]),aT (df ajy ajB ajC bK (0<<<1) #[pc T.qS (vu T) hr #[0<<<1]]),aT (df ajy ajB ajC bK (0<<<1) #[3]),aT (df ajy ajB ajC bK (0<<<1) #[cH #[3]]),aT (pm (pv 0) (aH T) T.mI (rV T) hr #[1,2,3]),aY (pv 3)}]
  rwa[L5 ?_];intro Yp OS FE rX oz jg fe fh;erw[12,r,_,a.dx,112,h.ins,aH T,T.qk,uq^_];erw[12112212,r,_,a.dx,12,h.ins,aH T,T.qk,(by show 8<1000;decide)];rw[IY,show (S.q:Int)+ 1=((S.q+ 1:Nat):Int) by ext];let h1:=h.Qt (S.q+ 1);let u1:cW a r H (upd H r (.ins A.aB a.dx (fU S.L ((S.q+ 1:Nat):Int) a))):=cW.upd (.inl rfl);change upd H r _=H1 at h1 u1 ⊢;let lR:⇑(a.rs.map V.ref)<sizeLine:=by rw[ajk,h.rR.1];rwa[ajt Ac ⋯]
  rwa[⟨12,r,_,a.dx,112,h1.ins,aH T,T.tL,ur^_,.inl ⟨21,aI.of h1.hR⟩,121212,(Za4 4),λt ht=>⟨a.aR,1122,ao.upd ht _ _ h1.hR,lR,5⟩⟩];generalize e_:upd H1 t _=H2;let⟨s2,ht2⟩:=eR e_ ht
  let hd2:bG H2 4 ↑t (j7 c z S.q):=by
   rwa[.t ht2 rfl λj v d x I=>?_]
   rcases j with _|_|_|_|j
   ·simp at x I;subst x I;rwa[.s]
   ·simp at x I;subst x I;rwa[.i]
   ·simp at x I;subst x I;rwa[.i]
   ·simp at x I;subst x I;rwa[.i]
   ·simp at x
  let nl:nh (j7 c z S.q):=.t (by show 4<=100000;decide) λd hd=>by
   simp only[ajE,akc,alR]at hd;rcases hd with rfl|rfl|rfl|rfl
   ·rwa[.s]
   ·rwa[.i]
   ·rwa[.i]
   ·rwa[.i]
  let D:=(h1.same s2).BR hd2 nl;let u3:cW a r H2 (upd H2 a.aR (.lst (a.rs.map V.ref++[↑t]))):=cW.upd (.inr (.inl gk));change upd H2 a.aR _=H3 at D u3 ⊢;generalize R:({ a with rs:=a.rs++[t] }:RA)=p at D;let Y:∀b,p.own r b->a.own r b:=λb f=>by rw[<-R]at f;rwa[f]
  let ahM:∀b,a.own r b->p.own r b:=λb f=>by rw[<-R];rwa[f]
  let ewG:p.dx=a.dx:=by rw[<-R]
  let U3:cW a r H H3:=u1.trans (λb o f e=>u3 b o f (s2^e));erw[12,r,_,p.dx,112,D.ins,aH T,T.je,iO^_,.inl ⟨21,aI.of D.hW⟩];intro m y;let hdW:⇑(p.ws.map V.ref)<sizeLine:=by rw[ajk,D.rW.1];show ⇑S.ways<sizeLine;rw[hw.w];rwa[ajt hm ⋯]
  let s4:=ao.upd (o:=.dK []) y;let L:upd H3 m (.dK []) m\(.dK (wK [])):=aj;let aca:=D.Dh y;erw[p.aW,1122,s4^D.hW,hdW];change upd H3 m _=H4 at s4 L ⊢;let F:=(D.same s4).Tg L (λz=>aca (.inr (.inr z)));let u5:cW p r H4 (upd H4 p.aW (.lst (p.ws.map V.ref++[↑m]))):=cW.upd (.inr (.inl gn));change upd H4 p.aW _=H5 at F u5 ⊢;generalize ea5:({ p with ws:=p.ws++[m] }:RA)=n at F
  let ahW:∀b,n.own r b->p.own r b\/b=m:=λb f=>by
   rw[<-ea5]at f;rcases f with f|f|f
   ·rwa[.inl (.inl f)]
   ·rwa[.inl (.inr (.inl f))]
   ·simp only[RA.eM,ajr,ajn]at f;rcases f with (f|f)|f
    ·rwa[.inl (.inr (.inr (ajG _ f)))]
    ·rwa[.inr f]
    ·rwa[.inl (.inr (.inr (ajo _ f)))]
  let Yl:H m=none\/a.own r m:=by
   cases C:a.own r m
   ·rwa[.inr C]
   ·rwa[.inl ?_]
    cases e:H m with
    |none=>rfl
    |some o=>rw[U3 m o C e]at y;ext y
  let U5:cW a r H H5:=U3.trans λb o f e=>u5 b o (λz=>f (Y b z)) (s4^e)
  rwa[⟨12,r,_,n.dx,112,F.ins,aH T,T.tM,uv^_,.inl ⟨21,aI.of F.hG⟩,12,r,_,n.dx,112,F.ins,aH T,T.tK,xk^_,S.L,2,yi,Aa,λB H6 s6 N X=>?_⟩];let hdG:⇑(n.gs.map V.ref)<sizeLine:=by rw[ajk,F.rG.1];show ⇑S.gaps<sizeLine;rw[hw.g];rwa[ajt hm ⋯]
  let h6:=F.same s6;let acb:=F.Dh N;erw[n.aG,1122,h6.hG,hdG];let U:=h6.Ti X (λz=>acb (.inr (.inr z)));let u7:cW n r H6 (upd H6 n.aG (.lst (n.gs.map V.ref++[↑B]))):=cW.upd (.inr (.inl jm));change upd H6 n.aG _=H7 at U u7 ⊢;generalize ea7:({ n with gs:=n.gs++[B] }:RA)=g at U
  let ahX:∀b,g.own r b->n.own r b\/b=B:=λb f=>by
   rw[<-ea7]at f;rcases f with f|f|f
   ·rwa[.inl (.inl f)]
   ·rwa[.inl (.inr (.inl f))]
   ·simp only[RA.eM,ajr,ajn]at f;rcases f with f|f|f
    ·rwa[.inl (.inr (.inr (ajG _ f)))]
    ·rwa[.inl (.inr (.inr (ajo _ f)))]
    ·rwa[.inr f]
  let w5:H m=none\/a.own r m:=Yl
  let acd:∀b o,¬a.own r b->H b\o->¬n.own r b:=λb o f e z=>by
   cbv
  let U7:cW a r H H7:=λb o f e=>u7 b o (acd b o f e) (s6^U5 b o f e)
  let kgd:H B=none\/a.own r B:=by
   cases C:a.own r B
   ·rwa[.inr C]
   ·rwa[.inl ?_]
    cases e:H B with
    |none=>rfl
    |some o=>rw[U5 B o C e]at N;ext N
  erw[12,r,_,g.dx,112,U.ins,aH T,T.jB,jK^_,.inl ⟨21,aI.of U.hE⟩,12,g.aE,1122,U.hE,5]
  ·rw[aP,bW];show ⇑S.aX<sizeLine;rw[hw.e];rwa[ajt hm ⋯]
  let eE:au (nI S.aX)++[V.int (S.q:Int)]=au (nI (S.aX++[S.q])):=by rw[jc,ints_app];rfl
  show _;let J:=U.zG (S.aX++[S.q]);rw[<-eE]at J;let u8:cW g r H7 (upd H7 g.aE (.lst (au (nI S.aX)++[V.int (S.q:Int)]))):=cW.upd (.inr (.inl gQ));change upd H7 g.aE _=H8 at J u8 ⊢
  let G:∀b o,¬a.own r b->H b\o->¬g.own r b:=λb o f e z=>by
   cbv
  let U8:cW a r H H8:=λb o f e=>u8 b o (G b o f e) (U7 b o f e)
  rwa[⟨12,r,_,g.dx,112,J.ins,aH T,T.oj,oR^_,.inl ⟨21,aI.of J.hC⟩,12,(Za4 1),λu q=>⟨g.aC,1122,ao.upd q _ _ J.hC,55⟩⟩]
  ·rw[ajk,J.rC.1];show ⇑S.called<sizeLine;rw[hw.c];rwa[ajt hm ⋯]
  generalize e_:upd H8 u _=H9;obtain⟨s9,Z⟩:_/\_\(.lst (au (nI [S.q]))):=eR e_ q;let ace:=J.Dh q;let O:=(J.same s9).IZ Z (λz=>ace (.inr (.inl z)));let Yq:cW g r H9 (upd H9 g.aC (.lst (g.cs.map V.ref++[↑u]))):=cW.upd (.inr (.inl iP));change upd H9 g.aC _=Dg at O Yq ⊢;generalize acf:({ g with cs:=g.cs++[u] }:RA)=i at O
  let ahN:∀b,i.own r b->g.own r b\/b=u:=λb f=>by
   rw[<-acf]at f;rcases f with f|f|f
   ·rwa[.inl (.inl f)]
   ·let Ci:b∈g.lists++[u]:=f;rcases ajr.mp Ci with f|f
    ·rwa[.inl (.inr (.inl f))]
    cbv
   ·rwa[.inl (.inr (.inr f))]
  let kcl:H u=none\/a.own r u:=by
   cases C:a.own r u
   ·rwa[.inr C]
   ·rwa[.inl ?_]
    cases e:H u with
    |none=>rfl
    |some o=>rw[U8 u o C e]at q;ext q
  let M:∀b o,¬a.own r b->H b\o->¬i.own r b:=λb o f e z=>by
   cbv
  let U10:cW a r H Dg:=λb o f e=>Yq b o (G b o f e) (s9^U8 b o f e)
  let hS:ay A.aB Dg r (S.grown c z (bF (2* S.L))) i:=O;rwa[⟨12,r,i.dx,12,hS.ins,cL _ _ _ ⋯,121212,r,S.grown c z (bF (2* S.L)),i,c,S.q,z,2,hS,⟨5555⟩,555,λUG u11 h11=>?_⟩]
  ·show ⇑(S.ways++[[]])=S.q+ 1;rw[ajh,hw.w];rfl
  ·show ⇑(S.gaps++[_])=S.q+ 1;rw[ajh,hw.g];rfl
  ·show ⇑(S.aX++[_])=S.q+ 1;rw[ajh,hw.e];rfl
  ·show ⇑(S.called++[_])=S.q+ 1;rw[ajh,hw.c];rfl
  ·show c<S.q+ 1;ext
  ·show S.q<S.q+ 1;ext
  ·intro l hl;rcases ajr.mp hl with hl|hl
   ·rwa[hz l hl]
   cbv
  ·rwa[⟨_,rfl,k i UG (λb o f e=>u11 b o (M b o f e) (U10 b o f e)) h11 λb f=>?_⟩]
   cbv
def gq (T:Txt K mg A):T.eT.Ok mg P w base 1 (yf A.aB):=by
 rwa[T.eT.on uS (λo v g s H u Q E y h=>?_)]
 ·let⟨r,S,a,rfl,h,hw,q,k⟩:=h;erw[_,{aY (GO (fns:=["self"]) (ixs:=[0]) (cl:=_) rfl (lE rfl T.mX #[0<<<1]) (dW [(_,_)] rfl ⟨22222,True.intro⟩ rfl) (λC s H ex=>(bh eK (bA (BL (K:=K) rfl) (Qw (K:=K) rfl (pv 1) rfl) (pv 0) (λ_ _=>rfl)) (pv 0) (bq _))) (λC s H ex=>(pv 0)) (by intro _;rfl))}];erw[12,r,_,a.dx,112,h.ins,aH T,T.qk,uq^_,(S.q:Int),233];rw[akg];erw[λi m ys j=>m=S.q - i/\i<=S.q/\ys=au (nI ((~~~i).filter λc=>decide (S.aX[c]?\c)))/\j=H,⟨S.q,by simp,ajU _,22⟩];rintro i m ys j ⟨rfl,B,rfl,rfl⟩
  let hlen:⇑(au (nI ((~~~i).filter λc=>decide (S.aX[c]?\c))))<=i:=by
   rw[aP,bW];rwa[aju (alm _ _) (by cbv)]
  cases b:i<S.q
  ·rwa[.inr ⟨b,5,λx t f=>?_⟩]
   ·rwa[ajt (aju hlen (show i<=100000 by omega)) ⋯]
   let⟨rfl,rfl⟩:=f;let l:S.aX[i]?\(S.aX[i]'([hw.e]▸b)):=ajg _
   change S.aX[i]'(by cbv)=e at l;erw[12,r,_,a.dx,112,h.ins,aH T,T.jB,jK^_,12,a.aE,11122,aI.of h.hE,([Int.zero_add]▸cj (cP (j0 l)))];erw[12212];cases d:e=i
   ·subst d;rw[show decide (V.int (e:Int)=V.int (0+ (e:Int)))=true from ajF (by rw[Int.zero_add])];rwa[⟨12,S.q - (e+ 1),32,b,52⟩];rw[ak3,List.filter_append,amo (by cbv),List.filter_nil,jc,ints_app,Int.zero_add];rfl
   ·rw[show decide (V.int (e:Int)=V.int (0+ (i:Int)))=false from akh (λz=>d (by injection z with z;omega))];rwa[⟨S.q - (i+ 1),32,b,52⟩];rw[ak3,List.filter_append,List.filter_cons_of_neg (by cbv),List.filter_nil,ajQ]
  ·let e:i=S.q:=∅
   subst e;rwa[.inl ⟨ajp _,aju hlen (aju q ⋯),λD n=>k D n⟩]
def qo (T:Txt K mg A):T.lC.Ok mg P w base 5 (FD 2 A.aB):=by
 rwa[T.lC.on zf (λb8 AA m s H vs Q E X h=>?_)]
 ·let⟨r,S,a,rfl,h,B,u,k⟩:=h;erw[_,{aY (kS (fns:=[]) (ixs:=[]) (cl:=[]) rfl (dZ (0<<<1)) (dW [] rfl True.intro rfl) (λC s H ex=>(pc T.own (z0 T) X #[0])))}];erw[12,r,_,a.dx,112,h.ins,aH T,T.tL,ur^_,a.aR,2,⟨_,aI.of h.hR⟩];let j:⇑(a.rs.map V.ref)=⇑S.rows:=by rw[ajk,h.rR.1]
  let L:∀i,i<⇑S.rows->∃p d,a.rs[i]?\p/\S.rows[i]?\d/\d∈S.rows/\bG H 4 ↑p d:=λi f=>by
   let c:=ajg f;let⟨p,o,q⟩:=h.rR.at c;rwa[p,_,o,c,ajj c,q]
  rwa[sH ⇑S.rows (λi=>(a.rs.map V.ref).getD i .non) (λb v i=>∃p d,v=↑p/\S.rows[i]?\d/\nh d/\bG b 4 ↑p d) (λH1 b v i s q0=>by let⟨p,x,e,n,hn,q⟩:=q0;rwa[p,x,e,n,hn,q.same s]) ?_ (λi b s2 f=>sF (aI.of (s2^h.hR)) i ∅) (λi x b H3 s2 f y=>?_) (λb s2=>?_) (λi b Rr f s2 kk=>?_) (λD b ys s2 N U X=>?_)]
  ·rwa[aju B ⋯]
  ·let⟨e,F⟩:=pY (aI.of (s2^h.hR)) i x H3 ∅ y;erw[e];rw[ajm,F];rfl
  ·have:=m5 (aI.of (K:=K) (s2^h.hR));rw[j]at this;rwa[this]
  ·let⟨p,d,o,c,g,q⟩:=L i f;let F:(a.rs.map V.ref).getD i .non=↑p:=by rw[ajm,ajq,o];rfl
   let q1:=(u p d g q).same s2;rw[F];rwa[⟨12,↑p,d,2,q1,h.flat d g,λv' H' s' Z=>?_⟩]
   have:∃J,v'=↑J:=by
    let I:∃R,d=.t R:=by
     cases q with
     |t=>cbv
     |l=>exact absurd (h.flat _ g) (λz=>by ext z)
    let⟨R,rfl⟩:=I
    cases Z with
    |t=>cbv
   let⟨J,rfl⟩:=this;rwa[kk _ H' s' ⟨J,d,2,c,h.flat d g,Z.le ⋯⟩]
  ·let⟨O,rfl,G⟩:=yM (P:=λi p=>∃d,S.rows[i]?\d/\bG b 4 ↑p d) ys 0 (λi v hv=>by
    cbv)
   let M:ao b (upd b D (.lst (O.map V.ref))):=ao.upd N;rw[ajk]at U;rwa[k D O _ (s2.trans M) (s2.free N) aj ⟨U,λi p d e1 n=>?_⟩];let⟨d',Y,q⟩:=G i p e1;rw[Nat.zero_add]at Y;obtain rfl:d'=d:=Za0 (Y.symm.trans n);rwa[q.same M]
def dg (H:Hp)(p:Zt)(a:Ze):Prop:=∃b:Zo,H p\.lst (b.map V.ref)/\Each (λq (w:Way)=>H q\.tup [.int (w.1:Int),.int w.2.1,.int (w.2.2:Int)]) b a
def rj (a:RA)(r p:Zt)(H c:Hp):Prop:=∀b o,¬a.own r b->b≠p->H b\o->c b\o
def dg.keep {c:Ze}(h:dg H a c)(k:∀o,H a\o->I a\o)(f:∀b d,H b\.tup d->I b\.tup d):dg I a c:=by
 let⟨g,j,i⟩:=h;rwa[g,k _ j,i.imp λq w _ _ e=>f^e]
structure Small (S:RS):Prop where
 m:S.q<=100000
 w:∀l∈S.ways,⇑l<=100000
 r:⇑S.rows<=1000000
 n:⇑S.a9<=1000000
 c:∀l∈S.called,⇑l<=1000000
inductive Dj (C:Zt) (vs:Zb) (H:Hp) (Q:VK) (E_:XK):Prop
 |mk (r p:Zt) (S:RS) (a:RA) (c:Nat) (pend:Ze):vs=[↑r,.int c,↑p]->ay C H r S a->S.Wf->c<S.q->GC S c->(∀l∈S.ways,⇑l<=100000)->dg H p pend->¬a.own r p->⇑pend<=1000000->(∀a' H',rj a r p H H'->ay C H' r (S.p7 c pend).1 a'->dg H' p (S.p7 c pend).2->(∀b,a'.own r b->a.own r b\/H b=none)->Q .non H')->Dj C vs H Q E_
inductive FG (C:Zt) (vs:Zb) (H:Hp) (Q:VK) (E_:XK):Prop
 |mk (r p:Zt) (S:RS) (a:RA) (c x y:Nat) (z:Int) (pend:Ze):vs=[↑r,.int c,.int z,.int x,.int y,↑p]->ay C H r S a->S.Wf->x<S.q->y<S.q->x≠y->GC S (max x y)->(∀n∈S.cw (max x y),n<S.q)->Small S->dg H p pend->¬a.own r p->⇑pend<=1000000->(∀a' H',rj a r p H H'->ay C H' r (S.meet c z x y pend).1 a'->dg H' p (S.meet c z x y pend).2->(∀b,a'.own r b->a.own r b\/H b=none)->Q .non H')->FG C vs H Q E_
structure yj (S:RS):Prop where
 wf:S.Wf
 el:∀c,c<S.q->S.ax c<S.q
 bl:∀c z d,S.by c z=some d->d<S.q
 cl:∀c,∀n∈S.cw c,n<S.q
 off:∀c,c<S.q->GC S c
 sm:Small S
inductive Dl (C:Zt) (vs:Zb) (H:Hp) (Q:VK) (E_:XK):Prop
 |mk (r t p:Zt) (S:RS) (a:RA) (w:Way) (pend:Ze):vs=[↑r,↑t,↑p]->ay C H r S a->H t\.tup [.int (w.1:Int),.int w.2.1,.int (w.2.2:Int)]->yj S->w.1<S.q->w.2.2<S.q->dg H p pend->¬a.own r p->⇑pend<=1000000->(∀a' H',rj a r p H H'->ay C H' r (S.takeIn pend w).1 a'->dg H' p (S.takeIn pend w).2->(∀b,a'.own r b->a.own r b\/H b=none)->Q .non H')->Dl C vs H Q E_
inductive Pb (C:Zt) (vs:Zb) (H:Hp) (Q:VK) (E_:XK):Prop
 |mk (r q:Zt) (S:RS) (a:RA) (c d:Nat) (z:Int) (row:Dt) (I:RS->Ze->Prop) (μ:RS->Ze->Nat):vs=[↑r,.int c,.int z,.int d,↑q]->ay C H r S a->⇑S.rows<=1000000->bG H 2 ↑q row->nh row->I { S with rows:=S.rows++[row] } [(c,z,d)]->(∀S pend w,I S (pend++[w])->yj S/\w.1<S.q/\w.2.2<S.q/\⇑pend<=1000000/\I (S.takeIn pend w).1 (S.takeIn pend w).2/\μ (S.takeIn pend w).1 (S.takeIn pend w).2 < μ S (pend++[w]))->(∀S' a' H',cW a r H H'->ay C H' r S' a'->I S' []->(∀b,a'.own r b->a.own r b\/H b=none)->Q .non H')->Pb C vs H Q E_
def uE (h:i<n):sD n (i:Int)\i:=by
 unfold sD;rw[ajD ∅,ajD ∅,akg]
def Nm {l:List (Int×Nat)}(a:(l.map (·.1)).Nodup){q:Int×Nat}(h:q∈l):fE l q.1\q.2:=by
 induction l with
 |nil=>ext h
 |cons p l b=>
  unfold fE;rw[akp,ajX]at a;cases e:p.1=q.1
  ·cbv
  ·rw[alO (by simpa using e)];rcases ajE.mp h with rfl|h
   ·rwa[absurd rfl e]
   ·rwa[b a.2 h]
def wx (T:Txt K mg A):T.mv.Ok mg P w base 1 (Dj A.aB):=by
 rwa[T.mv.on gU (λb8 AA outer s H vs Q E hr h=>?_)]
 ·let⟨r,p,S,a,c,d,rfl,h,hw,hc,ok,sm,hP,np,sO,k⟩:=h;let pC:=ib hr
  erw[_,{bP 3 gU.nd ((0<<<1)|||1),sv c9 (wL (0<<<1) (pv 1) set_list),cX ajR rfl (dZ (cR (j8 rfl) rfl T.gG aj2 #[3])) (fL 4 gU.nd)
    {bP 5 gU.nd (jJ pC (pv 3) (pv 4) (λ_ _=>rfl)),bS (bI (bh mD (pv 5) (pv 1) (bq _))
     {aT (vL ((0<<<1)|||5) (fm dJ (pv 4)) ⟨2222⟩)}
     bu),aT (df ajy ajB ajC bK (pv 2) #[dM #[1,4,5]])}}]
  rwa[da ?_];intro fe fh;let X:c<⇑S.ways:=by rw[hw.w];rwa[hc]
  let⟨y,B,Yr⟩:=h.rW.at (qm X);let Ys:⇑(S.way c)<=100000:=Df sm;erw[12,r,_,a.dx,112,h.ins,aH T,T.je,iO^_,12,a.aW,11122,aI.of h.hW,fP B];intro nd C;generalize e_:upd H nd _=H1;obtain⟨s1,acg⟩:_/\_\(.dK (wK [])):=eR e_ C;let nn:=h.Dh C;let nnp:nd≠p:=λz=>by let⟨R,D,_⟩:=hP;rw[<-z,C]at D;ext D
  let h1:=h.same s1;let hi:c<⇑a.ws:=by rw[h.rW.1];rwa[X]
  erw[12,r,_,a.dx,112,h1.ins,aH T,T.je,iO^_,12,a.aW,11,c,22,h1.hW,uE ([ajk]▸hi)];let h2:=h1.Tn hi acg (λz=>nn (.inr (.inr z)));let u2:∀b o,b≠a.aW->H1 b\o->upd H1 a.aW (.lst ((a.ws.map V.ref).set c ↑nd)) b\o:=λb o v e=>by rw[ai v];rwa[e]
  change upd H1 a.aW _=H2 at h2 u2 ⊢;let npW:p≠a.aW:=λz=>np (.inr (.inl ([z]▸gn)))
  let wdW:y≠a.aW:=(h.ld gn (dD (ajj B))).symm;let u:H2 y\(.dK (wK (S.way c))):=u2 _ _ wdW (s1^Yr);generalize FH:({ a with ws:=a.ws.set c nd }:RA)=a2 at h2;let Yt:ay A.aB H2 r (cV c S d []).1 a2:=h2
  let ach:¬a2.own r y:=λz=>by
   rw[<-FH]at z;rcases z with z|z|z
   ·rwa[(h.rd (dD (ajj B))) z.symm]
   ·rwa[h.ld z (dD (ajj B)) rfl]
   ·let Yu:=aj4.mp h.ni;let z':y∈a.ws.set c nd++a.gs:=z;rcases ajr.mp z' with z|z
    ·let⟨j,U⟩:=aj9 z;cases e:c=j
     ·subst e;rw[ajV hi]at U;have:nd=y:=Za0 U;rw[this,Yr]at C;ext C
     ·rw[ake e]at U;rwa[e ((List.getElem?_inj hi Yu.1).mp (B.trans U.symm))]
    ·rwa[Yu.2.2 y (ajj B) y z rfl]
  let F:∀b,a2.own r b->a.own r b\/H b=none:=λb g=>by
   rw[<-FH]at g;rcases g with g|g|g
   ·rwa[.inl (.inl g)]
   ·rwa[.inl (.inr (.inl g))]
   ·let Ci:b∈a.ws.set c nd++a.gs:=g;rcases ajr.mp Ci with g|g
    ·rcases alp g with g|rfl
     ·rwa[.inl (.inr (.inr (ajG _ g)))]
     ·rwa[.inr C]
    ·rwa[.inl (.inr (.inr (ajo _ g)))]
  let rY:¬a2.own r p:=λz=>by
   rcases F p z with q|q
   ·rwa[np q]
   ·let⟨R,D,_⟩:=hP;rw[q]at D;ext D
  let Fq:dg H2 p (cV c S d []).2:=hP.keep (λo e=>u2 _ _ npW (s1^e)) (λb Y e=>u2 _ _ (h.tl e gn) (s1^e));let B2:rj a r p H H2:=λb o v _ e=>u2 _ _ (λz=>v (.inr (.inl ([z]▸gn)))) (s1^e)
  rwa[⟨12,y,12,u,λl nl=>?_⟩];let s3:=ao.upd (o:=.lst ((wK (S.way c)).map λM=>kV M.1)) nl;let Z:upd H2 l (.lst ((wK (S.way c)).map λM=>kV M.1)) l\(.lst ((wK (S.way c)).map λM=>kV M.1)):=aj;let Yv:=Yt.Dh nl;let Yw:l≠p:=λz=>by let⟨R,D,_⟩:=Fq;rw[<-z,nl]at D;ext D
  let nlw:l≠y:=λz=>by rw[z,u]at nl;ext nl
  let Yx:H l=none\/a.own r l:=by
   cases ho:a.own r l
   ·rwa[.inr ho]
   ·rwa[.inl ?_]
    cases e:H l with
    |none=>rfl
    |some o=>rw[B2 l o ho Yw e]at nl;ext nl
  change upd H2 l _=H3 at s3 Z ⊢;erw[l,2,⟨_,aI.of Z⟩];let hlen:⇑((wK (S.way c)).map λM=>kV M.1)=⇑(S.way c):=by rw[ajk,BP]
  rwa[g6 (xs:=(wK (S.way c)).map λM=>kV M.1) (λi σ O=>∃v4 v5,σ=#v[↑r,.int (c:Int),↑p,↑y,v4,v5]/\ay A.aB O r (cV c S d ((S.way c).take i)).1 a2/\dg O p (cV c S d ((S.way c).take i)).2/\(∀b o,¬a2.own r b->b≠p->H3 b\o->O b\o)) ⟨none,none,2,Yt.same s3,Fq.keep (λo e=>s3^e) (λb Y e=>s3^e),λb o _ _ e=>e⟩ (λi σ O _ ζ=>by let⟨_,_,_,_,_,kk⟩:=ζ;rwa[aI.of (kk _ _ Yv Yw Z)]) ?_ ?_]
  ·rintro i x σ O hx ⟨v4,v5,rfl,N,G,kk⟩;let L:i<⇑(S.way c):=by rw[<-hlen];rwa[(aji.mp hx).1]
   let hg:(S.way c)[i]?\((S.way c)[i]'L):=ajg L
   change (S.way c)[i]'L=w at hg
   let ex:x=.int w.1:=by
    unfold wK at hx;rw[ajq,ajq,hg]at hx;rwa[(Za0 hx).symm]
   subst ex;let hm:=ajj hg;let Dm:(S.way c).take (i+ 1)=(S.way c).take i++[w]:=by rw[akx,hg];rfl
   let aci:O y\(.dK (wK (S.way c))):=kk _ _ ach (λz=>by let⟨R,D,_⟩:=Fq;rw[<-z,u]at D;ext D) (s3^u);let hv:bB (wK (S.way c)) (Sum.inl w.1)\(.int (w.2:Int)):=by rw[lK,Nm ok.nd hm];rfl
   let ve:=ok.lt w hm;let TY:=(gN c S d ((S.way c).take i)).1;erw[1212,y,12,(by have:=cO.k (k:=Sum.inl w.1) aci;rw[hv]at this;rwa[this])];erw[λ gL H'=>gL=#v[↑r,.int (c:Int),↑p,↑y,.int w.1,.int (w.2:Int)]/\ay A.aB H' r (cV c S d ((S.way c).take (i+ 1))).1 a2/\dg H' p (cV c S d ((S.way c).take i)).2/\(∀b o,¬a2.own r b->b≠p->H3 b\o->H' b\o),5]
   ·rwa[⟨1212212,bX (λJ=>?_) (λJ=>?_)⟩]
    ·let f:w.2≠c:=λz=>by rw[z]at J;simp at J
     let hd2:w.2<(cV c S d ((S.way c).take i)).1.ways.length:=by rw[TY,hw.w];rwa[ve]
     let⟨pd,I,Yy⟩:=N.rW.at (qm hd2)
     let To:((cV c S d ((S.way c).take i)).1.by w.2 (-w.1)).isSome=true:=by
      rw[yN X _ (λq hq=>[hw.w]▸ok.lt q (List.mem_of_mem_take hq)),ajw]
      ·rwa[ok.bk w hm f]
      ·rintro (q|⟨q,hq,D,q2⟩)
       ·rwa[f q]
       ·let⟨j,U⟩:=aj9 hq
        let hji:j<i:=by
         have:=(aji.mp U).1;rw[ajN]at this;ext
        rw[alu hji]at U;let e1:((S.way c).map (·.1))[j]?\q.1:=by rw[ajq,U];rfl
        let e2:((S.way c).map (·.1))[i]?\w.1:=by rw[ajq,hg];rfl
        let e3:q.1=w.1:=∅
        rw[e3]at e1;have:=(List.getElem?_inj ([ajk]▸L) ok.nd).mp (e2.trans e1.symm);ext
     let⟨m,UK⟩:=akl.mp To;erw[12,r,_,a2.dx,112,N.ins,aH T,T.je,iO^_,12,a2.aW,11122,aI.of N.hW,fP I,pd,2,.inl ⟨_,.inl Yy⟩,12121,Sum.inl (-w.1),.int (m:Int),Yy,25]
     ·rw[lK];show ((cV c S d ((S.way c).take i)).1.by w.2 (-w.1)).map _=_;rw[UK];rfl
     ·rw[Qx];rwa[⟨25,G.keep (λo e=>?_) (λb Y e=>?_),λb o v n e=>?_⟩]
      ·rw[Dm,iB];unfold jN;simp only[f,amF,alz,ne_eq];rwa[N.BU I _]
      ·rw[ai (λz=>rY (.inr (.inr (dD ([z]▸ajj I)))))];rwa[e]
      ·rw[ai (N.td e (dD (ajj I)))];rwa[e]
      ·rw[ai (λz=>v (.inr (.inr (dD ([z]▸ajj I)))))];rwa[kk b o v n e]
    ·let f:w.2=c:=by
      cases e:w.2=c
      ·rwa[e]
      ·rwa[absurd (by simp;omega) J]
     rwa[⟨25,G,kk⟩];rw[Dm,iB];unfold jN;simp only[f,ne_eq,not_true_eq_false,amj];rwa[N]
   rintro gL H5 ⟨rfl,h5,hP5,kk5⟩;let⟨R,UL,Kb⟩:=hP5
   let Pg:⇑(R.map V.ref)<sizeLine:=by
    rw[ajk,Kb.1,zH,ajh,ajk,ajN];rwa[ajt (show _<=1100000 by omega) ⋯]
   rwa[⟨12,.inl ⟨21,aI.of UL⟩,121212,(Za4 3),λt nt=>?_⟩];generalize e_:upd H5 t _=H6;let⟨s6,ht6⟩:=eR e_ nt;erw[p,1122,s6^UL,Pg];let kp:∀b o,b≠p->H6 b\o->upd H6 p (.lst (R.map V.ref++[↑t])) b\o:=λb o v e=>by rw[ai v];rwa[e]
   let UM:∀b Y,H6 b\.tup Y->upd H6 p (.lst (R.map V.ref++[↑t])) b\(.tup Y):=λb Y e=>kp _ _ (bN e (s6^UL) f!"") e
   rwa[⟨112,(h5.same s6).keep (λb o g e=>kp b o (λz=>rY (z ▸ g)) e) UM,⟨R++[t],55⟩,λb o v n e=>kp b o n (s6^kk5 b o v n e)⟩]
   ·rw[aj,ajT];rfl
   ·rw[Dm,iB];rwa[(Kb.imp λq w' _ _ e=>UM^s6^e).snoc (UM^ht6)]
  ·rintro σ O ⟨v4,v5,rfl,N,G,kk⟩;rw[hlen,aky]at N G;rwa[k a2 O (λb o v n e=>?_) N G F];let e2:=B2 b o v n e;rwa[kk b o (λz=>by rcases F b z with q|q;rwa[v q];rw[q]at e;ext e) n (s3^e2)]
def yk (h:n<⇑S.called):S.called[n]?\(S.cw n):=by unfold RS.cw;cbv
def tT (h:n<⇑S.aX):S.aX[n]?\(S.ax n):=by unfold RS.ax;cbv
def Kc (h:∀l∈S.called,⇑l<=m):⇑(S.cw n)<=m:=by
 unfold RS.cw;rw[ajm]
 cases e:S.called[n]? with
 |none=>exact ajU _
 |some l=>exact h l (ajj e)
theorem wy (x:Nat):∀(l a:Zi),⇑(l.foldl (λa n=>a.set n x) a)=⇑a
 |[],_=>rfl
 |n::l,a=>by rw[List.foldl_cons,wy x l,ajJ]
def ints_set (ns:Zh)(i:Nat)(z:Int):(au ns).set i (.int z)=au (ns.set i z):=by
 unfold au;rw[List.map_set]
def jV (T:Txt K mg A):T.fN.Ok mg P w base 2 (FG A.aB):=by
 rwa[T.fN.on eh (λb8 AA outer s H vs Q E hr h=>?_)]
 ·let⟨r,p,S,a,c,x,y,z,f,rfl,h,hw,hx,hy,hxy,ok,lL,sm,hP,np,sO,k⟩:=h
  erw[_,{bP 6 eh.nd (bQ (Ig rfl) rfl T.OJ PyProof.Rows.boot_min #[3,4]),bP 7 eh.nd (bQ (Ie rfl) rfl T.Xx PyProof.Rows.boot_max #[3,4]),aT (df ajy ajB ajC bK (0<<<1) #[dM #[dP (l:=[109,101,101,116]) rfl,1,2,6,7]]),aT (df ajy ajB ajC bK (0<<<1) #[7]),cX ajR rfl (dZ ((0<<<1)|||7)) (fL 8 eh.nd)
    {sv (pv 6) (wL (0<<<1) (pv 8) set_list)},aT (df ajy PySem.F.slot_list_extend PySem.F.type_list_extend zy ((0<<<1)|||6) #[(0<<<1)|||7]),aT (pm (pv 0) (aH T) T.mv (wx T) hr #[7,5])}]
  rwa[vN ?_];intro FE rX oz jg fe fh;let C:(if (y:Int)<(x:Int) then (y:Int) else (x:Int))=((min x y:Nat):Int):=by split <;> ext
  let F:(if (y:Int) > (x:Int) then (y:Int) else (x:Int))=((max x y:Nat):Int):=by split <;> ext
  let Yz:min x y<max x y:=∅
  let I:max x y<S.q:=∅
  generalize ev:min x y=u at C Yz;let ek:∀a' O,rj a r p H O->ay A.aB O r ((S.joined c z u (max x y)).p7 (max x y) f).1 a'->dg O p ((S.joined c z u (max x y)).p7 (max x y) f).2->(∀b,a'.own r b->a.own r b\/H b=none)->Q .non O:=λa' O h1 N M g=>k a' O h1 (by unfold RS.meet;rw[ev];rwa[N]) (by unfold RS.meet;rw[ev];rwa[M]) g
  clear k;change max x y=v at F Yz I ok lL ek;erw[1212112];rw[C];erw[1212112];rw[F];let lR:⇑(a.rs.map V.ref)<sizeLine:=by rw[ajk,h.rR.1];rwa[ajt sm.r ⋯]
  rwa[⟨12,r,_,a.dx,112,h.ins,aH T,T.tL,ur^_,.inl ⟨21,aI.of h.hR⟩,12121212,(Za4 5),λt nt=>⟨a.aR,1122,ao.upd nt _ _ h.hR,lR,5⟩⟩];generalize e_:upd H t _=H1;let⟨s1,ht1⟩:=eR e_ nt
  let hd1:bG H1 4 ↑t (fF c z u v):=by
   rwa[.t ht1 rfl λj w d C F=>?_]
   rcases j with _|_|_|_|_|j
   ·simp at C F;subst C F;rwa[.s]
   ·simp at C F;subst C F;rwa[.i]
   ·simp at C F;subst C F;rwa[.i]
   ·simp at C F;subst C F;rwa[.i]
   ·simp at C F;subst C F;rwa[.i]
   ·simp at C
  let nl:nh (fF c z u v):=.t (by show 5<=100000;decide) λd hd=>by
   simp only[ajE,akc,alR]at hd;rcases hd with rfl|rfl|rfl|rfl|rfl
   ·rwa[.s]
   ·rwa[.i]
   ·rwa[.i]
   ·rwa[.i]
   ·rwa[.i]
  let N:=(h.same s1).BR hd1 nl;let B2:rj a r p H (upd H1 a.aR (.lst (a.rs.map V.ref++[↑t]))):=λb o D _ e=>by rw[ai (λz=>D (.inr (.inl ([z]▸gk))))];rwa[s1^e]
  let npl:∀{b},b∈a.lists->p≠b:=λhb z=>np (.inr (.inl ([z]▸hb)))
  let P2:dg (upd H1 a.aR (.lst (a.rs.map V.ref++[↑t]))) p f:=hP.keep (λo e=>[ai (npl gk)]▸s1^e) (λb xs e=>[ai (h.tl e gk)]▸s1^e);change upd H1 a.aR _=H2 at N B2 P2 ⊢;generalize FH:({ a with rs:=a.rs++[t] }:RA)=a2 at N;let Y:∀b,a2.own r b↔a.own r b:=λb=>by rw[<-FH];rwa[Iff.rfl]
  let rY:¬a2.own r p:=λz=>np ((Y p).mp z)
  let G:∀{b},b∈a2.lists->p≠b:=λhb z=>rY (.inr (.inl ([z]▸hb)))
  let lN:⇑(au (nI S.a9))<sizeLine:=by rw[aP,bW];rwa[ajt sm.n ⋯]
  erw[12,r,_,a2.dx,112,N.ins,aH T,T.tN,uw^_,.inl ⟨21,aI.of N.hN⟩,12,a2.aN,1122,N.hN,lN];let eN:au (nI S.a9)++[V.int (v:Int)]=au (nI (S.a9++[v])):=by rw[jc,ints_app];rfl
  let M:=N.Qu (S.a9++[v]);rw[<-eN]at M;let B3:rj a r p H (upd H2 a2.aN (.lst (au (nI S.a9)++[V.int (v:Int)]))):=λb o D B e=>by rw[ai (λz=>D ((Y b).mp (.inr (.inl ([z]▸ic)))))];rwa[B2 b o D B e]
  let P3:dg (upd H2 a2.aN (.lst (au (nI S.a9)++[V.int (v:Int)]))) p f:=P2.keep (λo e=>[ai (G ic)]▸e) (λb xs e=>[ai (N.tl e ic)]▸e);show _;change upd H2 a2.aN _=H3 at M B3 P3 ⊢;let⟨pv,J,hPV⟩:=M.rC.at (show S.called[v]?=some (S.cw v) from yk ([hw.c]▸I));let mpv:=ajj J;erw[12,r,_,a2.dx,112,M.ins,aH T,T.oj,oR^_,12,a2.aC,11122,aI.of M.hC,fP J,pv,2,⟨_,aI.of hPV⟩];obtain⟨-,-,-,-,-,nc⟩:=rH M.i3;let npE:pv≠a2.aE:=(nc pv mpv).2.2.2.1;rwa[g6 (xs:=au (nI (S.cw v))) (λi σ L=>∃v8,σ=#v[↑r,.int (c:Int),.int z,.int (x:Int),.int (y:Int),↑p,.int (u:Int),.int (v:Int),v8]/\ay A.aB L r { S with rows:=S.rows++[fF c z u v],a9:=S.a9++[v],aX:=((S.cw v).take i).foldl (λU n=>U.set n u) S.aX } a2/\rj a r p H L/\dg L p f) ⟨none,2,M,B3,P3⟩ (λi σ L _ ⟨11,g,11⟩=>aI.of (g.rC.2 v pv _ J (show S.called[v]?=some (S.cw v) from yk ([hw.c]▸I)))) ?_ ?_]
  ·rintro i w σ L hw4 ⟨v8,rfl,g,B4,P4⟩;let⟨m,rfl,Z⟩:=cC hw4;unfold nI at Z;rw[ajq]at Z
   cases hn:(S.cw v)[i]? with
   |none=>rw[hn]at Z;ext Z
   |some n=>
    rw[hn]at Z;obtain rfl:(n:Int)=m:=Za0 Z;let UN:=lL n (ajj hn);let hel:⇑(((S.cw v).take i).foldl (λU n=>U.set n u) S.aX)=S.q:=by rw[wy,hw.e]
    erw[1212,r,_,a2.dx,112,g.ins,aH T,T.jB,jK^_,12,a2.aE,11,n,22,g.hE,uE ([aP,bW,hel]▸UN)];rw[ints_set,Td];let h5:=g.zG ((((S.cw v).take i).foldl (λU n=>U.set n u) S.aX).set n u);rwa[⟨125,λb o D B e=>?_,P4.keep (λo e=>?_) (λb xs e=>?_)⟩]
    ·let Dm:(S.cw v).take (i+ 1)=(S.cw v).take i++[n]:=by rw[akx,hn];rfl
     rw[Dm,aly];rwa[h5]
    ·rw[ai (λz=>D ((Y b).mp (.inr (.inl ([z]▸gQ)))))];rwa[B4 b o D B e]
    ·rw[ai (G gQ)];rwa[e]
    ·rw[ai (g.tl e gQ)];rwa[e]
  ·rintro σ L ⟨v8,rfl,g,B4,P4⟩;rw[aP,bW,aky]at g;let FI:u<⇑S.called:=by rw[hw.c];ext
   let TR:v<⇑S.called:=by rw[hw.c];rwa[I]
   let⟨pu,X,YB⟩:=g.rC.at (show S.called[u]?=some (S.cw u) from yk FI);let acj:=g.rC.2 v pv _ J (show S.called[v]?=some (S.cw v) from yk TR);let b1:⇑(S.cw u)<=1000000:=Kc sm.c;let b2:⇑(S.cw v)<=1000000:=Kc sm.c;erw[12,r,_,a2.dx,112,g.ins,aH T,T.oj,oR^_,12,a2.aC,11122,aI.of g.hC,fP X,.inl ⟨21,aI.of YB⟩];erw[12,r,_,a2.dx,112,g.ins,aH T,T.oj,oR^_,12,a2.aC,11122,aI.of g.hC,fP J,pu,pv,1122,YB,acj,5]
   ·rw[aP,aP,bW,bW];rwa[aju (show _<=2000000 by omega) ⋯]
   let eC:au (nI (S.cw u))++au (nI (S.cw v))=au (nI (S.cw u++S.cw v)):=by rw[jc,ints_app]
   rw[eC];let h5:=g.I0 X (S.cw u++S.cw v);let R:=gy (ajj X);let B5:rj a r p H (upd L pu (.lst (au (nI (S.cw u++S.cw v))))):=λb o D B e=>by rw[ai (λz=>D ((Y b).mp (.inr (.inl ([z]▸R)))))];rwa[B4 b o D B e]
   let P5:dg (upd L pu (.lst (au (nI (S.cw u++S.cw v))))) p f:=P4.keep (λo e=>[ai (G R)]▸e) (λb xs e=>[ai (g.tl e R)]▸e);change upd L pu _=H5 at h5 B5 P5 ⊢;let YC:ay A.aB H5 r (S.joined c z u v) a2:=h5;rwa[⟨12,r,a2.dx,12,YC.ins,cL _ _ _ ⋯,1212,r,p,S.joined c z u v,a2,v,f,2,YC,⟨hw.w,hw.g,55⟩,I,⟨ok.nd,ok.lt,ok.bk⟩,sm.w,P5,rY,sO,λa' O b' r' p' o'=>ek a' O (λb o D B e=>b' b o (λz=>D ((Y b).mp z)) B (B5 b o D B e)) r' p' (λb hb=>?_)⟩]
   ·show ⇑((S.cw v).foldl (λU n=>U.set n u) S.aX)=S.q;rw[wy];rwa[hw.e]
   ·show ⇑(S.called.set u (S.cw u++S.cw v))=S.q;rw[ajJ];rwa[hw.c]
   ·rcases o' b hb with q|q
    ·rwa[.inl ((Y b).mp q)]
    ·cases ho:a.own r b
     ·rwa[.inl ho]
     ·rwa[.inr ?_]
      cases e:H b with
      |none=>rfl
      |some o=>
       cases YD:b=p
       ·let⟨qs,q1,_⟩:=P5;rw[YD,q1]at q;ext q
       ·rw[B5 b o ho YD e]at q;ext q
def wz (T:Txt K mg A):T.mq.Ok mg P w base 3 (Dl A.aB):=by
 rwa[T.mq.on dR (λb8 AA O s H vs Q E L h=>?_)]
 ·let⟨r,t,p,S,a,w,i,rfl,h,ht,ok,G,y,hP,M,x,k⟩:=h;let B:=ib L
  erw[_,{bP 3 dR.nd ((0<<<1)|||(1&&&av)),bP 4 dR.nd (1&&&av),bP 5 dR.nd ((0<<<1)|||(1&&&av)),bP 6 dR.nd (ju B ((0<<<1)|||3) (pv 4) (pv 5) ⟨2222⟩),bP 7 dR.nd (ju B ((0<<<1)|||5) (fm dJ (pv 4)) (pv 3) ⟨2222⟩),bS (bI (bh mD (pv 6) (pv 5) (bq _))
    {aT (pm (pv 0) (aH T) T.fN (jV T) L #[3,4,6,5,2])}
    {bS (bI (bh mD (pv 7) (pv 3) (bq _))
     {aT (pm (pv 0) (aH T) T.fN (jV T) L #[5,fm dJ (pv 4),7,3,2])}
     {aT (pm (pv 0) (aH T) T.mI (rV T) L #[3,4,5])})})}]
  rwa[nu ?_];intro rX oz jg fe fh;let R:bz K H t [.int (w.1:Int),.int w.2.1,.int (w.2.2:Int)]:=bz.of ht;let C:∀{c:Nat},c<S.q->S.aX[c]?\(S.ax c):=λ{c} j=>tT ([ok.wf.e]▸j)
  let j:=ok.el _ G;let u:=ok.el _ y;erw[12,r,_,a.dx,112,h.ins,aH T,T.jB,jK^_,12,t,11122,R,(rfl:iZ _ (0:Int)=_),a.aE,11122,aI.of h.hE,cj (cP (j0 (C G)))];erw[12,t,11122,R,(rfl:iZ _ (1:Int)=_)];erw[12,r,_,a.dx,112,h.ins,aH T,T.jB,jK^_,12,t,11122,R,(rfl:iZ _ (2:Int)=_),a.aE,11122,aI.of h.hE,cj (cP (j0 (C y)))];let g:=k;clear k;unfold RS.takeIn at g;change S.ax w.1=c at j g ⊢;change S.ax w.2.2=d at u g ⊢;change w.2.1=z at g ⊢;let⟨pc,X,I⟩:=h.rW.at (qm (S:=S) (c:=c) ([ok.wf.w]▸j));let⟨pd,hpd,F⟩:=h.rW.at (qm (S:=S) (c:=d) ([ok.wf.w]▸u));let gd:∀(o:Zj) (n:Nat),(o.map λr:Nat=>V.int (r:Int)).getD (.int (n:Int))=V.int ((o.getD n:Nat):Int):=λo n=>by cases o <;> rfl
  erw[12,r,_,a.dx,112,h.ins,aH T,T.je,iO^_,12,a.aW,11122,aI.of h.hW,fP X,pc,2,.inl ⟨_,.inl I⟩,12121,cO.k (k:=Sum.inl z) I];rw[lK,gd];show _;erw[12,r,_,a.dx,112,h.ins,aH T,T.je,iO^_,12,a.aW,11122,aI.of h.hW,fP hpd,pd,2,.inl ⟨_,.inl F⟩,1212121,cO.k (k:=Sum.inl (-z)) F];rw[lK,gd];let e1:fE (S.way c) z=S.by c z:=rfl;let e2:fE (S.way d) (-z)=S.by d (-z):=rfl;rw[e1,e2]
  let hl:(S.by c z).getD d<S.q:=by
   cases e:S.by c z with
   |none=>exact u
   |some m=>exact ok.bl _ _ _ e
  let hf:(S.by d (-z)).getD c<S.q:=by
   cases e:S.by d (-z) with
   |none=>exact j
   |some m=>exact ok.bl _ _ _ e
  change (S.by c z).getD d=l at hl g ⊢;change (S.by d (-z)).getD c=f at hf g ⊢
  let ne:∀{m n:Nat},m≠n->(!decide (V.int (m:Int)=V.int (n:Int)))=true:=λ{m n} q=>by
   cbv
  rwa[⟨λ_ J=>Q .non J,5,λ_ _ q=>q⟩];cases D:l≠d
  ·rw[ajD D]at g;erw[1212212];rw[ne D];rwa[dX ?_];rwa[12,r,a.dx,12,h.ins,cL _ _ _ ⋯,1212121212,r,p,S,a,c,l,d,z,i,2,h,ok.wf,hl,u,D,ok.off _ ∅,λn Z=>ok.cl _ n Z,ok.sm,hP,M,x,g]
  ·let Y:l=d:=alZ.mp D;rw[ajw D]at g;rwa[⟨1212212,qz (by rw[Y]) ?_⟩];rwa[⟨λ_ J=>Q .non J,5,λ_ _ q=>q⟩];cases v:f≠c
   ·rw[ajD v]at g;erw[1212212];rw[ne v];rwa[dX ?_];rwa[12,r,a.dx,12,h.ins,cL _ _ _ ⋯,121212121212,r,p,S,a,d,f,c,-z,i,2,h,ok.wf,hf,j,v,ok.off _ ∅,λn Z=>ok.cl _ n Z,ok.sm,hP,M,x,g]
   ·let U:f=c:=alZ.mp v;rw[ajw v]at g;rwa[⟨1212212,qz (by rw[U]) ?_⟩];rwa[⟨12,r,a.dx,12,h.ins,cL _ _ _ ⋯,121212,r,S,a,c,d,z,2,h,ok.wf,j,u,ok.sm.w,λJ N r'=>g a J (λb o nb _ e=>N b o nb e) r' (hP.keep (λo e=>N _ _ M e) (λb xs e=>N _ _ (h.ux e) e)) λb hb=>.inl hb⟩]
def Dq (T:Txt K mg A):T.tJ.Ok mg P w base 5 (Pb A.aB):=by
 rwa[T.tJ.on tS (λb8 AA outer s H vs Q E hr h=>?_)]
 ·let⟨r,q,S,a,c,d,z,row,I,μ,rfl,h,Ac,hq,v,hI,step,k⟩:=h
  erw[_,{aT (df ajy ajB ajC bK (0<<<1) #[pc T.own (z0 T) hr #[4]]),bP 5 tS.nd (cH #[dM #[1,2,3]]),bS (jt ajR (Bm (pv 5) (λ_=>rfl))
    {aT (pm (pv 0) (aH T) T.mq (wz T) hr #[Io ajy PySem.F.slot_list_pop PySem.F.type_list_pop Ip (pv 5),5])})}]
  rwa[da ?_];intro fe fh;let lR:⇑(a.rs.map V.ref)<sizeLine:=by rw[ajk,h.rR.1];rwa[ajt Ac ⋯]
  obtain⟨ds,rfl⟩:∃ds,row=.t ds:=by
   cases hq with
   |t=>cbv
   |l=>ext v
  rwa[⟨12,r,_,a.dx,112,h.ins,aH T,T.tL,ur^_,.inl ⟨21,aI.of h.hR⟩,12,↑q,.t ds,2,hq,v,λv' H1 s1 YF=>?_⟩];obtain⟨q',rfl⟩:∃q',v'=↑q':=by cases YF with|t=>cbv
  erw[a.aR,1122,s1^h.hR,lR];let h2:=(h.same s1).BR (YF.le ⋯) v;let B2:cW a r H (upd H1 a.aR (.lst (a.rs.map V.ref++[↑q']))):=λb o n e=>by rw[ai (λz=>n (.inr (.inl ([z]▸gk))))];rwa[s1^e]
  change upd H1 a.aR _=H2 at h2 B2 ⊢;generalize FH:({ a with rs:=a.rs++[q'] }:RA)=a2 at h2;let eo:∀b,a2.own r b↔a.own r b:=λb=>by rw[<-FH];rwa[Iff.rfl]
  rwa[⟨121212,(Za4 3),λt nt=>?_⟩];generalize e_:upd H2 t _=H3;let⟨s3,ht3⟩:=eR e_ nt;rwa[⟨(Za4 1),λp YG=>?_⟩];generalize e_:upd H3 p _=H4;let⟨s4,hp4⟩:=eR e_ YG;let U:¬a2.own r p:=(h2.same s3).Dh YG
  let npH:H p=none:=by
   cases e:H p with
   |none=>rfl
   |some o=>have:=s3^(B2 p o (λz=>U ((eo p).mpr z)) e);cbv
  let B4:cW a r H H4:=λb o n e=>s4^s3^B2 b o n e
  let P4:dg H4 p [(c,z,d)]:=⟨[t],hp4,Each.snoc (ps:=[]) (xs:=[]) ⟨2,λi p d h=>by simp at h⟩ (s4^ht3)⟩;rwa[⟨λ_ R=>Q .non R,5,λ_ _ q=>q⟩];erw[λm σ j=>∃B G pend,m=μ B pend/\σ=#v[↑r,.int (c:Int),.int z,.int (d:Int),↑q,↑p]/\ay A.aB j r B G/\dg j p pend/\I B pend/\¬G.own r p/\(∀b o,¬a.own r b->b≠p->H b\o->j b\o)/\∀b,G.own r b->a.own r b\/H b=none,⟨11,a2,[(c,z,d)],22,(h2.same s3).same s4,P4,hI,U,λb o n _ e=>B4 b o n e,λb F=>.inl ((eo b).mp F)⟩];rintro m σ j ⟨B,G,pend,rfl,rfl,h5,P5,I5,M,B5,O5⟩;let⟨O,y,x⟩:=id P5;erw[12,!(O.map V.ref).isEmpty,.inl ⟨_,aI.of y,2⟩];cases D:pend=[]
  ·subst D;let eq0:O=[]:=akL x.1;subst eq0;rwa[dA ?_];rwa[k B G j (λb o n e=>B5 b o n (λz=>by cbv) e) h5 I5 O5]
  ·let J:=ak6 D;change pend.getLast D=w at J;change pend.dropLast=pre at J;subst J;let L:⇑O=⇑pre+ 1:=by rw[x.1,ajh];rfl
   let Z:O≠[]:=λz=>by rw[z]at L;ext L
   let u:=ak6 Z;change O.getLast Z=C at u;change O.dropLast=f at u;subst u;let Y:⇑f=⇑pre:=by rw[ajh]at L;have:⇑([C]:Zo)=1:=rfl;ext
   let⟨ok,hw1,YH,F,hI2,Ph⟩:=step B pre w I5;let htq:j C\(.tup [.int (w.1:Int),.int w.2.1,.int (w.2.2:Int)]):=x.2 ⇑pre C w (by rw[<-Y,ajv (ajp _),ak4];rfl) (by cbv);let ht:(!((f++[C]).map V.ref).isEmpty)=true:=by simp
   rw[ht];rwa[dX ?_];erw[λ gL R=>∃X a6 g,μ X g < μ B (pre++[w])/\gL=#v[↑r,.int (c:Int),.int z,.int (d:Int),↑q,↑p]/\ay A.aB R r X a6/\dg R p g/\I X g/\¬a6.own r p/\(∀b o,¬a.own r b->b≠p->H b\o->R b\o)/\∀b,a6.own r b->a.own r b\/H b=none,λ gL R ζ=>by let⟨X,a6,g,lt,e1,e2,e3,e4,e5,e6,e7⟩:=ζ;rwa[⟨_,lt,X,a6,g,2,e1,e2,e3,e4,e5,e6,e7⟩]];erw[12,r,G.dx,12,h5.ins,cL _ _ _ ⋯,12,.inl ⟨21,aI.of y⟩,p,_,↑C,22,y,5]
   ·rw[ajT,ajh];show ((f.map V.ref)++[V.ref C])[⇑(f.map V.ref)+ 1 - 1]?=_
    rw[Nat.add_sub_cancel,ajv (ajp _),ak4];rfl
   let UO:((f++[C]).map V.ref).dropLast=f.map V.ref:=by rw[ajT];rwa[List.dropLast_concat]
   rw[UO];let kp:∀b o,b≠p->j b\o->upd j p (.lst (f.map V.ref)) b\o:=λb o n e=>by rw[ai n];rwa[e]
   let kt:∀b xs,j b\.tup xs->upd j p (.lst (f.map V.ref)) b\(.tup xs):=λb xs e=>kp b _ (bN e y (by cbv)) e
   let h6:=h5.keep (λb o F e=>kp b o (λz=>M (z ▸ F)) e) kt;let P6:dg (upd j p (.lst (f.map V.ref))) p pre:=⟨f,aj,Y,λi t' w' e1 e2=>kt^(x.2 i t' w' ([ajs (aji.mp e1).1]▸e1) ([ajs (aji.mp e2).1]▸e2))⟩;change upd j p _=H6 at kp kt h6 P6 ⊢;rwa[⟨12,r,C,p,B,G,w,pre,2,h6,kt^htq,ok,hw1,YH,P6,M,F,λa7 H7 b7 h7 P7 o7=>?_⟩];rwa[⟨_,a7,_,Ph,2,h7,P7,hI2,λz=>?_,λb o n N e=>b7 b o (λz=>?_) N (kp b o N (B5 b o n N e)),λb F=>?_⟩]
   ·rcases o7 p z with q1|q1
    ·rwa[M q1]
    ·let⟨_,q2,_⟩:=P6;cbv
   ·cbv
   ·rcases o7 b F with q1|q1
    ·rwa[O5 b q1]
    ·cases ho:a.own r b
     ·rwa[.inl ho]
     ·rwa[.inr ?_]
      cases e:H b with
      |none=>rfl
      |some o=>
       cbv
def Rb {a:Type}{ws:List a}{z:a}(h:ws[i]?\z):ws.drop i=z::ws.drop (i+ 1):=by
 let b:=(aji.mp h).1;rw[al8 b,(aji.mp h).2]
inductive Dr (C:Zt) (vs:Zb) (H:Hp) (Q:VK) (E_:XK):Prop
 |mk (r:Zt) (S:RS) (a:RA) (c:Nat) (t:Zt) (ws:Zh):vs=[↑r,.int c,↑t]->ay C H r S a->S.Wf->c<S.q->(∀c z d,S.by c z=some d->d<S.q)->H t\.tup (au ws)->⇑ws<=1000->(∀l H',ao H H'->H' l\.lst (au (nI (c::ck S.by c ws)))->Q ↑l H')->Dr C vs H Q E_
def Ad (T:Txt K mg A):T.walked.Ok P w base 2 (Dr A.aB):=by
 rwa[T.walked.on pA (λZ AA D s H vs Q E hr h=>?_)]
 ·let⟨r,S,a,c,t,ws,rfl,h,hw,hc,C,N,U,k⟩:=h
  refine⟨_,{bP 3 pA.nd (cH #[1]),cX ajR rfl (wN (pv 2)) (fL 4 pA.nd)
    {bP 1 pA.nd (pm (pv 0) (aH T) T.iG (ia T) hr #[1,4]),bI (bh wR (pv 1) dk (bq _))
     {vD}
     bu,aT (df ajy ajB ajC bK (pv 3) #[1])},aY (pv 3)},?_⟩
  rwa[da ?_];intro fe X;rwa[⟨12,(Za4 1),λl B=>?_⟩];generalize e_:upd H l _=R;obtain⟨I,v⟩:_/\_\(.lst (au (nI [c]))):=eR e_ B;let L:¬a.own r l:=h.Dh B;let u:=I^N;let F:t≠l:=aw N B;erw[12,t,2,⟨_,bz.of u⟩]
  let fin:∀{f:Hp} {pre:Zi},(∀b o,b≠l->R b\o->f b\o)->f l\.lst (au (nI (c::pre)))->ck S.by c ws=pre->Q ↑l f:=λ{f pre} g d e=>by
   subst e;rwa[k l f (λb o e=>g b o (aw e B) (I^e)) d]
  rwa[g6 (xs:=au ws) (λi y f=>∃cur:Nat,∃pre J,y=#v[↑r,.int (cur:Int),↑t,↑l,J]/\cur<S.q/\⇑pre=i/\ck S.by c ws=pre++ck S.by cur (ws.drop i)/\(∀b o,b≠l->R b\o->f b\o)/\f l\.lst (au (nI (c::pre)))) ⟨c,[],none,2,hc,22,λ_ _ _ e=>e,v⟩ (λi y f _ ζ=>by let⟨_,_,_,_,_,_,_,g,_⟩:=ζ;rwa[bz.of (g _ _ F u)]) ?_ ?_]
  ·rintro i x y f hx ⟨cur,pre,J,rfl,m,p,j,g,d⟩;let⟨z,rfl,O⟩:=cC hx;let hi:i<⇑ws:=(aji.mp O).1;let M:ay A.aB f r S a:=(h.same I).keep (λb o Y e=>g b o (λq=>L (q ▸ Y)) e) (λb xs e=>g b _ (bN e v f!"") e);rw[Rb O]at j;erw[12,r,a.dx,12,M.ins,cL _ _ _ ⋯,1212,r,S,a,cur,z,2,M,[hw.w]▸m]
   cases G:S.by cur z with
   |none=>
    rwa[⟨12212,dX ?_⟩];rw[zN G,ajQ]at j;rwa[12,fin g d j]
   |some b=>
    rw[show (Option.map (λn:Nat=>V.int (n:Int)) (some b)).getD V.non=V.int (b:Int) from rfl];rwa[⟨12212,dA ?_⟩];rw[oT G]at j;erw[12,.inl ⟨21,aI.of d⟩,12,l,1122,d,5]
    ·rw[aP,bW,ajO,p];rwa[ajt (show i+ 1<=1001 by omega) ⋯]
    erw[b,pre++[b],12,C _ _ _ G,by rw[ajh,p];rfl,by rw[j,ajZ];rfl,λx o n e=>[ai n]▸g x o n e];rw[aj,<-alI,jc,ints_app];rfl
  ·rintro y f ⟨cur,pre,J,rfl,m,p,j,g,d⟩;rw[aP,List.drop_length]at j;rwa[12,fin g d ([j]▸ajQ _)]
def iH (g:Gg)(a:Zt):List (Str×V):=[("which",.int g.which),("word",↑a),("start",.int g.start),("front",.int g.front),("first",.int g.first),("rear",.int g.bC),("last",.int g.last)]
def Nn (g:Gg)(a:Zt):(iH g a).lookup ("which":Str)\(.int g.which):=by kernel_rfl
def k8 (g:Gg)(a:Zt):(iH g a).lookup ("word":Str)\↑a:=by kernel_rfl
def wA (g:Gg)(a:Zt):(iH g a).lookup ("start":Str)\(.int g.start):=by kernel_rfl
def lg (g:Gg)(a:Zt):(iH g a).lookup ("front":Str)\(.int g.front):=by kernel_rfl
def gW (g:Gg)(a:Zt):(iH g a).lookup ("first":Str)\(.int g.first):=by kernel_rfl
def lh (g:Gg)(a:Zt):(iH g a).lookup ("rear":Str)\(.int g.bC):=by kernel_rfl
def lj (g:Gg)(a:Zt):(iH g a).lookup ("last":Str)\(.int g.last):=by kernel_rfl
def Pj {g:Gg}(h:x∉(["which","word","start","front","first","rear","last"]:Zq)):(iH g a).lookup x=none:=by
 simp only[ajE,akc,alR,not_or]at h;let⟨e,c,j,d,i,b,f⟩:=h;unfold iH;simp only[List.lookup,ajH.mpr e,ajH.mpr c,ajH.mpr j,ajH.mpr d,ajH.mpr i,ajH.mpr b,ajH.mpr f]
def Ds (g:Gg)(a:Zt)(n:Nat):bH "front" (.int n) (iH g a)=iH { g with front:=n } a:=by kernel_rfl
def Np (g:Gg)(a:Zt)(n:Nat):bH "first" (.int n) (iH g a)=iH { g with first:=n } a:=by kernel_rfl
def FJ (g:Gg)(a:Zt)(n:Nat):bH "rear" (.int n) (iH g a)=iH { g with bC:=n } a:=by kernel_rfl
def Rc (g:Gg)(a:Zt)(n:Nat):bH "last" (.int n) (iH g a)=iH { g with last:=n } a:=by kernel_rfl
structure dY (CG:Zt) (H:Hp) (p dx wa:Zt) (g:Gg):Prop where
 ins:H p\(.ins CG dx (iH g wa))
 wo:H wa\(.tup (au g.word))
def dY.same {dx:Zt}{g:Gg}(h:dY a H b dx c g)(s:ao H I):dY a I b dx c g:=⟨s^h.ins,s^h.wo⟩
def dY.set {dx:Zt}{g g':Gg}(h:dY a H b dx c g)(e:g'.word=g.word):dY a (upd H b (.ins a dx (iH g' c))) b dx c g':=⟨aj,[ai (bN h.wo h.ins (by cbv)),e]▸h.wo⟩
def i5 (a:List (Zh×Nat)):List (Zd×V):=a.map λp=>(p.1.map Sum.inl,V.int p.2)
structure zg (rs:Za3) (fp:List (Zh×Nat)):Prop where
 a:∀p∈fp,rs[p.2]?\p.1
 b:∀w∈rs,∃n,(w,n)∈fp
 n:(fp.map (·.1)).Nodup
def Du {c:List (Zh×Nat)}(w:Zh):bB (i5 c) (w.map Sum.inl)=((c.find? λp=>decide (p.1=w)).map λp=>V.int p.2):=by
 induction c with
 |nil=>rfl
 |cons p l d=>
  cases h:p.1=w
  ·rw[ams (by cbv)];rwa[cS (p:=(p.1.map Sum.inl,V.int p.2)) (by rw[h])]
  ·rw[alO (by simpa using h)];rwa[(cM (p:=(p.1.map Sum.inl,V.int p.2)) (λz=>h ?_)).trans d]
   let inj:∀{a b:Zh},a.map (Sum.inl:Int->Key)=b.map Sum.inl->a=b:=λ{a b} e=>by
    induction a generalizing b with
    |nil=>cases b with|nil=>rfl|cons=>ext e
    |cons x a d=>cases b with
     |nil=>ext e
     |cons y b=>cbv
   rwa[inj z]
def Nq:Sp:=λc H Q _=>∃(l:Zt) (rs:Za3),c=[↑l]/\bp H l rs/\⇑rs<=1000/\∀d b a,ao H a->H d=none->a d\.dT (i5 b)->zg rs b->Q ↑d a
def yl (T:Txt K mg A):T.nY.Ok P w base 1 Nq:=by
 rwa[T.nY.on il (λb8 AA outer s H vs Q E hr h=>?_) (len:=by rintro _ _ _ _ ⟨l,rs,rfl,_⟩;rfl)]
 ·let⟨l,rs,rfl,hW,hl,k⟩:=h;let pC:=ib hr
  erw[_,{bP 1 il.nd LJ,cX ajR rfl (BM rfl T.lD (pv 0)) (pW rfl (eA (fL 2 il.nd) (eA (fL 3 il.nd) mR)))
    {aT (Mb pC (pv 1) (pv 3) (pv 2) ⟨2222⟩)},aY (pv 1)}]
  rwa[da ?_];intro fe fh;let⟨G,C,B⟩:=id hW;rwa[λd S=>?_]
  generalize e_:upd H d _=H1;obtain⟨s1,q1⟩:_/\_\(.dT (i5 [])):=eR e_ S;let ndl:l≠d:=aw C S;erw[12,l,2,⟨_,aI.of (s1^C)⟩]
  refine xi (xs:=G.map V.ref) (λi U D=>∃a v2 Z,U=#v[↑l,↑d,v2,Z]/\ao H D/\D d\.dT (i5 a)/\(∀p∈a,rs[p.2]?\p.1/\p.2<i)/\(∀(j:Nat) (w:Zh),j<i->rs[j]?\w->∃n,(w,n)∈a)/\(a.map (·.1)).Nodup/\⇑a<=i)
   ⟨[],none,none,2,s1,q1,(λp c=>by ext c),λj w J=>absurd J ∅,akX,ajp _⟩ (λi U D _ ζ=>by let⟨_,_,_,_,s2,_⟩:=ζ;rwa[aI.of (s2^C)]) ?_ ?_
  ·rintro i v U D t hi nt ⟨a,v2,Z,rfl,s2,X,L,R,I,hlen⟩
   let f:i<⇑G:=by
    have:=(aji.mp hi).1;rw[ajk]at this;rwa[this]
   let r:i<⇑rs:=by rw[<-B.1];rwa[f]
   let g1:G[i]?\(G[i]'f):=ajg f
   let N:rs[i]?\(rs[i]'r):=ajg r
   rw[ajq,g1]at hi;obtain rfl:V.ref (G[i]'f)=v:=Za0 hi;change G[i]'f=q at g1;change rs[i]'r=w at N;let O:=ao.upd (o:=.tup [.int (i:Int),↑q]) nt;erw[t,12,bz.of aj,21121122];change upd D t _=H3 at O ⊢;let g:=O^X;let hq:H3 q\(.tup ((w.map (Sum.inl:Int->Key)).map kV)):=by rw[aj8];rwa[(s2.trans O) _ _ (B.2 i q w g1 N)]
   rwa[⟨12,d,2,.inr ⟨_,.inl g⟩,1212,i5 a,w.map Sum.inl,q,g,2,hq,5,λv M=>?_,λM=>?_⟩]
   ·unfold i5;rw[ajk];rwa[ajt (show ⇑a<=1000 by omega) ⋯]
   ·rw[Du]at M;let⟨p,c,rfl⟩:=akr.mp M;let e:p.1=w:=by let h9:=List.find?_some c;simpa using h9
    let hm:=List.mem_of_find?_eq_some c;rwa[⟨a,112,s2.trans O,g,λp c=>⟨(L p c).1,by have:=(L p c).2;ext⟩,λj u J F=>?_,I,3⟩];cases m:j<i
    ·rwa[R j u m F]
    ·rw[show j=i by ext,N]at F;rw[<-Za0 F,<-e];rwa[p.2,hm]
   ·rw[Du]at M
    let Y:∀p∈a,p.1≠w:=λp c e=>by
     have:=List.find?_eq_none.mp (amt.mp M) p c;rwa[this (ajF e)]
    let ep:putK (i5 a) (w.map Sum.inl) (V.int (i:Int))=i5 (a++[(w,i)]):=by
     rw[BD _ ([Du]▸M)];unfold i5;rw[ajT];rfl
    rw[ep];let UQ:H d=none:=S;rwa[⟨a++[(w,i)],112,λb o e=>[ai (aw e UQ)]▸(s2.trans O) _ _ e,aj,λp c=>?_,λj u J F=>?_,5,by rw[ajh];show _+ 1<=_;ext⟩]
    ·rcases ajr.mp c with z|z
     ·rwa[⟨(L p z).1,by have:=(L p z).2;ext⟩]
     ·rw[ajn.mp z];rwa[N,by show i<i+ 1;ext]
    ·cases m:j<i
     ·let⟨n,I⟩:=R j u m F;rwa[n,ajG _ I]
     ·rw[show j=i by ext,N]at F;rw[<-Za0 F];rwa[i,ajo _ (ajn.mpr rfl)]
    ·rw[ajT,aj4];rwa[⟨I,by simp,λx hx y hy e=>?_⟩];let hy:y=w:=ajn.mp hy;let⟨p,c,rfl⟩:=aj7.mp hx;rwa[Y p c (e.trans hy)]
  ·rintro U D ⟨a,v2,Z,rfl,s2,X,L,R,I,hlen⟩;rwa[⟨12,k d a D s2 S X ⟨λp c=>(L p c).1,λw hw=>?_,I⟩⟩];let⟨j,J⟩:=aj9 hw;rwa[R j w ([ajk,B.1]▸(aji.mp J).1) J]
def Ae (a:Nat)(word:Zh)(start:Nat):Gg:=⟨a,word,start,start,(0),start,⇑word - 1⟩
inductive Kd (CG:Zt) (vs:Zb) (H:Hp) (Q:VK) (E_:XK):Prop
 |mk (x dx wa:Zt) (which start:Nat) (word:Zh):vs=[↑x,.int which,↑wa,.int start]->H x\.ins CG dx []->H wa\.tup (au word)->1<=⇑word->⇑word<=1000->(∀H',(∀b o,H b\o->b≠x->H' b\o)->dY CG H' x dx wa (Ae which word start)->Q .non H')->Kd CG vs H Q E_
def UR (a start:Nat)(b:Zt)(l:Int):List (Str×V):=[("which",.int a)]
def UT (a start:Nat)(b:Zt)(l:Int):List (Str×V):=[("which",.int a),("word",↑b)]
def UU (a start:Nat)(b:Zt)(l:Int):List (Str×V):=[("which",.int a),("word",↑b),("start",.int start)]
def UX (a start:Nat)(b:Zt)(l:Int):List (Str×V):=[("which",.int a),("word",↑b),("start",.int start),("front",.int start)]
def UY (a start:Nat)(b:Zt)(l:Int):List (Str×V):=[("which",.int a),("word",↑b),("start",.int start),("front",.int start),("first",.int 0)]
def UZ (a start:Nat)(b:Zt)(l:Int):List (Str×V):=[("which",.int a),("word",↑b),("start",.int start),("front",.int start),("first",.int 0),("rear",.int start)]
def YJ (a start:Nat)(b:Zt)(l:Int):List (Str×V):=[("which",.int a),("word",↑b),("start",.int start),("front",.int start),("first",.int 0),("rear",.int start),("last",.int l)]
def gy2 (a start:Nat)(b:Zt)(l:Int):bH "word" ↑b (UR a start b l)=UT a start b l:=cU (by kernel_rfl)
def gy3 (a start:Nat)(b:Zt)(l:Int):bH "start" (.int start) (UT a start b l)=UU a start b l:=cU (by kernel_rfl)
def gy4 (a start:Nat)(b:Zt)(l:Int):bH "front" (.int start) (UU a start b l)=UX a start b l:=cU (by kernel_rfl)
def gy5 (a start:Nat)(b:Zt)(l:Int):bH "first" (.int 0) (UX a start b l)=UY a start b l:=cU (by kernel_rfl)
def gy6 (a start:Nat)(b:Zt)(l:Int):bH "rear" (.int start) (UY a start b l)=UZ a start b l:=cU (by kernel_rfl)
def gy7 (a start:Nat)(b:Zt)(l:Int):bH "last" (.int l) (UZ a start b l)=YJ a start b l:=cU (by kernel_rfl)
def uU (T:Txt K mg A):T.gE.Ok mg P w base 1 (Kd A.aO):=by
 rwa[T.gE.on uP (λU AA m s H vs Q E hr h=>?_)]
 ·let⟨x,c,d,a,start,word,rfl,r,f,Pk,O,k⟩:=h
  refine⟨_,{bL (pv 0) (pv 1) rfl,bL (pv 0) (pv 2) rfl,bL (pv 0) (pv 3) rfl,bL (pv 0) (pv 3) rfl,bL (pv 0) av rfl,bL (pv 0) (pv 3) rfl,bL (pv 0) (aV mZ (2<<<0) av) rfl},?_⟩
  rwa[vN ?_];intro S rX Y X fe L;let st:∀{H0:Hp} {fs gs:List (Str×V)},H0 x\.ins A.aO c fs->(∀b o,H b\o->b≠x->H0 b\o)->upd H0 x (.ins A.aO c gs) x\.ins A.aO c gs/\∀b o,H b\o->b≠x->upd H0 x (.ins A.aO c gs) b\o:=λ_ h=>⟨aj,λb o e n=>[ai n]▸h b o e n⟩
  let g:d≠x:=bN f r f!"";let o0:∀b o,H b\o->b≠x->H b\o:=λb o e _=>e
  erw[1212,x,_,c,12,r,aU T,T.C1,(by show 0<1000;decide)];rw[show bH "which" (.int a) []=UR a start d (((⇑word - 1:Nat):Int)) from rfl];let⟨v,D⟩:=st (gs:=UR a start d (((⇑word - 1:Nat):Int))) r o0;change upd H x _=Z at v D ⊢;erw[1212,x,_,c,12,v,aU T,T.jT,(by show 1<1000;decide)];rw[gy2];let⟨q,C⟩:=st (gs:=UT a start d (((⇑word - 1:Nat):Int))) v D;change upd Z x _=H2 at q C ⊢;erw[1212,x,_,c,12,q,aU T,T.qZ,(by show 2<1000;decide)];rw[gy3];let⟨l,F⟩:=st (gs:=UU a start d (((⇑word - 1:Nat):Int))) q C;change upd H2 x _=M at l F ⊢;erw[1212,x,_,c,12,l,aU T,T.gS,(by show 3<1000;decide)];rw[gy4];let⟨j,G⟩:=st (gs:=UX a start d (((⇑word - 1:Nat):Int))) l F;change upd M x _=R at j G ⊢;erw[12,x,_,c,12,j,aU T,T.e8,(by show 4<1000;decide)];rw[gy5];let⟨t,B⟩:=st (gs:=UY a start d (((⇑word - 1:Nat):Int))) j G;change upd R x _=N at t B ⊢;erw[1212,x,_,c,12,t,aU T,T.hX,(by show 5<1000;decide)];rw[gy6];let⟨u,i⟩:=st (gs:=UZ a start d (((⇑word - 1:Nat):Int))) t B;change upd N x _=I at u i ⊢;erw[12,d,12,.inr (bz.of (i _ _ f g)),112212,x,_,c,12,u,aU T,T.iS,(by show 6<1000;decide)];rw[show V.int ((⇑(au word):Int) - 1)=V.int (((⇑word - 1:Nat):Int)) by show V.int ((⇑(au word):Int) - 1)=_;rw[aP];congr 1;ext];rw[gy7];let⟨y,p⟩:=st (gs:=YJ a start d (((⇑word - 1:Nat):Int))) u i;change upd I x _=J at y p ⊢;rwa[k J p ⟨y,p _ _ f g⟩]
structure tU (S:RS) (g g':Gg):Prop where
 wh:g'.which=g.which
 wo:g'.word=g.word
 st:g'.start=g.start
 gi:GI S g'
 ef:S.ax g'.front=g'.front
 er:S.ax g'.bC=g'.bC
 k1:S.ax g.front=g.front->S.by g.front g.z1=none->g'.front=g.front/\g'.first=g.first
 k2:S.ax g.bC=g.bC->S.by g.bC g.z2=none->g'.bC=g.bC/\g'.last=g.last
def tU.fwd {g g1:Gg}(h:tU S g g1)(i:Good S [] R)(a:g1.first<g1.last){c:Nat}(hc:S.by g1.front g1.z1=some c):tU S g { g1 with front:=c,first:=g1.first+ 1 }:=by
 let⟨_,b,_,e⟩:=i.st _ _ _ hc;let ll:=h.gi.ll;let hz:=Gg.rJ (g:=g1) ∅;rwa[⟨h.wh,h.wo,h.st,⟨a,ll,h.gi.s,b,h.gi.r,5,h.gi.wr⟩,e,h.er,λf d=>?_,h.k2⟩]
 ·have:=h.gi.wf;rw[h.ef]at this;show wk S.by _ (g1.word.take (g1.first+ 1))=some (S.ax c);rw[take_snoc hz,xm this,Tv hc,e]
 ·let⟨j,k⟩:=h.k1 f d;unfold Gg.z1 at hc d;rw[j,k,h.wo,d]at hc;ext hc
def tU.bwd {g g1:Gg}(h:tU S g g1)(d:Good S [] R)(f:g1.first<g1.last){c:Nat}(hc:S.by g1.bC g1.z2=some c):tU S g { g1 with bC:=c,last:=g1.last - 1 }:=by
 let⟨_,a,_,e⟩:=d.st _ _ _ hc;let ll:=h.gi.ll;let hz:=Gg.at2 (g:=g1) ll;rwa[⟨h.wh,h.wo,h.st,⟨by show g1.first<=g1.last - 1;ext,by show g1.last - 1<⇑g1.word;ext,h.gi.s,h.gi.f,a,h.gi.wf,5⟩,h.ef,e,h.k1,λi b=>?_⟩]
 ·have:=h.gi.wr;rw[h.er]at this;show wk S.by (S.ax c) (g1.word.drop (g1.last - 1+ 1))=some (S.ax g1.start);rw[show g1.last - 1+ 1=g1.last by ext,drop_cons hz,e,kO (d.sy _ _ _ hc)];ext
 ·let⟨j,k⟩:=h.k2 i b;unfold Gg.z2 at hc b;rw[j,k,h.wo,b]at hc;ext hc
inductive Pl (CR CG:Zt) (vs:Zb) (H:Hp) (Q:VK) (E_:XK):Prop
 |mk (p dx wa r:Zt) (g:Gg) (S:RS) (a:RA) (R:Za2):vs=[↑p,↑r]->dY CG H p dx wa g->ay CR H r S a->Good S [] R->GI S g->¬a.own r p->⇑g.word<=1000->(∀g' H',(∀b o,b≠p->H b\o->H' b\o)->dY CG H' p dx wa g'->X4 S g g'->Q .non H')->Pl CR CG vs H Q E_
def wB (T:Txt K mg A):T.ml.Ok mg P w base 2 (Pl A.aB A.aO):=by
 rwa[T.ml.on jC (λb8 AA outer s H vs Q E X h=>?_)]
 ·let⟨p,d,y,r,g,S,a,R,rfl,O,hR,C,x,Y,G,k⟩:=h
  refine⟨_,{bL (pv 0) (pm (pv 1) (aH T) T.hM (iT T) X #[0<<<1]) rfl,bL (pv 0) (pm (pv 1) (aH T) T.hM (iT T) X #[0<<<1]) rfl,bS (jt ajR (bh mE (0<<<1) (0<<<1) (bq _))
    {bP 2 jC.nd (pm (pv 1) (aH T) T.iG (ia T) X #[0<<<1,(0<<<1)&&&(0<<<1)]),bI (bh wR (pv 2) dk (bq _))
     {vD}
     bu,bL (pv 0) (pv 2) rfl,bL (pv 0) (aV cY (0<<<1) av) rfl}),bS (jt ajR (bh mE (0<<<1) (0<<<1) (bq _))
    {bP 2 jC.nd (pm (pv 1) (aH T) T.iG (ia T) X #[0<<<1,fm dJ ((0<<<1)&&&(0<<<1))]),bI (bh wR (pv 2) dk (bq _))
     {vD}
     bu,bL (pv 0) (pv 2) rfl,bL (pv 0) (aV mZ (0<<<1) av) rfl})},?_⟩
  rwa[iC ?_];intro jg fe fh;let eo:∀{c:Nat},c<S.q->S.aX[c]?\(S.ax c):=λ{c} hc=>tT ([C.wf.e]▸hc)
  let kp:∀{F:Hp},(∀b o,b≠p->H b\o->F b\o)->ay A.aB F r S a:=λ{F} f=>hR.keep (λb o hb e=>f b o (λz=>Y (z ▸ hb)) e) (λb xs e=>f b _ (bN e O.ins f!"") e)
  let up:∀{F:Hp} {o2:HO},(∀b o,b≠p->H b\o->F b\o)->∀b o,b≠p->H b\o->upd F p o2 b\o:=λf b o n e=>by rw[ai n];rwa[f b o n e]
  erw[12,r,a.dx,12,hR.ins,cL _ _ _ ⋯,12,p,_,d,112,O.ins,aU T,T.gS,lg _ _,r,S,a,g.front,S.ax g.front,2,hR,eo x.f,12,p,_,d,12,O.ins,aU T,T.gS,(by show 7<1000;decide)];rw[Ds];let U:=O.set (g':={ g with front:=S.ax g.front }) rfl;let Z:=up (o2:=.ins A.aO d (iH { g with front:=S.ax g.front } y)) (λb o _ e=>e);change upd H p _=H1 at U Z ⊢;let R1:=kp Z;erw[12,r,a.dx,12,R1.ins,cL _ _ _ ⋯,12,p,_,d,112,U.ins,aU T,T.hX,lh _ _,r,S,a,g.bC,S.ax g.bC,2,R1,eo x.r,12,p,_,d,12,U.ins,aU T,T.hX,(by show 7<1000;decide)];rw[FJ];let p2:=U.set (g':={ g with front:=S.ax g.front,bC:=S.ax g.bC }) rfl;let f2:=up (o2:=.ins A.aO d (iH { g with front:=S.ax g.front,bC:=S.ax g.bC } y)) Z;change upd H1 p _=F at p2 f2 ⊢;let e1:=(C.el _ x.f).2;let e2:=(C.el _ x.r).2;let D:tU S g { g with front:=S.ax g.front,bC:=S.ax g.bC }:=⟨222,⟨x.fl,x.ll,x.s,C.lt x.f,C.lt x.r,by show wk _ _ _\S.ax (S.ax g.front);rw[e1];rwa[x.wf],by show wk _ (S.ax (S.ax g.bC)) _=_;rw[e2];rwa[x.wr]⟩,e1,e2,λe _=>⟨e,2⟩,λe _=>⟨e,2⟩⟩;erw[λ v j=>∃g1 t,v=#v[↑p,↑r,t]/\(∀b o,b≠p->H b\o->j b\o)/\dY A.aO j p d y g1/\tU S g g1/\(g1.first<g1.last->S.by g1.front g1.z1=none),5]
  ·erw[λm J j=>∃g1 t,m=g1.last - g1.first/\J=#v[↑p,↑r,t]/\(∀b o,b≠p->H b\o->j b\o)/\dY A.aO j p d y g1/\tU S g g1,⟨11,none,22,f2,p2,D⟩];rintro m J j ⟨g1,t,rfl,rfl,u,i,ad⟩;let M:=kp u;let ll:=ad.gi.ll;let fl:=ad.gi.fl;let lw:⇑g1.word<=1000:=by rw[ad.wo];rwa[G]
   erw[12,p,_,d,112,i.ins,aU T,T.e8,gW _ _,12,p,_,d,112,i.ins,aU T,T.iS,lj _ _,112212];rwa[bX (λq=>?_) (λq=>?_)]
   ·let q:(g1.first:Int)<(g1.last:Int):=ajM q;erw[_,λ_ _ z=>z];let hz:=Gg.rJ (g:=g1) ∅;erw[12,r,a.dx,12,M.ins,cL _ _ _ ⋯,12,p,_,d,112,i.ins,aU T,T.gS,lg _ _,12,p,_,d,112,i.ins,aU T,T.jT,k8 _ _,12,p,_,d,112,i.ins,aU T,T.e8,gW _ _,y,11,.int g1.z1,22,bz.of i.wo,cj (cP hz),r,S,a,g1.front,g1.z1,2,M,[C.wf.w]▸ad.gi.f]
    cases I:S.by g1.front g1.z1 with
    |none=>rwa[12212,dX ⟨g1,12,u,i,ad,λ_=>I⟩]
    |some c=>
     rw[show (Option.map (λn:Nat=>V.int (n:Int)) (some c)).getD V.non=V.int (c:Int) from rfl];rwa[⟨12212,dA ?_⟩];erw[1212,p,_,d,12,i.ins,aU T,T.gS,(by show 7<1000;decide)];rw[Ds];let B:=i.set (g':={ g1 with front:=c }) rfl;let L:=up (o2:=.ins A.aO d (iH { g1 with front:=c } y)) u;change upd j p _=H3 at B L ⊢;erw[12,p,_,d,112,B.ins,aU T,T.e8,gW _ _,112212,p,_,d,12,B.ins,aU T,T.e8,(by show 7<1000;decide)];rw[show V.int ((({ g1 with front:=c }:Gg).first:Int)+ 1)=V.int ((g1.first+ 1:Nat):Int) from rfl,Np];rwa[_,by show g1.last - (g1.first+ 1)<_;ext,1122,up L,B.set rfl,ad.fwd C ∅ I]
   ·rwa[g1,t,2,u,i,ad,λz=>absurd (ajF (show (g1.first:Int)<(g1.last:Int) by omega)) q]
  rintro v j ⟨g0,v0,rfl,f0,p0,D,n0⟩;erw[λ v j=>∃g1 t,v=#v[↑p,↑r,t]/\(∀b o,b≠p->H b\o->j b\o)/\dY A.aO j p d y g1/\tU S g g1/\(g1.first<g1.last->S.by g1.front g1.z1=none)/\(g1.first<g1.last->S.by g1.bC g1.z2=none),5]
  ·erw[λm J j=>∃g1 t,m=g1.last - g1.first/\J=#v[↑p,↑r,t]/\(∀b o,b≠p->H b\o->j b\o)/\dY A.aO j p d y g1/\tU S g g1/\(g1.first<g1.last->S.by g1.front g1.z1=none),⟨11,v0,22,f0,p0,D,n0⟩];rintro m J j ⟨g1,t,rfl,rfl,u,i,ad,N⟩;let M:=kp u;let ll:=ad.gi.ll;let fl:=ad.gi.fl;let lw:⇑g1.word<=1000:=by rw[ad.wo];rwa[G]
   erw[12,p,_,d,112,i.ins,aU T,T.e8,gW _ _,12,p,_,d,112,i.ins,aU T,T.iS,lj _ _,112212];rwa[bX (λq=>?_) (λq=>?_)]
   ·let q:(g1.first:Int)<(g1.last:Int):=ajM q;erw[_,λ_ _ z=>z];let hz:=Gg.at2 (g:=g1) ll;erw[12,r,a.dx,12,M.ins,cL _ _ _ ⋯,12,p,_,d,112,i.ins,aU T,T.hX,lh _ _,12,p,_,d,112,i.ins,aU T,T.jT,k8 _ _,12,p,_,d,112,i.ins,aU T,T.iS,lj _ _,y,11,.int (-g1.z2),22,bz.of i.wo,cj (cP hz),12,r,S,a,g1.bC,g1.z2,(by show [V.ref r,V.int (g1.bC:Int),V.int (- -g1.z2)]=_;rw[akv]),M,[C.wf.w]▸ad.gi.r]
    cases I:S.by g1.bC g1.z2 with
    |none=>rwa[12212,dX ⟨g1,12,u,i,ad,N,λ_=>I⟩]
    |some c=>
     rw[show (Option.map (λn:Nat=>V.int (n:Int)) (some c)).getD V.non=V.int (c:Int) from rfl];rwa[⟨12212,dA ?_⟩];erw[1212,p,_,d,12,i.ins,aU T,T.hX,(by show 7<1000;decide)];rw[FJ];let B:=i.set (g':={ g1 with bC:=c }) rfl;let L:=up (o2:=.ins A.aO d (iH { g1 with bC:=c } y)) u;change upd j p _=H3 at B L ⊢;erw[12,p,_,d,112,B.ins,aU T,T.iS,lj _ _,112212,p,_,d,12,B.ins,aU T,T.iS,(by show 7<1000;decide)];rw[show V.int ((({ g1 with bC:=c }:Gg).last:Int) - 1)=V.int ((g1.last - 1:Nat):Int) by show V.int ((g1.last:Int) - 1)=_;congr 1;ext,Rc];rwa[_,by show (g1.last - 1) - g1.first<_;ext,1122,up L,B.set rfl,ad.bwd C ∅ I,λz=>N (by let z:g1.first<g1.last - 1:=z;omega)]
   ·rwa[g1,t,2,u,i,ad,N,λz=>absurd (ajF (show (g1.first:Int)<(g1.last:Int) by omega)) q]
  rintro v j ⟨g1,t,rfl,u,i,ad,N,n2⟩;rwa[k g1 j u i ⟨ad.wh,ad.wo,ad.st,ad.gi,ad.ef,ad.er,N,n2,ad.k1,ad.k2⟩]
def XB (ns:Zh)(j:Nat):eU (au ns) none (some (j:Int))=au (ns.take j):=by
 rw[kI,HT.uh];show au ((List.drop 0 ns).take (min j ⇑ns - 0))=_
 cbv
def Rf (ns:Zh)(j:Nat)(h:j<=⇑ns):eU (au ns) (some (j:Int)) none=au (ns.drop j):=by
 rw[kI,HT.uh,akI h];show au ((ns.drop j).take (⇑ns - j))=_;rw[alg ([aj5]▸ajp _)]
theorem qp {by_:Nat->Int->Zj}:∀{ws:Zh} {r:Nat},⇑(ck by_ r ws)<=⇑ws
 |[],_=>ajp _
 |z::ws,r=>by
  cases q:by_ r z with
  |none=>rw[zN q];rwa[ajU _]
  |some d=>rw[oT q,ajO,ajO];rwa[amH qp]
inductive Ke (CR CG:Zt) (vs:Zb) (H:Hp) (Q:VK) (E_:XK):Prop
 |mk (p dx wa r:Zt) (g:Gg) (S:RS) (a:RA) (R:Za2):vs=[↑p,↑r]->dY CG H p dx wa g->ay CR H r S a->Good S [] R->g.start<S.q->g.bC<S.q->g.last<⇑g.word->⇑g.word<=1000->(∀q H',ao H H'->bG H' 2 ↑q (hH g.which ((g.start::ck S.by g.start (g.word.take g.first))++(g.bC::ck S.by g.bC (g.word.drop (g.last+ 1)))) g.first)->Q ↑q H')->Ke CR CG vs H Q E_
theorem Dv (T:Txt K mg A):T.tI.Ok mg P w base 3 (Ke A.aB A.aO):=by
 rwa[T.tI.on oq (λb8 AA O s H vs Q E hr h=>?_)]
 ·let⟨p,m,wa,r,g,S,a,R,rfl,t,hR,I,hs,U,YK,Kf,k⟩:=h
  refine⟨_,{bP 2 oq.nd (pc T.walked (Ad T) hr #[1,0<<<1,iz Bx (0<<<1) jI (gu (0<<<1))]),bP 3 oq.nd (pc T.walked (Ad T) hr #[1,0<<<1,iz Bx (0<<<1) (gu (aV cY (0<<<1) av)) jI]),aY (dM #[dP (l:=[114,117,108,101]) rfl,0<<<1,cR jk rfl T.qj ak9 #[aV pX (pv 2) (pv 3)],0<<<1])},?_⟩
  rwa[da ?_];intro fe fh;let B:∀c z d,S.by c z=some d->d<S.q:=λc z d e=>(I.st c z d e).2.1
  rwa[⟨1212,p,_,m,112,t.ins,aU T,T.qZ,wA _ _,12,p,_,m,112,t.ins,aU T,T.jT,k8 _ _,12,p,_,m,112,t.ins,aU T,T.e8,gW _ _,12,wa,12,t.wo,λt1 H1 s1 X=>?_⟩];rw[XB]at X;rwa[⟨r,S,a,g.start,t1,g.word.take g.first,2,hR.same s1,I.wf,hs,B,X,by rw[ajN];ext,λl1 H2 s2 h2=>?_⟩];let C:=s1.trans s2;let F:=t.same C;rwa[⟨1212,p,_,m,112,F.ins,aU T,T.hX,lh _ _,12,p,_,m,112,F.ins,aU T,T.jT,k8 _ _,12,p,_,m,112,F.ins,aU T,T.iS,lj _ _,112212,wa,12,F.wo,λt2 H3 s3 e3=>?_⟩];rw[show (g.last:Int)+ 1=((g.last+ 1:Nat):Int) by ext,Rf _ _ ∅]at e3;let D:=C.trans s3;rwa[⟨r,S,a,g.bC,t2,g.word.drop (g.last+ 1),2,hR.same D,I.wf,U,B,e3,by rw[aj5];ext,λl2 V s4 h4=>?_⟩];let y:=D.trans s4;let Y:=t.same y;let lx:=qp (by_:=S.by) (ws:=g.word.take g.first) (r:=g.start);let ly:=qp (by_:=S.by) (ws:=g.word.drop (g.last+ 1)) (r:=g.bC);rw[ajN]at lx;rw[aj5]at ly;rwa[⟨12,p,_,m,112,Y.ins,aU T,T.C1,Nn _ _,1212,l1,l2,1122,(s3.trans s4) _ _ h2,h4,5,λL n3=>?_⟩]
  ·rw[aP,aP,bW,bW,ajO,ajO];rwa[aju (show _<=100000 by omega) ⋯]
  rwa[⟨L,12,.inl ⟨aI.of aj,λG n4=>?_⟩⟩];rw[<-ints_app,<-jc]at n4 ⊢;let s5:=ao.upd (o:=.lst (au (nI ((g.start::ck S.by g.start (g.word.take g.first))++(g.bC::ck S.by g.bC (g.word.drop (g.last+ 1))))))) n3;change (g.start::ck S.by g.start (g.word.take g.first))++(g.bC::ck S.by g.bC (g.word.drop (g.last+ 1)))=path at *;let N:=s5.trans (ao.upd (o:=.tup (au (nI path))) n4);let e6:upd (upd V L (.lst (au (nI path)))) G (.tup (au (nI path))) G=_:=aj;change upd (upd V L (.lst (au (nI path)))) G (.tup (au (nI path)))=H6 at N e6 ⊢;rwa[⟨12,p,_,m,112,(N^Y.ins),aU T,T.e8,gW _ _,(Za4 4),λq nq=>?_⟩];let Z:=ao.upd (o:=.tup [.str (tx [114,117,108,101]),.int (g.which:Int),↑G,.int (g.first:Int)]) nq;rwa[k q _ (y.trans (N.trans Z)) (.t aj rfl λj v d b f=>?_)]
  match j,b,f with
  |0,b,f=>ext b;ext f;rwa[.s]
  |1,b,f=>ext b;ext f;rwa[.i]
  |2,b,f=>
   ext b;ext f;rwa[.t (Z^e6) (by rw[aP,bW,ajk]) λi u x f1 M=>?_]
   let⟨z,rfl,n⟩:=cC f1;unfold nI at n;rw[ajq]at n M
   cases q1:path[i]? with
   |none=>rw[q1]at n;ext n
   |some c=>
    rw[q1]at n M;ext n;ext M;rwa[.i]
  |3,b,f=>ext b;ext f;rwa[.i]
  |j+ 4,b,f=>simp at b
def same_none (s:ao H I){b:Zt}(h:I b=none):H b=none:=by
 cases e:H b with
 |none=>rfl
 |some o=>rw[s^e]at h;ext h
structure KA where
 dx:Zt
 aQ:Zt
 aG:Zt
 aA:Zt
 aW:Zt
noncomputable def qq (r:Zt)(c:KA)(a:Nat):List (Str×V):=[("rooms",↑r),("rules",↑c.aQ),("goings",↑c.aG),("agenda",↑c.aA),("waiting",↑c.aW),("heard",.int a)]
def fY (r:Zt)(c:KA)(a:Nat):(qq r c a).lookup ("rooms":Str)\↑r:=by kernel_rfl
def Nr (r:Zt)(c:KA)(a:Nat):(qq r c a).lookup ("rules":Str)\↑c.aQ:=by kernel_rfl
def lW (r:Zt)(c:KA)(a:Nat):(qq r c a).lookup ("goings":Str)\↑c.aG:=by kernel_rfl
def pD (r:Zt)(c:KA)(a:Nat):(qq r c a).lookup ("agenda":Str)\↑c.aA:=by kernel_rfl
def mJ (r:Zt)(c:KA)(a:Nat):(qq r c a).lookup ("waiting":Str)\↑c.aW:=by kernel_rfl
def wC (r:Zt)(c:KA)(a:Nat):(qq r c a).lookup ("heard":Str)\(.int a):=by kernel_rfl
def fx {c:KA}(h:x∉(["rooms","rules","goings","agenda","waiting","heard"]:Zq)):(qq a c n).lookup x=none:=by
 simp only[ajE,akc,alR,not_or]at h;let⟨f,d,i,e,g,b⟩:=h;unfold qq;simp only[List.lookup,ajH.mpr f,ajH.mpr d,ajH.mpr i,ajH.mpr e,ajH.mpr g,ajH.mpr b]
def Nt (r:Zt)(c:KA)(a n:Nat):bH "heard" (.int n) (qq r c a)=qq r c n:=by kernel_rfl
structure rn (CG:Zt) (H:Hp) (gv:Zb) (gs:Zf) (O:Zt->Prop):Prop where
 l:⇑gv=⇑gs
 n:∀(i:Nat) (v:V),gv[i]?\v->gs[i]?\none->v=.non
 s:∀(i:Nat) (v:V) (g:Gg),gv[i]?\v->gs[i]?\some g->∃p dx wa,v=↑p/\dY CG H p dx wa g/\O p
 i:∀(i j:Nat) (p:Zt),gv[i]?\↑p->gv[j]?\↑p->i=j
structure cx (CG CC:Zt) (H:Hp) (x r:Zt) (c:KA) (gs:Zf) (ag:Zi) (W:bf) (hd:Nat) (fp:List (Zh×Nat)) (O:Zt->Prop):Prop where
 ins:H x\(.ins CC c.dx (qq r c hd))
 hG:∃gv,H c.aG\.lst gv/\rn CG H gv gs O
 hA:H c.aA\(.lst (au (nI ag)))
 wt:p8 H c.aW W O
 ne:c.aG≠c.aA
 ox:O x
 oG:O c.aG
 oA:O c.aA
 th:∀b,O b->∃o,H b\o/\(∀xs,o≠.tup xs)/\(∀kv,o≠.dT kv)/\(∀u v,o≠.cq u v)/\∀ps,o≠.fH ps
section
variable {CG CC:Zt}{H H':Hp}{x r:Zt}{c:KA}{gs:Zf}{ag:Zi}{W:bf}{hd:Nat}{fp:List (Zh×Nat)}{O:Zt->Prop}
def rn.keep (h:rn CG H L gs O)(f:∀b o,O b->H b\o->H' b\o)(d:∀b a,H b\.tup a->H' b\.tup a):rn CG H' L gs O:=by
 rwa[⟨h.l,h.n,λi v g j l=>?_,h.i⟩];let⟨p,dx,k,e,q,o⟩:=h.s i v g j l;rwa[p,dx,k,e,⟨f _ _ o q.ins,d^q.wo⟩,o]
def cx.keep (h:cx CG CC H x r c gs ag W hd fp O)(f:∀b o,O b->H b\o->H' b\o)(g:∀b a,H b\.tup a->H' b\.tup a):cx CG CC H' x r c gs ag W hd fp O:=by
 let⟨j,i,g2⟩:=h.hG;rwa[⟨f _ _ h.ox h.ins,⟨j,f _ _ h.oG i,g2.keep f g⟩,f _ _ h.oA h.hA,h.wt.keep f,h.ne,h.ox,h.oG,h.oA,λb d=>?_⟩];let⟨o,e,q⟩:=h.th b d;rwa[o,f _ _ d e,q]
def cx.same (h:cx CG CC H x r c gs ag W hd fp O)(s:ao H H'):cx CG CC H' x r c gs ag W hd fp O:=h.keep (λb o _ e=>s b o e) (λb o e=>s^e)
def cx.jo (h:cx CG CC H x r c gs ag W hd fp O){b:Zt}{a:Zb}(e:H b\.tup a):¬O b:=λz=>by
 let⟨o,q,n,_⟩:=h.th b z
 cbv
def cx.Kg (h:cx CG CC H x r c gs ag W hd fp O){b:Zt}{a:List (Zd×V)}(e:H b\.dT a):¬O b:=λz=>by
 let⟨o,q,_,n,_⟩:=h.th b z
 cbv
def cx.waits (h:cx CG CC H x r c gs ag W hd fp O){k:bf}{a:Zt->Prop}(f:∀b o,(∀j,o≠.dK j)->H b\o->H' b\o)(d:∀b,O b->a b)(w:p8 H' c.aW k a)(th:∀b,a b->∃o,H' b\o/\(∀t,o≠.tup t)/\(∀j,o≠.dT j)/\(∀u v,o≠.cq u v)/\∀m,o≠.fH m):cx CG CC H' x r c gs ag k hd fp a:=by
 let⟨l,s,g2⟩:=h.hG;rwa[⟨f _ _ (by cbv) h.ins,⟨l,f _ _ (by cbv) s,g2.l,g2.n,λi v g y n=>?_,g2.i⟩,f _ _ (by cbv) h.hA,w,h.ne,d _ h.ox,d _ h.oG,d _ h.oA,th⟩];let⟨p,dx,z,e,q,o⟩:=g2.s i v g y n;rwa[p,dx,z,e,⟨f _ _ (by cbv) q.ins,f _ _ (by cbv) q.wo⟩,d _ o]
def cx.agenda (h:cx CG CC H x r c gs ag W hd fp O)(a:Zi):cx CG CC (upd H c.aA (.lst (au (nI a)))) x r c gs a W hd fp O:=by
 let⟨f,l,g2⟩:=h.hG;let k:∀b o,b≠c.aA->H b\o->upd H c.aA (.lst (au (nI a))) b\o:=λb o n e=>by rw[ai n];rwa[e]
 let kn:∀b o,(∀m,o≠.lst m)->H b\o->upd H c.aA (.lst (au (nI a))) b\o:=λb o n e=>k b o (λz=>by rw[z,h.hA]at e;cbv) e
 rwa[⟨kn _ _ (by cbv) h.ins,⟨f,k _ _ h.ne l,g2.l,g2.n,λi v g s j=>?_,g2.i⟩,aj,5,h.ne,h.ox,h.oG,h.oA,λb d=>?_⟩]
 ·let⟨p,dx,t,e,q,o⟩:=g2.s i v g s j;rwa[p,dx,t,e,⟨kn _ _ (by cbv) q.ins,kn _ _ (by cbv) q.wo⟩,o]
 ·let⟨D,E,k1,k2⟩:=h.wt;rwa[D,E,k1.keep λb o d e=>by let⟨u,q⟩:=k1.there d;cbv,k2]
 ·cases e:b=c.aA
  ·rwa[_,[e]▸aj,(by cbv),(by cbv),(by cbv),by cbv]
  ·let⟨o,q,n⟩:=h.th b d;rwa[o,k _ _ e q,n]
end
def Bt (O:Zt->Prop)(H a:Hp):Prop:=∀b o,¬O b->H b\o->a b\o
def Bt.trans {O a:Zt->Prop}(h:Bt O H I)(c:Bt a I J)(f:∀b,a b->O b\/H b=none):Bt O H J:=λb o n e=>c b o (λz=>(f b z).elim n λq=>by cbv) (h b o n e)
def Bt.of {O:Zt->Prop}(s:ao H I):Bt O H I:=λb o _ e=>s b o e
inductive Kh (CR CG CC:Zt) (vs:Zb) (H:Hp) (Q:VK) (E_:XK):Prop
 |mk (x r:Zt) (c:KA) (gs:Zf) (ag:Zi) (W:bf) (hd:Nat) (fp:List (Zh×Nat)) (O:Zt->Prop) (n m:Nat) (s:Int):vs=[↑x,.int n,.int m,.int s]->cx CG CC H x r c gs ag W hd fp O->m<100000->n<100000->(-1000<=s/\s<=1000)->(∀O' H',Bt O H H'->(∀b o,(∀kv,o≠.dK kv)->H b\o->H' b\o)->(∀b,O b->O' b)->(∀b,O' b->O b\/H b=none)->cx CG CC H' x r c gs ag (addW W m s n) hd fp O'->Q .non H')->Kh CR CG CC vs H Q E_
structure kr (H:Hp) (O:Zt->Prop) (H1:Hp) (O1:Zt->Prop):Prop where
 f:∀b o,(∀kv,o≠.dK kv)->H b\o->H1 b\o
 bt:Bt O H H1
 le:∀b,O b->O1 b
 nw:∀b,O1 b->O b\/H b=none
 th:∀b,O1 b->∃o,H1 b\o/\(∀xs,o≠.tup xs)/\(∀kv,o≠.dT kv)/\(∀u v,o≠.cq u v)/\∀ps,o≠.fH ps
def kr.new {O a:Zt->Prop}(h:kr H O I a){p:Zt}{c:List (Key×V)}(d:I p=none):kr H O (upd I p (.dK c)) a:=by
 let s:=ao.upd (o:=.dK c) d;rwa[⟨λb o n e=>s^h.f b o n e,λb o n e=>s^h.bt b o n e,h.le,h.nw,λb f=>?_⟩];let⟨o,e,q⟩:=h.th b f;rwa[o,s^e,q]
def kr.put {O a:Zt->Prop}(h:kr H O I a){d:Zt}(hd:a d){f kv':List (Key×V)}(ed:I d\.dK f):kr H O (upd I d (.dK kv')) a:=by
 let k:∀b o,b≠d->I b\o->upd I d (.dK kv') b\o:=λb o n e=>by rw[ai n];rwa[e]
 rwa[⟨λb o n e=>k _ _ (λz=>by have:=h.f b o n e;cbv) (h.f b o n e),λb o n e=>k _ _ (λz=>?_) (h.bt b o n e),h.le,h.nw,λb c=>?_⟩]
 ·rcases h.nw d hd with q|q
  ·cbv
  cbv
 ·cases e:b=d
  ·rwa[⟨_,by rw[e];rwa[aj],(by cbv),(by cbv),(by cbv),by cbv⟩]
  ·let⟨o,q,m⟩:=h.th b c;rwa[o,k _ _ e q,m]
def kr.YL {O a:Zt->Prop}(h:kr H O I a){p:Zt}(d:H p=none){o:HO}(l:I p\o)(g:∀i,o≠.tup i)(c:∀k,o≠.dT k)(j:∀u v,o≠.cq u v)(f:∀e,o≠.fH e):kr H O I (Jh a p):=by
 rwa[⟨h.f,h.bt,λb z=>.inl (h.le b z),λb z=>z.elim (h.nw b) λq=>.inr ([q]▸d),λb z=>?_⟩];rcases z with z|z
 ·rwa[h.th b z]
 ·rw[z];rwa[o,l,g,c,j,f]
def kr.no {O b:Zt->Prop}(h:kr H O I b){p:Zt}(a:I p=none):H p=none:=by
 cases e:H p with
 |none=>rfl
 |some o=>
  cases q:O p
  ·let⟨d,c,_⟩:=h.th p (h.le p q);cbv
  ·rw[h.bt p o q e]at a;ext a
def cx.mid {x:Zt}{d:KA}{gs:Zf}{W:bf}{hd:Nat}{f:List (Zh×Nat)}{O:Zt->Prop}(h:cx a b H x c d gs B W hd f O):kr H O H O:=⟨λ_ _ _ e=>e,λ_ _ _ e=>e,λ_ z=>z,λ_ z=>.inl z,h.th⟩
def pE (T:Txt K mg A):T.kj.Ok mg P w base 1 (Kh A.aB A.aO A.aF):=by
 rwa[T.kj.on ko (λU AA G s H vs Q E V h=>?_)]
 ·let⟨x,r,c,gs,ag,W,B,fp,O,n,m,s,rfl,h,hm,hn,Y,k⟩:=h;let F:=ib V
  erw[_,{bS (bP 4 ko.nd (ie (0<<<1) (pv 2) c9 ⟨2222⟩)),bS (bP 5 ko.nd (ie (pv 4) (pv 3) c9 ⟨2222⟩)),kK F (pv 5) (pv 1) fk rfl}]
  rwa[da ?_];intro Z S;erw[λ f J=>∃d y,f=#v[↑x,.int (n:Int),.int (m:Int),.int s,↑d,none]/\kr H O J y/\fJ J c.aW W y m d,5]
  ·rwa[⟨12,x,_,c.dx,112,h.ins,aJ T,T.km,mJ^_,c.aW,2,h.wt.rF,12,λp b=>?_⟩];let⟨a,g,q,l,I⟩:=h.wt.room b (c:=(m:Int)) ∅;rwa[⟨a,Sum.inl (m:Int),g,2,q,λv j=>?_,λj=>?_⟩]
   ·let⟨d,rfl,w⟩:=l v j;rwa[d,O,2,h.mid.new b,w]
   ·let w:=I j;let M:O c.aW:=by let⟨D,E,_,z⟩:=h.wt;rwa[z.o _ (.inl rfl)]
    rwa[p,12,((h.mid.new b).put M g).YL b ([ai (λz=>by rw[z]at b;let⟨o,e,_⟩:=h.th _ M;cbv)]▸aj) (by cbv) (by cbv) (by cbv) (by cbv),w]
  rintro f J ⟨d,y,rfl,u,C⟩;erw[λ f L=>∃e t,f=#v[↑x,.int (n:Int),.int (m:Int),.int s,↑d,↑e]/\kr H O L t/\qH L c.aW W t m s e,5]
  ·rwa[⟨12,d,2,C.rF,12,λp b=>?_⟩];let⟨a,g,q,l,I⟩:=C.cell b Y;rwa[⟨a,Sum.inl s,g,2,q,λv j=>?_,λj=>?_⟩]
   ·let⟨e,rfl,w⟩:=l v j;rwa[e,y,2,u.new b,w]
   ·let w:=I j;let B:=C.own;rwa[p,12,((u.new b).put B g).YL (u.no b) ([ai (λz=>by rw[z]at b;let⟨o,e,_⟩:=u.th _ B;cbv)]▸aj) (by cbv) (by cbv) (by cbv) (by cbv),w]
  rintro f L ⟨e,t,rfl,R,N⟩;let⟨a,g,q,l⟩:=N.put (n:=(n:Int)) ∅;erw[1212,e,12,m7.k (k:=Sum.inl (n:Int)) g q];let i:=R.put (kv':=putK a (Sum.inl (n:Int)) (.bl true)) N.own g;rwa[k t _ i.bt i.f i.le i.nw (h.waits i.f i.le l i.th)]
inductive Ki (CR CG CC:Zt) (vs:Zb) (H:Hp) (Q:VK) (E_:XK):Prop
 |mk (x r:Zt) (c:KA) (gs:Zf) (ag:Zi) (W:bf) (hd:Nat) (fp:List (Zh×Nat)) (O:Zt->Prop) (m:Nat) (s:Int):vs=[↑x,.int m,.int s]->cx CG CC H x r c gs ag W hd fp O->(∀ns:Zi,ns.Nodup->(∀n:Nat,n∈ns↔W m s n=true)->⇑ag+ ⇑ns<=1000000)->(∀ns H',Bt O H H'->ns.Nodup->(∀n:Nat,n∈ns↔W m s n=true)->cx CG CC H' x r c gs (ag++ns) (gB W m s) hd fp O->Q .non H')->Ki CR CG CC vs H Q E_
def fQ (T:Txt K mg A):T.eZ.Ok mg P w base 1 (Ki A.aB A.aO A.aF):=by
 rwa[T.eZ.on yb (λb8 AA C s H vs Q E hr h=>?_)]
 ·let⟨x,r,c,gs,ag,W,hd,fp,O,m,s,rfl,h,hz,k⟩:=h;let B:=ib hr;erw[_,{aT (df ajy PySem.F.slot_list_extend PySem.F.type_list_extend zy (0<<<1) #[cR (j8 rfl) rfl T.gG aj2 #[vM (ju B (0<<<1) (pv 1) c9 ⟨2222⟩) (pv 2) c9 ⟨2222⟩]])}]
  let rest:∀{g:Hp} {L:bf} {l:Zt} {ns:Zi},cx A.aO A.aF g x r c gs ag L hd fp O->Bt O H g->g l=none->ns.Nodup->(∀n:Nat,n∈ns↔W m s n=true)->L=gB W m s->yE (V.ref c.aA) [V.ref l] (upd g l (.lst (au (nI ns)))) (λ_ H'=>Q .non H'):=λ{g L l ns} j b2 f N Y eW=>by
   subst eW;let J:=ao.upd (o:=.lst (au (nI ns))) f;erw[c.aA,l,1122,J^j.hA,aj,5]
   ·rw[aP,aP,bW,bW];rwa[aju (hz ns N Y) ⋯]
   ·rw[<-ints_app,<-jc];rwa[k ns _ (λb o n e=>[ai (λz=>n ([z]▸h.oA))]▸J^b2 b o n e) N Y ((j.same J).agenda (ag++ns))]
  rwa[⟨12,x,_,c.dx,112,h.ins,aJ T,T.lU,pD^_,.inl ⟨21,aI.of h.hA⟩,12,x,_,c.dx,112,h.ins,aJ T,T.km,mJ^_,c.aW,2,h.wt.rF,12,λU I=>?_⟩];generalize u:upd H U _=X;let⟨s1,R⟩:=eR u I;let D:=h.same s1;let⟨o,g1,g2⟩:=D.wt.get (c:=(m:Int));erw[o,g1];rcases g2 with ⟨rfl,no⟩|⟨d,rfl,w⟩
  ·rwa[⟨U,rfl,.inl ⟨_,.inl R⟩,_,rfl,λt i=>?_⟩];generalize u:upd X t _=g;let⟨a,M⟩:=eR u i;rwa[⟨[],Sum.inl s,a^R,2,(λv p=>by ext p),λ_=>⟨t,[],2,M,λl f=>?_⟩⟩];rwa[rest (ns:=[]) (D.same a) (.of (s1.trans a)) f akX (λn=>⟨(λz=>by ext z),λz=>by rw[no]at z;ext z⟩) (yR (no s)).symm]
  ·rwa[⟨d,2,w.rF,12,λt i=>?_⟩];generalize u:upd X t _=g;let⟨a,M⟩:=eR u i;let j:=D.same a;let⟨q,Z,S,e3⟩:=(w.same a).pop s;rwa[⟨q,Sum.inl s,Z,2,λv p=>?_,λp=>⟨t,[],2,M,λl f=>?_⟩⟩]
   ·let⟨e,G,ns,rfl,F,f1,f2,f3,f4,f5⟩:=e3 v p;rwa[⟨e,G,2,[ai F]▸f1,λl f=>?_⟩];let y:=(j.mid.put (kv':=dC q (Sum.inl s)) w.own Z);rw[f2];rwa[rest (j.waits y.f y.le f5 y.th) (Bt.trans (.of (s1.trans a)) y.bt λb z=>.inl z) f f3 f4 rfl]
   ·rwa[rest (ns:=[]) j (.of (s1.trans a)) f akX (λn=>⟨(λz=>by ext z),λz=>by rw[S p]at z;ext z⟩) (yR (S p)).symm]
def _root_.Lake.L2.CI.U0 {bs:List (Nat×Zh×Nat)}{gs:Zf}{W:bf}{d:Nat->Int->Prop}{x:Zj}(h:CI S bs gs B W d x){m:Nat}{s:Int}{ns:Zi}(nd:ns.Nodup)(c:∀n:Nat,n∈ns↔W m s n=true):⇑ns+ xn S.q ⇑gs (gB W m s)<=xn S.q ⇑gs W:=by
 cases ns with
 |nil=>
  have:∀n,W m s n=false:=λn=>by
   cases q:W m s n with
   |false=>rfl
   |true=>
    let⟨_,b,_,e,_⟩:=h.en _ _ _ q
    cbv
  rw[yR this,alv,Nat.zero_add];rwa[ajp _]
 |cons n r=>
  let⟨k,b,l,_,a,_,f,_⟩:=h.en _ _ _ ((c n).mp (ajA ..));let a:m<S.q:=∅
  let i:=QG (G:=⇑gs) (W:=W) a f
  let g:=Ji (P:=λn:Nat=>W m s n) (G:=⇑gs) nd λn a=>by
   let w:=(c n).mp a;let⟨_,b,_,e,_,j,_⟩:=h.en _ _ _ w;rwa[3,w]
  ext
def _root_.Lake.L2.CI.two {bs:List (Nat×Zh×Nat)}{gs:Zf}{W:bf}{a:Nat->Int->Prop}{x:Zj}(h:CI S bs gs B W a x):xn S.q ⇑gs W<=2* ⇑gs:=QI λn=>by
 let⟨p,q,e,_⟩:=h.sl n;rwa[p,q,e]
def _root_.Lake.L2.fJ.keys {k:Zt}{W:bf}{O:Zt->Prop}(h:fJ H k W O z d):∃(a:List (Key×V)) (zs:Zh),H d\.dK a/\a.map (λb=>kV b.1)=au zs/\⇑zs<=2001/\∀s n,W z s n=true->s∈zs:=by
 let⟨D,E,l,p,hd⟩:=h;let⟨a,j,o,c,f⟩:=l.pM hd
 let q:⇑a<=2001:=nB (n:=2001) (lo:=-1000) o c f λi v m=>by
  cases e:E z i with
  |none=>rw[e]at m;ext m
  |some x=>have:=p.e z i x e;ext
 let ex:∃zs:Zh,a.map (·.1)=zs.map Sum.inl:=by
  clear j o f q
  induction a with
  |nil=>rwa[[],2]
  |cons b r t=>
   let⟨zs,e⟩:=t λx g=>c x (ajP _ g)
   let⟨i,u⟩:=c b (ajA ..);rwa[i::zs,by cbv]
 let⟨zs,e⟩:=ex;rwa[⟨a,zs,j,55,λs n w=>?_⟩]
 ·rw[show (λb:Key×V=>kV b.1)=kV ∘ (·.1) from rfl,<-aj8,e,aj8];rfl
 ·have:=akm List.length e;rw[ajk,ajk]at this;ext
 ·let⟨x,g⟩:=l.se _ _ _ w;have:Sum.inl s∈a.map (·.1):=Fo (v:=↑x) (by rw[f,g];rfl)
  cbv
structure lX (CG CC:Zt) (S:RS) (bs:List (Nat×Zh×Nat)) (gs:Zf) (W0:bf) (Ex:Nat->Int->Prop) (B:Nat) (x r:Zt) (c:KA) (hd:Nat) (fp:List (Zh×Nat)) (O:Zt->Prop) (H:Hp) (ag:Zi) (W:bf):Prop where
 c:cx CG CC H x r c gs ag W hd fp O
 i:CI S bs gs ag W Ex none
 s:∀r s n,W r s n=true->W0 r s n=true
 b:⇑ag+ xn S.q ⇑gs W<=B
def lX.wake {bs:List (Nat×Zh×Nat)}{gs:Zf}{g:bf}{i:Nat->Int->Prop}{x:Zt}{e:KA}{hd:Nat}{f:List (Zh×Nat)}{O:Zt->Prop}{W:bf}(h:lX a b S bs gs g i n x c e hd f O H B W){m:Nat}{s:Int}{ns:Zi}(nd:ns.Nodup)(j:∀d:Nat,d∈ns↔W m s d=true)(q:cx a b I x c e gs (B++ns) (gB W m s) hd f O):lX a b S bs gs g i n x c e hd f O I (B++ns) (gB W m s):=
 ⟨q,h.i.wake j,λc s d w=>h.s _ _ _ (di.mp w).1,by have:=h.i.U0 nd j;have:=h.b;rw[ajh];ext⟩
def lX.fits {bs:List (Nat×Zh×Nat)}{gs:Zf}{f:bf}{g:Nat->Int->Prop}{x:Zt}{e:KA}{hd:Nat}{i:List (Zh×Nat)}{O:Zt->Prop}{W:bf}(h:lX a b S bs gs f g n x c e hd i O H B W)(k:n<=1000000){m:Nat}{s:Int}:∀ns:Zi,ns.Nodup->(∀d:Nat,d∈ns↔W m s d=true)->⇑B+ ⇑ns<=1000000:=λns nd j=>by have:=h.i.U0 nd j;have:=h.b;ext
inductive FK (CR CG CC:Zt) (vs:Zb) (H:Hp) (Q:VK) (E_:XK):Prop
 |mk (x r:Zt) (c:KA) (S:RS) (a:RA) (bs:List (Nat×Zh×Nat)) (gs:Zf) (ag:Zi) (W:bf) (Ex:Nat->Int->Prop) (B hd:Nat) (fp:List (Zh×Nat)) (O:Zt->Prop) (m:Nat):vs=[↑x,.int m]->lX CG CC S bs gs W Ex B x r c hd fp O H ag W->B<=1000000->ay CR H r S a->S.Wf->(∀b,a.own r b->¬O b)->m<S.q->S.ax m<S.q->(∀i6 W' H',Bt O H H'->lX CG CC S bs gs W Ex B x r c hd fp O H' i6 W'->(∀s n,W' m s n=false)->(∀s n,W' (S.ax m) s n=true->S.by (S.ax m) s=none)->Q .non H')->FK CR CG CC vs H Q E_
def si (T:Txt K mg A):T.jA.Ok mg P w base 2 (FK A.aB A.aO A.aF):=by
 rwa[T.jA.on fw (λb8 AA outer s H vs Q E hr h=>?_)]
 ·let⟨x,r,c,S,a,bs,gs,ag,W,Ex,B,hd,fp,O,m,rfl,h,hB,hR,wf,dj,hm,he,k⟩:=h;let pC:=ib hr
  erw[_,{cX ajR rfl (dZ (cR (j8 rfl) rfl T.gG aj2 #[ju pC (0<<<1) (pv 1) c9 ⟨2222⟩])) (fL 2 fw.nd)
   {aT (pm (pv 0) (aJ T) T.eZ (fQ T) hr #[1,2])},bP 3 fw.nd (pm (0<<<1) (aH T) T.hM (iT T) hr #[1]),cX ajR rfl (dZ (cR (j8 rfl) rfl T.gG aj2 #[ju pC (0<<<1) (pv 3) c9 ⟨2222⟩])) (fL 2 fw.nd)
    {bS (bI (bh mU (pm (0<<<1) (aH T) T.iG (ia T) hr #[3,2]) dk (bq _))
     {aT (pm (pv 0) (aJ T) T.eZ (fQ T) hr #[3,2])}
     bu)}}]
  rwa[da ?_];intro fe fh;let rk:∀{D:Hp},Bt O H D->ay A.aB D r S a:=λ{D} b=>hR.keep (λb' o hb e=>b b' o (dj b' hb) e) (λb' xs e=>b b' _ (h.c.jo e) e)
  let get:∀{U:Hp} {YM:Zi} {W1:bf} (m1:Nat),lX A.aO A.aF S bs gs W Ex B x r c hd fp O U YM W1->∀M,U M=none->∃(o:Zc) (d:Zt) (y:List (Key×V)) (G:Zh),cO (upd U M (.dK [])) c.aW (.int (m1:Int)) o/\o.getD ↑M=↑d/\upd U M (.dK []) d\.dK y/\y.map (λkv=>kV kv.1)=au G/\∀s n,W1 m1 s n=true->s∈G:=λ{U YM W1} m1 h1 M F=>by
   let s1:=ao.upd (o:=.dK []) F;let⟨o,Z,g2⟩:=(h1.c.same s1).wt.get (c:=(m1:Int));rcases g2 with ⟨rfl,no⟩|⟨d,rfl,w⟩
   ·rwa[⟨none,M,[],[],Z,rfl,aj,rfl,λs n z=>by rw[no]at z;ext z⟩]
   ·let⟨y,G,e1,e2,_,e4⟩:=w.keys;rwa[_,d,y,G,Z,2,e1,e2,e4]
  rwa[⟨12,x,_,c.dx,112,h.c.ins,aJ T,T.km,mJ^_,c.aW,2,h.c.wt.rF,12,λM F=>?_⟩];let⟨o,d,y,G,Z,g2,g3,g4,YN⟩:=get m h M F;rwa[⟨o,Z,d,y,(by rw[g2]),g3,λl nl=>?_⟩];rw[g4];let s1:=(ao.upd (o:=.dK []) F).trans (ao.upd (o:=.lst (au G)) nl);let hl:upd (upd H M (.dK [])) l (.lst (au G)) l\(.lst (au G)):=aj;replace nl:=same_none (ao.upd (o:=.dK []) F) nl;change upd (upd H M (.dK [])) l (.lst (au G))=U at s1 hl ⊢;clear Z g2 g3 g4;let YP:¬O l:=λz=>by let⟨o,e,_⟩:=h.c.th l z;rw[nl]at e;ext e
  let h1:lX A.aO A.aF S bs gs W Ex B x r c hd fp O U ag W:=⟨h.c.same s1,h.i,h.s,h.b⟩;erw[l,2,⟨_,aI.of hl⟩]
  refine g6 (xs:=au G) (λi N D=>∃u J v2,N=#v[↑x,.int (m:Int),v2,none]/\Bt O U D/\lX A.aO A.aF S bs gs W Ex B x r c hd fp O D u J/\∀(j:Nat) (s:Int),j<i->G[j]?\s->∀n,J m s n=false)
   ⟨ag,W,none,2,λ_ _ _ e=>e,h1,λj s p=>absurd p ∅⟩ (λi N D _ ζ=>by let⟨_,_,_,_,b2,_⟩:=ζ;rwa[aI.of (b2 _ _ YP hl)]) ?_ ?_
  ·rintro i v N D hi ⟨u,J,v2,rfl,b2,t,p⟩;let⟨s,rfl,hs⟩:=cC hi;rwa[⟨12,x,c.dx,12,t.c.ins,fx ⋯,1212,x,r,c,gs,u,J,hd,fp,O,m,s,2,t.c,t.fits hB,λns H3 b3 nd hn h3=>?_⟩];rwa[⟨1112,b2.trans b3 λb z=>.inl z,t.wake nd hn h3,λj s' g e n=>?_⟩]
   cases q:gB J m s m s' n with
   |false=>rfl
   |true=>
    let⟨q1,q2⟩:=di.mp q;cases I:j<i
    ·rw[p j s' I e n]at q1;ext q1
    ·rw[show j=i by ext,hs]at e;rwa[absurd ⟨2,(Za0 e).symm⟩ q2]
  rintro N D ⟨u,J,v2,rfl,b2,t,p⟩;rw[aP]at p;let U1:Bt O H D:=Bt.trans (.of s1) b2 λb z=>.inl z
  let off:∀s n,J m s n=false:=λs n=>by
   cases q:J m s n with
   |false=>rfl
   |true=>
    let⟨j,g,e⟩:=List.mem_iff_getElem.mp (YN s n (t.s _ _ _ q));rw[p j s g (by rw[ajg g,e]) n]at q;ext q
  clear p YN hl YP h1;let R2:=rk U1;erw[12,x,_,c.dx,112,t.c.ins,aJ T,T.fb,fY^_,r,a.dx,12,R2.ins,cL _ _ _ ⋯,12,r,S,a,m,S.ax m,2,R2,tT ([wf.e]▸hm)];change S.ax m=e at he k ⊢;rwa[⟨12,x,_,c.dx,112,t.c.ins,aJ T,T.km,mJ^_,c.aW,2,t.c.wt.rF,12,λp2 rY=>?_⟩];let⟨o2,d2,ack,C,Z,g2,g3,g4,acm⟩:=get e t p2 rY;rwa[⟨o2,Z,d2,ack,(by rw[g2]),g3,λl2 R=>?_⟩];rw[g4];let s3:=(ao.upd (o:=.dK []) rY).trans (ao.upd (o:=.lst (au C)) R);let zP:upd (upd D p2 (.dK [])) l2 (.lst (au C)) l2\(.lst (au C)):=aj;replace R:=same_none (ao.upd (o:=.dK []) rY) R;change upd (upd D p2 (.dK [])) l2 (.lst (au C))=H3 at s3 zP ⊢;clear Z g2 g3 g4;let acn:¬O l2:=λz=>by let⟨o,e,_⟩:=t.c.th l2 z;rw[R]at e;ext e
  let h3:lX A.aO A.aF S bs gs W Ex B x r c hd fp O H3 u J:=⟨t.c.same s3,t.i,t.s,t.b⟩;erw[l2,2,⟨_,aI.of zP⟩]
  refine g6 (xs:=au C) (λi N H4=>∃L X v2,N=#v[↑x,.int (m:Int),v2,.int (e:Int)]/\Bt O H3 H4/\lX A.aO A.aF S bs gs W Ex B x r c hd fp O H4 L X/\(∀r s n,X r s n=true->J r s n=true)/\∀(j:Nat) (s:Int),j<i->C[j]?\s->∀n,X e s n=true->S.by e s=none)
   ⟨u,J,12,λ_ _ _ q=>q,h3,λ_ _ _ q=>q,λj s p=>absurd p ∅⟩ (λi N H4 _ ζ=>by let⟨_,_,_,_,b4,_⟩:=ζ;rwa[aI.of (b4 _ _ acn zP)]) ?_ ?_
  ·rintro i v N H4 hi ⟨L,X,v4,rfl,b4,Y,f,p⟩;let⟨s,rfl,hs⟩:=cC hi;let b04:Bt O H H4:=U1.trans (Bt.trans (.of s3) b4 λb z=>.inl z) λb z=>.inl z
   let R4:=rk b04;rwa[⟨15,λ_ _ z=>z⟩];erw[12,x,_,c.dx,112,Y.c.ins,aJ T,T.fb,fY^_,r,a.dx,12,R4.ins,cL _ _ _ ⋯,1212,r,S,a,e,s,2,R4,[wf.w]▸he]
   cases eb:S.by e s with
   |none=>
    erw[212];rwa[bX (λz=>absurd z ⋯) (λ_=>?_)];rwa[⟨1112,b4,Y,f,λj s' g q n w=>?_⟩];cases I:j<i
    ·rwa[p j s' I q n w]
    ·rw[show j=i by ext,hs]at q;rw[<-Za0 q];rwa[eb]
   |some d=>
    rw[show (Option.map (λn:Nat=>V.int (n:Int)) (some d)).getD V.non=V.int (d:Int) from rfl];erw[212];rwa[bX (λ_=>?_) (λz=>absurd rfl z)];rwa[⟨12,x,c.dx,12,Y.c.ins,fx ⋯,1212,x,r,c,gs,L,X,hd,fp,O,e,s,2,Y.c,Y.fits hB,λns H5 b5 nd hn h5=>?_⟩];rwa[⟨1112,b4.trans b5 λb z=>.inl z,Y.wake nd hn h5,λr s n w=>f _ _ _ (di.mp w).1,λj s' g q n w=>?_⟩];let⟨w1,w2⟩:=di.mp w;cases I:j<i
    ·rwa[p j s' I q n w1]
    ·rw[show j=i by ext,hs]at q;rwa[absurd ⟨2,(Za0 q).symm⟩ w2]
  rintro N H4 ⟨L,X,v4,rfl,b4,Y,f,p⟩;rw[aP]at p;rwa[k L X H4 (U1.trans (Bt.trans (.of s3) b4 λb z=>.inl z) λb z=>.inl z) Y (λs n=>?_) λs n w=>?_]
  ·cases q:X m s n with
   |false=>rfl
   |true=>have:=f _ _ _ q;rw[off s n]at this;ext this
  ·let⟨j,g,q⟩:=List.mem_iff_getElem.mp (acm s n (f _ _ _ w));rwa[p j s g (by rw[ajg g,q]) n w]
def cx.XC {x:Zt}{j:KA}{gs:Zf}{W:bf}{hd:Nat}{r:List (Zh×Nat)}{O:Zt->Prop}(h:cx a b H x c j gs B W hd r O)(F:∀(n:Nat) (g:Gg) (p dx k:Zt),gs[n]?\some g->dY a H p dx k g->p≠x)(n:Nat):cx a b (upd H x (.ins b j.dx (qq c j n))) x c j gs B W n r O:=by
 let kn:∀f o,(∀C d fs,o≠.ins C d fs)->H f\o->upd H x (.ins b j.dx (qq c j n)) f\o:=λf o q e=>by rw[ai (λz=>by rw[z,h.ins]at e;cbv)];rwa[e]
 let⟨t,u,g2⟩:=h.hG;rwa[⟨aj,⟨t,kn _ _ (by cbv) u,g2.l,g2.n,λi v g y s=>?_,g2.i⟩,kn _ _ (by cbv) h.hA,5,h.ne,h.ox,h.oG,h.oA,λf l=>?_⟩]
 ·let⟨p,dx,k,e,q,o⟩:=g2.s i v g y s;rwa[p,dx,k,e,⟨[ai (F i g p dx k s q)]▸q.ins,kn _ _ (by cbv) q.wo⟩,o]
 ·let⟨D,E,k1,k2⟩:=h.wt;rwa[D,E,k1.keep λf o l e=>by let⟨G,q⟩:=k1.there l;rw[q]at e;ext e;rwa[kn _ _ (by cbv) q],k2]
 ·cases e:f=x
  ·rwa[_,[e]▸aj,(by cbv),(by cbv),(by cbv),by cbv]
  ·let⟨o,q,m⟩:=h.th f l;rwa[o,[ai e]▸q,m]
def Dw {x:Zt}{d:KA}{i:Zf}{W:bf}{f:List (Zh×Nat)}{O:Zt->Prop}(h:cx a b H x c d i B W n f O){p j k:Zt}{g:Gg}(q:dY a H p j k g):p≠x:=λz=>by
 have:=q.ins;rw[z,h.ins]at this;let e:=akm (λo:Option HO=>match o with|some (.ins _ _ fs)=>⇑fs|_=>0) this;rwa[absurd (show 6=7 from e) ⋯]
def Pn (S:RS)(a:Nat):Nat->Int->Prop:=λr _=>∃m∈S.a9.drop a,r=m\/r=S.ax m
inductive Kj (CR CG CC:Zt) (vs:Zb) (H:Hp) (Q:VK) (E_:XK):Prop
 |mk (x r:Zt) (c:KA) (S:RS) (a:RA) (R:Za2) (bs:List (Nat×Zh×Nat)) (gs:Zf) (ag:Zi) (W:bf) (B hd:Nat) (fp:List (Zh×Nat)) (O:Zt->Prop):vs=[↑x]->lX CG CC S bs gs W (Pn S hd) B x r c hd fp O H ag W->B<=1000000->hd<=⇑S.a9->ay CR H r S a->Good S [] R->(∀m∈S.a9,m<S.q)->(∀b,a.own r b->¬O b)->(∀i6 W' H',Bt O H H'->lX CG CC S bs gs W fV B x r c ⇑S.a9 fp O H' i6 W'->Q .non H')->Kj CR CG CC vs H Q E_
def ym (T:Txt K mg A):T.oi.Ok mg P w base 3 (Kj A.aB A.aO A.aF):=by
 rwa[T.oi.on yc (λb8 AA J s H vs Q E M h=>?_)]
 ·let⟨x,r,c,S,a,R,bs,gs,ag,W,B,hd,Z,O,rfl,h,hB,X,hR,I,U,dj,k⟩:=h
  refine⟨_,{bS (jt ajR (bh mE (0<<<1) (((0<<<1)<<<1)<<<0) (bq _))
   {aT (pm (pv 0) (aJ T) T.jA (si T) M #[((0<<<1)<<<1)|||(0<<<1)]),bL (pv 0) (aV cY (0<<<1) av) rfl})},?_⟩
  let rk:∀{v:Hp},Bt O H v->ay A.aB v r S a:=λ{v} b=>hR.keep (λF o hb e=>b F o (dj F hb) e) (λF xs e=>b F _ (h.c.jo e) e)
  rwa[⟨λ gL H'=>Q .non H',5,λ_ _ q=>q⟩];erw[λm σ v=>∃d l G,m=⇑S.a9 - d/\σ=#v[↑x]/\d<=⇑S.a9/\Bt O H v/\lX A.aO A.aF S bs gs W (Pn S d) B x r c d Z O v l G,⟨_,hd,ag,W,22,X,λ_ _ _ e=>e,h⟩];rintro m σ v ⟨d,l,G,rfl,rfl,zP,N,i⟩;let R2:=rk N;let u:=R2.ins;erw[12,x,_,c.dx,112,i.c.ins,aJ T,T.om,wC^_,12,x,_,c.dx,112,i.c.ins,aJ T,T.fb,fY^_,r,_,a.dx,112,u,aH T,T.tN,uw^_,a.aN,12,.inl (aI.of R2.hN),112212];rwa[bX (λq=>?_) (λq=>?_)]
  ·let q:(d:Int)<(⇑(au (nI S.a9)):Int):=ajM q;rw[aP,bW]at q;let f:d<⇑S.a9:=∅
   let D:S.a9[d]?\(S.a9[d]'f):=ajg f
   change S.a9[d]'f=m at D;let y:=U m (ajj D);erw[_,λ_ _ z=>z];erw[12,x,c.dx,12,i.c.ins,fx ⋯,12,x,_,c.dx,112,i.c.ins,aJ T,T.fb,fY^_,r,_,a.dx,112,u,aH T,T.tN,uw^_,12,x,_,c.dx,112,i.c.ins,aJ T,T.om,wC^_,a.aN,11,.int (m:Int),22,aI.of R2.hN,cj (cP (j0 D))];rwa[⟨x,r,c,S,a,bs,gs,l,G,Pn S d,B,d,Z,O,m,2,⟨i.c,i.i,λ_ _ _ z=>z,i.b⟩,hB,R2,I.wf,dj,y,I.lt y,λL W3 H3 b3 t w1 w2=>?_⟩];erw[12,x,_,c.dx,112,t.c.ins,aJ T,T.om,wC^_,112212,x,_,c.dx,12,t.c.ins,aJ T,T.om,(by show 6<1000;decide)];rw[show V.int ((d:Int)+ 1)=V.int ((d+ 1:Nat):Int) from rfl,Nt];let c4:=t.c.XC (λn g p dx wa _ z=>Dw t.c z) (d+ 1);rwa[⟨⇑S.a9 - (d+ 1),3,d+ 1,L,W3,22,f,5,c4,t.i.ex λr' s n w M ex=>?_,λr s n w=>i.s _ _ _ (t.s _ _ _ w),t.b⟩]
   ·rwa[(N.trans b3 λb z=>.inl z).trans (λb o n e=>by rw[ai (λz=>n ([z]▸t.c.ox))];rwa[e]:Bt O H3 _) λb z=>.inl z]
   ·let⟨Y,j,C⟩:=ex;rw[al8 f]at j;rcases ajE.mp j with z|z
    ·let em:Y=m:=by rw[z];rw[ajg f]at D;rwa[Za0 D]
     subst em;rcases C with C|C
     ·rw[C,w1]at w;ext w
     ·subst C;rwa[.inl ⟨(I.el _ y).2,w2 s n w⟩]
    ·rwa[.inr ⟨Y,z,C⟩]
  ·let q:¬(d:Int)<(⇑(au (nI S.a9)):Int):=λz=>q (ajF z)
   rw[aP,bW]at q;let e:d=⇑S.a9:=∅
   subst e;rwa[k l G v N ⟨i.c,i.i.ex λr' s n w M ex=>?_,i.s,i.b⟩];let⟨Y,j,_⟩:=ex;rw[List.drop_length]at j;ext j
def Af {h:Ze}(g:Good S h R)(o:∀a z b,R a z b->z∈l)(r:S.q<=100000)(m:⇑l<=100000)(s:⇑S.rows<=1000000)(p:⇑S.a9<=1000000):yj S:=by
 rwa[⟨g.wf,λc i=>g.lt i,λc z d e=>(g.st c z d e).2.1,λc n t=>g.cb c n t,λc _=>⟨g.kn c,λq j=>(g.st c q.1 q.2 (jP (g.kn c) j)).2.1,λq j _=>?_⟩,⟨r,λf k=>?_,s,p,λf k=>?_⟩⟩]
 ·rw[g.sy c q.1 q.2 (jP (g.kn c) j)];rfl
 ·let⟨c,i⟩:=aj9 k;have:S.way c=f:=by unfold RS.way;rw[ajm,i];rfl
  rw[<-this];rwa[aju (g.I9 o c) m]
 ·let⟨c,i⟩:=aj9 k;have:S.cw c=f:=by unfold RS.cw;rw[ajm,i];rfl
  rw[<-this];rwa[aju (g.Tp c) ∅]
def Dx (S:RS):S.stand<=S.q:=by
 unfold RS.stand;rwa[aju List.countP_le_length (by cbv)]
noncomputable def U2 (R:Za2)(m L B f M:Nat)(e:Zh)(d:RS)(c:Ze)(S:RS)(a:Ze):Prop:=Good S a R/\S.q=m/\S.L=L/\⇑S.rows+ S.stand<=B/\⇑S.a9+ S.stand<=f/\mu ⇑e S a<=M/\∀b,kP S a b->kP d c b
def Nu {M:Nat}{r:Ze}(p:∀a z b,R a z b->z∈l)(J:m<=100000)(s:⇑l<=100000)(N:i<=1000000)(L:j<=1000000)(I:M<=1000000)(S:RS)(pend:Ze)(w:Way)(h:U2 R m n i j M l T r S (pend++[w])):
 yj S/\w.1<S.q/\w.2.2<S.q/\⇑pend<=1000000/\U2 R m n i j M l T r (S.takeIn pend w).1 (S.takeIn pend w).2/\mu ⇑l (S.takeIn pend w).1 (S.takeIn pend w).2<mu ⇑l S (pend++[w]):=by
 let⟨g,D,v,E,H,o,t⟩:=h;let⟨F,G,u,B,q⟩:=g.take p;let hw:=g.pl w (ajo _ ajA);rwa[⟨Af g p ∅ s ∅ ∅,hw.1,hw.2,5,⟨F,by rw[u,D],by rw[B,v],553,λC d=>t C (.take d)⟩,G⟩]
 ·unfold mu at o;rw[ajh]at o;ext
 ·rcases q with ⟨e,k,f⟩|⟨e,c,z,x,y,_,_,_,_,_,k,f,_⟩
  ·rw[e,k];rwa[E]
  ·rw[k,ajh];have:⇑([fF c z (min x y) (max x y)]:Zg)=1:=rfl;ext
 ·rcases q with ⟨e,k,f⟩|⟨e,c,z,x,y,_,_,_,_,_,k,f,_⟩
  ·rw[e,f];rwa[H]
  ·rw[f,ajh];have:⇑([max x y]:Zi)=1:=rfl;ext
def iU:z∈bF (2* n)↔z≠0/\z.natAbs<=n:=by
 unfold bF;rw[aj7];constructor
 ·rintro ⟨i,a,rfl⟩;rwa[M12.Xu (akF.mp a)]
 ·rintro ⟨d,c⟩;cases b:0<z
  ·erw[2* (z.toNat - 1),akF.mpr ∅];unfold M12.st;rw[ajD ∅];ext
  ·erw[2* (z.natAbs - 1)+ 1,akF.mpr ∅];unfold M12.st;rw[ajw ∅];ext
structure i7 (CR:Zt) (H:Hp) (r:Zt) (S:RS) (a:RA) (R:Za2) (ks:Zh) (B:Nat):Prop where
 at_:ay CR H r S a
 g:Good S [] R
 w:ig S
 k:∀a z b,R a z b->z∈ks
 m:S.q<=2000
 l:⇑ks<=400
 rb:⇑S.rows+ S.stand<=B
 wb:⇑S.a9+ S.stand<=900000
def i7.keep {CR:Zt}(h:i7 CR H a S O R l n)(k:∀b o,O.own a b->H b\o->I b\o)(d:∀b c,H b\.tup c->I b\.tup c):i7 CR I a S O R l n:=⟨h.at_.keep k d,h.g,h.w,h.k,h.m,h.l,h.rb,h.wb⟩
def i7.same {CR:Zt}(h:i7 CR H a S O R l n)(s:ao H I):i7 CR I a S O R l n:=h.keep (λb o _ e=>s^e) (λb o e=>s^e)
def zh (h:ay a H b S O){c:Zt}{f:List (Zd×V)}(e:H c\.dT f):¬O.own b c:=λz=>by
 rcases z with z|z|z
 ·rw[z,h.ins]at e;ext e
 ·let⟨d,q⟩:=h.Oo z;cbv
 ·let⟨d,q⟩:=h.rF z;cbv
def Nv (w:Nat)(p:Zi)(k:Nat)(h:⇑p<=100000):nh (hH w p k):=by
 rwa[.t (by show 4<=100000;decide) λd a=>?_]
 simp only[ajE,akc,alR]at a;rcases a with rfl|rfl|rfl|rfl
 ·rwa[.s]
 ·rwa[.i]
 ·rwa[.t (by rw[ajk];rwa[h]) λd a=>?_]
  let⟨c,_,rfl⟩:=aj7.mp a;rwa[.i]
 ·rwa[.i]
inductive Kk (CR CG CC:Zt) (vs:Zb) (H:Hp) (Q:VK) (E_:XK):Prop
 |mk (x r p dx wa:Zt) (c:KA) (S:RS) (a:RA) (R:Za2) (ks:Zh) (B:Nat) (ws:Za3) (nr:Nat) (bs:List (Nat×Zh×Nat)) (gs:Zf) (ag:Zi) (W:bf) (fp:List (Zh×Nat)) (O:Zt->Prop) (n:Nat) (g:Gg):vs=[↑x,↑p]->cx CG CC H x r c gs ag W ⇑S.a9 fp O->i7 CR H r S a R ks B->B<900000->(∀b,a.own r b->¬O b)->CI S bs gs ag W fV (some n)->gs[n]?\none->bs[n]?\(g.which,g.word,g.start)->dY CG H p dx wa g->¬O p->¬a.own r p->GI S g->g.first=g.last->S.ax g.start=g.start->S.ax g.front=g.front->S.ax g.bC=g.bC->ws[g.which]?\g.word->(g.which<nr\/g.start=0)->(∀z∈g.word,z∈ks/\-z∈ks)->⇑g.word<=1000->⇑ag+ 2* ⇑gs<=1000000->(∀S' a' R' i6 W' H',(∀b o,¬O b->¬a.own r b->H b\o->H' b\o)->cx CG CC H' x r c gs i6 W' ⇑S'.a9 fp O->i7 CR H' r S' a' R' ks (B+ 1)->(∀b,a'.own r b->a.own r b\/H b=none)->CI S' bs gs i6 W' fV none->⇑i6<=⇑ag+ 2* ⇑gs->(∀a z b,R a z b->R' a z b)->S'.q=S.q->S'.L=S.L->Tr ws nr S S'->Q .non H')->Kk CR CG CC vs H Q E_
def zi (T:Txt K mg A):T.pP.Ok mg P w base 6 (Kk A.aB A.aO A.aF):=by
 rwa[T.pP.on ql (λb8 AA outer s H vs Q E U h=>?_)]
 ·let⟨x,r,p,t,wa,c,S,a,R,ks,B,ws,nr,bs,I,ag,W,fp,O,n,g,rfl,Z,f,hB,dj,ci,YQ,Kl,v,npO,npo,i,F,es,ef,er,Pp,hnr,hks,Kf,L,k⟩:=h
  refine⟨_,{bP 2 ql.nd ((1<<<1)&&&(1<<<1)),bI (bh eK (pm (0<<<1) (aH T) T.iG (ia T) U #[1<<<1,2]) (1<<<1) (bq _))
    {yz}
    bu,aT (pm (0<<<1) (aH T) T.tJ (Dq T) U #[1<<<1,2,1<<<1,pm (pv 1) (aU T) T.tI (Dv T) U #[0<<<1]]),aT (pm (pv 0) (aJ T) T.eZ (fQ T) U #[1<<<1,2]),aT (pm (pv 0) (aJ T) T.eZ (fQ T) U #[1<<<1,fm dJ (pv 2)]),aT (xB (pv 0) (aJ T) T.oi (ym T) U)},?_⟩
  rwa[nu ?_];intro rX oz jg fe fh;let hz:=Gg.rJ (g:=g) ([F]▸i.ll);let rJ:iZ (au g.word) (g.first:Int)\(.int g.z1):=cj (cP hz);let gd:=f.g;erw[12,p,_,t,112,v.ins,aU T,T.jT,k8 _ _,12,p,_,t,112,v.ins,aU T,T.e8,gW _ _,wa,11,.int g.z1,22,bz.of v.wo,rJ];erw[12,x,_,c.dx,112,Z.ins,aJ T,T.fb,fY^_,r,a.dx,12,f.at_.ins,cL _ _ _ ⋯,12,p,_,t,112,v.ins,aU T,T.gS,lg _ _,12,r,S,a,g.front,g.z1,2,f.at_,[gd.wf.w]▸i.f,12,p,_,t,112,v.ins,aU T,T.hX,lh _ _]
  let fin:S.by g.front g.z1=some g.bC->Q .non H:=λj=>by
   rwa[k S a R ag W H (λ_ _ _ _ e=>e) Z ⟨f.at_,f.g,f.w,f.k,f.m,f.l,by have:=f.rb;ext,f.wb⟩ (λb z=>.inl z) (ci.done YQ λb eb=>?_) ∅ (λ_ _ _ z=>z) rfl rfl (.refl S)];rw[Kl]at eb;obtain rfl:=Za0 eb;rwa[.inr (i.whole F es ef er j)]
  cases j:S.by g.front g.z1=some g.bC
  ·rw[j];erw[212];rwa[bX (λ_=>fin j) (λz=>absurd (ajF rfl) z)]
  let N:Ld (((S.by g.front g.z1).map λn:Nat=>V.int (n:Int)).getD .non) (.int (g.bC:Int))=true/\decide ((((S.by g.front g.z1).map λn:Nat=>V.int (n:Int)).getD .non)=V.int (g.bC:Int))=false:=by
   cases q:S.by g.front g.z1 with
   |none=>rwa[2,akh f!""]
   |some d=>rwa[2,akh (λz=>j (by rw[q];have:=V.int.inj z;congr 1;omega))]
  erw[N.1,12];rw[N.2];rwa[dA ?_];clear fin N;rwa[⟨12,x,_,c.dx,112,Z.ins,aJ T,T.fb,fY^_,r,a.dx,12,f.at_.ins,cL _ _ _ ⋯,12,p,_,t,112,v.ins,aU T,T.gS,lg _ _,1212,p,_,t,112,v.ins,aU T,T.hX,lh _ _,12,p,t,12,v.ins,Pj ⋯,12,x,_,c.dx,112,Z.ins,aJ T,T.fb,fY^_,p,t,wa,r,g,S,a,R,2,v,f.at_,gd,i.s,i.r,i.ll,Kf,λq H1 s1 dt=>?_⟩];let lx:=qp (by_:=S.by) (ws:=g.word.take g.first) (r:=g.start);let ly:=qp (by_:=S.by) (ws:=g.word.drop (g.last+ 1)) (r:=g.bC);rw[ajN]at lx;rw[aj5]at ly;let f1:=i.wf;let f2:=i.wr;rw[es,ef]at f1;rw[es,er,<-F]at f2;rw[<-F]at dt ly;let ra:Cd ws nr S g.which g.word g.start g.first g.front g.bC g.z1:=⟨Pp,hnr,⟨i.s,es⟩,hz,f1,f2,⟨i.f,ef⟩,⟨i.r,er⟩,j⟩
  let C:∀a y b,eD R g.front g.z1 g.bC a y b->y∈ks:=by
   have:=hks g.z1 (ajj hz);rintro a y b (z|⟨_,e,_⟩|⟨_,e,_⟩)
   ·rwa[f.k _ _ _ z]
   ·rw[e];rwa[this.1]
   ·rw[e];rwa[this.2]
  let stl:=Dx S
  let Ph:mu ⇑ks (qG S g.which g.word g.start g.first g.bC) [(g.front,g.z1,g.bC)]<=1000000:=by
   unfold mu;let h1:(qG S g.which g.word g.start g.first g.bC).stand=S.stand:=rfl;have:S.stand* (⇑ks+ 1)<=2000* 401:=amC (by have:=f.m;omega) (by have:=f.l;omega);rw[h1];show S.stand* (⇑ks+ 1)+ 1<=_;ext
  let gl:=gd.lay g.z1 i.f i.r (qG S g.which g.word g.start g.first g.bC).rows;rwa[⟨r,q,S,a,g.front,g.bC,g.z1,_,U2 (eD R g.front g.z1 g.bC) S.q S.L (B+ 1) 900000 1000000 ks (qG S g.which g.word g.start g.first g.bC) [(g.front,g.z1,g.bC)],mu ⇑ks,2,f.at_.same s1,by have:=f.rb;ext,dt,Nv _ _ _ (by rw[ajh,ajO,ajO];omega),⟨gl,225,f.wb,Ph,λ_ z=>z⟩,Nu C (by have:=f.m;omega) (by have:=f.l;omega) ∅ ⋯ ⋯,λu a' H2 b2 h2 i2 o2=>?_⟩]
  ·show ⇑(S.rows++[_])+ S.stand<=_;rw[ajh];have:=f.rb;show _+ 1+ _<=_;ext
  let⟨g2,em,eL,rb2,wb2,_,re⟩:=i2;let lay:=re u (.nil u);let⟨_,w2,_,_,l,el⟩:=lay.all gl C (⟨f.w.a,f.w.b,f.w.c⟩:ig (qG S g.which g.word g.start g.first g.bC));let el:u.a9=S.a9++l:=el;let D:∀b o,¬a.own r b->H b\o->H2 b\o:=λb o nb e=>b2 b o nb (s1^e)
  let YR:∀b,a'.own r b->a.own r b\/H b=none:=λb z=>(o2 b z).imp id (same_none s1)
  let M:∀b,a'.own r b->¬O b:=λb z y=>by
   rcases YR b z with q|q
   ·rwa[dj b q y]
   ·let⟨o,e,_⟩:=Z.th b y;cbv
  let X:cx A.aO A.aF H2 x r c I ag W ⇑S.a9 fp O:=Z.keep (λb o j e=>D b o (λz=>dj b z j) e) (λb xs e=>D b _ (f.at_.ux e) e);let p2:dY A.aO H2 p t wa g:=⟨D _ _ npo v.ins,D _ _ (f.at_.ux v.wo) v.wo⟩;let lt:=Later.of gd g2 jx (amd em.symm)
  let Dy:=ci.lay YQ gd g2 em f.w w2 el i.f ef i.r er λb eb=>by
   rw[Kl]at eb;obtain rfl:=Za0 eb;show u.ax g.start≠g.start\/wk u.by g.start g.word=some g.start;cases Y:u.ax g.start=g.start
   ·right
    let h1:=lt.wk f1;let h3:=lt.wk f2;let hbb:=g2.nj.mpr ⟨g.front,g.bC,qD,22⟩;rw[Y]at h1 h3;have:g.word=g.word.take g.first++(g.z1::g.word.drop (g.first+ 1)):=by rw[<-drop_cons hz,List.take_append_drop]
    rw[this,xm h1,kO hbb];rwa[h3]
   ·rwa[.inl Y]
  let Km:lX A.aO A.aF u bs I W _ (⇑ag+ 2* ⇑I) x r c ⇑S.a9 fp O H2 ag W:=⟨X,Dy,λ_ _ _ z=>z,by have:=Dy.two;ext⟩;rwa[⟨12,x,c.dx,12,X.ins,fx ⋯,12,p,_,t,112,p2.ins,aU T,T.gS,lg _ _,12,x,r,c,I,ag,W,⇑S.a9,fp,O,g.front,g.z1,2,X,Km.fits L,λns H3 b3 nd hn c3=>?_⟩];let YT:=Km.wake nd hn c3;let p3:dY A.aO H3 p t wa g:=⟨b3 _ _ npO p2.ins,b3 _ _ (X.jo p2.wo) p2.wo⟩;rwa[⟨12,x,c.dx,12,c3.ins,fx ⋯,12,p,_,t,112,p3.ins,aU T,T.hX,lh _ _,1212,x,r,c,I,11,⇑S.a9,fp,O,g.bC,-g.z1,2,c3,YT.fits L,λns2 H4 b4 UQ YV c4=>?_⟩];let YW:=YT.wake UQ YV c4;let G:Bt O H2 H4:=b3.trans b4 λb z=>.inl z
  let R4:ay A.aB H4 r u a':=h2.keep (λb o j e=>G b o (M b j) e) (λb xs e=>G b _ (X.jo e) e)
  let i4:CI u bs I (ag++ns++ns2) (gB (gB W g.front g.z1) g.bC (-g.z1)) (Pn u ⇑S.a9) none:=YW.i.ex λr' s n' w U ex=>by
   let⟨w1,n1⟩:=di.mp w;let⟨w2,n2⟩:=di.mp w1;rcases ex with ⟨Y,e2⟩|⟨Y,e2⟩|⟨m,hm,e⟩
   ·rwa[absurd ⟨by rw[Y],e2⟩ n2]
   ·rwa[absurd ⟨by rw[Y],e2⟩ n1]
   ·rwa[.inr ⟨m,by cbv,e⟩]
  rwa[⟨_,rfl,x,c.dx,_,rfl,c4.ins,fx (by decide),x,r,c,u,a',_,bs,I,_,_,_,⇑S.a9,fp,O,rfl,⟨c4,i4,λ_ _ _ z=>z,YW.b⟩,L,by rw[el,ajh];ext,R4,g2,w2.c,M,λU4 W5 H5 b5 h5=>?_⟩];let J:Bt O H2 H5:=G.trans b5 λb z=>.inl z
  rwa[k u a' _ U4 W5 H5 (λb o n1 n2 e=>J b o n1 (D b o n2 e)) h5.c ⟨h2.keep (λb o j e=>J b o (M b j) e) (λb xs e=>J b _ (X.jo e) e),g2,w2,C,[em]▸f.m,f.l,rb2,wb2⟩ YR h5.i (by have:=h5.b;omega) jx em eL (.step (.refl S) ra lay)]
def XE {x:V}{A B:Prop}(h:x=q)(k:B):if (!decide (x=q))=true then A else B:=by cbv
section
variable {CG CC:Zt}{H H':Hp}{x r:Zt}{c:KA}{gs:Zf}{ag:Zi}{W:bf}{hd:Nat}{fp:List (Zh×Nat)}{O:Zt->Prop}{gv:Zb}{n:Nat}{p dx wa:Zt}{g g':Gg}
def cx.XF (h:cx CG CC H x r c gs ag W hd fp O)(hG:H c.aG\.lst gv)(j:rn CG H gv gs O)(I:gv[n]?\↑p)(N:O p)(q:dY CG H p dx wa g)(f:∀b o,b≠p->H b\o->H' b\o)(L:dY CG H' p dx wa g'):cx CG CC H' x r c (gs.set n (some g')) ag W hd fp O/\rn CG H' gv (gs.set n (some g')) O:=by
 let kn:∀b o,(∀C d fs,o≠.ins C d fs)->H b\o->H' b\o:=λb o w e=>f b o (λz=>by rw[z,q.ins]at e;cbv) e
 let a:rn CG H' gv (gs.set n (some g')) O:=by
  rwa[⟨[ajJ]▸j.l,λi v y l=>?_,λi v u y l=>?_,j.i⟩]
  ·rcases eV l with ⟨_,z⟩|⟨_,z⟩
   ·ext z
   ·rwa[j.n i v y z]
  ·rcases eV l with ⟨z1,z⟩|⟨z1,z⟩
   ·cbv
   ·let⟨F,t,s,e,B,J⟩:=j.s i v u y z;let G:F≠p:=λz=>z1 (j.i i n p (by cbv) I)
    rwa[F,t,s,e,⟨f _ _ G B.ins,kn _ _ (by cbv) B.wo⟩,J]
 rwa[⟨⟨f _ _ (Dw h q).symm h.ins,⟨gv,kn _ _ (by cbv) hG,a⟩,kn _ _ (by cbv) h.hA,5,h.ne,h.ox,h.oG,h.oA,λb k=>?_⟩,a⟩]
 ·let⟨D,E,k1,k2⟩:=h.wt;rwa[D,E,k1.keep λb o k e=>by let⟨M,q⟩:=k1.there k;cbv,k2]
 ·cases e:b=p
  ·rwa[_,[e]▸L.ins,(by cbv),(by cbv),(by cbv),by cbv]
  ·let⟨o,q,m⟩:=h.th b k;rwa[o,f _ _ e q,m]
theorem cx.FL (h:cx CG CC H x r c gs ag W hd fp O)(hG:H c.aG\.lst gv)(f:rn CG H gv gs O)(M:gv[n]?\↑p)(q:dY CG H p dx wa g):cx CG CC (upd H c.aG (.lst (gv.set n .non))) x r c (gs.set n none) ag W hd fp (λb=>O b/\b≠p):=by
 let k:∀b o,b≠c.aG->H b\o->upd H c.aG (.lst (gv.set n .non)) b\o:=λb o n e=>by rw[ai n];rwa[e]
 let kn:∀b o,(∀s,o≠.lst s)->H b\o->upd H c.aG (.lst (gv.set n .non)) b\o:=λb o w e=>k b o (λz=>by cbv) e
 let I:∀{b s},H b\.lst s->b≠p:=λ{b s} e z=>by rw[z,q.ins]at e;ext e
 rwa[⟨kn _ _ (by cbv) h.ins,⟨_,aj,[ajJ,ajJ]▸f.l,λi v l d=>?_,λi v u l d=>?_,λi j R l d=>?_⟩,k _ _ h.ne.symm h.hA,5,h.ne,⟨h.ox,(Dw h q).symm⟩,⟨h.oG,I hG⟩,⟨h.oA,I h.hA⟩,λb a=>?_⟩]
 ·rcases eV l with ⟨z1,z⟩|⟨z1,z⟩
  ·rwa[z]
  ·rcases eV d with ⟨t,_⟩|⟨_,y⟩
   ·rwa[absurd t z1]
   ·rwa[f.n i v z y]
 ·rcases eV d with ⟨_,z⟩|⟨z1,z⟩
  ·ext z
  ·rcases eV l with ⟨t,_⟩|⟨_,y⟩
   ·rwa[absurd t z1]
   ·let⟨G,C,B,e,F,N⟩:=f.s i v u y z;let L:G≠p:=λw=>z1 (f.i i n p (by cbv) M)
    rwa[G,C,B,e,⟨kn _ _ (by cbv) F.ins,kn _ _ (by cbv) F.wo⟩,N,L]
 ·rcases eV l with ⟨_,z⟩|⟨_,z⟩
  ·ext z
  ·rcases eV d with ⟨_,y⟩|⟨_,y⟩
   ·ext y
   ·rwa[f.i i j R z y]
 ·let⟨D,E,k1,k2⟩:=h.wt;rwa[⟨D,E,k1.keep λb o a e=>by let⟨Q,q⟩:=k1.there a;cbv,λb a=>⟨k2.o b a,λz=>?_⟩,k2.d,k2.e,k2.w⟩];let⟨Q,J⟩:=k1.there a;rw[z,q.ins]at J;ext J
 ·cases e:b=c.aG
  ·rwa[_,[e]▸aj,(by cbv),(by cbv),(by cbv),by cbv]
  ·let⟨o,q,m⟩:=h.th b a.1;rwa[o,k _ _ e q,m]
end
structure Dz (ws:Za3) (nr:Nat) (ks:Zh) (bs:List (Nat×Zh×Nat)):Prop where
 w:∀b∈bs,ws[b.1]?\b.2.1
 n:∀b∈bs,b.1<nr\/b.2.2=0
 l:∀b∈bs,⇑b.2.1<=1000
 k:∀b∈bs,∀z∈b.2.1,z∈ks/\-z∈ks
 c:⇑bs<100000
def live (a:Zf):Nat:=a.countP (·.isSome)
def DB {a:Zf}{g:Gg}(h:a[n]?\some g):(∀u:Gg,live (a.set n (some u))=live a)/\live (a.set n none)+ 1=live a:=by
 unfold live
 induction a generalizing n with
 |nil=>simp at h
 |cons y r c=>
  cases n with
  |zero=>
   have:y\g:=by simpa using h
   subst this;simp[List.countP_cons]
  |succ n=>
   let⟨b,d⟩:=c (n:=n) (by simpa using h);simp only[List.set_cons_succ,List.countP_cons];rwa[λu=>by rw[b u],3]
inductive Kn (CR CG CC:Zt) (vs:Zb) (H:Hp) (Q:VK) (E_:XK):Prop
 |mk (x r:Zt) (c:KA) (S:RS) (a:RA) (R:Za2) (ks:Zh) (B:Nat) (ws:Za3) (nr:Nat) (bs:List (Nat×Zh×Nat)) (gs:Zf) (ag:Zi) (W:bf) (fp:List (Zh×Nat)) (O:Zt->Prop) (n:Nat):vs=[↑x,.int n]->cx CG CC H x r c gs ag W ⇑S.a9 fp O->i7 CR H r S a R ks B->B<900000->(∀b,a.own r b->¬O b)->CI S bs gs (ag++[n]) W fV none->Dz ws nr ks bs->⇑ag+ 2* ⇑gs<=1000000->(∀S' a' R' jh i6 W' O' B' H',(∀b o,¬O b->¬a.own r b->H b\o->H' b\o)->cx CG CC H' x r c jh i6 W' ⇑S'.a9 fp O'->i7 CR H' r S' a' R' ks B'->(∀b,a'.own r b->a.own r b\/H b=none)->(∀b,O' b->O b\/H b=none)->(∀b,a'.own r b->¬O' b)->CI S' bs jh i6 W' fV none->(∀a z b,R a z b->R' a z b)->S'.q=S.q->S'.L=S.L->Tr ws nr S S'->(live jh=live gs/\⇑i6=⇑ag/\B'=B)\/(live jh+ 1=live gs/\⇑i6<=⇑ag+ 2* ⇑gs/\B'<=B+ 1)->Q .non H')->Kn CR CG CC vs H Q E_
theorem wD (T:Txt K mg A):T.mn.Ok mg P w base 7 (Kn A.aB A.aO A.aF):=by
 rwa[T.mn.on ou (λb8 AA outer s H vs Q E hr h=>?_)]
 ·let⟨x,r,c,S,a,R,ks,B,ws,nr,bs,F,ag,W,fp,O,n,rfl,h,L,hB,dj,ci,m,YX,k⟩:=h
  refine⟨_,{bP 2 ou.nd ((0<<<1)|||1),bI (bh wR (pv 2) dk (bq _))
    {yz}
    bu,bI (bh mD (pm (0<<<1) (aH T) T.hM (iT T) hr #[2<<<1]) (2<<<1) (bq _))
    {sv dk (wL (0<<<1) (pv 1) set_list),yz}
    bu,aT (pm (pv 2) (aU T) T.ml (wB T) hr #[0<<<1]),bS (bI (bh mE (2<<<1) (2<<<1) (bq _))
    {aT (pm (pv 0) (aJ T) T.kj (pE T) hr #[1,2<<<1,(2<<<1)&&&(2<<<1)]),aT (pm (pv 0) (aJ T) T.kj (pE T) hr #[1,2<<<1,fm dJ ((2<<<1)&&&(2<<<1))])}
    {sv dk (wL (0<<<1) (pv 1) set_list),aT (pm (pv 0) (aJ T) T.pP (zi T) hr #[2])})},?_⟩
  rwa[qE ?_];intro oz jg fe fh;let J:n<⇑F:=ci.ab n (ajo _ (ajn.mpr rfl));let⟨I,hG,Z⟩:=h.hG;let hv:I[n]?\(I[n]'([Z.l]▸J)):=ajg _
  change I[n]'(by cbv)=v at hv;let gd:=L.g;erw[12,x,_,c.dx,112,h.ins,aJ T,T.jU,lW^_,12,c.aG,11,v,22,aI.of hG,cj hv];let f:F[n]?\(F[n]'J):=ajg J
  change F[n]'J=og at f
  cases og with
  |none=>
   obtain rfl:=Z.n n v hv f;rwa[⟨12212,dX ?_⟩];rwa[k S a R F ag W O B H (λ_ _ _ _ e=>e) h L (λb z=>.inl z) (λb z=>.inl z) dj (ci.pop.done f λb eb=>ci.de n b f (by cbv) eb) (λ_ _ _ z=>z) rfl rfl (.refl S) (.inl ⟨222⟩)]
  |some g=>
   let⟨p,i,wa,rfl,U,op⟩:=Z.s n v g hv f;let⟨Kl,gi,_⟩:=ci.al n g f;let D:=ajj Kl;let Kf:⇑g.word<=1000:=m.l _ D;let V:¬a.own r p:=λz=>dj p z op
   rwa[⟨12212,dA ?_⟩];erw[12,x,_,c.dx,112,h.ins,aJ T,T.fb,fY^_,r,a.dx,12,L.at_.ins,cL _ _ _ ⋯,12,p,_,i,112,U.ins,aU T,T.qZ,wA _ _,r,S,a,g.start,S.ax g.start,2,L.at_,tT ([gd.wf.e]▸gi.s),12,p,_,i,112,U.ins,aU T,T.qZ,wA _ _,212];let Y:∀b,a.own r b->¬(O b/\b≠p):=λb z y=>dj b z y.1
   cases es:S.ax g.start=g.start
   ·rwa[XE (by rw[es]) ?_];rwa[⟨12,p,i,12,U.ins,Pj ⋯,12,x,_,c.dx,112,h.ins,aJ T,T.fb,fY^_,p,i,wa,r,g,S,a,R,2,U,L.at_,gd,gi,V,Kf,λd j f1 l ad=>?_⟩];let R1:i7 A.aB j r S a R ks B:=L.keep (λb o hb e=>f1 b o (λz=>V (z ▸ hb)) e) (λb xs e=>f1 b _ (bN e U.ins (by cbv)) e);let⟨c1,gs1⟩:=h.XF hG Z hv op U f1 l;let YY:j c.aG\(.lst I):=f1 _ _ (bN hG U.ins (by cbv)) hG;let t:=ad.gi;let YK:=t.ll;let U6:=t.fl;let aco:⇑d.word<=1000:=by rw[ad.wo];rwa[Kf]
    let z1:=Gg.rJ (g:=d) ∅;let z2:=Gg.at2 (g:=d) YK;let ahY:(F.set n (some d))[n]?\(some d):=ajV J
    let lv:=DB f;let lm:=L.m;rwa[⟨λ_ H'=>Q .non H',5,λ_ _ q=>q⟩];erw[12,p,_,i,112,l.ins,aU T,T.e8,gW _ _,12,p,_,i,112,l.ins,aU T,T.iS,lj _ _,112212];rwa[bX (λq=>?_) (λq=>?_)]
    ·let q:(d.first:Int)<(d.last:Int):=ajM q;let bw:∀z∈d.word,-1000<=z/\z<=1000:=λz hz=>ci.bd _ D z (by rw[<-ad.wo];rwa[hz])
     let b1:=bw _ (ajj z1);let b2:=bw _ (ajj z2);let hf:=t.f;let hrr:=t.r;let YZ:n<100000:=by have:=ci.len;have:=m.c;ext
     rwa[⟨12,x,c.dx,12,c1.ins,fx ⋯,1212,p,_,i,112,l.ins,aU T,T.gS,lg _ _,12,p,_,i,112,l.ins,aU T,T.jT,k8 _ _,12,p,_,i,112,l.ins,aU T,T.e8,gW _ _,wa,11,.int d.z1,22,bz.of l.wo,cj (cP z1),x,r,c,_,ag,W,⇑S.a9,fp,O,n,d.front,d.z1,2,c1,3,YZ,b1,λO2 H2 Y0 f2 Pq DC u=>?_⟩];let M:dY A.aO H2 p i wa d:=⟨f2 _ _ (by cbv) l.ins,f2 _ _ (by cbv) l.wo⟩;rwa[⟨12,x,c.dx,12,u.ins,fx ⋯,1212,p,_,i,112,M.ins,aU T,T.hX,lh _ _,12,p,_,i,112,M.ins,aU T,T.jT,k8 _ _,12,p,_,i,112,M.ins,aU T,T.iS,lj _ _,wa,11,.int (-d.z2),22,bz.of M.wo,cj (cP z2),12,x,r,c,_,ag,_,⇑S.a9,fp,O2,n,d.bC,d.z2,(by cbv),u,3,YZ,3,λO3 H3 bt3 f3 Y1 nw3 c3=>?_⟩]
     let acp:∀b,O3 b->O b\/j b=none:=λb z=>by
      rcases nw3 b z with y|y
      ·rwa[DC b y]
      ·cases w:O b
       ·rwa[.inl w]
       ·rwa[.inr ?_]
        cases e:j b with
        |none=>rfl
        |some o=>rw[Y0 b o w e]at y;ext y
     let nw:∀b,O3 b->O b\/H b=none:=λb z=>by
      rcases acp b z with y|y
      ·rwa[.inl y]
      ·cases w:b=p
       ·cbv
       ·rwa[.inr ?_]
        cases e:H b with
        |none=>rfl
        |some o=>rw[f1 b o w e]at y;ext y
     let C:Bt O j H3:=Y0.trans bt3 DC
     let dj3:∀b,a.own r b->¬O3 b:=λb z y=>by
      rcases nw b y with w|w
      ·rwa[dj b z w]
      ·let⟨o,e⟩:=L.at_.there z;cbv
     rwa[k S a R _ ag _ O3 B H3 (λb o G _ e=>C b o G (f1 b o (λz=>G ([z]▸op)) e)) c3 (R1.keep (λb o hb e=>C b o (dj b hb) e) (λb xs e=>C b _ (c1.jo e) e)) (λb z=>.inl z) nw dj3 (ci.pop.waits f ad ∅) (λ_ _ _ z=>z) rfl rfl (.refl S) (.inl ⟨lv.1 d,22⟩)]
    ·let q:¬(d.first:Int)<(d.last:Int):=λz=>q (ajF z)
     let efl:d.first=d.last:=∅
     erw[12,x,_,c.dx,112,c1.ins,aJ T,T.jU,lW^_,12,c.aG,11,n,22,YY,uE ([Z.l]▸J)];let u:=c1.FL YY gs1 hv l;let kn:∀b o,(∀xs,o≠.lst xs)->j b\o->upd j c.aG (.lst (I.set n .non)) b\o:=λb o w e=>by rw[ai (λz=>by cbv)];rwa[e]
     let M:dY A.aO (upd j c.aG (.lst (I.set n .non))) p i wa d:=⟨kn _ _ (by cbv) l.ins,kn _ _ (by cbv) l.wo⟩;let X:¬a.own r c.aG:=λz=>dj _ z h.oG
     let R2:i7 A.aB (upd j c.aG (.lst (I.set n .non))) r S a R ks B:=R1.keep (λb o hb e=>[ai (λz=>X (by cbv))]▸e) (λb xs e=>kn _ _ (by cbv) e);let ess:(F.set n (some d)).set n none=F.set n none:=List.set_set ..;rw[ess]at u;let U9:∀b o,¬O b->H b\o->upd j c.aG (.lst (I.set n .non)) b\o:=λb o G e=>by rw[ai (λz=>G ([z]▸h.oG))];cbv
     let N:∀b,upd j c.aG (.lst (I.set n .non)) b=none->H b=none:=λb z=>by
      cases e:H b with
      |none=>rfl
      |some o=>
       cases w:O b
       ·cases y:b=p
        ·rw[y,M.ins]at z;ext z
        ·let⟨o2,e2,_⟩:=u.th b ⟨w,y⟩;cbv
       ·rw[U9 b o w e]at z;ext z
     change upd j c.aG _=H2 at u M R2 U9 N ⊢;rwa[⟨12,x,c.dx,12,u.ins,fx ⋯,12,x,r,p,i,wa,c,S,a,R,ks,B,ws,nr,bs,F.set n none,ag,W,fp,_,n,d,2,u,R2,hB,Y,ci.pop.kill,ajV J,by rw[Kl,ad.wh,ad.wo,ad.st],M,(λz=>z.2 rfl),V,t,efl,[ad.st]▸es,ad.ef,ad.er,[ad.wh,ad.wo]▸m.w _ D,[ad.wh,ad.st]▸m.n _ D,[ad.wo]▸m.k _ D,aco,[ajJ]▸YX,λS' a' R' i6 W' H' f3 c3 R3 o3 Va la rr em eL tr=>?_⟩];let o03:∀b,a'.own r b->a.own r b\/H b=none:=λb z=>(o3 b z).imp id (N b)
     rw[ajJ]at la;rwa[k S' a' R' _ i6 W' _ (B+ 1) H' (λb o G n2 e=>f3 b o (λz=>G z.1) n2 (U9 b o G e)) c3 R3 o03 (λb z=>.inl z.1) (λb z y=>?_) Va rr em eL tr (.inr ⟨lv.2,la,ajp _⟩)];rcases o3 b z with w|w
     ·rwa[Y b w y]
     ·let⟨o2,e2,_⟩:=u.th b y;cbv
   ·rwa[bX (λ_=>?_) (λz=>absurd (by cbv) z)];erw[12,x,_,c.dx,112,h.ins,aJ T,T.jU,lW^_,12,c.aG,11,n,22,hG,uE ([Z.l]▸J)];let u:=h.FL hG Z hv U;let X:¬a.own r c.aG:=λz=>dj _ z h.oG
    rwa[k S a R _ ag W _ B _ (λb o G _ e=>[ai (λz=>G ([z]▸h.oG))]▸e) u (L.keep (λb o hb e=>[ai (λz=>X (by cbv))]▸e) (λb xs e=>[ai (λz=>by cbv)]▸e)) (λb z=>.inl z) (λb z=>.inl z.1) Y (ci.pop.kill.done (ajV J) λb eb=>?_) (λ_ _ _ z=>z) rfl rfl (.refl S) (.inr ⟨(DB f).2,33⟩)]
    cbv
def _root_.Lake.L2.Tr.trans {ws:Za3}{c:RS}(h:Tr ws n S T)(k:Tr ws n T c):Tr ws n S c:=by
 induction k with
 |refl=>exact h
 |step _ a b d=>exact .step d a b
inductive DE (CR CG CC:Zt) (vs:Zb) (H:Hp) (Q:VK) (E_:XK):Prop
 |mk (x r:Zt) (c:KA) (S:RS) (a:RA) (R:Za2) (ks:Zh) (B:Nat) (ws:Za3) (nr:Nat) (bs:List (Nat×Zh×Nat)) (gs:Zf) (ag:Zi) (W:bf) (fp:List (Zh×Nat)) (O:Zt->Prop):vs=[↑x]->cx CG CC H x r c gs ag W ⇑S.a9 fp O->i7 CR H r S a R ks B->B+ live gs<900000->(∀b,a.own r b->¬O b)->CI S bs gs ag W fV none->Dz ws nr ks bs->live gs* (2* ⇑bs+ 1)+ ⇑ag+ 2* ⇑bs<=1000000->(∀S' a' R' jh W' O' B' H',(∀b o,¬O b->¬a.own r b->H b\o->H' b\o)->cx CG CC H' x r c jh [] W' ⇑S'.a9 fp O'->i7 CR H' r S' a' R' ks B'->(∀b,a'.own r b->a.own r b\/O b\/H b=none)->(∀b,O' b->O b\/a.own r b\/H b=none)->(∀b,a'.own r b->¬O' b)->CI S' bs jh [] W' fV none->(∀a z b,R a z b->R' a z b)->S'.q=S.q->S'.L=S.L->Tr ws nr S S'->B'+ live jh<=B+ live gs->Q .non H')->DE CR CG CC vs H Q E_
def mC (T:Txt K mg A):T.iQ.Ok mg P w base 8 (DE A.aB A.aO A.aF):=by
 rwa[T.iQ.on uQ (λb8 AA outer s H vs Q E hr h=>?_)]
 ·let⟨x,r,c,S,a,R,ks,B,ws,nr,bs,gs,ag,W,fp,O,rfl,h,hR,hB,dj,ci,hbs,hm,k⟩:=h
  refine⟨_,{bS (jt ajR (Bm (0<<<1) (λ_=>rfl))
   {aT (pm (pv 0) (aJ T) T.mn (wD T) hr #[Io ajy PySem.F.slot_list_pop PySem.F.type_list_pop Ip (0<<<1)])})},?_⟩
  let hgl:=ci.len;rwa[⟨λ_ H'=>Q .non H',5,λ_ _ q=>q⟩];erw[λm σ g=>∃j a2 R2 f d U F D,m=live f* (2* ⇑bs+ 1)+ ⇑d/\σ=#v[↑x]/\(∀b o,¬O b->¬a.own r b->H b\o->g b\o)/\cx A.aO A.aF g x r c f d U ⇑j.a9 fp F/\i7 A.aB g r j a2 R2 ks D/\(∀b,a2.own r b->a.own r b\/O b\/H b=none)/\(∀b,F b->O b\/a.own r b\/H b=none)/\(∀b,a2.own r b->¬F b)/\CI j bs f d U fV none/\(∀a z b,R a z b->R2 a z b)/\j.q=S.q/\j.L=S.L/\Tr ws nr S j/\D+ live f<=B+ live gs/\live f* (2* ⇑bs+ 1)+ ⇑d+ 2* ⇑bs<=1000000,⟨_,S,a,R,gs,ag,W,O,B,22,λ_ _ _ _ e=>e,h,hR,λb z=>.inl z,λb z=>.inl z,dj,ci,λ_ _ _ z=>z,22,.refl S,ajp _,hm⟩];rintro m σ g ⟨j,a2,R2,f,d,U,F,D,rfl,rfl,f2,i,r2,M,C,t,v,V,N,G,L,J,UK⟩;erw[12,x,_,c.dx,112,i.ins,aJ T,T.lU,pD^_,!(au (nI d)).isEmpty,.inl ⟨_,aI.of i.hA,2⟩];cases l:d=[]
  ·subst l;rwa[dA ?_];rwa[k j a2 R2 f U F D g f2 i r2 M C t v V N G L J]
  ·let u:=ak6 l;change d.getLast l=n at u;change d.dropLast=pre at u;subst u;rw[show (!(au (nI (pre++[n]))).isEmpty)=true by unfold au nI;simp];rwa[dX ?_];erw[_,λ_ _ z=>z];erw[12,x,c.dx,12,i.ins,fx ⋯,12,x,_,c.dx,112,i.ins,aJ T,T.lU,pD^_,.inl ⟨21,aI.of i.hA⟩,c.aA,_,.int (n:Int),22,i.hA,5]
   ·rw[aP,bW,ajh];rwa[cP (j0 (by show (pre++[n])[⇑pre+ 1 - 1]?\n;rw[Nat.add_sub_cancel,ajv (ajp _),ak4];rfl))]
   let UO:(au (nI (pre++[n]))).dropLast=au (nI pre):=by rw[jc,ints_app];rwa[List.dropLast_concat]
   rw[UO];let c3:=i.agenda pre;let noA:¬a2.own r c.aA:=λz=>t _ z i.oA
   let Z:∀b o,b≠c.aA->g b\o->upd g c.aA (.lst (au (nI pre))) b\o:=λb o Y e=>by rw[ai Y];rwa[e]
   let r3:i7 A.aB (upd g c.aA (.lst (au (nI pre)))) r j a2 R2 ks D:=r2.keep (λb o hb e=>Z b o (λz=>noA (by cbv)) e) (λb xs e=>Z b _ (λz=>by rw[z,i.hA]at e;ext e) e)
   let I:∀b,upd g c.aA (.lst (au (nI pre))) b=none->g b=none:=λb z=>by
    cases e:b=c.aA
    ·rw[e,aj]at z;ext z
    ·rw[ai e]at z;rwa[z]
   change upd g c.aA _=H3 at c3 Z r3 I ⊢;let ln2:=v.len;rw[ajh]at UK;have:⇑([n]:Zi)=1:=rfl
   let th2:∀b,g b=none->a.own r b\/O b\/H b=none:=λb z=>by
    cases w:a.own r b
    ·rwa[.inl w]
    ·cases w2:O b
     ·rwa[.inr (.inl w2)]
     ·rwa[.inr (.inr ?_)]
      cases e:H b with
      |none=>rfl
      |some o=>rw[f2 b o w2 w e]at z;ext z
   rwa[⟨x,r,c,j,a2,R2,ks,D,ws,nr,bs,f,pre,U,fp,F,n,2,c3,r3,3,t,v,hbs,3,λS4 a4 R4 p X W4 O4 B4 H4 f4 c4 r4 Vb oo4 dj4 FN rr4 em4 eL4 tr4 ms=>?_⟩];let ow:∀b,a4.own r b->a.own r b\/O b\/H b=none:=λb z=>(Vb b z).elim (M b) λw=>th2 b (I b w)
   let oo:∀b,O4 b->O b\/a.own r b\/H b=none:=λb z=>(oo4 b z).elim (C b) λw=>by
    cbv
   let y:B4+ live p<=B+ live gs/\live p* (2* ⇑bs+ 1)+ ⇑X<live f* (2* ⇑bs+ 1)+ ⇑(pre++[n]):=by
    rw[ajh];rcases ms with ⟨e1,e2,e3⟩|⟨e1,e2,e3⟩
    ·rw[e1,e2,e3];rwa[J,3]
    ·rw[<-e1,amA];rwa[33]
   rwa[⟨_,y.2,S4,a4,R4,p,X,W4,O4,B4,22,λb o Y n2 e=>?_,c4,r4,ow,oo,dj4,FN,λa z b q=>rr4 _ _ _ (V _ _ _ q),em4.trans N,eL4.trans G,L.trans tr4,y.1,by have:=y.2;rw[ajh]at this;ext⟩];rwa[f4 b o (λz=>?_) (λz=>?_) (Z b o (λz=>Y ?_) (f2 b o Y n2 e))]
   ·cbv
   ·cbv
   ·subst z;rcases C c.aA i.oA with w|w|w
    ·rwa[w]
    ·cbv
    cbv
theorem _root_.Lake.L2.CI.begin {bs:List (Nat×Zh×Nat)}{gs:Zf}{W:bf}{t:Nat->Int->Prop}(h:CI S bs gs B W t none){which m:Nat}{word:Zh}(D:word≠[])(l:m<S.q)(x:∀z∈word,-1000<=z/\z<=1000):CI S (bs++[(which,word,m)]) (gs++[some (Ae which word m)]) (B++[⇑gs]) W t none:=by
 let E:=List.length_pos_iff.mpr D
 let old:∀{k:Nat} {y:Option Gg},(gs++[some (Ae which word m)])[k]?\y->(k<⇑gs/\gs[k]?\y)\/(k=⇑gs/\y\Ae which word m):=λ{k y} e=>by
  cases a:k<⇑gs
  ·rw[ajs a]at e;rwa[.inl ⟨a,e⟩]
  ·rw[ajv ∅]at e;have:=(aji.mp e).1;let f:k=⇑gs:=by simp at this;ext
   subst f;rw[ak4]at e;rwa[.inr ⟨2,(Za0 e).symm⟩]
 let c:∀{k:Nat},k<⇑gs->(bs++[(which,word,m)])[k]?=bs[k]?:=λ{k} a=>ajs (by rw[<-h.len];rwa[a])
 rwa[⟨by rw[ajh,ajh,h.len];rfl,λk g e=>?_,λk b e G o=>?_,λk a=>?_,λr s k q=>?_,λk=>?_,λb n=>?_⟩]
 ·rcases old e with ⟨a,e⟩|⟨a,e⟩
  ·let⟨j,i,F⟩:=h.al k g e;rwa[[c a]▸j,i,F.imp (ajG _) id]
  ·ext e;rwa[⟨5,⟨ajU _,by show ⇑word - 1<⇑word;ext,l,l,l,25⟩,.inl (ajo _ (ajn.mpr a))⟩]
   ·rw[ajv ([a,h.len]▸ajp _),a,h.len,ak4];rfl
   ·show wk S.by _ (word.drop (⇑word - 1+ 1))=_;rw[show ⇑word - 1+ 1=⇑word by ext,List.drop_length];rfl
 ·rcases old e with ⟨a,e⟩|⟨a,e⟩
  ·rw[c a]at o;rwa[h.de k b e G o]
  ·ext e
 ·rw[ajh];rcases ajr.mp a with q|q
  ·have:=h.ab k q;show k<_+ 1;ext
  ·rw[ajn.mp q];show _<_+ 1;ext
 ·let⟨v,d,H,C,I,J,u⟩:=h.en r s k q;rwa[v,d,H,C,I,by rw[ajh];show d<_+ 1;ext,u]
 ·cases a:k<⇑gs
  ·let⟨p,q,j,i⟩:=h.sl k;rwa[⟨p,q,j,λg e=>i g ?_⟩];rw[ajs a]at e;rwa[e]
  ·rwa[⟨((Ae which word m).front,(Ae which word m).z1),((Ae which word m).bC,(Ae which word m).z2),λr s w=>?_,λg e=>?_⟩]
   ·let⟨_,d,_,e,_,E,_⟩:=h.en r s k w;ext
   cbv
 ·rcases ajr.mp n with q|q
  ·rwa[h.bd b q]
  ·rw[ajn.mp q];rwa[x]
def cx.XG {x:Zt}{l:KA}{gs:Zf}{W:bf}{hd:Nat}{Q:List (Zh×Nat)}{O:Zt->Prop}{dx X:Zt}{g:Gg}(h:cx a b H x c l gs B W hd Q O)(hG:H l.aG\.lst L)(r:rn a H L gs O)(np:H d=none)(s:ao H I)(q:dY a I d dx X g):cx a b (upd I l.aG (.lst (L++[↑d]))) x c l (gs++[some g]) B W hd Q (Jh O d):=by
 let k:∀f o,f≠l.aG->I f\o->upd I l.aG (.lst (L++[↑d])) f\o:=λf o n e=>by rw[ai n];rwa[e]
 let kn:∀f o,(∀Z,o≠.lst Z)->I f\o->upd I l.aG (.lst (L++[↑d])) f\o:=λf o w e=>k f o (λz=>by rw[z,s^hG]at e;cbv) e
 let fresh:∀(i:Nat),L[i]?≠some ↑d:=λi e=>by
  let t:i<⇑gs:=by rw[<-r.l];rwa[(aji.mp e).1]
  cases U:gs[i]? with
  |none=>cbv
  |some y=>
   cases y with
   |none=>cases r.n i _ e U
   |some u=>
    let⟨T,_,_,F,G,_⟩:=r.s i _ u e U;ext F;have:=G.ins;cbv
 let old:∀{i:Nat} {v:V},(L++[↑d])[i]?\v->(i<⇑L/\L[i]?\v)\/(i=⇑L/\v=↑d):=λ{i v} e=>by
  cases R:i<⇑L
  ·rw[ajs R]at e;rwa[.inl ⟨R,e⟩]
  ·rw[ajv ∅]at e;have:=(aji.mp e).1;let J:i=⇑L:=by simp at this;ext
   subst J;rw[ak4]at e;rwa[.inr ⟨2,(Za0 e).symm⟩]
 rwa[⟨kn _ _ (by cbv) (s^h.ins),⟨_,aj,by rw[ajh,ajh,r.l];rfl,λi v F p=>?_,λi v u F p=>?_,λi j p' F p=>?_⟩,k _ _ h.ne.symm (s^h.hA),5,h.ne,.inl h.ox,.inl h.oG,.inl h.oA,λf C=>?_⟩]
 ·rcases old F with ⟨t,e⟩|⟨t,e⟩
  ·rw[ajs (by rw[<-r.l];rwa[t])]at p;rwa[r.n i v e p]
  ·rw[t,r.l,ajv (ajp _),ak4]at p;cases Za0 p
 ·rcases old F with ⟨t,e⟩|⟨t,e⟩
  ·rw[ajs (by rw[<-r.l];rwa[t])]at p;let⟨T,N,M,e3,G,Y⟩:=r.s i v u e p;rwa[T,N,M,e3,⟨kn _ _ (by cbv) (s^G.ins),kn _ _ (by cbv) (s^G.wo)⟩,.inl Y]
  ·rw[t,r.l,ajv (ajp _),ak4]at p;cases Za0 p;rwa[d,dx,X,e,⟨kn _ _ (by cbv) q.ins,kn _ _ (by cbv) q.wo⟩,.inr rfl]
 ·rcases old F with ⟨t,e⟩|⟨t,e⟩
  ·rcases old p with ⟨hj,S⟩|⟨hj,S⟩
   ·rwa[r.i i j p' e S]
   cbv
  cbv
 ·let⟨D,E,k1,k2⟩:=h.wt;rwa[D,E,(k1.same s).keep λf o C e=>by let⟨kv,q⟩:=(k1.same s).there C;cbv,λf C=>.inl (k2.o f C),k2.d,k2.e,k2.w]
 ·rcases C with C|C
  ·cases e:f=l.aG
   ·rwa[⟨_,by rw[e];rwa[aj],(by cbv),(by cbv),(by cbv),by cbv⟩]
   ·let⟨o,q,m⟩:=h.th f C;rwa[o,k _ _ e (s^q),m]
  ·rw[C];rwa[_,kn _ _ (by cbv) q.ins,(by cbv),(by cbv),(by cbv),by cbv]
noncomputable def nz (b:Nat)(a:Zh)(m:Nat):List (Nat×Zh×Nat):=if a=[] then [] else [(b,a,m)]
inductive FP (CR CG CC:Zt) (vs:Zb) (H:Hp) (Q:VK) (E_:XK):Prop
 |mk (x r wa:Zt) (c:KA) (S:RS) (bs:List (Nat×Zh×Nat)) (gs:Zf) (ag:Zi) (W:bf) (hd:Nat) (fp:List (Zh×Nat)) (O:Zt->Prop) (Ex:Nat->Int->Prop) (which m:Nat) (word:Zh):vs=[↑x,.int which,↑wa,.int m]->cx CG CC H x r c gs ag W hd fp O->CI S bs gs ag W Ex none->H wa\.tup (au word)->⇑word<=1000->(∀z∈word,-1000<=z/\z<=1000)->m<S.q->⇑bs<100000->⇑ag<=⇑bs->(∀jh i6 O' H',Bt O H H'->(∀b,O b->O' b)->(∀b,O' b->O b\/H b=none)->cx CG CC H' x r c jh i6 W hd fp O'->CI S (bs++nz which word m) jh i6 W Ex none->⇑i6<=⇑(bs++nz which word m)->Q .non H')->FP CR CG CC vs H Q E_
def oB (T:Txt K mg A):T.jn.Ok mg P w base 3 (FP A.aB A.aO A.aF):=by
 rwa[T.jn.on wq (λb8 AA I s H vs Q E hr h=>?_)]
 ·let⟨x,r,X,c,S,bs,l,j,W,hd,fp,O,Ex,d,m,a,rfl,h,ci,g,D,F,hm,Z,N,k⟩:=h
  refine⟨_,{bS (bI (bh NX (2<<<0) av (bq _))
   {aT (df ajy ajB ajC bK (0<<<1) #[(0<<<1)<<<0]),aT (df ajy ajB ajC bK (0<<<1) #[ug (wj T) (uU T) hr.Za5 rfl T.Q6 T.gE.b .nil fK #[1,2,3]])}
   bu)},?_⟩
  let hgl:=ci.len;rwa[⟨λ_ H'=>Q .non H',5,λ_ _ q=>q⟩];erw[12,X,12,.inr (bz.of g),112212];rwa[bX (λq=>?_) (λq=>?_)]
  ·let q:(0:Int)<(⇑(au a):Int):=ajM q;rw[aP]at q;let f:a≠[]:=λz=>by cbv
   let⟨gv,hG,hs⟩:=h.hG;erw[12,x,_,c.dx,112,h.ins,aJ T,T.lU,pD^_,.inl ⟨21,aI.of h.hA⟩,12,x,_,c.dx,112,h.ins,aJ T,T.jU,lW^_,c.aG,12,.inl (aI.of hG),c.aA,1122,h.hA,5]
   ·rw[aP,bW];rwa[ajt (show ⇑j<=100000 by omega) ⋯]
   let ea:au (nI j)++[V.int (⇑gv:Int)]=au (nI (j++[⇑l])):=by rw[jc,ints_app,hs.l];rfl
   rw[ea];let B:=h.agenda (j++[⇑l]);let C:∀b o,b≠c.aA->H b\o->upd H c.aA (.lst (au (nI (j++[⇑l])))) b\o:=λb o n e=>by rw[ai n];rwa[e]
   let Y:∀b,upd H c.aA (.lst (au (nI (j++[⇑l])))) b=none->H b=none:=λb z=>by
    cases e:b=c.aA
    ·rw[e,aj]at z;ext z
    ·rw[ai e]at z;rwa[z]
   change upd H c.aA _=L at B C Y ⊢;let v:=C _ _ (bN g h.hA (by cbv)) g;let⟨gv1,i,t⟩:=B.hG;rwa[⟨12,x,_,c.dx,112,B.ins,aJ T,T.jU,lW^_,.inl ⟨21,aI.of i⟩,121212,λp R y G J=>?_⟩];let U:ao L (upd (upd L R (.own p)) p (.ins A.aO R [])):=(ao.upd G).trans (ao.upd ([ai J.symm]▸y));rwa[⟨p,R,X,d,m,a,2,aj,U^v,3,D,λH3 f3 g3=>⟨25⟩⟩];let M:ao L H3:=λb o e=>f3 b o (U^e) (aw e y)
   erw[c.aG,1122,M^i,([t.l]▸ajt (show ⇑l<=100000 by omega) ⋯)];let u:nz d a m=[(d,a,m)]:=ajw f;rwa[k _ _ (Jh O p) _ (λb o n e=>?_) (λb z=>.inl z) (λb z=>z.imp id λw=>[w]▸Y p y) (B.XG i t y M g3) ([u]▸ci.begin f hm F) (by rw[u,ajh,ajh];show _+ 1<=_+ 1;omega)];rw[ai (λz=>n ([z]▸h.oG))];rwa[M^(C b o (λz=>n ([z]▸h.oA)) e)]
  ·let q:¬(0:Int)<(⇑(au a):Int):=λz=>q (ajF z)
   rw[aP]at q;let f:a=[]:=List.length_eq_zero_iff.mp ∅;let u:nz d a m=[]:=ajD f;rwa[k l j O H (λ_ _ _ e=>e) (λb z=>z) (λb z=>.inl z) h ([u,ajQ]▸ci) ([u,ajQ]▸N)]
def gJ (a:List (Zh×Nat))(m:Nat):List (Nat×Zh×Nat):=a.flatMap λp=>nz p.2 p.1 m
def Pu (w:Nat)(u:Zh)(m:Nat):⇑(nz w u m)<=1:=by
 unfold nz;split
 ·rwa[ajU _]
 ·rwa[ajp _]
theorem rq (m:Nat):∀a:List (Zh×Nat),⇑(gJ a m)<=⇑a
 |[]=>ajp _
 |p::l=>by
  have:=rq m l;have:=Pu p.2 p.1 m;unfold gJ at *;rw[List.flatMap_cons,ajh,ajO];ext
def Ko {a:List (Zh×Nat)}{p:Zh×Nat}(h:a[i]?\p)(m:Nat):gJ (a.take (i+ 1)) m=gJ (a.take i) m++nz p.2 p.1 m:=by
 unfold gJ;rw[akx,h,alG];show _++(nz p.2 p.1 m++[])=_;rw[ajQ]
def Vc {a:List (Zh×Nat)}{b:Zd×V}(h:(i5 a)[i]?\b):∃p,a[i]?\p/\b=(p.1.map Sum.inl,.int p.2):=by
 unfold i5 at h
 cbv
inductive Kq (CR CG CC:Zt) (vs:Zb) (H:Hp) (Q:VK) (E_:XK):Prop
 |mk (x r:Zt) (c:KA) (S:RS) (bs:List (Nat×Zh×Nat)) (gs:Zf) (ag:Zi) (W:bf) (hd:Nat) (fp:List (Zh×Nat)) (O:Zt->Prop) (Ex:Nat->Int->Prop) (m:Nat):vs=[↑x,.int m]->cx CG CC H x r c gs ag W hd fp O->H c.aQ\.dT (i5 fp)->CI S bs gs ag W Ex none->(∀p∈fp,⇑p.1<=1000/\∀z∈p.1,-1000<=z/\z<=1000)->m<S.q->⇑bs+ ⇑fp<100000->⇑ag<=⇑bs->(∀jh i6 O' H',Bt O H H'->(∀b,O b->O' b)->(∀b,O' b->O b\/H b=none)->cx CG CC H' x r c jh i6 W hd fp O'->CI S (bs++gJ fp m) jh i6 W Ex none->⇑i6<=⇑(bs++gJ fp m)->Q .non H')->Kq CR CG CC vs H Q E_
def ji (T:Txt K mg A):T.fq.Ok mg P w base 4 (Kq A.aB A.aO A.aF):=by
 rwa[T.fq.on fX (λb8 AA outer s H vs Q E hr h=>?_)]
 ·let⟨x,r,c,S,bs,gs,ag,W,hd,f,O,Ex,m,rfl,h,I,ci,hfp,hm,FQ,Vd,k⟩:=h
  refine⟨_,{uo (cX ajR rfl (Xc (0<<<1) rfl rfl) (pW rfl (eA (fL 2 fX.nd) (eA (fL 3 fX.nd) mR)))
   {aT (pm (pv 0) (aJ T) T.jn (oB T) hr #[3,2,1])})},?_⟩
  let Z:¬O c.aQ:=h.Kg I;let nxQ:x≠c.aQ:=bN h.ins I (by cbv);rwa[⟨c.aQ,_,I,trivial,12,x,_,c.dx,112,h.ins,aJ T,T.C2,Nr^_,c.aQ,i5 f,2,I,λN=>?_⟩];let k0:∀b o,b≠c.aQ->H b\o->upd H c.aQ (.cq N (.dT (i5 f))) b\o:=λb o n e=>by rw[ai n];rwa[e]
  let h0:cx A.aO A.aF (upd H c.aQ (.cq N (.dT (i5 f)))) x r c gs ag W hd f O:=h.keep (λb o R e=>k0 b o (λz=>Z (by cbv)) e) (λb xs e=>k0 b _ (bN e I (by cbv)) e)
  refine Tq (d:=c.aQ) (o:=N) (kvs:=i5 f) (λi X B=>∃g a v v2 v3,X=#v[↑x,.int (m:Int),v2,v3]/\B c.aQ\.cq N (.dT (i5 f))/\(∀b o,b≠c.aQ->¬O b->H b\o->B b\o)/\(∀b,O b->v b)/\(∀b,v b->O b\/H b=none)/\cx A.aO A.aF B x r c g a W hd f v/\CI S (bs++gJ (f.take i) m) g a W Ex none/\⇑a<=⇑(bs++gJ (f.take i) m))
   ⟨gs,ag,O,none,none,2,aj,λb o n _ e=>k0 b o n e,λb z=>z,λb z=>.inl z,h0,by rw[List.take_zero];show CI S (bs++[]) _ _ _ _ _;rw[ajQ];rwa[ci],by cbv⟩ (λi X B _ q0=>by let⟨_,_,_,_,_,_,q,_⟩:=q0;rwa[q]) ?_ ?_
  ·rintro i kv X B t kp hkv nt D ⟨g,a,v,v2,v3,rfl,U,V,C,j,c5,u,l⟩;let⟨p,hp,rfl⟩:=Vc hkv;let hi:=(aji.mp hp).1
   replace D:B kp\(.tup (au p.1)):=by
    rw[D];show some (HO.tup (((p.1.map (Sum.inl:Int->Key)).map kV)))=_;rw[aj8];rfl
   let F:=ao.upd (o:=.tup [↑kp,.int (p.2:Int)]) nt;erw[t,12,bz.of aj,21121122];change upd B t _=H6 at F ⊢;let R:=hfp p (ajj hp);let bl:=rq m (f.take i);rw[ajN]at bl;let c6:=c5.same F;rwa[⟨12,x,c.dx,12,c6.ins,fx ⋯,121212,x,r,kp,c,S,_,g,a,W,hd,f,v,Ex,p.2,m,p.1,2,c6,u,F^D,R.1,R.2,hm,by rw[ajh];ext,l,λY ag7 O7 H7 M le7 nw7 c7 J L=>?_⟩];let G:¬v c.aQ:=λz=>(j _ z).elim Z λq=>by cbv
   rw[ajZ,<-Ko hp]at J L;rwa[⟨Y,ag7,O7,112,M _ _ G (F^U),λb o n1 n2 e=>M b o (λz=>(j b z).elim n2 λq=>by cbv) (F^V b o n1 n2 e),λb z=>le7 b (C b z),λb z=>?_,c7,J,L⟩];rcases nw7 b z with w|w
   ·rwa[j b w]
   ·cases y:O b
    ·rwa[.inl y]
    ·rwa[.inr ?_]
     cases e:H b with
     |none=>rfl
     |some o=>
      cases y2:b=c.aQ
      ·rw[y2,F^U]at w;ext w
      ·rw[F^V b o y2 y e]at w;ext w
  ·rintro X B ⟨g,a,v,v2,v3,rfl,U,V,C,j,c5,u,l⟩;rw[show ⇑(i5 f)=⇑f by unfold i5;cbv,aky]at u l;let G:¬v c.aQ:=λz=>(j _ z).elim Z λq=>by cbv
   rwa[⟨N,U,k g a v _ (λb o n e=>?_) C j (c5.keep (λb o R e=>[ai (λz=>G (by cbv))]▸e) (λb xs e=>[ai (λz=>by cbv)]▸e)) u l⟩];cases z:b=c.aQ
   ·rw[z,aj,<-I,<-z];rwa[e]
   ·rw[ai z];rwa[V b o z n e]
noncomputable def Ve (r:Zt):List (Str×V):=[("rooms",↑r)]
noncomputable def Vf (r q:Zt):List (Str×V):=[("rooms",↑r),("rules",↑q)]
noncomputable def Vg (r q g:Zt):List (Str×V):=[("rooms",↑r),("rules",↑q),("goings",↑g)]
noncomputable def Vh (r q g e:Zt):List (Str×V):=[("rooms",↑r),("rules",↑q),("goings",↑g),("agenda",↑e)]
noncomputable def Vi (r q g e w:Zt):List (Str×V):=[("rooms",↑r),("rules",↑q),("goings",↑g),("agenda",↑e),("waiting",↑w)]
noncomputable def Y2 (r q g e w:Zt)(n:Int):List (Str×V):=[("rooms",↑r),("rules",↑q),("goings",↑g),("agenda",↑e),("waiting",↑w),("heard",.int n)]
def cz2 (r q:Zt):bH "rules" ↑q (Ve r)=Vf r q:=cU (by kernel_rfl)
def cz3 (r q g:Zt):bH "goings" ↑g (Vf r q)=Vg r q g:=cU (by kernel_rfl)
def cz4 (r q g e:Zt):bH "agenda" ↑e (Vg r q g)=Vh r q g e:=cU (by kernel_rfl)
def cz5 (r q g e w:Zt):bH "waiting" ↑w (Vh r q g e)=Vi r q g e w:=cU (by kernel_rfl)
def cz6 (r q g e w:Zt)(n:Int):bH "heard" (.int n) (Vi r q g e w)=Y2 r q g e w n:=cU (by kernel_rfl)
def kat_nil {k:Zt}(h:H k\.dK []):cy H k (λ_=>none) (λ_ _=>none) (λ_ _ _=>false):=⟨⟨[],h,by simp,(λa z=>by ext z),λ_=>rfl⟩,(λ_ _ z=>by ext z),(λ_ _ _ z=>by ext z),(λ_ _ _ z=>by ext z),(λ_ _ _ z=>by ext z),(λ_ _ z=>by ext z),(λ_ _ _ z=>by ext z),(λ_ _ _ z=>by ext z),(λ_ _ _ _ z=>by ext z),(λ_ _ _ _ _ z=>by ext z)⟩
def dh (S:RS):Zi:=(~~~S.q).filter λc=>decide (S.aX[c]?\c)
def dG (a:List (Zh×Nat))(st:Zi):List (Nat×Zh×Nat):=st.flatMap λm=>gJ a m
def fS (a:Za3)(b i:Nat):List (Nat×Zh×Nat):=(~~~i).flatMap λj=>nz (b+ j) (a.getD j []) 0
theorem mK (a:List (Zh×Nat)):∀st:Zi,⇑(dG a st)<=⇑st* ⇑a
 |[]=>ajU _
 |m::st=>by
  have:=mK a st;have:=rq m a;unfold dG at *;rw[List.flatMap_cons,ajh,ajO,amA];ext
theorem tV (a:Za3)(b:Nat):∀i,⇑(fS a b i)<=i
 |0=>ajp _
 |i+ 1=>by
  have:=tV a b i;have:=Pu (b+ i) (a.getD i []) 0;unfold fS at *;rw[ak3,alG,ajh];show _+ ⇑(nz _ _ 0++[])<=_;rw[ajQ];ext
def tW:bf:=λ_ _ _=>false
def Vj:CI S [] [] [] tW fV none:=⟨2,(λn g e=>by simp at e),(λn b e=>by simp at e),(λn z=>by ext z),(λr s n z=>by ext z),λn=>⟨(0,0),(0,0),(λr s z=>by ext z),λg e=>by simp at e⟩,(λb z=>by ext z)⟩
inductive Kr (CR CG CC:Zt) (vs:Zb) (H:Hp) (Q:VK) (E_:XK):Prop
 |mk (x dx r ru pa:Zt) (S:RS) (a:RA) (R:Za2) (rs ps:Za3):vs=[↑x,↑r,↑ru,↑pa]->H x\.ins CC dx []->ay CR H r S a->Good S [] R->0<S.q->S.q<=2000->¬a.own r x->bp H ru rs->bp H pa ps->⇑rs<=400->⇑ps<=400->(∀u∈rs++ps,⇑u<=1000/\∀z∈u,-1000<=z/\z<=1000)->(∀fp,zg rs fp->S.q* ⇑fp+ ⇑ps<50000)->(∀c gs ag fp O H',(∀b o,H b\o->b≠x->H' b\o)->cx CG CC H' x r c gs ag tW ⇑S.a9 fp O->H' c.aQ\.dT (i5 fp)->(∀b,O b->b=x\/H b=none)->CI S (dG fp (dh S)++fS ps ⇑rs ⇑ps) gs ag tW fV none->⇑ag<=⇑(dG fp (dh S)++fS ps ⇑rs ⇑ps)->zg rs fp->Q .non H')->Kr CR CG CC vs H Q E_
def sj (T:Txt K mg A):T.eY.Ok mg P w base 5 (Kr A.aB A.aO A.aF):=by
 rwa[T.eY.on fu (λb8 AA outer s H vs Q E hr h=>?_)]
 ·let⟨x,L,r,ru,pa,S,a,R,rs,ps,rfl,hx,hR,gd,hm0,hm,DF,Ks,rZ,Ac,sO,Y3,DG,k⟩:=h
  refine⟨_,{bL (pv 0) (pv 1) rfl,bL (pv 0) (pc T.nY (yl T) hr #[2]) rfl,bL (pv 0) (cH ak) rfl,bL (pv 0) (cH ak) rfl,bL (pv 0) c9 rfl,bL (pv 0) ((1<<<1)<<<0) rfl,cX ajR rfl (dZ (xB (pv 1) (aH T) T.eT (gq T) hr)) (fL 4 fu.nd)
    {aT (pm (pv 0) (aJ T) T.fq (ji T) hr #[4])},cX ajR rfl (Jg rfl T.lD (pv 3) (2<<<0) rfl rfl) (pW rfl (eA (fL 5 fu.nd) (eA (fL 6 fu.nd) mR)))
    {aT (pm (pv 0) (aJ T) T.jn (oB T) hr #[5,6,av])}},?_⟩
  rwa[B7 ?_];intro OS FE rX oz jg fe fh;let⟨Kt,Pw,FT⟩:=id Ks;let⟨I,Ag,Vk⟩:=id rZ
  let st:∀{H0:Hp} {fs gs:List (Str×V)},H0 x\.ins A.aF L fs->(∀b o,H b\o->b≠x->H0 b\o)->upd H0 x (.ins A.aF L gs) x\.ins A.aF L gs/\(∀b o,H b\o->b≠x->upd H0 x (.ins A.aF L gs) b\o)/\(∀b o,b≠x->H0 b\o->upd H0 x (.ins A.aF L gs) b\o)/\∀b,upd H0 x (.ins A.aF L gs) b=none->H0 b=none:=λ_ h=>⟨aj,λb o e n=>[ai n]▸h b o e n,λb o n e=>[ai n]▸e,λb z=>by
   cases e:b=x
   ·rw[e,aj]at z;ext z
   ·rw[ai e]at z;rwa[z]⟩
  let o0:∀b o,H b\o->b≠x->H b\o:=λb o e _=>e
  let FU:ru≠x:=bN Pw hx f!"";let Ku:pa≠x:=bN Ag hx f!"";erw[1212,x,_,L,12,hx,aJ T,T.fb,(by show 0<1000;decide)];rw[show bH "rooms" ↑r []=Ve r from rfl];obtain⟨x1,o1,-,n1⟩:=st (gs:=Ve r) hx o0;change upd H x _=H1 at x1 o1 n1 ⊢;let Y4:bp H1 ru rs:=⟨Kt,o1 _ _ Pw FU,FT.1,λi q u e1 e2=>o1 _ _ (FT.2 i q u e1 e2) (bN (FT.2 i q u e1 e2) hx f!"")⟩;rwa[⟨12,ru,rs,2,Y4,3,λq d H2 s2 nq hq Vl=>?_⟩];let x2:=s2^x1;let o2:∀b o,H b\o->b≠x->H2 b\o:=λb o e n=>s2^o1 b o e n
  let n2:∀b,H2 b=none->H b=none:=λb z=>n1 b (same_none s2 z)
  erw[12,x,_,L,12,x2,aJ T,T.C2,(by show 1<1000;decide)];rw[cz2];let Kv:q≠x:=bN hq x2 f!"";let⟨x3,o3,k3,n3⟩:=st (gs:=Vf r q) x2 o2;change upd H2 x _=X at x3 o3 k3 n3 ⊢;let q3:=k3 _ _ Kv hq;rwa[⟨ajU _,λg ng=>?_⟩];let M:=ao.upd (o:=.lst []) ng;let g4:upd X g (.lst []) g\(.lst []):=aj;let n4:∀b,upd X g (.lst []) b=none->H b=none:=λb z=>n2 b (n3 b (same_none M z))
  let Y5:=n2 g (n3 g ng);change upd X g _=H4 at M g4 n4 ⊢;erw[12,x,_,L,12,M^x3,aJ T,T.jU,(by show 2<1000;decide)];rw[cz3];let⟨x5,o5,k5,n5⟩:=st (gs:=Vg r q g) (M^x3) (λb o e n=>M^o3 b o e n);change upd H4 x _=H5 at x5 o5 k5 n5 ⊢;let Kw:g≠x:=bN g4 (M^x3) f!"";let q5:=k5 _ _ Kv (M^q3);let g5:=k5 _ _ Kw g4;rwa[⟨ajU _,λe ne=>?_⟩];let s6:=ao.upd (o:=.lst []) ne;let e6:upd H5 e (.lst []) e\(.lst []):=aj;let n6:∀b,upd H5 e (.lst []) b=none->H b=none:=λb z=>n4 b (n5 b (same_none s6 z))
  let Y6:=n4 e (n5 e ne);let Y7:g≠e:=aw g5 ne;change upd H5 e _=H6 at s6 e6 n6 ⊢;erw[12,x,_,L,12,s6^x5,aJ T,T.lU,(by show 3<1000;decide)];rw[cz4];let⟨x7,o7,k7,n7⟩:=st (gs:=Vh r q g e) (s6^x5) (λb o e n=>s6^o5 b o e n);change upd H6 x _=H7 at x7 o7 k7 n7 ⊢;let xt:e≠x:=bN e6 (s6^x5) f!"";let q7:=k7 _ _ Kv (s6^q5);let g7:=k7 _ _ Kw (s6^g5);let e7:=k7 _ _ xt e6;rwa[λw nw=>?_]
  let Y:=ao.upd (o:=.dK []) nw;let w8:upd H7 w (.dK []) w\(.dK []):=aj;let n8:∀b,upd H7 w (.dK []) b=none->H b=none:=λb z=>n6 b (n7 b (same_none Y z))
  let Y8:=n6 w (n7 w nw);change upd H7 w _=H8 at Y w8 n8 ⊢;erw[12,x,_,L,12,Y^x7,aJ T,T.km,(by show 4<1000;decide)];rw[cz5];let⟨x9,o9,k9,n9⟩:=st (gs:=Vi r q g e w) (Y^x7) (λb o e n=>Y^o7 b o e n);change upd H8 x _=H9 at x9 o9 k9 n9 ⊢;let Vm:w≠x:=bN w8 (Y^x7) f!"";let R9:ay A.aB H9 r S a:=hR.keep (λb o hb e=>o9 b o e (λz=>DF (by rw[<-z];rwa[hb]))) (λb xs e=>o9 b _ e (bN e hx f!""));erw[12,r,_,a.dx,112,R9.ins,aH T,T.tN,uw^_,a.aN,12,.inl (aI.of R9.hN),12,x,_,L,12,x9,aJ T,T.om,(by show 5<1000;decide)];rw[aP,bW,cz6];let⟨xa,oa,ka,na⟩:=st (gs:=Y2 r q g e w ⇑S.a9) x9 o9;change upd H9 x _=Ha at xa oa ka na ⊢;let up:∀b o,b≠x->H8 b\o->Ha b\o:=λb o n z=>ka b o n (k9 b o n z)
  let cA:cx A.aO A.aF Ha x r ⟨L,q,g,e,w⟩ [] [] tW ⇑S.a9 d (λb=>b=x\/b=g\/b=e\/b=w):=by
   rwa[⟨xa,⟨[],up _ _ Kw (Y^g7),2,(λi v z=>by simp at z),(λi v u z=>by simp at z),(λi j p z=>by simp at z)⟩,up _ _ xt (Y^e7),⟨11,kat_nil (up _ _ Vm w8),⟨λb hb=>?_,(λ_ _ z=>by ext z),(λ_ _ _ z=>by ext z),(λ_ _ _ z=>by ext z)⟩⟩,Y7,.inl rfl,.inr (.inl rfl),.inr (.inr (.inl rfl)),λb hb=>?_⟩]
   ·rcases hb with z|⟨_,z⟩|⟨_,_,z⟩
    ·rwa[.inr (.inr (.inr z))]
    ·ext z
    ·ext z
   ·rcases hb with z|z|z|z
    ·rw[z];rwa[_,xa,s!"",s!"",(by intro _ _ z;ext z),s!""]
    ·rw[z];rwa[_,up _ _ Kw (Y^g7),s!"",s!"",(by intro _ _ z;ext z),s!""]
    ·rw[z];rwa[_,up _ _ xt (Y^e7),s!"",s!"",(by intro _ _ z;ext z),s!""]
    ·rw[z];rwa[_,up _ _ Vm w8,s!"",s!"",(by intro _ _ z;ext z),s!""]
  let qa:=up _ _ Kv (Y^q7)
  let Oa:∀b,(b=x\/b=g\/b=e\/b=w)->b=x\/H b=none:=λb z=>by
   rcases z with z|z|z|z
   ·rwa[.inl z]
   ·rw[z];rwa[.inr Y5]
   ·rw[z];rwa[.inr Y6]
   ·rw[z];rwa[.inr Y8]
  let Ra:ay A.aB Ha r S a:=hR.keep (λb o hb e=>oa b o e (λz=>DF (by rw[<-z];rwa[hb]))) (λb xs e=>oa b _ e (bN e hx f!""));let nA:∀b,Ha b=none->H b=none:=λb z=>n8 b (n9 b (na b z))
  obtain⟨O,eO⟩:∃O:Zt->Prop,O=λb=>b=x\/b=g\/b=e\/b=w:=⟨12⟩
  rw[<-eO]at cA;replace Oa:∀b,O b->b=x\/H b=none:=by rw[eO];rwa[Oa]
  clear eO;generalize ec:(⟨L,q,g,e,w⟩:KA)=c at cA;let qa:Ha c.aQ\(.dT (i5 d)):=by rw[<-ec];rwa[qa]
  clear g7 e7 w8 x9 o9 k9 n9 Y n8 x7 o7 k7 n7 s6 n6 e6 x5 o5 k5 n5 M g4 n4 x3 o3 k3 n3 x1 o1 n1 x2 o2 n2 up ka q7 q5 q3 g5 xa na R9 Y8 Y6 Y5 nw ne ng Y7 xt Kw Vm hq nq s2 Kv Y4;let hfb:∀p∈d,⇑p.1<=1000/\∀z∈p.1,-1000<=z/\z<=1000:=λp hp=>Y3 _ (ajG _ (ajj (Vl.a p hp)))
  let DG:=DG d Vl;rwa[⟨12,r,a.dx,12,Ra.ins,cL _ _ _ ⋯,r,S,a,2,Ra,gd.wf,3,λl nl=>?_⟩];let sl:⇑(dh S)<=S.q:=aju (alm _ _) ([akD]▸ajp _);let stm:∀m∈dh S,m<S.q:=λm hm=>akF.mp (akY.mp hm).1
  let Y9:⇑(dh S)* ⇑d<=S.q* ⇑d:=alq _ sl;let sb:=ao.upd (o:=.lst (au (nI (dh S)))) nl;let hl:upd Ha l (.lst (au (nI (dh S)))) l\(.lst (au (nI (dh S)))):=aj;show ∃a_1,_;rw[show (~~~S.q).filter (λc=>decide (S.aX[c]?\c))=dh S from rfl];let nl0:=nA l nl;let nlO:¬O l:=λz=>by let⟨o,e,_⟩:=cA.th l z;rw[nl]at e;ext e
  change upd Ha l _=Hb at sb hl ⊢;let cB:=cA.same sb;erw[l,2,⟨_,aI.of hl⟩]
  refine g6 (xs:=au (nI (dh S))) (λi σ H2=>∃U D O2 v4,σ=#v[↑x,↑r,↑ru,↑pa,v4,none,none]/\(∀b o,¬O b->Hb b\o->H2 b\o)/\(∀b,O b->O2 b)/\(∀b,O2 b->O b\/Hb b=none)/\cx A.aO A.aF H2 x r c U D tW ⇑S.a9 d O2/\CI S (dG d ((dh S).take i)) U D tW fV none/\⇑D<=⇑(dG d ((dh S).take i)))
   ⟨[],[],O,none,2,λ_ _ _ e=>e,λb z=>z,λb z=>.inl z,cB,Vj,ajp _⟩ (λi σ H2 _ ζ=>by let⟨_,_,_,_,_,f,_⟩:=ζ;rwa[aI.of (f _ _ nlO hl)]) ?_ ?_
  ·rintro i v σ H2 hi ⟨U,D,O2,v4,rfl,f2,Pq,DC,c2,Dy,Kx⟩;let⟨z,rfl,hz⟩:=cC hi
   obtain⟨m,Vn,rfl⟩:∃m,(dh S)[i]?\m/\z=(m:Int):=by
    unfold nI at hz;rw[ajq]at hz
    cases y:(dh S)[i]? with
    |none=>rw[y]at hz;ext hz
    |some m=>rw[y]at hz;rwa[m,2,(Za0 hz).symm]
   let J:=(aji.mp Vn).1;let nQ:¬O c.aQ:=cA.Kg qa;let q2:=f2 _ _ nQ (sb^qa);let ll:=mK d ((dh S).take i);rw[ajN,akI ∅]at ll;let li:(i+ 1)* ⇑d<=⇑(dh S)* ⇑d:=alq _ J;rw[amA]at li;rwa[⟨12,x,c.dx,12,c2.ins,fx ⋯,12,x,r,c,S,_,U,D,tW,⇑S.a9,d,O2,fV,m,2,c2,q2,Dy,hfb,stm m (ajj Vn),3,Kx,λC B O3 X b3 Y1 N c3 F G=>?_⟩]
   let es:dG d ((dh S).take (i+ 1))=dG d ((dh S).take i)++gJ d m:=by
    unfold dG;rw[akx,Vn,alG];show _++(gJ d m++[])=_;rw[ajQ]
   rw[<-es]at F G;rwa[⟨C,B,O3,12,λb o n e=>b3 b o (λz=>(DC b z).elim n λy=>by rw[y]at e;ext e) (f2 b o n e),λb z=>Y1 b (Pq b z),λb z=>?_,c3,F,G⟩];rcases N b z with y|y
   ·rwa[DC b y]
   ·cases y2:O b
    ·rwa[.inl y2]
    ·rwa[.inr ?_]
     cases e:Hb b with
     |none=>rfl
     |some o=>rw[f2 b o y2 e]at y;ext y
  rintro σ H2 ⟨U,D,O2,v4,rfl,f2,Pq,DC,c2,Dy,Kx⟩;rw[aP,bW,aky]at Dy Kx;let ll:=mK d (dh S);let Vo:Hb pa\(.lst (I.map V.ref)):=sb^oa _ _ Ag Ku;let Z:∀{b o},H b\o->b≠x->¬O b:=λ{b o} e n z=>(Oa b z).elim n λy=>by rw[y]at e;ext e
  let acq:=f2 _ _ (Z Ag Ku) Vo;let acr:=f2 _ _ (Z Pw FU) (sb^oa _ _ Pw FU);let lr:⇑(Kt.map V.ref)=⇑rs:=by rw[ajk,FT.1]
  erw[1212,ru,12,.inl (aI.of acr),pa,(⇑(Kt.map V.ref):Int),2233,⟨_,aI.of acq⟩];rw[lr]
  refine xi (xs:=I.map V.ref) (λi σ X=>∃C B O3 v5 v6,σ=#v[↑x,↑r,↑ru,↑pa,v4,v5,v6]/\(∀b o,¬O b->Hb b\o->X b\o)/\(∀b,O3 b->O b\/Hb b=none)/\cx A.aO A.aF X x r c C B tW ⇑S.a9 d O3/\CI S (dG d (dh S)++fS ps ⇑rs i) C B tW fV none/\⇑B<=⇑(dG d (dh S)++fS ps ⇑rs i))
   ⟨U,D,O2,none,none,2,f2,DC,c2,by show CI S (_++[]) _ _ _ _ _;rw[ajQ];rwa[Dy],by show _<=⇑(_++[]);rw[ajQ];rwa[Kx]⟩ (λi σ X _ ζ=>by let⟨_,_,_,_,_,_,f,_⟩:=ζ;rwa[aI.of (f _ _ (Z Ag Ku) Vo)]) ?_ ?_
  ·rintro i v σ X t hi nt ⟨C,B,O3,v5,v6,rfl,f3,N,c3,F,G⟩
   let J:i<⇑I:=by
    have:=(aji.mp hi).1;rw[ajk]at this;rwa[this]
   let Vp:i<⇑ps:=by rw[<-Vk.1];rwa[J]
   let g1:I[i]?\(I[i]'J):=ajg J
   let g2:ps[i]?\(ps[i]'Vp):=ajg Vp
   rw[ajq,g1]at hi;obtain rfl:V.ref (I[i]'J)=v:=Za0 hi;change I[i]'J=wa at g1;change ps[i]'Vp=u at g2;let Vq:=Vk.2 i wa u g1 g2;let hwx:wa≠x:=bN Vq hx f!"";let acs:=f3 _ _ (Z Vq hwx) (sb^oa _ _ Vq hwx);let M:=ao.upd (o:=.tup [.int ((⇑rs:Int)+ (i:Int)),↑wa]) nt;erw[t,12,bz.of aj,21121122];change upd X t _=H4 at M ⊢;let c4:=c3.same M;let pl:=tV ps ⇑rs i;let hub:=Y3 u (ajo _ (ajj g2));rwa[⟨12,x,c.dx,12,c4.ins,fx ⋯,1212,x,r,wa,c,S,_,C,B,tW,⇑S.a9,d,O3,fV,⇑rs+ i,(0),u,2,c4,F,M^acs,hub.1,hub.2,hm0,by rw[ajh];ext,G,λgs5 U4 O5 H5 b5 le5 nw5 c5 Ky al5=>?_⟩]
   let ep:fS ps ⇑rs (i+ 1)=fS ps ⇑rs i++nz (⇑rs+ i) u 0:=by
    unfold fS;rw[ak3,alG];show _++(nz (⇑rs+ i) (ps.getD i []) 0++[])=_;rw[ajQ,ajm,g2];rfl
   rw[ajZ,<-ep]at Ky al5;rwa[⟨gs5,U4,O5,112,λb o n e=>b5 b o (λz=>(N b z).elim n λy=>by rw[y]at e;ext e) (M^f3 b o n e),λb z=>?_,c5,Ky,al5⟩];rcases nw5 b z with y|y
   ·rwa[N b y]
   ·cases y2:O b
    ·rwa[.inl y2]
    ·rwa[.inr ?_]
     cases e:Hb b with
     |none=>rfl
     |some o=>rw[M^f3 b o y2 e]at y;ext y
  ·rintro σ X ⟨C,B,O3,v5,v6,rfl,f3,N,c3,F,G⟩;rw[ajk,Vk.1]at F G;rwa[k c C B d O3 X (λb o e n=>f3 b o (Z e n) (sb^oa b o e n)) c3 (f3 _ _ (cA.Kg qa) (sb^qa)) (λb z=>?_) F G Vl];rcases N b z with y|y
   ·rwa[Oa b y]
   ·rwa[.inr (nA b (same_none sb y))]
def DH {rs:Za3}{b:List (Zh×Nat)}(h:zg rs b):⇑b<=⇑rs:=by
 let c:(b.map (·.2)).Nodup:=by
  have:=h.n;unfold List.Nodup at this ⊢;rw[al0]at this ⊢
  exact this.imp_of_mem λ{p q} a d n e=>n (by
   let i:=h.a p a;let g:=h.a q d
   cbv)
 have:=mG ⇑rs _ c λn f=>by
  let⟨p,a,rfl⟩:=aj7.mp f;rwa[(aji.mp (h.a p a)).1]
 rw[ajk]at this;rwa[this]
def yn {b:Nat×Zh×Nat}{w:Nat}(h:b∈nz w l m):b=(w,l,m)/\l≠[]:=by
 unfold nz at h
 cbv
def Hv {w:Nat}(h:l≠[]):(w,l,m)∈nz w l m:=by
 unfold nz;cbv
def Rg {c:List (Zh×Nat)}{st:Zi}{a:Za3}{b:Nat×Zh×Nat}(h:b∈dG c st++fS a n ⇑a):(∃p∈c,b.1=p.2/\b.2.1=p.1/\b.2.2∈st)\/∃j u,a[j]?\u/\b=(n+ j,u,0):=by
 rcases ajr.mp h with q|q
 ·let⟨m,e,q⟩:=akz.mp q;let⟨p,d,q⟩:=akz.mp q;let⟨rfl,_⟩:=yn q;rwa[.inl ⟨p,d,22,e⟩]
 ·let⟨j,f,q⟩:=akz.mp q;let⟨rfl,_⟩:=yn q
  cbv
def ends {bs:List (Nat×Zh×Nat)}{d:Zf}{W:bf}(ci:CI S bs d [] W fV none)(x:Good S [] R){b:Nat×Zh×Nat}(p:b∈bs)(a:S.ax b.2.2=b.2.2):TB S b.2.2 b.2.1:=by
 let⟨n,f⟩:=aj9 p;let B:n<⇑d:=by rw[ci.len];rwa[(aji.mp f).1]
 cases q:d[n]? with
 |none=>cbv
 |some y=>
  cases y with
  |none=>
   rcases ci.de n b q (by cbv) f with z|z
   ·rwa[absurd a z]
   ·rwa[.inl z]
  |some g=>
   let⟨e,c,z⟩:=ci.al n g q;rw[f]at e;obtain rfl:=Za0 e;rcases z with z|z|⟨lt,l,v⟩
   ·ext z
   ·ext z
   ·let⟨o,_,k,_,_,_,_,f1⟩:=ci.en _ _ _ l;let⟨s,_,j,_,_,_,_,f2⟩:=ci.en _ _ _ v;let k:o=g.front:=∅
    let j:s=g.bC:=∅
    subst k j;rcases f1 with ⟨t,u⟩|f1
    ·rcases f2 with ⟨m,r⟩|f2
     ·let i:=c.wf;let h:=c.wr;let a:S.ax g.start=g.start:=a;rw[a,t]at i;rw[a,m]at h;rwa[.inr ⟨g.first,g.last,g.front,g.bC,g.z1,-g.z2,lt,Gg.rJ (by have:=c.ll;omega),Gg.at2 c.ll,i,u,h,[akv]▸r⟩]
     ·rwa[f2.elim]
    ·rwa[f1.elim]
inductive Rh (CR CG CC:Zt) (vs:Zb) (H:Hp) (Q:VK) (E_:XK):Prop
 |mk (r ru pa:Zt) (S:RS) (a:RA) (R:Za2) (ks:Zh) (B:Nat) (rs ps:Za3):vs=[↑r,↑ru,↑pa]->i7 CR H r S a R ks B->0<S.q->B<800000->bp H ru rs->bp H pa ps->⇑rs<=400->⇑ps<=400->S.q* ⇑rs+ ⇑ps<=700->(∀u∈rs++ps,⇑u<=1000/\∀z∈u,(-1000<=z/\z<=1000)/\z∈ks/\-z∈ks)->(∀S' a' R' B' H',(∀b o,¬a.own r b->H b\o->H' b\o)->i7 CR H' r S' a' R' ks B'->(∀b,a'.own r b->a.own r b\/H b=none)->(∀a z b,R a z b->R' a z b)->S'.q=S.q->S'.L=S.L->Tr (rs++ps) ⇑rs S S'->GH rs ps S'->B'<=B+ 700->Q .non H')->Rh CR CG CC vs H Q E_
noncomputable def fA (z:Int):Int:=if z > 0 then 2* z - 2 else -2* z - 1
def Kz (k:Nat):fA (M12.st k)=k:=by
 unfold fA M12.st;cases h:k % 2=0
 ·rw[ajD h,ajD ∅];ext
 ·rw[ajw h,ajw ∅];ext
def Ri:Sp:=λa H Q _=>∃z:Int,a=[.int z]/\Q (.int (fA z)) H
noncomputable def qt (l:Zh):V:=(l.head?.map V.int).getD .non
inductive Vr (C:Zt) (vs:Zb) (H:Hp) (Q:VK) (E_:XK):Prop
 |mk (r:Zt) (S:RS) (a:RA) (c:Nat):vs=[↑r,.int c]->ay C H r S a->c<⇑S.gaps->Q (qt (S.gap c)) H->Vr C vs H Q E_
def EA (T:Txt K mg A):T.nZ.Ok P w base 1 Ri:=by
 rwa[T.nZ.on Eu (λb f a s H d Q E e h=>?_) (len:=by rintro _ _ _ _ ⟨z,rfl,_⟩;rfl)]
 ·let⟨z,rfl,k⟩:=h
  refine⟨_,{bI (bh NX (pv 0) av (bq _))
   {aY (aV mZ (aV lF av (pv 0)) av)}
   bu,aY (aV mZ (aV lF (fm dJ av) (pv 0)) av)},?_⟩
  rwa[kM ?_];intro c;erw[12112212];unfold fA at k;rwa[bX (λh=>?_) (λh=>?_)]
  ·rw[ajD (ajM h)]at k;rwa[121122,.inl ⟨44⟩,1122,k]
  ·rw[ajw (λq=>h (ajF q))]at k;rwa[12121122,.inl ⟨44⟩,1122,k]
def iI (T:Txt K mg A):T.fM.Ok mg P w base 1 (Vr A.aB):=by
 rwa[T.fM.on lV (λy I m s H G Q E J h=>?_)]
 ·let⟨r,S,a,c,rfl,h,F,k⟩:=h
  erw[_,{uo (cX ajR rfl (GF ((0<<<1)|||1)) (fL 2 lV.nd)
   {aY (pv 2)}),aY dk}]
  rwa[kM ?_];intro v;let x:=yh F;let⟨p,B,l⟩:=h.rG.at x;erw[p,.dK (gK (S.gap c)),l,True.intro];rwa[⟨12,r,_,a.dx,112,h.ins,aH T,T.tM,uv^_,12,a.aG,11122,aI.of h.hG,fP B,p,gK (S.gap c),2,l,λo=>?_⟩]
  let back:upd (upd H p (.cq o (.dK (gK (S.gap c))))) p (.dK (gK (S.gap c)))=H:=by
   rw[P8]
   funext b
   cases t:b=p
   ·rw[t,aj,l]
   ·rw[ai t]
  rwa[B9 (d:=p) (o:=o) (kvs:=gK (S.gap c)) (λi g j=>g=#v[↑r,.int c,none]/\j=upd H p (.cq o (.dK (gK (S.gap c))))/\i=0) ⟨222⟩ (λi g j _ q=>[q.2.1]▸aj) ?_ ?_]
  ·rintro i C g j f ⟨rfl,rfl,rfl⟩
   let e:∃z,(S.gap c).head?\z/\kV C.1=.int z:=by
    unfold gK at f;rw[ajq]at f
    cases q:(S.gap c)[0]? with
    |none=>rw[q]at f;ext f
    |some z=>
     rw[q]at f;erw[z,[amu]▸q];rw[<-Za0 f];rfl
   let⟨z,D,n⟩:=e;rw[n];erw[12,o,aj];rw[back];have:qt (S.gap c)=.int z:=by unfold qt;rw[D];rfl
   rw[<-this];rwa[k]
  ·rintro g j ⟨rfl,rfl,e⟩;erw[o,aj];rw[back];have:S.gap c=[]:=akL (by unfold gK at e;cbv);let n:qt (S.gap c)=.non:=by rw[this];rfl
   show Q V.non H;rw[<-n];rwa[k]
def fi:Pos:=⟨(246),(29),(246),(57)⟩
def jD:Str:=(PyProof.Rows.envOfC "ByLetters.gap" (az kb) 0 0 .none).qual++"<lambda>"
def Kp (c:Zt)(H a:Hp):Prop:=∀b u,b≠c->H b\u->a b\u
def Kp.trans (c:Kp a H I)(b:Kp a I J):Kp a H J:=λx u n e=>b x u n (c x u n e)
def Kp.same (b:ao H I):Kp a H I:=λx u _ e=>b x u e
def _root_.Lake.L2.dF.same {pos:Pos}(h:dF a pos x H)(s:ao H I):dF a pos x I:=h.keep λb u e _=>s b u e
def iV (S:RS)(L c:Nat)(z:Int):Prop:=c<S.q/\S.aX[c]?\c/\z∈bF (2* L)/\S.by c z=none
def rk (w c:Nat)(z:Int):Zh:=if w=0 then [(c:Int),fA z] else if w=1 then [fA z,(c:Int)] else [-(c:Int),fA z]
def mM (w:Nat)(S:RS)(L c:Nat)(z:Int):Prop:=iV S L c z/\∀a b,iV S L a b->HT.lexLt (rk w a b) (rk w c z)=false
structure GL (S:RS) (L:Nat):Prop where
 wf:S.Wf
 m:S.q<=100000
 l2:L<=200
 gp:∀c,c<S.q->S.aX[c]?\c->S.gap c=(bF (2* L)).filter λz=>(S.by c z).isNone
inductive ku (C Pt D:Zt) (w:Nat) (vs:Zb) (H:Hp) (Q:VK) (E_:XK):Prop
 |mk (o dx r:Zt) (S:RS) (a:RA) (L:Nat):vs=[↑o,↑r]->H o\.ins D dx []->ay C H r S a->GL S L->dF Pt fi jD H->((∀c z,¬iV S L c z)->∀H',Kp Pt H H'->dF Pt fi jD H'->Q .non H')->(∀(c:Nat) (z:Int),mM w S L c z->∀t H',Kp Pt H H'->dF Pt fi jD H'->H' t\.tup [.int (c:Int),.int z]->Q ↑t H')->ku C Pt D w vs H Q E_
def b6 (S:RS):Zi:=(~~~S.q).filter λc=>decide (S.aX[c]?\c)
def gX:n∈b6 S↔n<S.q/\S.aX[n]?\n:=by
 unfold b6;rw[akY,akF];simp
def zj (S:RS):(b6 S).Pairwise (·< ·):=List.Pairwise.filter _ List.pairwise_lt_range
def XH (n:Nat):(bF n).Pairwise λa b=>fA a<fA b:=by
 unfold bF;rw[al0];rwa[List.Pairwise.imp (λh=>?_) (List.pairwise_lt_range (n:=n))];rw[Kz,Kz];ext
def Hw (pw:l.Pairwise λa b=>fA a<fA b){z:Int}(h:l.head?\z):z∈l/\∀y∈l,fA z<=fA y:=by
 cases l with
 |nil=>ext h
 |cons x l=>
  let e:x=z:=Za0 h;subst e;rwa[⟨ajA,λy c=>?_⟩];rcases ajE.mp c with rfl|c
  ·rwa[Int.le_refl _]
  ·rwa[Int.le_of_lt ((List.pairwise_cons.mp pw).1 y c)]
def GL.head (g:GL S n)(hc:m<S.q)(h:S.aX[m]?\m):(∀z,(S.gap m).head?\z->iV S n m z/\∀y,iV S n m y->fA z<=fA y)/\((S.gap m).head?=none->∀y,¬iV S n m y):=by
 let e:=g.gp m hc h
 let mem:∀y,iV S n m y↔y∈S.gap m:=λy=>by
  rw[e,akY];constructor
  ·rintro ⟨_,_,d,c⟩;rwa[d,by rw[c];rfl]
  ·rintro ⟨d,c⟩;rwa[hc,h,d,by simpa using c]
 let pw:(S.gap m).Pairwise λa b=>fA a<fA b:=by rw[e];rwa[(XH _).filter _]
 rwa[⟨λz hz=>?_,λi y f=>?_⟩]
 ·let⟨d,c⟩:=Hw pw hz;rwa[(mem z).mpr d,λy f=>c y ((mem y).mp f)]
 cbv
def eI (S:RS)(cs:Zi):Option (Nat×Int):=cs.findSome? λc=>(S.gap c).head?.map λz=>(c,z)
def EB (h:eI S B=none):∀c∈B,(S.gap c).head?=none:=λc a=>by
 unfold eI at h;rw[List.findSome?_eq_none_iff]at h;have:=h c a
 cases q:(S.gap c).head? with
 |none=>rfl
 |some z=>cbv
theorem vw {S:RS}:∀{cs:Zi} {c:Nat} {z:Int},eI S cs\(c,z)->∃i:Nat,cs[i]?\c/\(S.gap c).head?\z/\∀j b:Nat,j<i->cs[j]?\b->(S.gap b).head?=none
 |[],_,_,h=>by ext h
 |x::cs,c,z,h=>by
  unfold eI at h;rw[List.findSome?_cons]at h
  cases q:(S.gap x).head? with
  |some y=>
   rw[q]at h;let h:(x,y)=(c,z):=Za0 h;injection h with d a
   subst d a;rwa[(0),2,q,λj b e=>absurd e (Nat.not_lt_zero _)]
  |none=>
   rw[q]at h;let⟨i,d,a,g⟩:=vw (cs:=cs) h;rwa[⟨i+ 1,d,a,λj b e f=>?_⟩]
   cases j with
   |zero=>rw[<-Za0 f];rwa[q]
   |succ j=>exact g j b ∅ f
inductive FV (C:Zt) (vs:Zb) (H:Hp) (Q:VK) (E_:XK):Prop
 |mk (r l:Zt) (S:RS) (a:RA) (cs:Zi):vs=[↑r,↑l]->ay C H r S a->H l\.lst (au (nI cs))->(∀c∈cs,c<⇑S.gaps)->(eI S cs=none->Q .non H)->(∀(c:Nat) (z:Int),eI S cs\(c,z)->∀t,H t=none->Q ↑t (upd H t (.tup [.int (c:Int),.int z])))->FV C vs H Q E_
def EC {cs:Zi}(d:cs[i]?\n)(a:eI S (cs.take i)=none):(∀z,(S.gap n).head?\z->eI S cs\(n,z))/\((S.gap n).head?=none->eI S (cs.take (i+ 1))=none):=by
 let e:cs.take (i+ 1)=cs.take i++[n]:=by rw[List.take_add_one,d];rfl
 constructor
 ·intro z b;let c:cs=cs.take (i+ 1)++cs.drop (i+ 1):=(List.take_append_drop _ _).symm;unfold eI at a ⊢;rw[c,e,ajZ,List.findSome?_append,a,Option.none_or,alI,List.findSome?_cons,b];rfl
 ·intro b;unfold eI at a ⊢
  cbv
def vx (T:Txt K mg A):T.m9.Ok P w base 2 (FV A.aB):=by
 rwa[T.m9.on pT (λF N n s H M Q E G h=>?_)]
 ·let⟨r,l,S,a,cs,rfl,h,o,L,C,u⟩:=h
  erw[_,{cX ajR rfl (dZ (pv 1)) (fL 2 pT.nd)
   {bP 3 pT.nd (pm (pv 0) (aH T) T.fM (iI T) G #[2]),bI (bh mU (pv 3) dk (bq _))
    {aY (dM #[2,3])}
    bu},aY dk}]
  rwa[kM ?_];intro p;erw[12,l,2,⟨_,aI.of o⟩];rwa[g6 (xs:=au (nI cs)) (λi g k=>∃v m,g=#v[↑r,↑l,v,m]/\k=H/\eI S (cs.take i)=none) ⟨none,none,222⟩ (λi g k _ ζ=>by let⟨_,_,_,e,_⟩:=ζ;rwa[[e]▸aI.of o]) ?_ ?_]
  ·rintro i x g k I ⟨v,m,rfl,rfl,j⟩;let⟨z,rfl,b⟩:=cC I
   obtain⟨c,d,rfl⟩:∃c:Nat,cs[i]?\c/\z=(c:Int):=by
    unfold nI at b;rw[ajq]at b
    cases q:cs[i]? with
    |none=>rw[q]at b;ext b
    |some c=>rw[q]at b;rwa[c,2,(Za0 b).symm]
   let⟨D,J⟩:=EC d j;erw[12,r,a.dx,12,h.ins,212,r,S,a,c,2,h,L c (ajj d)];erw[12212]
   cases f:(S.gap c).head? with
   |none=>
    let e:qt (S.gap c)=.non:=by unfold qt;rw[f];rfl
    rw[e];rwa[some (.int c),some .non,22,J f]
   |some y=>
    let e:qt (S.gap c)=.int y:=by unfold qt;rw[f];rfl
    rw[e];rwa[1212,Za4 2,λt B=>u c y (D y f) t B]
  ·rintro g k ⟨v,m,rfl,rfl,j⟩;rw[aP,bW,aky]at j;rwa[C j]
def DJ {a a' b b':Int}(h:a<a'\/a'=a/\b<=b'):HT.lexLt [a',b'] [a,b]=false:=by
 rw[HT.wW,HT.wW,HT.Ao]
 cbv
def GV {c:Type}{R:c->c->Prop}{l:List c}(pw:l.Pairwise R){i j:Nat}{a b:c}(d:i<j)(f:l[i]?\a)(h:l[j]?\b):R a b:=by
 let⟨g,rfl⟩:=aji.mp f;let⟨e,rfl⟩:=aji.mp h;rwa[List.pairwise_iff_getElem.mp pw i j g e d]
def DK (g:GL S n)(b:∀c,c∈b6 S->c∈B)(h:eI S B=none):∀c z,¬iV S n c z:=λc z a=>(g.head a.1 a.2.1).2 (EB h c (b c (gX.mpr ⟨a.1,a.2.1⟩))) z a
def vy {w:Nat}{cs:Zi}(R:Nat->Nat->Prop)(g:GL S n)(k:∀m,m∈cs↔m∈b6 S)(pw:cs.Pairwise R)(r:∀a b,R a b->∀y,HT.lexLt (rk w b y) (rk w a z)=false)(u:∀y,fA z<=fA y->HT.lexLt (rk w m y) (rk w m z)=false)(h:eI S cs\(m,z)):mM w S n m z:=by
 let⟨i,f,p,s⟩:=vw h;let o:=gX.mp ((k m).mp (ajj f));let⟨t,v⟩:=(g.head o.1 o.2).1 z p;rwa[⟨t,λd e c=>?_⟩];let⟨j,l⟩:=aj9 ((k d).mpr (gX.mpr ⟨c.1,c.2.1⟩));rcases Nat.lt_trichotomy i j with q|q|q
 ·rwa[r m d (GV pw q f l) e]
 ·cbv
 ·rwa[absurd c ((g.head c.1 c.2.1).2 (s j d q l) e)]
def Vs (g:GL S n)(h:eI S (b6 S)\(m,z)):mM 0 S n m z:=
 vy (·< ·) g (λ_=>Iff.rfl) (zj S) (λa b d y=>DJ (.inl (by omega))) (λy c=>DJ (.inr ⟨rfl,c⟩)) h
def Vt (g:GL S n)(h:eI S (b6 S).reverse\(m,z)):mM 2 S n m z:=
 vy (λa b=>b<a) g (λm=>amI) (List.pairwise_reverse.mpr (zj S)) (λa b d y=>DJ (.inl (by omega))) (λy c=>DJ (.inr ⟨rfl,c⟩)) h
def tX (T:Txt K mg A):T.jS.Ok mg P w base 3 (ku A.aB A.eQ A.cQ 0):=by
 rwa[T.jS.on De (λv D f s H C Q E k h=>?_)]
 ·let⟨o,G,r,S,a,L,rfl,F,h,g,j,p,n⟩:=h;erw[_,{aY (pc T.m9 (vx T) k #[1,xB (pv 1) (aH T) T.eT (gq T) k])}];rwa[⟨1212,r,a.dx,12,h.ins,2,r,S,a,2,h,g.wf,g.m,λl x=>?_⟩];let d:ao H (upd H l (.lst (au (nI (b6 S))))):=ao.upd x;rwa[⟨r,l,S,a,b6 S,2,h.same d,aj,λc B=>[g.wf.g]▸(gX.mp B).1,λy=>p (DK g (λ_ h=>h) y) _ (.same d) (j.same d),λc z q t m=>?_⟩];let i:=ao.upd (o:=.tup [.int (c:Int),.int z]) m;rwa[n c z (Vs g q) t _ (.same λb u e=>i b u (d b u e)) ((j.same d).same i) aj]
def r0 (T:Txt K mg A):T.iR.Ok mg P w base 3 (ku A.aB A.eQ A.cF 2):=by
 rwa[T.iR.on AV (λC M i s H J Q E m h=>?_)]
 ·let⟨o,O,r,S,a,L,rfl,N,h,g,k,x,v⟩:=h;erw[_,{aY (pc T.m9 (vx T) m #[1,GK rfl rfl T.gG rfl T.Hg #[xB (pv 1) (aH T) T.eT (gq T) m] rfl rfl])}];rwa[⟨1212,r,a.dx,12,h.ins,2,r,S,a,2,h,g.wf,g.m,λl D=>?_⟩];let F:ao H (upd H l (.lst (au (nI (b6 S))))):=ao.upd D;rwa[⟨l,12,aI.of aj,λn f=>?_⟩];let y:=ao.upd (o:=.lst (au (nI (b6 S))).reverse) f;let d:ao H (upd (upd H l (.lst (au (nI (b6 S))))) n (.lst (au (nI (b6 S))).reverse)):=λb u e=>y b u (F b u e)
  let p:(au (nI (b6 S))).reverse=au (nI (b6 S).reverse):=by unfold au nI;rw[List.map_reverse,List.map_reverse]
  rwa[⟨r,n,S,a,(b6 S).reverse,2,h.same d,by rw[<-p];rwa[aj],λc I=>[g.wf.g]▸(gX.mp (amI.mp I)).1,λG=>x (DK g (λ_ h=>amI.mpr h) G) _ (.same d) (k.same d),λc z B t q=>?_⟩];let j:=ao.upd (o:=.tup [.int (c:Int),.int z]) q;rwa[v c z (Vt g B) t _ (.same λb u e=>j b u (d b u e)) ((k.same d).same j) aj]
def kA (S:RS)(cs:Zi):List (Nat×Int):=cs.filterMap λc=>(S.gap c).head?.map λz=>(c,z)
def zk:(n,z)∈kA S B↔n∈B/\(S.gap n).head?\z:=by
 unfold kA;rw[amh];constructor
 ·rintro ⟨b,a,e⟩
  cases q:(S.gap b).head? with
  |none=>rw[q]at e;ext e
  |some y=>
   cbv
 cbv
def Vu {cs:Zi}(h:cs.Pairwise (·< ·)):(kA S cs).Pairwise λp q=>p.1<q.1:=by
 unfold kA;rwa[List.pairwise_filterMap.mpr (h.imp λ{a b} e p c q d=>?_)]
 cases f:(S.gap a).head? with
 |none=>rw[f]at c;ext c
 |some y=>
  cases g:(S.gap b).head? with
  |none=>rw[g]at d;ext d
  |some x=>
   rw[f]at c;rw[g]at d;rw[<-Za0 c,<-Za0 d];rwa[e]
def Nw {cs:Zi}(a:cs[i]?\n):kA S (cs.take (i+ 1))=kA S (cs.take i)++((S.gap n).head?.map λz=>(n,z)).toList:=by
 unfold kA;rw[show cs.take (i+ 1)=cs.take i++[n] by rw[List.take_add_one,a];rfl,List.filterMap_append,amc,List.filterMap_nil];cases (S.gap n).head? <;> rfl
def Vv (g:GL S n)(h:(kA S (b6 S))[i]?\(m,z))(r:∀j d c,(kA S (b6 S))[j]?\(d,c)->fA z<=fA c/\(j<i->fA z<fA c)):mM 1 S n m z:=by
 let⟨s,p⟩:=zk.mp (ajj h);let o:=gX.mp s;rwa[⟨((g.head o.1 o.2).1 z p).1,λd c f=>?_⟩];let hd:=g.head f.1 f.2.1
 cases q:(S.gap d).head? with
 |none=>exact absurd f (hd.2 q c)
 |some y=>
  let B:=(hd.1 y q).2 c f;let⟨j,l⟩:=aj9 (zk.mpr ⟨gX.mpr ⟨f.1,f.2.1⟩,q⟩);let⟨u,t⟩:=r j d y l;rwa[DJ (a:=fA z) (b:=(m:Int)) (a':=fA c) (b':=(d:Int)) ?_];cases e:fA z<fA c
  ·rwa[.inl e]
  ·rwa[.inr ⟨35⟩];rcases Nat.lt_trichotomy i j with k|k|k
   ·have:m<d:=GV (Vu (zj S)) k h l;ext
   ·cbv
   ·have:=t k;ext
def Vw (g:GL S n)(h:kA S (b6 S)=[]):∀c z,¬iV S n c z:=λc z a=>by
 let hd:=g.head a.1 a.2.1
 cases q:(S.gap c).head? with
 |none=>exact hd.2 q z a
 |some y=>
  have:=zk.mpr ⟨gX.mpr ⟨a.1,a.2.1⟩,q⟩
  cbv
def oC (T:Txt K mg A)(FQ:kQ mg base):dv P w K mg base (cZ P w) 6 A.pj A.kg ["self","rooms"] (ku A.aB A.eQ A.bJ 1):=by
 rwa[T.gZ.F.okT T.lam.code oy (λvs H Q E h=>?_) (λAA outer s H vs Q E hr h=>?_)]
 ·let⟨o,dx,r,S,a,L,rfl,_⟩:=h;rfl
 ·let⟨o,dx,r,S,a,L,rfl,ho,h,g,hT,kn,ks⟩:=h
  erw[_,{Av (iy:=2) oy.nd rfl (Or.inl rfl) (fns:=["rooms"]) (ixs:=[1]) (cl:=_) rfl (dZ (xB (pv 1) (aH T) T.eT (gq T) hr)) (dW [(_,_)] rfl ⟨22222,True.intro⟩ rfl) (λC s H ex=>(bh mU (pm (pv 1) (aH T) T.fM (iI T) hr #[0]) dk (bq _))) (λC s H ex=>(dM #[0,pm (pv 1) (aH T) T.fM (iI T) hr #[0]])) (by intro _;rfl) rfl (by trivial),aY (QM (x:="gap") (k:=2) rfl rfl T.OJ (pv 2) rfl T.lam.hd rfl rfl FQ hr.Za5 (by ac_rfl) (λ_ _ _ _=>rfl) (λ_ _ _ _ _ _ FT=>yB (EA T) (FT.mono ⋯) rfl T.nZ.m T.nZ.F.kp T.nZ.b .nil fK #[bA (Qo (K:=K) rfl) (pv 0) av (λ_ _=>rfl)]) rfl rfl)}]
  rwa[kM ?_];intro fh;rwa[⟨12,r,a.dx,12,h.ins,2,r,S,a,2,h,g.wf,g.m,λl hl=>?_⟩];let s1:ao H (upd H l (.lst (au (nI (b6 S))))):=ao.upd hl;let J:upd H l (.lst (au (nI (b6 S)))) l\(.lst (au (nI (b6 S)))):=aj;rw[show ((~~~S.q).filter λc=>decide (S.aX[c]?\c))=b6 S from rfl];change upd H l (.lst (au (nI (b6 S))))=H1 at s1 J;let h1:=h.same s1;let R:=hT.same s1;let hsl:⇑(b6 S)<=S.q:=aju (alm _ _) (by cbv);let hgm:=g.m;let el:⇑(au (nI (b6 S)))=⇑(b6 S):=by rw[aP,bW]
  erw[l,2,⟨_,aI.of J⟩];erw[λi m ys Z=>m=⇑(b6 S) - i/\i<=⇑(b6 S)/\ao H1 Z/\∃d:Zo,ys=d.map V.ref/\⇑d<=i/\Each (λt (p:Nat×Int)=>Z t\.tup [.int (p.1:Int),.int p.2]) d (kA S ((b6 S).take i)),⟨⇑(b6 S),by simp,ajU _,λ_ _ e=>e,[],2,ajp _,2,λi p x e=>by simp at e⟩];rintro i m ys Z ⟨rfl,hi,G,d,rfl,htl,B⟩;let N:=G^J;let h2:=h1.same G;cases U:i<⇑(b6 S)
  ·rwa[.inr ⟨sF (aI.of N) i ∅,[ajk]▸ajt (aju htl (show i<=100000 by omega)) ⋯,λx H3 hyl=>?_⟩];let⟨rfl,hx⟩:=pY (aI.of N) i x H3 ∅ hyl;let⟨z,rfl,hz⟩:=cC hx
   obtain⟨c,X,rfl⟩:∃c:Nat,(b6 S)[i]?\c/\z=(c:Int):=by
    unfold nI at hz
    cbv
   let lL:c<⇑S.gaps:=by rw[g.wf.g];rwa[(gX.mp (ajj X)).1]
   let et:=Nw (S:=S) X;erw[12,r,a.dx,12,h2.ins,212,r,S,a,c,2,h2,lL,212]
   cases hg:(S.gap c).head? with
   |none=>
    let e:qt (S.gap c)=.non:=by unfold qt;rw[hg];rfl
    rw[e];erw[⇑(b6 S) - (i+ 1),32,U,G,d,23];rw[et,hg];simpa using B
   |some y=>
    let e:qt (S.gap c)=.int y:=by unfold qt;rw[hg];rfl
    rw[e];rwa[⟨1212,r,a.dx,12,h2.ins,212,r,S,a,c,2,h2,lL,Za4 2,λt hnt=>?_⟩];let v:=ao.upd (o:=.tup [.int (c:Int),qt (S.gap c)]) hnt;erw[⇑(b6 S) - (i+ 1),32,U,λb u q=>v b u (G b u q),d++[t],by cbv,by rw[ajh,akb];ext];rw[et,hg];rwa[(B.imp λp x _ _ q=>v^q).snoc ?_];show upd H3 t _ t=_;rw[aj,e]
  ·let e:i=⇑(b6 S):=∅
   subst e;rw[aky]at B;rwa[.inl ⟨by rw[<-el];rwa[m5 (aI.of N)],[ajk]▸aju htl (aju (show ⇑(b6 S)<=100000 by omega) ⋯),λD hD=>?_⟩];let v:=ao.upd (o:=.lst (d.map V.ref)) hD;let hD3:upd Z D (.lst (d.map V.ref)) D\(.lst (d.map V.ref)):=aj;change upd Z D (.lst (d.map V.ref))=H3 at v hD3;let Y:ao H H3:=λb u q=>v b u (G b u (s1 b u q))
   rwa[⟨12,D,d.map V.ref,λj=>fA ((kA S (b6 S)).getD j (0,0)).2,2,aI.of hD3,(R.same G).same v,λH4 hT4 k4=>⟨λj y M=>?_,λe=>?_,λj y M hb=>?_⟩⟩]
   ·let I:j<⇑(kA S (b6 S)):=by rw[<-B.1,<-ajk (f:=V.ref)];rwa[(aji.mp M).1]
    let⟨t,O,q⟩:=B.at (ajg I);rw[ajq,O]at M;let e:=Za0 M;subst e
    let q4:H4 t=_:=k4 t _ (λz=>by
     let q3:=v^q;rcases (R.same G).same v with w|⟨_,_,_,_,w,_⟩
     ·rw[z,w]at q3;ext q3
     cbv) (v^q)
    rwa[⟨12,t,11122,bz.of q4,21252⟩]
    cbv
   ·have:d=[]:=List.map_eq_nil_iff.mp e;let e2:kA S (b6 S)=[]:=akL (by rw[<-B.1,this];rfl);rwa[kn (Vw g e2) H4 (λb u n q=>k4 b u n (Y b u q)) hT4]
   ·let I:j<⇑(kA S (b6 S)):=by rw[<-B.1,<-ajk (f:=V.ref)];rwa[(aji.mp M).1]
    let F:=ajg I;change (kA S (b6 S))[j]=p at F;let⟨t,O,q⟩:=B.at F;rw[ajq,O]at M;let e:=Za0 M;subst e;let q3:=v^q
    let q4:H4 t=_:=k4 t _ (λz=>by
     rcases (R.same G).same v with w|⟨_,_,_,_,w,_⟩
     ·cbv
     cbv) q3
    let kv:∀{n:Nat} {x:Nat×Int},(kA S (b6 S))[n]?\x->fA ((kA S (b6 S)).getD n (0,0)).2=fA x.2:=λ{n x} hx=>by cbv
    rwa[ks p.1 p.2 (Vv g F λn c' z' hn=>?_) t H4 (λb u n q=>k4 b u n (Y b u q)) hT4 q4];have:=hb n ([ajk,B.1]▸(aji.mp hn).1);dsimp only at this;rw[kv F,kv hn]at this;rwa[this]
noncomputable def Vx:Zi:=[114,111,111,109,115]
noncomputable def NK:Zi:=[108,101,116,116,101,114,115]
noncomputable def Vy:Zi:=[110,101,119,101,115,116]
def New (C:Zt)(H:Hp)(Q:VK):Prop:=∀x d,H x=none->H d=none->d≠x->Q ↑x (upd (upd H d (.own x)) x (.ins C d []))
def KC (e c d a:Zt):Sp:=λb H Q E=>∃t:Zi,b=[.str (tx t)]/\(t=Vx\/t=NK\/t=Vy)/\(t=Vx->New c H Q)/\(t=NK->New d H Q)/\(t=Vy->New a H Q)
def jW {b:Zi}:(V.str (tx B)=V.str (tx b))↔B=b:=⟨λh=>xc (V.str.inj h),λh=>by rw[h]⟩
def ED (T:Txt K mg A):dv P w K mg base (cZ P w) 1 A.xK A.xM ["name"] (KC A.pk A.cQ A.bJ A.cF):=by
 rwa[T.qR.F.Ue Ew (λf H Q E h=>?_) (λj p a s H f Q E r h=>?_)]
 ·let⟨t,rfl,_⟩:=h;rfl
 ·let⟨t,rfl,m,g,b,n⟩:=h
  erw[_,{bI (bh eK (pv 0) (dP (l:=[114,111,111,109,115]) rfl) (bq _))
   {aY (vQ T.MX T.MZ T.MY rfl T.Q0)}
   bu,bI (bh eK (pv 0) (dP (l:=[108,101,116,116,101,114,115]) rfl) (bq _))
    {aY (vQ T.C7 T.C9 T.C8 rfl T.Es)}
    bu,bI (bh eK (pv 0) (dP (l:=[110,101,119,101,115,116]) rfl) (bq _))
    {aY (vQ T.JN T.JQ T.JP rfl T.MC)}
    bu,K9}]
  rwa[iC ?_];intro k o d;erw[12212];rwa[bX (λh=>?_) (λe=>?_)]
  ·rwa[g (jW.mp (ajM h))]
  erw[12212];rwa[bX (λh=>?_) (λi=>?_)]
  ·rwa[b (jW.mp (ajM h))]
  erw[12212];rwa[bX (λh=>?_) (λc=>?_)]
  ·rwa[n (jW.mp (ajM h))]
  rwa[m.elim (λz=>e (ajF (jW.mpr z))) λq=>q.elim (λz=>i (ajF (jW.mpr z))) λz=>c (ajF (jW.mpr z))]
def rA (h:ay a H b S O){d:Zt}{o:HO}(i:H d\o)(k:∀p q f,o≠.ins p q f)(j:∀c,o≠.lst c)(l:∀c,o≠.dK c):¬O.own b d:=λg=>by
 rcases g with q|q|q
 ·have:=h.ins;cbv
 ·let⟨c,e⟩:=h.Oo q;cbv
 ·let⟨c,e⟩:=h.rF q;cbv
def Rj (h:ay a H b S O){p:Zt}{d:Zb}(c:H p\.tup d):¬O.own b p:=rA h c (by cbv) (by cbv) (by cbv)
def Rk {C:Zt}{x:Zt}(nx:H x=none)(c:H a=none)(d:a≠x)(k:∀b o,upd (upd H a (.own x)) x (.ins C a []) b\o->b≠x->I b\o)(g:∀b,O.own x b->b=x\/upd (upd H a (.own x)) x (.ins C a []) b=none):ao H I/\∀b,O.own x b->H b=none:=by
 let f:ao H (upd (upd H a (.own x)) x (.ins C a [])):=(ao.upd c).trans (ao.upd ([ai d.symm]▸nx));rwa[λb o e=>k b o (f^e) (aw e nx),λb z=>(g b z).elim (λe=>[e]▸nx) (same_none f)]
def Rl {w:Zh}{k:Nat}(h:H a\.tup (au w)):bG H (k+ 1) ↑a (.t (w.map Dt.i)):=by
 rwa[.t h (by rw[aP,ajk]) λj v d c b=>?_]
 let⟨z,rfl,e⟩:=cC c;rw[ajq,e]at b;rw[<-Za0 b];rwa[.i]
def rB {ws:Za3}(h:bp H a ws):bG H 4 ↑a (.l (ws.map λw=>Dt.t (w.map Dt.i))):=by
 let⟨i,k,e⟩:=h;rwa[.l k (by rw[ajk,ajk,e.1]) λj v d b c=>?_]
 rw[ajq]at b c
 cases f:i[j]? with
 |none=>cbv
 |some p=>
  cases g:ws[j]? with
  |none=>cbv
  |some w=>
   rw[f]at b;rw[g]at c;rw[<-Za0 b,<-Za0 c];rwa[Rl (e.2 j p w f g)]
def KD {x y:Dt}(h:H a\.lst [↑b,↑c])(i:bG H 7 ↑b x)(g:bG H 7 ↑c y):bG H 8 ↑a (.l [x,y]):=by
 rwa[.l h rfl λj v d e f=>?_]
 match j,e,f with
 |0,e,f=>ext e;ext f;rwa[i]
 |1,e,f=>ext e;ext f;rwa[g]
 |j+ 2,e,f=>simp at e
def Px (p:Zt)(H a:Hp):Prop:=∀q o,q≠p->H q\o->a q\o
def Px.upd {o:HO}:Px a H (upd H a o):=λq u n e=>[ai n]▸e
def _root_.Lake.L2.gx.but {rs:Zo}{rows:Za3}{w:Zt}(h:gx H rs rows)(b:Px w H I)(c:w∉rs):gx I rs rows:=⟨h.1,λi r ns a d=>b _ _ (λz=>c (by rw[<-z];rwa[ajj a])) (h.2 i r ns a d)⟩
def Ny {rows:Za3}(h:gx H F rows){r:Zt}(c:r∈F):∃d,H r\(.lst (au d)):=by
 let⟨i,b,e⟩:=List.mem_iff_getElem.mp c;let a:i<⇑rows:=by rw[<-h.1];rwa[b]
 rwa[_,h.2 i r _ (by rw[ajg b,e]) (ajg a)]
def _root_.Lake.L2.gx.snoc {rs:Zo}{rows:Za3}{ns:Zh}(h:gx H rs rows)(f:H a\.lst (au ns)):gx H (rs++[a]) (rows++[ns]):=by
 rwa[⟨by rw[ajh,ajh,h.1];rfl,λi q e c b=>?_⟩];cases d:i<⇑rs
 ·rw[ajs d]at c;rw[ajs (by rw[<-h.1];rwa[d])]at b;rwa[h.2 i q e c b]
 ·rw[ajv ∅]at c;rw[ajv (by rw[<-h.1];omega)]at b;rw[ajn.mp (ajj c),ajn.mp (ajj b)];rwa[f]
def cz (S:RS)(k c:Nat):Nat:=(S.by c (M12.st k)).getD 0
inductive yo (C:Zt) (vs:Zb) (H:Hp) (Q:VK) (E_:XK):Prop
 |mk (r:Zt) (S:RS) (a:RA) (Z:Nat->Prop):vs=[↑r]->ay C H r S a->1<=S.L->S.L<=40->S.q<=300->⇑S.ways=S.q->Z 0->(∀c,Z c->c<S.q/\∀k,k<2* S.L->∃d,S.by c (M12.st k)=some d/\Z d)->(∀l N H',ao H H'->H l=none->TabAt H' l (M24.Cy (cz S) (2* S.L) (M24.bZ (cz S) (2* S.L) 0 N))->⇑(M24.bZ (cz S) (2* S.L) 0 N)=N->Q ↑l H')->yo C vs H Q E_
def wF (a:List (Key×V))(found:Zi):Prop:=⇑a<=⇑found/\∀c:Nat,bB a (Sum.inl (c:Int))=if c∈found then some (V.int (M24.ix found c:Int)) else none
def wF.one:wF [(Sum.inl 0,.int 0)] [0]:=⟨ajp _,λc=>by
 cases h:c=0
 ·subst h;rfl
 ·rw[ajw (λq=>h (ajn.mp q))];show bB (putK [] (Sum.inl 0) (.int 0)) (Sum.inl (c:Int))=none;rw[qC,ajw (λq=>by injection q with q;omega)];rfl⟩
def wF.put {c:List (Key×V)}{found:Zi}(h:wF c found)(nd:found.Nodup)(hc:n∉found):wF (putK c (Sum.inl (n:Int)) (.int (⇑found:Int))) (found++[n]):=by
 let g:(found++[n]).Nodup:=by
  rw[aj4];rwa[nd,by simp,λa i b j=>by cbv]
 rwa[⟨5,λf=>?_⟩]
 ·have:=g9 c (Sum.inl (n:Int)) (.int (⇑found:Int));have:=h.1;rw[ajh,akb];ext
 rw[qC];cases e:f=n
 ·subst e;rw[ajD rfl,ajD (ajo _ ajA),M24.Uv hc]
 ·rw[ajw (λq=>e (by injection q with q;omega)),h.2];cases d:f∈found
  ·rw[ajD d,ajD (ajG _ d),M24.Jw g d]
  cbv
structure NS (H0 H:Hp) (lf d lr:Zt) (ts:Zo) (kvs:List (Key×V)) (found:Zi) (Tb:Za3):Prop where
 same:ao H0 H
 f1:H lf\(.lst (au (nI found)))
 d1:H d\(.dK kvs)
 nm:wF kvs found
 r1:H lr\(.lst (ts.map V.ref))
 r2:gx H ts Tb
 un:(lf::lr::ts).Nodup
 new:∀x∈lf::lr::ts,H0 x=none
 dn:H0 d=none
section
variable {H0 H H':Hp}{lf d lr:Zt}{ts:Zo}{kvs:List (Key×V)}{found:Zi}{Tb:Za3}
def NS.more (h:NS H0 H lf d lr ts kvs found Tb)(s:ao H H'):NS H0 H' lf d lr ts kvs found Tb:=
 ⟨h.same.trans s,s^h.f1,s^h.d1,h.nm,s^h.r1,h.r2.same s,h.un,h.new,h.dn⟩
def NS.ne (h:NS H0 H lf d lr ts kvs found Tb):lf≠lr/\lf∉ts/\lr∉ts/\ts.Nodup:=by
 let a:=ajX.mp h.un
 cbv
def NS.add (h:NS H0 H lf d lr ts kvs found Tb)(nd:found.Nodup){c:Nat}(hc:c∉found):NS H0 (upd (upd H d (.dK (putK kvs (Sum.inl (c:Int)) (.int (⇑found:Int))))) lf (.lst (au (nI found)++[.int (c:Int)]))) lf d lr ts (putK kvs (Sum.inl (c:Int)) (.int (⇑found:Int))) (found++[c]) Tb:=by
 let⟨j,k,n,m⟩:=h.ne;let dl:∀b g,H b\.lst g->b≠d:=λb g e=>bN e h.d1 (by cbv)
 rwa[⟨λb o e=>?_,55,h.nm.put nd hc,5,⟨h.r2.1,λi q ns f l=>?_⟩,h.un,h.new,h.dn⟩]
 ·rw[ai (aw e (h.new lf ajA)),ai (aw e h.dn)];rwa[h.same^e]
 ·rw[aj,jc,ints_app];rfl
 ·rw[ai (akB (dl lf _ h.f1)),aj]
 ·rw[ai (akB j),ai (dl lr _ h.r1)];rwa[h.r1]
 ·let a:=h.r2.2 i q ns f l;rw[ai (λe=>k (by rw[<-e];rwa[ajj f])),ai (dl q _ a)];rwa[a]
def NS.row (h:NS H0 H lf d lr ts kvs found Tb){q:Zt}{row:Zh}(f:H q\.lst (au row))(p:H0 q=none)(c:q∉lf::lr::ts):NS H0 (upd H lr (.lst ((ts++[q]).map V.ref))) lf d lr (ts++[q]) kvs found (Tb++[row]):=by
 let⟨g,k,m,i⟩:=h.ne;simp only[ajE,not_or]at c;let⟨j,l,n⟩:=c;rwa[⟨λb o e=>?_,55,h.nm,aj,55,λx a=>?_,h.dn⟩]
 ·rw[ai (aw e (h.new lr (ajP _ ajA)))];rwa[h.same^e]
 ·rw[ai g];rwa[h.f1]
 ·rw[ai (bN h.d1 h.r1 (by cbv))];rwa[h.d1]
 ·rwa[gx.but (w:=lr) (h.r2.snoc f) Px.upd ?_]
  cbv
 ·cbv
 ·rw[<-alI,<-alI]at a;rcases ajr.mp a with a|a
  ·rwa[h.new x a]
  cbv
end
def EE (T:Txt K mg A):T.numbered.Ok P w base 2 (yo A.aB):=by
 rwa[T.numbered.on fW (λb8 AA outer s H vs Q E hr h=>?_)]
 ·let⟨r,S,a,Z,rfl,hR,yi,Aa,hm,hw,hZ0,hZ,k⟩:=h;let pC:=ib hr
  erw[_,{bP 1 fW.nd (pc T.qQ (vt T) hr #[0<<<1]),bP 2 fW.nd (cH #[av]),bP 3 fW.nd (E9 (BH av av E8) rfl rfl (by simp) ⋯),bP 4 fW.nd (cH ak),bS (jt ajR (bh mE (4<<<0) (2<<<0) (bq _))
    {vk (iy:=5) fW.nd rfl (Or.inl rfl) (fns:=["rows","rooms","found"]) (ixs:=[4,0,2]) (cl:=_) rfl (dZ (pv 1)) (dW [(_,_),(_,_),(_,_)] rfl ⟨222222222222222,True.intro⟩ rfl) (λC s H ex=>(pm (pv 2) (aH T) T.iG (ia T) hr #[bA (BL (K:=K) rfl) (pv 3) (bQ (Aq (K:=K) rfl) rfl T.fO akf #[1]) (λ_ _=>rfl),0])),cX ajR rfl (dZ (pv 5)) (fL 6 fW.nd)
     {bS (bI (HM (IG pC (pv 6) (pv 3)))
      {kK pC (pv 3) (pv 6) (2<<<0) rfl,aT (df ajy ajB ajC bK (pv 2) #[6])}
      bu)},aT (df ajy ajB ajC bK (pv 4) #[kS (fns:=["numbers"]) (ixs:=[3]) (cl:=_) rfl (dZ (pv 5)) (dW [(_,_)] rfl ⟨22222,True.intro⟩ rfl) (λC s H ex=>(jJ pC (pv 1) (pv 0) (λ_ _=>rfl)))])}),aY (pv 4)}]
  rwa[nu ?_];intro rX oz jg fe fh;rwa[⟨12,r,_,a.dx,112,hR.ins,aH T,T.tK,xk^_,S.L,2,yi,3,λsl H1 s1 hs1=>?_⟩];rwa[⟨Za4 1,λB Vz=>?_⟩];generalize e_:upd H1 B _=H2;obtain⟨s2,VA⟩:_/\_\(.lst (au (nI [0]))):=eR e_ Vz;intro d hd;erw[aj,[(Sum.inl 0,.int 0)],2,by show 1<=15;decide];generalize Cm:upd (upd H2 d (.dK [])) d _=H3;let hd3:H3 d\(.dK [(Sum.inl 0,.int 0)]):=by rw[<-Cm,aj];rfl
  let s3:ao H2 H3:=λb o e=>by rw[<-Cm,ai (aw e hd),ai (aw e hd)];rwa[e]
  clear Cm;rwa[⟨ajU _,λu VB=>?_⟩];generalize e_:upd H3 u _=H4;obtain⟨s4,hr4⟩:_/\_\(.lst (([]:Zo).map V.ref)):=eR e_ VB
  let B4:NS H1 H4 B d u [] [(Sum.inl 0,.int 0)] (M24.bZ (cz S) (2* S.L) 0 0) (M24.pN (cz S) (2* S.L) 0 0):=by
   let VC:H2 u=none:=s3.free VB;let e:B≠u:=λz=>by rw[<-z,VA]at VC;ext VC
   rwa[⟨(s2.trans s3).trans s4,(s3.trans s4) _ _ VA,s4^hd3,wF.one,hr4,⟨2,λi r ns h1=>by simp at h1⟩,by simp[e],λx hx=>?_,s2.free hd⟩];simp only[ajE,akc,alR]at hx;rcases hx with e|e
   ·rw[e];rwa[Vz]
   ·rw[e];rwa[s2.free VC]
  clear s2 s3 s4 VA hd3 hr4 Vz hd VB
  let lL:∀y i,Z y->i<2* S.L->Z (cz S i y):=λy i hy F=>by
   let⟨d,e1,e2⟩:=(hZ y hy).2 i F;unfold cz;rw[e1];rwa[e2]
  let oZ:∀n,∀z∈M24.bZ (cz S) (2* S.L) 0 n,Z z:=M24.uz hZ0 lL;let Y:∀n,⇑(M24.bZ (cz S) (2* S.L) 0 n)<=300:=λn=>aju (M11.oV S.q _ (M24.p9 _ _ _ n) λz R=>(hZ z (oZ n z R)).1) hm
  erw[λ gL H'=>∃(N:Nat) (J:Zo) (f:List (Key×V)) (v5 M:Zc),gL=#v[↑r,↑sl,↑B,↑d,↑u,v5,M]/\NS H1 H' B d u J f (M24.bZ (cz S) (2* S.L) 0 N) (M24.pN (cz S) (2* S.L) 0 N)/\⇑(M24.bZ (cz S) (2* S.L) 0 N)=N,5]
  ·erw[λm σ H'=>∃(n:Nat) (J:Zo) (f:List (Key×V)) (v5 M:Zc),m=300 - n/\σ=#v[↑r,↑sl,↑B,↑d,↑u,v5,M]/\NS H1 H' B d u J f (M24.bZ (cz S) (2* S.L) 0 n) (M24.pN (cz S) (2* S.L) 0 n)/\n<=⇑(M24.bZ (cz S) (2* S.L) 0 n),⟨_,(0),[],_,none,none,22,B4,ajU _⟩];rintro m σ H5 ⟨n,J,f,v5,M,rfl,rfl,O,hn⟩;let hop:=Y n
   let U:⇑J=n:=by
    rw[O.r2.1];unfold M24.pN;rw[ajk,ajN];ext
   erw[12,u,12,.inl (aI.of O.r1),12,B,12,.inl (aI.of O.f1),112212];rwa[bX (λh=>?_) (λh=>?_)]
   ·let ve:n<⇑(M24.bZ (cz S) (2* S.L) 0 n):=by
     let h':(⇑(J.map V.ref):Int)<(⇑(au (nI (M24.bZ (cz S) (2* S.L) 0 n))):Int):=ajM h;rw[aP,bW,ajk,U]at h';ext
    clear h;let I:=ajg ve;change (M24.bZ (cz S) (2* S.L) 0 n)[n]=c at I;let VD:=oZ n c (ajj I);let hcm:=(hZ c VD).1;erw[_,λ gL H' h=>h];let R5:ay A.aB H5 r S a:=hR.same (s1.trans O.same);let G:=O.same^hs1;erw[12,sl,2,⟨_,aI.of G⟩];rwa[oO (au ((~~~(2* S.L)).map M12.st)) (λv=>match v with|.int z=>.int (((S.by c z).getD 0:Nat):Int)|v=>v) (sF (aI.of G)) (pY (aI.of G)) (m5 (aI.of G)) ([aP,ajk,akD]▸aju (show 2* S.L<=1000 by omega) ⋯) (λi v hv Rr l=>?_) (λlo VF=>?_)]
    ·let⟨z,rfl,R⟩:=cC hv
     let F:i<2* S.L:=by
      have:=(aji.mp R).1;rw[ajk,akD]at this;rwa[this]
     let ez:M12.st i=z:=Za0 ((ye F).symm.trans R);let⟨dd,e1,e2⟩:=(hZ c VD).2 i F;rw[ez]at e1;erw[12,r,a.dx,12,R5.ins,cL _ _ _ ⋯,1212,u,12,.inl (aI.of O.r1),B,11122,aI.of O.f1,([ajk,U]▸cj (cP (j0 I))),12,r,S,a,c,z,2,R5,[hw]▸hcm];let l:Rr (.int (((S.by c z).getD 0:Nat):Int)) H5:=l;rw[e1]at l ⊢;rwa[l]
    let eo:(au ((~~~(2* S.L)).map M12.st)).map (λv=>match v with|.int z=>V.int (((S.by c z).getD 0:Nat):Int)|v=>v)=au (nI ((~~~(2* S.L)).map λi=>cz S i c)):=by
     unfold au nI;rw[aj8,aj8,aj8,aj8];rfl
    rw[eo];clear eo;generalize e_:upd H5 lo _=H6;let⟨s6,ho6⟩:=eR e_ VF;let n1:lo≠B:=λz=>by rw[z,O.f1]at VF;ext VF
    let T1:∀i,i<2* S.L->((~~~(2* S.L)).map λi=>cz S i c)[i]?\(cz S i c):=λi F=>by rw[ajq,List.getElem?_range F];rfl
    erw[12,lo,2,⟨_,aI.of ho6⟩];rwa[g6 (xs:=au (nI ((~~~(2* S.L)).map λi=>cz S i c))) (λi σ X=>∃(f:List (Key×V)) (M:Zc),σ=#v[↑r,↑sl,↑B,↑d,↑u,↑lo,M]/\NS H1 X B d u J f (M24.kU (cz S) c (M24.bZ (cz S) (2* S.L) 0 n) i) (M24.pN (cz S) (2* S.L) 0 n)/\X lo\.lst (au (nI ((~~~(2* S.L)).map λi=>cz S i c)))) ⟨f,M,2,O.more s6,ho6⟩ (λi σ X _ ζ=>by let⟨_,_,_,_,h⟩:=ζ;rwa[aI.of h]) ?_ ?_]
    ·rintro i y σ X F ⟨f,M,rfl,g,p⟩
     let hi':i<2* S.L:=by
      have:=(aji.mp F).1;rw[aP,bW,ajk,akD]at this;rwa[this]
     rw[cP (j0 (T1 i hi'))]at F;let ey:=Za0 F;subst ey
     let Vd:⇑(M24.kU (cz S) c (M24.bZ (cz S) (2* S.L) 0 n) i)<=300:=aju (M11.oV S.q _ (M24.uy (M24.p9 _ _ _ n) i) λz R=>by
      rcases M24.kX.mp R with q|⟨j,hj,rfl⟩
      ·rwa[(hZ z (oZ n z q)).1]
      ·rwa[(hZ _ (lL c j VD (by omega))).1]) hm
     let hnd:(M24.kU (cz S) c (M24.bZ (cz S) (2* S.L) 0 n) i).Nodup:=M24.uy (M24.p9 _ _ _ n) i;let VG:=M24.oW (cz S) c (M24.bZ (cz S) (2* S.L) 0 n) i;change M24.kU (cz S) c (M24.bZ (cz S) (2* S.L) 0 n) i=come at VG g Vd hnd;rw[VG];clear VG;change cz S i c=o;rwa[⟨15,λ_ _ h=>h⟩];erw[1212,d,12,cO.k (k:=Sum.inl (o:Int)) g.d1,12];rw[g.nm.2 o];cases L:o∈come
     ·rw[ajD L];rwa[dA ⟨f,125,p⟩];unfold M24.add;rw[ajD L];rwa[g]
     ·rw[ajw L];rwa[dX ?_];let B8:=g.add hnd L;let acu:(⇑(au (nI come)):Int)=(⇑come:Int):=by rw[aP,bW]
      erw[12,B,12,.inl (aI.of g.f1),1212,d,12,m7.k (k:=Sum.inl (o:Int)) g.d1 (ajt (show ⇑f<=300 by have:=g.nm.1;omega) ⋯)];let hfd:upd X d (.dK (putK f (Sum.inl (o:Int)) (.int (⇑(au (nI come)):Int)))) B\(.lst (au (nI come))):=by rw[ai (bN g.f1 g.d1 f!"")];rwa[g.f1]
      erw[12,.inl ⟨21,aI.of hfd⟩,12,B,1122,hfd,5]
      ·rw[aP,bW];rwa[ajt Vd ⋯]
      rw[acu];erw[putK f (Sum.inl (o:Int)) (.int (⇑come:Int)),125]
      ·unfold M24.add;rw[ajw L];rwa[B8]
      ·rw[ai n1,ai (bN p g.d1 f!"")];rwa[p]
    ·rintro σ X ⟨f,M,rfl,g,p⟩;rw[aP,bW,ajk,akD,<-M24.iD I]at g;let ahO:=Y (n+ 1);let⟨t,ht⟩:=M24.Cw (cz S) (2* S.L) 0 n;let UN:n+ 1<=⇑(M24.bZ (cz S) (2* S.L) 0 (n+ 1)):=by rw[ht,ajh];ext
     let hin:∀i,i<2* S.L->cz S i c∈M24.bZ (cz S) (2* S.L) 0 (n+ 1):=λi F=>by rw[M24.iD I];rwa[M24.kX.mpr (.inr ⟨i,F,2⟩)]
     erw[12,.inl ⟨21,aI.of g.r1⟩,12,lo,2,⟨_,aI.of p⟩];rwa[oO (au (nI ((~~~(2* S.L)).map λi=>cz S i c))) (λv=>match v with|.int z=>.int ((M24.ix (M24.bZ (cz S) (2* S.L) 0 (n+ 1)) z.toNat:Nat):Int)|v=>v) (sF (aI.of p)) (pY (aI.of p)) (m5 (aI.of p)) ([aP,bW,ajk,akD]▸aju (show 2* S.L<=1000 by omega) ⋯) (λi v hv Rr l=>?_) (λlq D=>?_)]
     ·let⟨z,rfl,R⟩:=cC hv
      let F:i<2* S.L:=by
       have:=(aji.mp R).1;rw[bW,ajk,akD]at this;rwa[this]
      let ez:((cz S i c:Nat):Int)=z:=Za0 ((j0 (T1 i F)).symm.trans R);subst ez;let l:Rr (.int ((M24.ix (M24.bZ (cz S) (2* S.L) 0 (n+ 1)) (((cz S i c:Nat):Int)).toNat:Nat):Int)) X:=l;rw[akg]at l;rwa[⟨1212,d,125,l⟩];have:=cO.k (k:=Sum.inl ((cz S i c:Nat):Int)) g.d1;rw[g.nm.2,ajD (hin i F)]at this;rwa[this]
     let eo:(au (nI ((~~~(2* S.L)).map λi=>cz S i c))).map (λv=>match v with|.int z=>V.int ((M24.ix (M24.bZ (cz S) (2* S.L) 0 (n+ 1)) z.toNat:Nat):Int)|v=>v)=au ((~~~(2* S.L)).map λi=>((M24.ix (M24.bZ (cz S) (2* S.L) 0 (n+ 1)) (cz S i c):Nat):Int)):=by
      unfold au nI;rw[aj8,aj8,aj8,aj8];rfl
     rw[eo];clear eo;generalize e_:upd X lq _=H8;let⟨s8,hq8⟩:=eR e_ D
     let nq:lq∉B::u::J:=by
      simp only[ajE,not_or];rwa[⟨λz=>?_,λz=>?_,λz=>?_⟩]
      ·rw[z,g.f1]at D;ext D
      ·rw[z,g.r1]at D;ext D
      ·let⟨ns,e⟩:=Ny g.r2 z;rw[D]at e;ext e
     let B8:=(g.more s8).row hq8 (g.same.free D) nq;rw[<-M24.Jx I]at B8;erw[u,1122,s8^g.r1,5]
     ·rw[ajk,U];rwa[ajt (show n<=300 by omega) ⋯]
     rw[ajT]at B8;rwa[300 - (n+ 1),3,n+ 1,J++[lq],f,1122,B8,UN]
   ·erw[n,J,f,112,O];let h':¬(⇑(J.map V.ref):Int)<(⇑(au (nI (M24.bZ (cz S) (2* S.L) 0 n))):Int):=λq=>h (ajF q)
    rw[aP,bW,ajk,U]at h';ext
  rintro gL H' ⟨N,J,f,v5,M,rfl,B',hN⟩;rwa[⟨12,k u N H' (s1.trans B'.same) (s1.free (B'.new u (ajP _ ajA))) ⟨J,B'.r1,5⟩ hN⟩];rw[<-M24.Mx hN];rwa[B'.r2]
inductive VH (K:Za1) (vs:Zb) (H:Hp) (Q:VK) (E_:XK):Prop
 |mk (a:Zt) (ns:Zh) (k:Nat):vs=[↑a,.int k]->aI K H a (au ns)->k<=1000->(∀z,Q (.int z) H)->VH K vs H Q E_
structure CS (CR CG CC:Zt) (H:Hp) (x r:Zt) (q:KA) (S:RS) (a:RA) (R:Za2) (ks:Zh) (B:Nat) (rs ps:Za3) (fp:List (Zh×Nat)) (bs:List (Nat×Zh×Nat)) (gs:Zf) (ag:Zi) (W:bf) (O:Zt->Prop):Prop where
 c:cx CG CC H x r q gs ag W ⇑S.a9 fp O
 q:H q.aQ\(.dT (i5 fp))
 rm:i7 CR H r S a R ks B
 dj:∀b,a.own r b->¬O b
 ci:CI S bs gs ag W fV none
 bo:Dz (rs++ps) ⇑rs ks bs
 pl:zg rs fp
 br:∀b∈bs,b.2.2<S.q
 ra:∀w∈rs,w≠[]->∀c,c<S.q->S.ax c=c->∃n,(n,w,c)∈bs
 pa:∀w∈ps,w≠[]->∃n,(n,w,0)∈bs
 ln:⇑bs<=S.q* ⇑fp+ ⇑ps
 wb:∀u∈rs++ps,⇑u<=1000/\∀z∈u,(-1000<=z/\z<=1000)/\z∈ks/\-z∈ks
def CS.VJ {CR:Zt}{x:Zt}{q:KA}{rs o:Za3}{p:List (Zh×Nat)}{bs:List (Nat×Zh×Nat)}{gs:Zf}{W:bf}{d:Zt->Prop}(h:CS CR a b H x c q S O R l n rs o p bs gs [] W d)(r:0<S.q):GH rs o S:=by
 rwa[⟨λw j g hc m=>?_,λw j=>?_⟩]
 ·cases i:w=[]
  ·rw[i];rwa[.inl rfl]
  ·let⟨e,k⟩:=h.ra w j i g hc m;rwa[ends (b:=(e,w,g)) h.ci h.rm.g k m]
 ·cases i:w=[]
  ·rw[i];rwa[.inl rfl]
  ·let⟨e,k⟩:=h.pa w j i;rwa[ends (b:=(e,w,0)) h.ci h.rm.g k (by have:=(h.rm.g.el 0 r).1;rwa[Nat.le_zero.mp this])]
inductive FW (CR CG CC:Zt) (vs:Zb) (H:Hp) (Q:VK) (E_:XK):Prop
 |mk (x r:Zt) (q:KA) (S:RS) (a:RA) (R:Za2) (B:Nat) (rs ps:Za3) (fp:List (Zh×Nat)) (bs:List (Nat×Zh×Nat)) (gs:Zf) (W:bf) (O:Zt->Prop) (c:Nat) (z:Int):vs=[↑x,.int c,.int z]->CS CR CG CC H x r q S a R (bF (2* S.L)) B rs ps fp bs gs [] W O->1<=S.L->S.L<=200->c<S.q->S.ax c=c->S.by c z=none->z∈bF (2* S.L)-> -z∈bF (2* S.L)->S.q<1000->(S.q+ 1)* ⇑fp+ ⇑ps<=700->B<800000->⇑S.a9+ S.stand<=800000->(∀S' a' R' bs' jh W' O' B' H',(∀b o,¬O b->¬a.own r b->H b\o->H' b\o)->CS CR CG CC H' x r q S' a' R' (bF (2* S.L)) B' rs ps fp bs' jh [] W' O'->(∀b,a'.own r b\/O' b->a.own r b\/O b\/H b=none)->Tr (rs++ps) ⇑rs (S.make c z (bF (2* S.L))) S'->S'.q=S.q+ 1->S'.L=S.L->B'<=B+ 702->Q .non H')->FW CR CG CC vs H Q E_
def yp (T:Txt K mg A):T.oh.Ok mg P w base 9 (FW A.aB A.aO A.aF):=by
 rwa[T.oh.on ya (λb8 AA outer s H vs Q E hr h=>?_)]
 ·let⟨x,r,q,S,a,R,B,rs,ps,i,bs,gs,W,O,c,z,rfl,h,yi,Aa,hc,ec,d,hz,D,hm,DG,hB,hwn,k⟩:=h
  refine⟨_,{aT (pm (pv 0) (aJ T) T.fq (ji T) hr #[pm (0<<<1) (aH T) T.qY (AX T) hr #[1,2]]),aT (pm (pv 0) (aJ T) T.eZ (fQ T) hr #[1,2]),aT (xB (pv 0) (aJ T) T.iQ (mC T) hr)},?_⟩
  rwa[da ?_];intro fe fh;let l:=h.rm.g;let rb:=h.rm.rb;let ok:=Af l h.rm.k ∅ (by have:=h.rm.l;omega) ∅ ∅;rwa[⟨12,x,q.dx,12,h.c.ins,fx ⋯,12,x,_,q.dx,112,h.c.ins,aJ T,T.fb,fY^_,r,a.dx,12,h.rm.at_.ins,cL _ _ _ ⋯,1212,r,S,a,c,z,2,h.rm.at_,l.wf,yi,Aa,hc,33,ok.sm.w,λa1 H1 V rJ X=>?_⟩];let oth:∀b,O b->∃o,H b\o:=λb y=>by let⟨o,e,_⟩:=h.c.th b y;rwa[o,e]
  let tno:∀b Z,H b\.tup Z->H1 b\(.tup Z):=λb Z e=>V b _ (λy=>Rj h.rm.at_ e y) e
  let c1:=h.c.keep (λb o y e=>V b o (λw=>h.dj b w y) e) tno;let q1:H1 q.aQ=_:=V _ _ (zh h.rm.at_ h.q) h.q;let ci1:=h.ci.make l hc ec d h.br (bF (2* S.L))
  let Y:∀b,a1.own r b->¬O b:=λb y w=>by
   rcases X b y with v|v
   ·rwa[h.dj b v w]
   cbv
  let U6:⇑bs+ ⇑i<=700:=by have:=h.ln;rw[amA,Nat.one_mul]at DG;ext
  rwa[⟨x,r,q,S.make c z (bF (2* S.L)),bs,gs,[],W,⇑S.a9,i,O,_,S.q,2,c1,q1,ci1,λp hp=>?_,akK _,3,ajU _,λf j L H2 u Pq G c2 J Kx=>?_⟩]
  ·have:=h.wb p.1 (ajG _ (ajj (h.pl.a p hp)));rwa[this.1,λy hy=>(this.2 y hy).1]
  let bl:=rq S.q i;let l2:⇑(bs++gJ i S.q)<=700:=by rw[ajh];ext
  let bo2:Dz (rs++ps) ⇑rs (bF (2* S.L)) (bs++gJ i S.q):=by
   let nw:∀b∈gJ i S.q,(rs++ps)[b.1]?\b.2.1/\b.1<⇑rs:=λb d=>by
    let⟨p,hp,d⟩:=akz.mp d;let⟨rfl,_⟩:=yn d;let h1:=h.pl.a p hp
    cbv
   rwa[⟨λb d=>?_,λb d=>?_,λb d=>?_,λb d=>?_,3⟩]
   ·rwa[(ajr.mp d).elim (h.bo.w b) λy=>(nw b y).1]
   ·rwa[(ajr.mp d).elim (h.bo.n b) λy=>.inl (nw b y).2]
   ·rwa[(ajr.mp d).elim (h.bo.l b) λy=>(h.wb _ (ajj (nw b y).1)).1]
   ·rwa[(ajr.mp d).elim (h.bo.k b) λy z' D=>((h.wb _ (ajj (nw b y).1)).2 z' D).2]
  let g2:⇑f<=700:=by rw[J.len];rwa[l2]
  let Km:lX A.aO A.aF (S.make c z (bF (2* S.L))) (bs++gJ i S.q) f W (λr s=>r=c/\s=z) (⇑j+ 2* ⇑f) x r q ⇑S.a9 i L H2 j W:=⟨c2,J,λ_ _ _ z=>z,by have:=J.two;ext⟩;rwa[⟨12,x,q.dx,12,c2.ins,fx ⋯,1212,x,r,q,f,j,W,⇑S.a9,i,L,c,z,2,c2,Km.fits ∅,λns H3 t nd3 hn3 c3=>?_⟩];let N:=Km.wake nd3 hn3 c3;let Va:CI (S.make c z (bF (2* S.L))) (bs++gJ i S.q) f (j++ns) (gB W c z) fV none:=N.i.ex λr' s' n' w' _ e=>absurd ⟨akm Nat.cast e.1,e.2⟩ (di.mp w').2
  let dj2:∀b,a1.own r b->¬L b:=λb y w=>by
   rcases G b w with v|v
   ·rwa[Y b y v]
   ·let⟨o,e⟩:=rJ.there y;cbv
  let rm1:i7 A.aB H1 r (S.make c z (bF (2* S.L))) a1 (eD R c z S.q) (bF (2* S.L)) (B+ 2):=by
   let es:=GU (c:=c) (z:=z) (g:=bF (2* S.L)) l.wf;let M:(S.make c z (bF (2* S.L))).a9=S.a9:=rfl;rwa[⟨rJ,l.make hc ec d _,zV h.rm.w l.wf _ _ _,λa y b e=>?_,by show S.q+ 1<=_;ext,h.rm.l,5,by rw[M];ext⟩]
   ·rcases e with e|⟨_,e,_⟩|⟨_,e,_⟩
    ·rwa[h.rm.k _ _ _ e]
    ·rw[e];rwa[hz]
    ·rw[e];rwa[D]
   ·show ⇑(S.rows++[_])+ _<=_;rw[ajh,es];show ⇑S.rows+ 1+ _<=_;ext
  let rm3:=(rm1.keep (λb o y e=>u b o (Y b y) e) (λb Z e=>u b _ (c1.jo e) e)).keep (λb o y e=>t b o (dj2 b y) e) (λb Z e=>t b _ (c2.jo e) e);let lv:live f<=700:=aju List.countP_le_length g2;let hmul:live f* (2* ⇑(bs++gJ i S.q)+ 1)<=700* 1401:=amC lv ∅;let YX:⇑(j++ns)<=2100:=by have:=N.b;ext
  rwa[⟨12,x,q.dx,12,c3.ins,fx ⋯,x,r,q,S.make c z (bF (2* S.L)),a1,eD R c z S.q,bF (2* S.L),B+ 2,rs++ps,⇑rs,bs++gJ i S.q,f,j++ns,gB W c z,i,L,2,c3,rm3,3,dj2,Va,bo2,3,λS' a' R' jh W' O' B' H' f' c' r' ow oo dj' ci' rr em eL tr Ci=>?_⟩];let I:S'.q=S.q+ 1:=em
  let out:∀{b o},¬O b->¬a.own r b->H b\o->H' b\o:=λ{b o} C F e=>by
   let U:=V b o F e;let e2:=u b o C U;let n3:¬L b:=λy=>(G b y).elim C λv=>by cbv
   rwa[f' b o n3 (λy=>(X b y).elim F λv=>by cbv) (t b o n3 e2)]
  let non:∀b,a1.own r b\/L b\/H3 b=none->a.own r b\/O b\/H b=none:=λb y=>by
   cases F:a.own r b
   ·rwa[.inl F]
   cases C:O b
   ·rwa[.inr (.inl C)]
   rwa[.inr (.inr ?_)]
   cases e:H b with
   |none=>rfl
   |some o=>
    exfalso
    let U:=V b o F e;let n3:¬L b:=λy=>(G b y).elim C λv=>by cbv
    rcases y with y|y|y
    ·cbv
    ·rwa[n3 y]
    ·rw[t b o n3 (u b o C U)]at y;ext y
  let lt:=Later.of l (l.make hc ec d (bF (2* S.L))) jx (amJ _);let lt2:=Later.of rm1.g r'.g rr (amd em.symm);let el1:∀b,b<S.q->(S.make c z (bF (2* S.L))).ax b=S.ax b:=λb ve=>(fI l.wf c z (bF (2* S.L)) b).trans (ajw ∅)
  rwa[k S' a' R' (bs++gJ i S.q) jh W' O' B' H' (λb o C F e=>out C F e) ⟨c',out (h.c.Kg h.q) (zh h.rm.at_ h.q) h.q,r',dj',ci',bo2,h.pl,λb d=>?_,λw M m b d eb=>?_,λw M m=>?_,5,h.wb⟩ (λb y=>?_) tr I (eL.trans rfl) ∅]
  ·rw[I];rcases ajr.mp d with y|y
   ·have:=h.br b y;ext
   ·let⟨p,_,d⟩:=akz.mp y;let⟨rfl,_⟩:=yn d;rwa[akK _]
  ·cases e:b<S.q
   ·let U:=lt2.el b (by show b<S.q+ 1;omega);rw[el1 b e,eb]at U;let l1:=(l.el b e).1;let l2:=(r'.g.el (S.ax b) ∅).1;let⟨n,hn⟩:=h.ra w M m b e ∅
    cbv
   ·let e:b=S.q:=∅
    subst e;let⟨n,hn⟩:=h.pl.b w M;rwa[n,ajo _ (akz.mpr ⟨(w,n),hn,Hv m⟩)]
  ·let⟨n,hn⟩:=h.pa w M m
   cbv
  ·have:=h.ln;rw[ajh,I,amA,Nat.one_mul];ext
  cbv
def Hx (T:Txt K mg A):yS K A.bE:=⟨T.Hn,T.Ho,T.Hq,T.Hr,T.Hs,T.Ht⟩
noncomputable def KG (n:Nat)(l:Zt):List (Str×V):=[("made",.int n),("rows",↑l)]
inductive Py (C:Zt) (vs:Zb) (H:Hp) (Q:VK) (E_:XK):Prop
 |mk (x l:Zt) (n:Nat) (xs:Zb):vs=[↑x,.int n,↑l]->H x\XO x C none true->n<100000->H l\.lst xs->⇑xs<=1000000->(∀d l2 H',H d=none->H l2=none->d≠x->(∀b o,b≠x->H b\o->H' b\o)->H' x\XO x C (some d) true->H' d\XD d (KG n l2)->H' l2\.lst xs->l2≠x->Q .non H')->Py C vs H Q E_
def sk (T:Txt K mg A):T.dQ.Ok mg P w base 1 (Py A.bE):=by
 rwa[T.dQ.on sh (λL Y C s H X Q E Z h=>?_)]
 ·let⟨x,l,n,N,rfl,u,hn,F,I,k⟩:=h
  refine⟨_,{aT (Mw (Fw T.xY T.dQ.m.at_) ⟨T.abY,T.abZ,T.ab1⟩ rfl T.Er #[0,II (Fe (Qm (pv 1)) (Fe (dP (l:=[32,114,111,111,109,115,32,119,101,114,101,32,109,97,100,101,44,32,97,110,100,32,116,104,101,114,101,32,97,114,101,32,103,97,112,115,32,108,101,102,116]) rfl) S8)) rfl] (by decide) rfl rfl rfl),Ft (pv 0) (pv 1) rfl,Ft (pv 0) (cR (gw) rfl T.gG aj2 #[2]) rfl},?_⟩
  rwa[da ?_];intro S J;let U:=Lz (n:=(n:Int)) ∅ ∅;erw[1212,(n:Int),2312,by show 0+ _<=1000000;ext,1255,x,none,12,u]
  ·rw[alT];let e:∀m:Nat,m<=100->⇑(By (n:Int))+ m<=1000000:=λm O=>∅
   rwa[e _ ⋯]
  ·rw[alT,ajh];let e:∀m:Nat,m<=100->⇑(By (n:Int))+ m<=1000000:=λm O=>∅
   rwa[e _ ⋯]
  rwa[⟨1212,x,A.bE,none,true,2,u,Hx T,T.Q8,λd p=>?_⟩];let a:d≠x:=(aw u p).symm;let c:upd (upd H d (XD d [("made",V.int n)])) x (XO x A.bE (some d) true) x\(XO x A.bE (some d) true):=aj;let g:upd (upd H d (XD d [("made",V.int n)])) x (XO x A.bE (some d) true) d\(XD d [("made",V.int n)]):=by rw[ai a,aj]
  let B:∀b o,b≠x->H b\o->upd (upd H d (XD d [("made",V.int n)])) x (XO x A.bE (some d) true) b\o:=λb o v e=>by rw[ai v,ai (aw e p)];rwa[e]
  let v:∀b,upd (upd H d (XD d [("made",V.int n)])) x (XO x A.bE (some d) true) b=none->H b=none:=λb e=>by
   cases q:b=x
   ·cbv
   ·rw[ai q]at e;cases G:b=d
    ·rw[G];rwa[p]
    ·rw[ai G]at e;rwa[e]
  change upd (upd H d (XD d [("made",V.int n)])) x (XO x A.bE (some d) true)=M at c g B v ⊢;let D:l≠x:=bN F u f!"";rwa[⟨12,l,N,2,.inl (aI.of (B _ _ D F)),λi f=>?_⟩];generalize R:upd M i _=H2;let⟨t,y⟩:=eR R f;let j:i≠x:=(aw c f).symm;let r:i≠d:=(aw g f).symm;erw[12,x,A.bE,some d,true,2,t^c,Hx T,T.Fz,_,a,t^g,by show 1<1000;decide];rw[show bH "rows" (V.ref i) [("made",V.int n)]=KG n i from cU (by kernel_rfl)];rwa[k d i _ p (v _ f) a (λb o q e=>?_) ?_ aj ?_ j]
  ·rw[ai (aw e p)];rwa[t^B b o q e]
  ·rw[ai a.symm];rwa[t^c]
  ·rw[ai r];rwa[y]
inductive Fl (rs ps:Za3) (L w lim:Nat):RS->Prop
 |start {S:RS}:Tr (rs++ps) ⇑rs (RS.new L (bF (2* L))) S->GH rs ps S->Fl rs ps L w lim S
 |next {S S':RS} {c:Nat} {z:Int}:Fl rs ps L w lim S->S.q<lim->mM w S L c z->Tr (rs++ps) ⇑rs (S.make c z (bF (2* L))) S'->GH rs ps S'->Fl rs ps L w lim S'
def Pz (L:Nat)(u:Zh):Prop:=⇑u<=1000/\∀z∈u,z≠0/\z.natAbs<=L
def tY (d:n<=200){u:Zh}(h:Pz n u):⇑u<=1000/\∀z∈u,(-1000<=z/\z<=1000)/\z∈bF (2* n)/\-z∈bF (2* n):=by
 rwa[⟨h.1,λz c=>?_⟩];let⟨b,a⟩:=h.2 z c;rwa[3,iU.mpr ⟨b,a⟩,iU.mpr ⟨33⟩]
def tZ (h:S.aX[n]?\n):S.ax n=n:=by unfold RS.ax;rw[ajm,h];rfl
def Fl.ys {rs a:Za3}{w:Nat}(h:Fl rs a n w m S)(b:∀u∈rs++a,∀z∈u,z∈bF (2* n)/\-z∈bF (2* n)):∃R,YS S n (bF (2* n)) R:=by
 induction h with
 |start t _=>
  let⟨R,y,_⟩:=YS.new.tr t b;rwa[R,y]
 |next _ _ l t _ i=>
  let⟨R,y⟩:=i;let⟨f,d,c,e⟩:=l.1;let⟨k,o⟩:=iU.mp c;let⟨j,g,_⟩:=(y.make f (tZ d) e c (iU.mpr ⟨33⟩)).tr t b;rwa[j,g]
def _root_.Lake.L2.YS.gl (y:YS S n (bF (2* n)) R)(a:S.q<=100000)(d:n<=200):GL S n:=⟨y.g.wf,a,d,λc hc b=>y.gi.fin y.g (JR _) hc (tZ b)⟩
def Kp.at {pos:Pos}(k:Kp a H I)(t:dF a pos x H){b:Zt}{u:HO}(e:H b\u)(n:∀c,u≠.fH c):I b\u:=k b u (λz=>by
 rcases t with w|⟨_,_,_,_,w,_⟩
 ·cbv
 cbv) e
def PB (S:RS)(L w:Nat)(H:Hp)(v:V):Prop:=(v=.non/\∀c z,¬iV S L c z)\/∃(c:Nat) (z:Int) (t:Zt),v=↑t/\mM w S L c z/\H t\(.tup [.int (c:Int),.int z])
def yq (b c a:Zt)(H:Hp)(o:Zt)(w:Nat):Prop:=∃d,(w=0/\H o\.ins b d [])\/(w=1/\H o\.ins c d [])\/(w=2/\H o\.ins a d [])
def yq.keep {w:Nat}(h:yq a b c H d w)(k:∀C e,H d\.ins C e []->I d\.ins C e []):yq a b c I d w:=by
 obtain⟨e,h|h|h⟩:=h
 ·rwa[e,.inl ⟨h.1,k^h.2⟩]
 ·rwa[e,.inr (.inl ⟨h.1,k^h.2⟩)]
 ·rwa[e,.inr (.inr ⟨h.1,k^h.2⟩)]
def DL {e r:Zt}{w:Nat}{Q:VK}{E:XK}(p:H d\.ins c e [])(h:ay a H r S O)(g:GL S n)(o:dF b fi jD H)(k:∀v i,Kp b H i->dF b fi jD i->PB S n w i v->Q v i):ku a b c w [↑d,↑r] H Q E:=
 ⟨d,e,r,S,O,n,2,p,h,g,o,λs i j l=>k _ i j l (.inl ⟨2,s⟩),λf z q t i j l m=>k _ i j l (.inr ⟨f,z,t,2,q,m⟩)⟩
def Rm {w:Nat}{Q:VK}{E:XK}(f:D[5]?\some ↑a)(i:D[6]?\some ↑b)(l:yq A.cQ A.bJ A.cF H a w)(h:ay A.aB H b S O)(g:GL S n)(j:dF A.eQ fi jD H)(k:∀v c,Kp A.eQ H c->dF A.eQ fi jD c->PB S n w c v->Q v c):
 Cj (lA A.cQ "gap" (ku A.aB A.eQ A.cQ 0) [] E (jr 5) (jj (jr 6) jZ)) (Cj (lA A.bJ "gap" (ku A.aB A.eQ A.bJ 1) [] E (jr 5) (jj (jr 6) jZ)) (lA A.cF "gap" (ku A.aB A.eQ A.cF 2) [] E (jr 5) (jj (jr 6) jZ))) D H Q:=by
 obtain⟨d,⟨rfl,e⟩|⟨rfl,e⟩|⟨rfl,e⟩⟩:=l
 ·rwa[.inl ⟨_,f,a,d,12,e,21,i,DL e h g j k⟩]
 ·rwa[.inr (.inl ⟨_,f,a,d,12,e,21,i,DL e h g j k⟩)]
 ·rwa[.inr (.inr ⟨_,f,a,d,12,e,21,i,DL e h g j k⟩)]
def pF (w:Nat):Zi:=if w=0 then Vx else if w=1 then NK else Vy
def pG (H:Hp)(l:Zt)(S:RS):Prop:=∃a:Zo,H l\.lst (a.map V.ref)/\Each (λp d=>bG H 4 ↑p d) a S.rows/\⇑S.rows<=1000000
inductive KH (Pt cN cT:Zt) (vs:Zb) (H:Hp) (Q:VK) (E:XK):Prop
 |mk (ru pa:Zt) (L lim w:Nat) (rs ps:Za3):vs=[.int L,↑ru,↑pa,.int lim,.str (tx (pF w))]->w<3->1<=L->L<=40->1<=lim->lim<=300->bp H ru rs->bp H pa ps->(∀u∈rs++ps,Pz L u)->lim* ⇑rs+ ⇑ps<=700->⇑rs<=400->⇑ps<=400->dF Pt fi jD H->(∀t tb pp S N H',Kp Pt H H'->dF Pt fi jD H'->Fl rs ps L w lim S->(∀c z,¬iV S L c z)->H' t\.tup [↑tb,↑pp]->TabAt H' tb (M24.Cy (cz S) (2* S.L) (M24.bZ (cz S) (2* S.L) 0 N))->⇑(M24.bZ (cz S) (2* S.L) 0 N)=N->pG H' pp S->Q ↑t H')->(∀d pp S H',Kp Pt H H'->dF Pt fi jD H'->Fl rs ps L w lim S->S.q=lim->(∃c z,mM w S L c z)->H' d\XD d (KG S.q pp)->pG H' pp S->E ↑cT (some d) H')->KH Pt cN cT vs H Q E
section
variable {CR CG CC:Zt}{H H':Hp}{x r:Zt}{q:KA}{S:RS}{a:RA}{R:Za2}{ks:Zh}{B:Nat}{rs ps:Za3}{fp:List (Zh×Nat)}{bs:List (Nat×Zh×Nat)}{gs:Zf}{ag:Zi}{W:bf}{O:Zt->Prop}
def CS.keep (h:CS CR CG CC H x r q S a R ks B rs ps fp bs gs ag W O)(f:∀b o,H b\o->(∀ps,o≠.fH ps)->H' b\o):CS CR CG CC H' x r q S a R ks B rs ps fp bs gs ag W O:=
 ⟨h.c.keep (λb o c e=>f b o e (by let⟨i,g,n⟩:=h.c.th b c;cbv)) (λb d e=>f b _ e (by cbv)),f _ _ h.q (by cbv),h.rm.keep (λb o c e=>f b o e (by
  intro ps z;rw[z]at e;rwa[rA h.rm.at_ e (by cbv) (by cbv) (by cbv) c])) (λb d e=>f b _ e (by cbv)),h.dj,h.ci,h.bo,h.pl,h.br,h.ra,h.pa,h.ln,h.wb⟩
def CS.tab (h:CS CR CG CC H x r q S a R ks B rs ps fp bs gs ag W O){d:Zt}{pos:Pos}{c:Str}(t:dF d pos c H)(f:∀b o,¬O b->¬a.own r b->H b\o->H' b\o):dF d pos c H':=by
 rwa[t.keep λb u e k=>f b u (λz=>?_) (λz=>?_) e]
 ·let⟨o,g,n⟩:=h.c.th b z
  cbv
 ·rcases k with ⟨ps,rfl⟩|⟨o,v,rfl⟩
  ·rwa[rA h.rm.at_ e (by cbv) (by cbv) (by cbv) z]
  ·rwa[rA h.rm.at_ e (by cbv) (by cbv) (by cbv) z]
end
structure yr (A:ph) (H0 H:Hp) (x r:Zt) (L lim w:Nat) (rs ps:Za3) (S:RS):Prop where
 k:Kp A.eQ H0 H
 t:dF A.eQ fi jD H
 cs:∃q a R B fp bs gs W O,CS A.aB A.aO A.aF H x r q S a R (bF (2* L)) B rs ps fp bs gs [] W O/\(∀b,a.own r b\/O b->H0 b=none)/\B<=702* S.q
 f:Fl rs ps L w lim S
 m:S.q<=lim
 l:S.L=L
def yr.kp {H0:Hp}{x:Zt}{w:Nat}{rs f:Za3}(h:yr A H0 H x a n m w rs f S)(k:Kp A.eQ H I)(t:dF A.eQ fi jD I):yr A H0 I x a n m w rs f S:=by
 let⟨q,c,R,B,g,bs,gs,W,O,cs,i,j⟩:=h.cs;rwa[h.k.trans k,t,⟨q,c,R,B,g,bs,gs,W,O,cs.keep λb o e d=>k.at h.t e d,i,j⟩,h.f,h.m,h.l]
theorem FX (T:Txt K mg A)(Z:kQ mg base):dv P w K mg base (cZ P w) 11 A.Jz A.JB ["letters","rules","part","limit","order"] (KH A.eQ A.pk A.bE):=by
 rwa[T.fill.Ue mY (λvs H Q E h=>?_) (λb8 AA outer s H vs Q E M h=>?_)]
 ·let⟨ru,pa,L,i,I,rs,f,rfl,_⟩:=h;rfl
 ·let⟨ru,pa,L,i,I,rs,f,rfl,YH,yi,Aa,Pk,zP,Ks,rZ,aM,DG,Ac,sO,hT,kq,ke⟩:=h
  erw[_,{bP 5 mY.nd (yB (ED T) (M.mono ⋯) rfl T.qR.m T.qR.F.kp T.qR.b .nil Xi #[4]),bP 6 mY.nd (ug (wg T) (uT T) (M.mono ⋯) rfl T.Q5 T.gF.b .nil fK #[0]),bP 7 mY.nd (ug (q8 T) (sj T) (M.mono ⋯) rfl T.JG T.eY.b .nil fK #[6,1,2]),aT (xB (pv 7) (aJ T) T.iQ (mC T) M),bP 8 mY.nd (xq (kH (pv 5) (Dc T) T.jS.m (tX T) (M.mono ⋯) T.jS.b .nil fK #[6]) (xq (kH (pv 5) (tO T) T.gZ.m (oC T Z) (M.mono ⋯) T.gZ.b .nil fK #[6]) (kH (pv 5) (zZ T) T.iR.m (r0 T) (M.mono ⋯) T.iR.b .nil fK #[6]))),bS (jt PassesOwn.leaving (bh mU (pv 8) dk (bq _))
    {bI (bh A4 (6<<<1) (pv 3) (bq _))
     {Js (E:=E) (sk T) (M.mono ⋯) T.dQ.b rfl rfl T.zX (Fw T.xY T.dQ.m.at_) T.dQ.m.fn T.Hm #[6<<<1,xB (pv 6) (aH T) T.lC (qo T) M] lvD rfl (by decide) (by decide) rfl rfl}
     bu,aT (pm (pv 7) (aJ T) T.oh (yp T) M #[8&&&av,8&&&av]),bP 8 mY.nd (xq (kH (pv 5) (Dc T) T.jS.m (tX T) (M.mono ⋯) T.jS.b .nil fK #[6]) (xq (kH (pv 5) (tO T) T.gZ.m (oC T Z) (M.mono ⋯) T.gZ.b .nil fK #[6]) (kH (pv 5) (zZ T) T.iR.m (r0 T) (M.mono ⋯) T.iR.b .nil fK #[6])))}),aY (dM #[pc T.numbered (EE T) M #[6],xB (pv 6) (aH T) T.lC (qo T) M])}]
  rwa[vN ?_];intro FE rX oz jg fe fh;let Ah:∀u∈rs++f,∀z∈u,z∈bF (2* L)/\-z∈bF (2* L):=λu hu z hz=>((tY ∅ (aM u hu)).2 z hz).2
  suffices main:∀o J,ao H J->yq A.cQ A.bJ A.cF J o I->fh { nx:=λ_ H'=>Q .non H',rt:=Q } #v[.int L,↑ru,↑pa,.int i,.str (tx (pF I)),↑o,none,none,none] J by
   let sm:∀{C x d:Zt},H x=none->H d=none->d≠x->ao H (upd (upd H d (.own x)) x (.ins C d [])):=λ{C x d} nx nd G=>(ao.upd nd).trans (ao.upd ([ai G.symm]▸nx))
   rwa[⟨12,pF I,25,λe x d nx nd G=>main x _ (sm nx nd G) ⟨d,.inl ⟨5,aj⟩⟩,λe x d nx nd G=>main x _ (sm nx nd G) ⟨d,.inr (.inl ⟨5,aj⟩)⟩,λe x d nx nd G=>main x _ (sm nx nd G) ⟨d,.inr (.inr ⟨5,aj⟩)⟩⟩]
   all_goals rcases (show I=0\/I=1\/I=2 by omega) with rfl|rfl|rfl
   all_goals first|rfl|decide|rwa[absurd e (by decide)]
  intro o J s1 ho;let hT1:=hT.same s1;replace Ks:=Ks.same s1;replace rZ:=rZ.same s1;rwa[⟨12,λr dx nx Ai G=>⟨r,dx,L,2,aj,yi,3,λra H2 k2 h2 ho2=>⟨25⟩⟩⟩];let⟨s2,VL⟩:=Rk (C:=A.aB) nx Ai G k2 ho2;clear k2 ho2 nx Ai G;rwa[⟨121212,λx dx nx Ai G=>?_⟩];let s0:ao H2 (upd (upd H2 dx (.own x)) x (.ins A.aF dx [])):=(ao.upd Ai).trans (ao.upd ([ai G.symm]▸nx));let PD:upd (upd H2 dx (.own x)) x (.ins A.aF dx []) x\(.ins A.aF dx []):=aj;let DF:¬ra.own r x:=λz=>by let⟨o,e⟩:=h2.there z;rw[nx]at e;ext e
  let n0:∀b,upd (upd H2 dx (.own x)) x (.ins A.aF dx []) b=none->H2 b=none:=λb z=>same_none s0 z
  change upd (upd H2 dx (.own x)) x (.ins A.aF dx [])=H3 at s0 PD n0 ⊢;let gd:=B6 L (bF (2* L))
  let fit:∀D,zg rs D->1* ⇑D+ ⇑f<=700:=λD h=>by
   have:=alq ⇑rs Pk;have:=DH h;ext
  let sl:0+ (RS.new L (bF (2* L))).stand<=1:=by rw[Nat.zero_add];rwa[Dx (RS.new L (bF (2* L)))]
  let y0:=YS.new (L:=L) (ks:=bF (2* L));let rm0:i7 A.aB H2 r (RS.new L (bF (2* L))) ra (λ_ _ _=>False) (bF (2* L)) 1:=⟨h2,gd,y0.w,y0.k,by show 1<=2000;decide,by rw[uD];ext,sl,aju sl ⋯⟩;rwa[⟨x,dx,r,ru,pa,RS.new L (bF (2* L)),ra,λ_ _ _=>False,rs,f,2,PD,h2.same s0,gd,Nat.one_pos,by show 1<=2000;decide,DF,(Ks.same s2).same s0,(rZ.same s2).same s0,Ac,sO,λu hu=>⟨(tY ∅ (aM u hu)).1,λz hz=>((tY ∅ (aM u hu)).2 z hz).1⟩,λD h=>by have:=fit D h;show 1* ⇑D+ ⇑f<50000;ext,λq gs ag D O H4 f4 c4 q4 o4 FN al4 hp=>⟨25⟩⟩];let hf:=fit D hp;let sd:⇑(dh (RS.new L (bF (2* L))))<=1:=aju (alm _ _) ([akD]▸ajp _);let Y9:⇑(dh (RS.new L (bF (2* L))))* ⇑D<=1* ⇑D:=alq _ sd;let l1:=mK D (dh (RS.new L (bF (2* L))));let l2:=tV f ⇑rs ⇑f;let Z:⇑(dG D (dh (RS.new L (bF (2* L))))++fS f ⇑rs ⇑f)<=1* ⇑D+ ⇑f:=by rw[ajh];ext
  let hlv:live gs<=⇑(dG D (dh (RS.new L (bF (2* L))))++fS f ⇑rs ⇑f):=by rw[<-FN.len];rwa[List.countP_le_length]
  let r4:i7 A.aB H4 r (RS.new L (bF (2* L))) ra (λ_ _ _=>False) (bF (2* L)) 1:=(rm0.same s0).keep (λb o Y e=>f4 b o e (λz=>DF (by rw[<-z];rwa[Y]))) (λb xs e=>f4 b _ e (bN e PD f!""))
  let dj:∀b,ra.own r b->¬O b:=λb z y=>by
   let⟨o,e⟩:=(h2.same s0).there z;rcases o4 b y with w|w
   ·rwa[DF (by rw[<-w];rwa[z])]
   ·rw[w]at e;ext e
  let bin:∀b∈dG D (dh (RS.new L (bF (2* L))))++fS f ⇑rs ⇑f,((rs++f)[b.1]?\b.2.1/\(b.1<⇑rs\/b.2.2=0))/\b.2.2<1:=λb Y=>by
   rcases Rg Y with ⟨p,T6,e1,X,e3⟩|⟨j,u,hj,rfl⟩
   ·let h1:=hp.a p T6;let h2:=(aji.mp h1).1;rw[e1,X,ajs h2];rwa[⟨h1,.inl h2⟩,akF.mp (akY.mp e3).1]
   ·rwa[⟨by show (rs++f)[⇑rs+ j]?=_;rw[ajv ∅,Nat.add_sub_cancel_left];rwa[hj],.inr rfl⟩,Nat.one_pos]
  let U:Dz (rs++f) ⇑rs (bF (2* L)) (dG D (dh (RS.new L (bF (2* L))))++fS f ⇑rs ⇑f):=
   ⟨λb Y=>(bin b Y).1.1,λb Y=>(bin b Y).1.2,λb Y=>(aM _ (ajj (bin b Y).1.1)).1,λb Y z hz=>Ah _ (ajj (bin b Y).1.1) z hz,3⟩
  let VM:∀w∈rs,w≠[]->∃n,(n,w,0)∈dG D (dh (RS.new L (bF (2* L))))++fS f ⇑rs ⇑f:=λw hw BJ=>by
   let⟨n,hn⟩:=hp.b w hw;let hcs:0∈dh (RS.new L (bF (2* L))):=akY.mpr ⟨akF.mpr Nat.one_pos,ajF rfl⟩;rwa[n,ajG _ (akz.mpr ⟨(0),hcs,akz.mpr ⟨(w,n),hn,Hv BJ⟩⟩)]
  let VN:∀w∈f,w≠[]->∃n,(n,w,0)∈dG D (dh (RS.new L (bF (2* L))))++fS f ⇑rs ⇑f:=λw hw BJ=>by
   let⟨j,hj⟩:=aj9 hw;rwa[⟨⇑rs+ j,ajo _ (akz.mpr ⟨j,akF.mpr (aji.mp hj).1,5⟩)⟩];rw[ajm,hj];rwa[Hv BJ]
  change dG D (dh (RS.new L (bF (2* L))))++fS f ⇑rs ⇑f=bs at FN al4 Z hlv bin U VM VN;let hmul:live gs* (2* ⇑bs+ 1)<=700* 1401:=amC ∅ ∅;clear l1 l2 Y9 sd;rwa[⟨12,x,q.dx,12,c4.ins,fx ⋯,x,r,q,RS.new L (bF (2* L)),ra,λ_ _ _=>False,bF (2* L),(1),rs++f,⇑rs,bs,gs,ag,tW,D,O,2,c4,r4,3,dj,FN,U,3,λS' a' R' jh W' O' B' H5 f5 c5 r5 ow oo dj5 Ky rr em eL tr hb5=>?_⟩];let PF:S'.q=1:=em
  let Jo:∀b o,J b\o->H5 b\o:=λb o e=>by
   let X:=s2^e
   let nO:¬O b:=λy=>by
    rcases o4 b y with w|w
    ·rw[w,nx]at X;ext X
    ·rw[s0^X]at w;ext w
   rwa[f5 b o nO (λy=>by rw[VL b y]at e;ext e) (f4 b o (s0^X) (aw X nx))]
  let U5:∀b,a'.own r b\/O' b->J b=none:=λb y=>by
   let nn:ra.own r b\/O b\/H4 b=none->J b=none:=λy=>by
    rcases y with y|y|y
    ·rwa[VL b y]
    ·cases e:J b with
     |none=>rfl
     |some u=>
      let X:=s2^e;rcases o4 b y with w|w
      ·rw[w,nx]at X;ext X
      ·rw[s0^X]at w;ext w
    ·cases e:J b with
     |none=>rfl
     |some u=>
      let X:=s2^e;rw[f4 b u (s0^X) (aw X nx)]at y;ext y
   rcases y with y|y
   ·rwa[nn (ow b y)]
   ·rcases oo b y with v|v|v
    ·rwa[nn (.inr (.inl v))]
    ·rwa[nn (.inl v)]
    ·rwa[nn (.inr (.inr v))]
  let VP:CS A.aB A.aO A.aF H5 x r q S' a' R' (bF (2* L)) B' rs f D bs jh [] W' O':=by
   rwa[⟨c5,f5 _ _ (c4.Kg q4) (zh r4.at_ q4) q4,r5,dj5,Ky,U,hp,λb Y=>by rw[PF];rwa[(bin b Y).2],λw hw BJ c hc _=>?_,VN,by rw[PF];rwa[Z],λu hu=>tY (by omega) (aM u hu)⟩];have:c=0:=∅
   subst this;rwa[VM w hw BJ]
  let fl5:yr A J H5 x r L i I rs f S':=⟨λb u _ e=>Jo b u e,hT1.same Jo,⟨q,a',R',B',D,bs,jh,W',O',VP,U5,by rw[PF];ext⟩,.start tr (VP.VJ ∅),3,eL.trans rfl⟩;clear VP U5 Jo hmul VN VM U bin dj r4 hlv Z hf rm0 y0 sl c5 r5 ow oo dj5 Ky rr f5 hb5 PF em eL tr c4 q4 o4 FN al4 hp f4 PD DF n0 s0 gd fit
  let look:∀{H5:Hp} {S:RS} {σ:St} {Qv:VK},yr A J H5 x r L i I rs f S->σ[5]?\some ↑o->σ[6]?\some ↑r->(∀v H6,yr A J H6 x r L i I rs f S->PB S L I H6 v->Qv v H6)->(Cj (lA A.cQ "gap" (ku A.aB A.eQ A.cQ 0) [] (λ_ _ _=>False) (jr 5) (jj (jr 6) jZ)) (Cj (lA A.bJ "gap" (ku A.aB A.eQ A.bJ 1) [] (λ_ _ _=>False) (jr 5) (jj (jr 6) jZ)) (lA A.cF "gap" (ku A.aB A.eQ A.cF 2) [] (λ_ _ _=>False) (jr 5) (jj (jr 6) jZ)))) σ H5 Qv:=λ{H5 S σ Qv} F e5 e6 kk=>by
   let⟨Ry,y⟩:=F.f.ys Ah;let⟨q,a,R,B,D,bs,gs,W,O,cs,_⟩:=F.cs;rwa[Rm e5 e6 (ho.keep λC d e=>F.k.at hT1 e s!"") cs.rm.at_ (y.gl (by have:=F.m;omega) ∅) F.t λv H6 k6 t6 an=>kk v H6 (F.kp k6 t6) an]
  rwa[look fl5 rfl rfl λv H6 fl6 an=>?_]
  clear fl5;erw[λ gL H'=>∃S,gL=#v[.int L,↑ru,↑pa,.int i,.str (tx (pF I)),↑o,↑r,↑x,some .non]/\yr A J H' x r L i I rs f S/\∀c z,¬iV S L c z,5]
  ·erw[λm σ H'=>∃S v,m=i+ 1 - S.q/\σ=#v[.int L,↑ru,↑pa,.int i,.str (tx (pF I)),↑o,↑r,↑x,some v]/\yr A J H' x r L i I rs f S/\PB S L I H' v,⟨_,S',v,22,fl6,an⟩];clear fl6 an;rintro m σ H7 ⟨S,v,rfl,rfl,F,an⟩;erw[12212];rcases an with ⟨rfl,hn⟩|⟨c,z,t,rfl,hl,ht⟩
   ·rwa[qz rfl ⟨S,rfl,F,hn⟩]
   rwa[bX (λ_=>?_) (λh=>absurd rfl h)];erw[_,λ gL H' h=>h];let⟨Ry,y⟩:=F.f.ys Ah;let⟨q,a,R,B,D,bs,gs,W,O,cs,n0,hB⟩:=F.cs;let hm:=F.m;let eL:=F.l;let rb:=cs.rm.rb;let wr:=y.wr;let hBm:B<=702* 300:=aju hB (Nat.mul_le_mul_left _ ∅);erw[12,r,_,a.dx,112,cs.rm.at_.ins,aH T,T.qk,uq^_,12112212];rwa[bX (λh=>?_) (λh=>?_)]
   ·let h:(i:Int)<=(S.q:Int):=ajM h;rwa[⟨12,r,_,a.dx,112,cs.rm.at_.ins,aH T,T.qk,uq^_,12,r,a.dx,12,cs.rm.at_.ins,cL _ _ _ ⋯,r,S,a,2,cs.rm.at_,3,λp d hd e=>(y.d d hd).low e,λl qs H8 s8 nl hl8 Jt=>?_⟩];intro xx nxx;let s9:=ao.upd (o:=XO xx A.bE none true) nxx;let eln:⇑(qs.map V.ref)<=1000000:=by rw[ajk,Jt.1];ext
    rwa[⟨xx,l,S.q,qs.map V.ref,2,aj,3,s9^hl8,eln,λd l2 H9 nd Yv Ai f9 hx9 PH hl9 nlx=>⟨2,some d,hx9,5⟩⟩]
    let VQ:ao H8 (del H9 xx):=λb u e=>by
     let nb:=aw e nxx;rw[sR nb];rwa[f9 b u nb (s9^e)]
    rwa[ke d l2 S _ (λb u nb e=>VQ^(s8^(F.k b u nb (s1^e)))) ((F.t.same s8).same VQ) F.f ∅ ⟨c,z,hl⟩ ([sR Ai]▸PH) ⟨qs,[sR nlx]▸hl9,Jt.imp (λp d _ _ e=>e.same VQ),3⟩]
   let h:S.q<i:=Nat.lt_of_not_le λw=>h (ajF ∅)
   let⟨g1,g2,g3,g4⟩:=hl.1;let⟨z1,z2⟩:=iU.mp g3;let U6:⇑D<=⇑rs:=DH cs.pl;let Ph:(S.q+ 1)* ⇑D<=i* ⇑rs:=amC h U6;rw[<-eL]at cs;rwa[⟨12,x,q.dx,12,cs.c.ins,fx ⋯,12,t,11122,bz.of ht,212,t,11122,bz.of ht,2,x,r,q,S,a,R,B,rs,f,D,bs,gs,W,O,c,z,2,cs,33,g1,tZ g2,g4,[eL]▸g3,iU.mpr ⟨33⟩,3333,λS2 a2 R2 bs2 gs2 W2 O2 B2 H8 f8 VR ow8 tr8 em8 el8 hb8=>?_⟩]
   let fl8:yr A J H8 x r L i I rs f S2:=by
    rw[eL]at VR tr8;rwa[⟨λb u nb e=>f8 b u (λw=>by rw[n0 b (.inr w)]at e;ext e) (λw=>by rw[n0 b (.inl w)]at e;ext e) (F.k b u nb e),cs.tab F.t f8,⟨q,a2,R2,B2,D,bs2,gs2,W2,O2,VR,λb w=>?_,by rw[em8];ext⟩,.next F.f h hl tr8 (VR.VJ ∅),3,el8.trans eL⟩];rcases ow8 b w with v|v|v
    ·rwa[n0 b (.inl v)]
    ·rwa[n0 b (.inr v)]
    ·cases e:J b with
     |none=>rfl
     |some u=>
      let nP:b≠A.eQ:=λw=>by
       rcases F.t with p|⟨_,_,_,_,p,_⟩
       ·rw[w,p]at v;ext v
       ·rw[w,p]at v;ext v
      rw[F.k b u nP e]at v;ext v
   rwa[look fl8 rfl rfl λv H9 fl9 an=>⟨i+ 1 - S2.q,3,S2,v,22,fl9,an⟩]
  rintro σ H7 ⟨S,rfl,F,hn⟩;let⟨Ry,y⟩:=F.f.ys Ah;let⟨q,a,R,B,D,bs,gs,W,O,cs,n0,hB⟩:=F.cs;let hm:=F.m;let eL:=F.l;let rb:=cs.rm.rb;let g:=y.g;let hBm:B<=702* 300:=aju hB (Nat.mul_le_mul_left _ ∅);rwa[⟨12,r,S,a,λc=>c<S.q/\S.ax c=c,2,cs.rm.at_,333,g.wf.w,⟨y.m,by have:=(g.el 0 y.m).1;ext⟩,λc hc=>⟨hc.1,λk hk=>?_⟩,λtb N H8 s8 nt h8 hN=>?_⟩]
  ·cases e:S.by c (M12.st k) with
   |some d=>
    let⟨_,d2,_,d4⟩:=g.st _ _ _ e;rwa[d,2,d2,d4]
   |none=>
    rw[eL]at hk;rwa[absurd ⟨hc.1,5,ajj (ye hk),e⟩ (hn c _)];rw[tT ([g.wf.e]▸hc.1),hc.2]
  rwa[⟨12,r,a.dx,12,(cs.rm.at_.same s8).ins,cL _ _ _ ⋯,r,S,a,2,cs.rm.at_.same s8,3,λp d hd e=>(y.d d hd).low e,λpp qs H9 s9 np hp9 Jt=>?_⟩];rwa[⟨Za4 2,λt nt=>?_⟩];let sA:=ao.upd (o:=.tup [↑tb,↑pp]) nt;rwa[kq t tb pp S N _ (λb u nb e=>sA^(s9^(s8^(F.k b u nb (s1^e))))) (((F.t.same s8).same s9).same sA) F.f hn aj ((h8.same s9).same sA) hN ⟨qs,sA^hp9,Jt.imp (λp d _ _ e=>e.same sA),3⟩]
structure JA where
 dx:Zt
 aW:Zt
 aK:Zt
def lY (L b made:Int)(a:JA):List (Str×V):=[("letters",.int L),("words",↑a.aW),("common",.int b),("made",.int made),("known",↑a.aK)]
def Hy (L c m:Int)(a:JA):(lY L c m a).lookup ("letters":Str)\(.int L):=by kernel_rfl
def wG (L c m:Int)(a:JA):(lY L c m a).lookup ("words":Str)\↑a.aW:=by kernel_rfl
def KJ (L c m:Int)(a:JA):(lY L c m a).lookup ("common":Str)\(.int c):=by kernel_rfl
def FY (L c m:Int)(a:JA):(lY L c m a).lookup ("made":Str)\(.int m):=by kernel_rfl
def iJ (L c m:Int)(a:JA):(lY L c m a).lookup ("known":Str)\↑a.aK:=by kernel_rfl
structure JS where
 L:Int
 ws:Za3
 cm:Int
 q:Int
 D:Int->Zp
 E:Int->Int->Zp
 S:bf
structure fB (C:Zt) (H:Hp) (r:Zt) (a:JA) (J:JS):Prop where
 ins:H r\(.ins C a.dx (lY J.L J.cm J.q a))
 r6:bp H a.aW J.ws
 kn:cy H a.aK J.D J.E J.S
def jE (r:Zt)(a:JA)(J:JS)(b:Zt):Prop:=b=r\/cf a.aK J.D J.E b
def jF (own:Zt->Prop)(H a:Hp):Prop:=∀b o,¬own b->H b\o->a b\o
def jF.of_same {own:Zt->Prop}(s:ao H I):jF own H I:=λb o _ e=>s b o e
def jF.trans {own a:Zt->Prop}(s:jF own H I)(t:jF a I J)(f:∀b,a b->own b\/H b=none):jF own H J:=λb o n e=>t b o (λz=>(f b z).elim n λq=>by rw[q]at e;ext e) (s b o n e)
def fB.same {c:JA}{J:JS}(h:fB a H b c J)(s:ao H I):fB a I b c J:=⟨s^h.ins,h.r6.same s,h.kn.same s⟩
def lu {d:Za3}(h:bp H a d)(f:∀b o,(∀c,o≠.dK c)->(∀C k fs,o≠.ins C k fs)->H b\o->I b\o):bp I a d:=by
 let⟨g,j,i⟩:=h;rwa[g,f _ _ s!"" (by intro _ _ _ z;ext z) j,i.keep λp l e=>f _ _ s!"" (by intro _ _ _ z;ext z) e]
def fB.t4 {d:JA}{J:JS}(h:fB a H b d J){c:Zt}(f:cf d.aK J.D J.E c):b≠c:=by
 let⟨e,q⟩:=h.kn.there f;rwa[bN h.ins q f!""]
structure Bd (J:JS):Prop where
 d:∀c x,J.D c\x->0<=c/\c<100000
 e:∀c s x,J.E c s\x-> -1000<=s/\s<1000
 s:∀c s o,J.S c s o=true->0<=o/\o<100000
def wH (h:n<=100000):n<sizeLine:=ajt h ⋯
def dN (S:bf)(c s o:Int):bf:=λb a d=>(S b a d || (decide (b=c) && decide (a=s) && decide (d=o))) || (decide (b=o) && decide (a= -s) && decide (d=c))
inductive DM (C:Zt) (vs:Zb) (H:Hp) (Q:VK) (E_:XK):Prop
 |mk (r:Zt) (a:JA) (J:JS) (c:Int):vs=[↑r,.int c]->fB C H r a J->Q (.bl (J.D c).isSome) H->DM C vs H Q E_
inductive FZ (C:Zt) (vs:Zb) (H:Hp) (Q:VK) (E_:XK):Prop
 |mk (r:Zt) (a:JA) (J:JS) (c s o:Int):vs=[↑r,.int c,.int s,.int o]->fB C H r a J->(∀H',ao H H'->Q (.bl (J.S c s o)) H')->FZ C vs H Q E_
inductive F0 (C:Zt) (vs:Zb) (H:Hp) (Q:VK) (E_:XK):Prop
 |mk (r:Zt) (a:JA) (J:JS) (c s o:Int):vs=[↑r,.int c,.int s,.int o]->fB C H r a J->Bd J->(∃d,J.D c\d)->(∃d,J.D o\d)-> -1000<s->s<1000->(∀E' H',jF (cf a.aK J.D J.E) H H'->fB C H' r a { J with E:=E',S:=dN J.S c s o }->(∀b,cf a.aK J.D E' b->cf a.aK J.D J.E b\/H b=none)->(∀c' s',E' c' s'=J.E c' s'\/(J.E c' s'=none/\((c'=c/\s'=s)\/(c'=o/\s'= -s))))->Q .non H')->F0 C vs H Q E_
def pH (T:Txt K mg A):T.ki.Ok mg P w base 1 (DM A.a8):=by
 rwa[T.ki.on x8 (λj n d s H m Q E l h=>?_)]
 ·let⟨r,a,J,c,rfl,h,k⟩:=h;let b:=ib l;erw[_,{aY (HL (BE b (pv 1) (0<<<1)))}];let⟨f,i,_,_,g⟩:=h.kn.pL;erw[1212,r,_,a.dx,112,h.ins,bD T,T.gT,iJ _ _ _ _,a.aK,12,cO.k (k:=Sum.inl c) i];rw[g];let e:((J.D c).map V.ref).isSome=(J.D c).isSome:=by cases J.D c <;> rfl
  rw[e];rwa[k]
def lz (T:Txt K mg A):T.jd.Ok mg P w base 1 (FZ A.a8):=by
 rwa[T.jd.on zb (λG U n s H S Q E L h=>?_)]
 ·let⟨r,a,J,c,s,o,rfl,h,k⟩:=h;let b:=ib L;erw[_,{aY (HL (BE b (pv 3) (ju b (ju b (0<<<1) (pv 1) c9 ⟨2222⟩) (pv 2) c9 ⟨2222⟩)))}];let⟨B,v,_,_,F⟩:=h.kn.pL;rwa[⟨1212,r,_,a.dx,112,h.ins,bD T,T.gT,iJ _ _ _ _,a.aK,2,.inl ⟨_,.inl v⟩,12,λp C=>?_⟩];generalize m:upd H p _=z;let⟨s1,j⟩:=eR m C;let l:=h.kn.same s1;erw[_,cO.k (k:=Sum.inl c) (s1^v)];rw[F]
  cases u:J.D c with
  |none=>
   let i:J.S c s o=false:=by
    cases q:J.S c s o with
    |false=>rfl
    |true=>let⟨e,q⟩:=h.kn.se _ _ _ q;let⟨d,q⟩:=h.kn.ed _ _ _ q;rw[u]at q;ext q
   rw[i]at k;rwa[⟨p,2,.inl ⟨_,.inl j⟩,12,λq t=>?_⟩];generalize m:upd z q _=N;let⟨f,g⟩:=eR m t;erw[_,cO.k (k:=Sum.inl s) (f^j)];rwa[q,12,cO.k (k:=Sum.inl o) g,k _ (s1.trans f)]
  |some d=>
   let⟨M,y,_,_,I⟩:=l.pM u;rwa[⟨d,2,.inl ⟨_,.inl y⟩,12,λq t=>?_⟩];generalize m:upd z q _=N;let⟨f,g⟩:=eR m t;erw[_,cO.k (k:=Sum.inl s) (f^y)];rw[I]
   cases x:J.E c s with
   |none=>
    let i:J.S c s o=false:=by
     cases q:J.S c s o with
     |false=>rfl
     |true=>let⟨e,q⟩:=h.kn.se _ _ _ q;rw[x]at q;ext q
    rw[i]at k;rwa[q,12,cO.k (k:=Sum.inl o) g,k _ (s1.trans f)]
   |some e=>
    let⟨R,D,_,_,O⟩:=(l.same f).yP x;erw[e,12,cO.k (k:=Sum.inl o) D];rw[O];let q:=k _ (s1.trans f)
    cases i:J.S c s o with
    |true=>rw[i]at q;rwa[q]
    |false=>rw[i]at q;rwa[q]
def F1 {k:Zt}{D:Int->Zp}{E:Int->Int->Zp}{S:bf}(h:cy H k D E S){c:Int}{d:Zt}(l:D c\d)(y:∀c s x,E c s\x-> -1000<=s/\s<1000){p:Zt}(o:H p=none)(s:Int):
 ∃a,upd H p (.dK []) d\.dK a/\⇑a<sizeLine/\(∀v,bB a (Sum.inl s)\v->∃e,v=↑e/\E c s\e/\cy (upd H p (.dK [])) k D E S)/\
  (bB a (Sum.inl s)=none->E c s=none/\cy (upd (upd H p (.dK [])) d (.dK (putK a (Sum.inl s) ↑p))) k D (λr m=>if r=c/\m=s then some p else E r m) S):=by
 generalize G:upd H p _=J;let⟨F,f⟩:=eR G o;let g:=h.same F;let C:¬cf k D E p:=λz=>by let⟨a,q⟩:=h.there z;rw[o]at q;ext q
 let⟨a,t,B,I,j⟩:=g.pM l;rwa[⟨a,t,wH (aju (nB (n:=2000) (lo:=-1000) B I j λi v b=>?_) ⋯),λv b=>?_,λb=>?_⟩]
 ·cases q:E c i with
  |none=>rw[q]at b;ext b
  |some e=>have:=y c i e q;ext
 ·rw[j]at b
  cases q:E c s with
  |none=>rw[q]at b;ext b
  |some e=>rw[q]at b;rwa[e,(Za0 b).symm,2,g]
 ·rw[j]at b
  let u:E c s=none:=by
   cases q:E c s with
   |none=>rfl
   |some e=>rw[q]at b;ext b
  rwa[u,g.Fj l u t f C]
def oD (C:Zt)(H:Hp)(r:Zt)(a:JA)(J:JS)(g:Int->Int->Zp)(i:bf)(c s:Int)(e:Zt)(h:Hp):Prop:=
 fB C h r a { J with E:=g,S:=i }/\g c s\e/\(∀f d,g f d=J.E f d\/(J.E f d=none/\f=c/\d=s))/\jF (cf a.aK J.D J.E) H h/\∀b,cf a.aK J.D g b->cf a.aK J.D J.E b\/H b=none
def yt {f:JA}{J:JS}(h:fB a H b f J){c s:Int}{e p:Zt}(g:H p=none)(j:J.E c s\e)(i:cy (upd H p (.dK [])) f.aK J.D J.E J.S):oD a H b f J J.E J.S c s e (upd H p (.dK [])):=
 ⟨⟨ao.upd g _ _ h.ins,h.r6.same (ao.upd g),i⟩,j,λ_ _=>.inl rfl,.of_same (ao.upd g),λd z=>.inl z⟩
def Aj {f:JA}{J:JS}(h:fB a H b f J){c s:Int}{d p:Zt}{k:List (Key×V)}(r:H p=none)(v:J.D c\d)(y:J.E c s=none)(l:upd H p (.dK []) d\.dK k)(x:cy (upd (upd H p (.dK [])) d (.dK (putK k (Sum.inl s) ↑p))) f.aK J.D (λi j=>if i=c/\j=s then some p else J.E i j) J.S):
 oD a H b f J (λi j=>if i=c/\j=s then some p else J.E i j) J.S c s p (upd (upd H p (.dK [])) d (.dK (putK k (Sum.inl s) ↑p))):=by
 let t:=ao.upd (o:=.dK []) r;let u:cf f.aK J.D J.E d:=.inr (.inl ⟨c,v⟩);let m:∀g o,g≠d->H g\o->upd (upd H p (.dK [])) d (.dK (putK k (Sum.inl s) ↑p)) g\o:=λg o n q=>by rw[ai n];rwa[t^q]
 rwa[⟨⟨m _ _ (h.t4 u) h.ins,lu h.r6 λg o B C q=>m g o (λz=>?_) q,x⟩,ajD ⟨22⟩,λi j=>?_,λg o n q=>m g o (λz=>n ([z]▸u)) q,λg z=>?_⟩]
 ·subst z;have:=t^q;rw[l]at this;rwa[B _ (Za0 this).symm]
 ·cases e:i=c/\j=s
  ·rwa[.inr ⟨[e.1,e.2]▸y,e⟩]
  ·rwa[.inl (ajw e)]
 ·rcases z with z|⟨i,z⟩|⟨i,j,z⟩
  ·rwa[.inl (.inl z)]
  ·rwa[.inl (.inr (.inl ⟨i,z⟩))]
  ·replace z:(if i=c/\j=s then some p else J.E i j)\g:=z;cases e:i=c/\j=s
   ·rw[ajD e]at z;rwa[.inr (by rw[<-Za0 z];rwa[r])]
   ·rw[ajw e]at z;rwa[.inl (.inr (.inr ⟨i,j,z⟩))]
def oD.put {f:JA}{J:JS}{p:Int->Int->Zp}{k:bf}(h:oD a H b f J p k z y c I)(D:∀z y o,k z y o=true->0<=o/\o<100000)(o:Int):
 ∃e,I c\.dK e/\⇑e<sizeLine/\oD a H b f J p (λs r B=>k s r B || (decide (s=z) && decide (r=y) && decide (B=o))) z y c (upd I c (.dK (putK e (Sum.inl o) (.bl true)))):=by
 let⟨j,l,hE,G,x⟩:=h;let⟨e,m,E,L,F⟩:=cy.yP (S:=k) j.kn l;let t:cf f.aK J.D p c:=.inr (.inr ⟨z,y,l⟩);let bt:∀g u,g≠c->I g\u->upd I c (.dK (putK e (Sum.inl o) (.bl true))) g\u:=λg u n q=>by rw[ai n];rwa[q]
 rwa[⟨e,m,wH (nB (n:=100000) (lo:=0) E L F λi v C=>?_),⟨bt _ _ (j.t4 t) j.ins,lu j.r6 λg u n1 _ q=>bt g u (λd=>?_) q,j.kn.Jc l m o⟩,l,hE,λg u n q=>?_,x⟩]
 ·cases q:k z y i with
  |false=>rw[q]at C;ext C
  |true=>have:=D z y i q;ext
 ·subst d;rw[m]at q;rwa[n1 _ (Za0 q).symm]
 ·rwa[bt g u (λd=>?_) (G g u n q)];rcases x c t with w|w
  ·rwa[n (by rw[d];rwa[w])]
  ·rw[d,w]at q;ext q
def iW (T:Txt K mg A):T.hJ.Ok mg P w base 1 (F0 A.a8):=by
 rwa[T.hJ.on kZ (λb8 AA outer s H vs Q E hr h=>?_)]
 ·let⟨r,a,J,c,s,o,rfl,h,I,hc,ho,hs1,hs2,k⟩:=h;let t:=ib hr
  erw[_,{bS (bP 4 kZ.nd (ie (jJ t (0<<<1) (pv 1) (λ_ _=>rfl)) (pv 2) c9 ⟨2222⟩)),kK t (pv 4) (pv 3) fk rfl,bS (bP 5 kZ.nd (ie (jJ t (0<<<1) (pv 3) (λ_ _=>rfl)) (fm dJ (pv 2)) c9 ⟨2222⟩)),kK t (pv 5) (pv 1) fk rfl}]
  rwa[iC ?_];intro jg fe fh;let⟨dc,l⟩:=hc;let⟨dO,j⟩:=ho;let⟨kvs,h1,_,_,h4⟩:=h.kn.pL
  let top:∀{H':Hp} {E':Int->Int->Zp} {S':bf} {x:Int} {d:Zt},cy H' a.aK J.D E' S'->J.D x\d->cO H' a.aK (.int x) (some ↑d):=λ{H' E' S' x d} q hx=>by
   let⟨kv,N,_,_,V⟩:=q.pL;have:=cO.k (k:=Sum.inl x) N;rw[V,hx]at this;rwa[this]
  erw[λ n H2=>∃e L,n=#v[↑r,.int c,.int s,.int o,↑e,none]/\oD A.a8 H r a J L J.S c s e H2,5]
  ·erw[12,r,_,a.dx,112,h.ins,bD T,T.gT,iJ _ _ _ _,12,a.aK,12,top h.kn l];let⟨F,r1,_⟩:=h.kn.pM l;rwa[⟨dc,2,.inl ⟨F,.inl r1⟩,12,λp D=>?_⟩];let⟨G,N,g2,g3,V⟩:=F1 h.kn l I.e D s;rwa[⟨G,Sum.inl s,N,2,g2,λv B=>?_,λB=>?_⟩]
   ·let⟨e,rfl,he,hk⟩:=g3 v B;rwa[e,J.E,2,yt h D he hk]
   ·rwa[p,12,Aj h D l (V B).1 N (V B).2]
  rintro n H2 ⟨e,L,rfl,ok1⟩;let⟨IU,N,g2,U⟩:=ok1.put I.s o;erw[1212,e,12,m7.k (k:=Sum.inl o) N g2];change upd H2 e _=H3 at U ⊢;let⟨C,he3,y,O,R⟩:=U
  let b3e:∀g f x,L g f\x-> -1000<=f/\f<1000:=λg f x q=>by
   rcases y g f with w|⟨_,_,w⟩
   ·rw[w]at q;rwa[I.e _ _ _ q]
   ·ext
  let bc:=I.d^l;let bo:=I.d^j;erw[λ n H4=>∃M Z,n=#v[↑r,.int c,.int s,.int o,↑e,↑M]/\oD A.a8 H3 r a { J with E:=L,S:=λg f m=>J.S g f m || (decide (g=c) && decide (f=s) && decide (m=o)) } Z (λg f m=>J.S g f m || (decide (g=c) && decide (f=s) && decide (m=o))) o (-s) M H4,5]
  ·erw[12,r,_,a.dx,112,C.ins,bD T,T.gT,iJ _ _ _ _,12,a.aK,12,top C.kn j];let⟨F,r1,_⟩:=C.kn.pM j;rwa[⟨dO,2,.inl ⟨F,.inl r1⟩,12,s,2,λp D=>?_⟩];let⟨G,q1,X,q3,q4⟩:=F1 C.kn j b3e D (-s);rwa[⟨G,Sum.inl (-s),q1,2,X,λv B=>?_,λB=>?_⟩]
   ·let⟨M,rfl,he4,hk⟩:=q3 v B;rwa[M,L,2,yt C D he4 hk]
   ·rwa[p,12,Aj C D j (q4 B).1 q1 (q4 B).2]
  rintro n H4 ⟨M,Z,rfl,ok4⟩
  let bs4:∀g f m,(J.S g f m || (decide (g=c) && decide (f=s) && decide (m=o)))=true->0<=m/\m<100000:=λg f m q=>by
   rcases Bool.or_eq_true_iff.mp q with q|q
   ·rwa[I.s _ _ _ q]
   ·simp at q;ext
  let⟨kv5,f1,f2,ok5⟩:=ok4.put bs4 c;erw[1212,M,12,m7.k (k:=Sum.inl c) f1 f2];let⟨j5,he5,hE5,hB5,Y⟩:=ok5;rwa[k Z _ (O.trans hB5 λb z=>R b z) j5 (λb z=>?_) λg f=>?_]
  ·rcases Y b z with z|z
   ·rwa[R b z]
   ·rwa[.inr ?_]
    cases q:H b with
    |none=>rfl
    |some u=>
     cases w:cf a.aK J.D J.E b
     ·let w':cf a.aK J.D L b:=by
       rcases w with w|w|⟨c1,s1,w⟩
       ·rwa[.inl w]
       ·rwa[.inr (.inl w)]
       ·rcases y c1 s1 with i|⟨i,_⟩
        ·rwa[.inr (.inr ⟨c1,s1,i.trans w⟩)]
        ·rw[w]at i;ext i
      let⟨kvs,X⟩:=C.kn.there (b:=b) w';rw[z]at X;ext X
     ·rw[O b u w q]at z;ext z
  ·rcases hE5 g f with w|w
   ·rcases y g f with i|i
    ·rwa[.inl (w.trans i)]
    ·rwa[.inr ⟨i.1,.inl i.2⟩]
   ·rcases y g f with i|i
    ·rwa[.inr ⟨i.symm.trans w.1,.inr w.2⟩]
    ·rwa[.inr ⟨i.1,.inr w.2⟩]
def Ba (S:bf)(c s o:Int):bf:=λb a d=>S b a d && !(decide (b=c) && decide (a=s) && decide (d=o))
def mO (x y:Int)(S:bf)(p:Int×Int):bf:=if p.2=y then dN S x p.1 x else dN (Ba S p.2 (-p.1) y) x p.1 p.2
def fy (x y:Int)(S:bf)(l:List (Int×Int)):bf:=l.foldl (mO x y) S
def kx (x y:Int)(S:bf)(l:List (Int×Int))(p:Int×Int):fy x y S (l++[p])=mO x y (fy x y S l) p:=by unfold fy;rw[aly];rfl
def Adds (x y:Int)(p:Int×Int)(c s o:Int):Prop:=(p.2=y/\c=x/\o=x/\(s=p.1\/s= -p.1))\/(p.2≠y/\((c=x/\s=p.1/\o=p.2)\/(c=p.2/\s= -p.1/\o=x)))
def bU {S:bf}{o e d f:Int}:dN S z y o e d f=true↔S e d f=true\/(e=z/\d=y/\f=o)\/(e=o/\d= -y/\f=z):=by
 unfold dN;simp only[akH,aj6,alB];constructor
 ·rintro ((h|⟨⟨b,a⟩,c⟩)|⟨⟨b,a⟩,c⟩)
  ·rwa[.inl h]
  ·rwa[.inr (.inl ⟨b,a,c⟩)]
  ·rwa[.inr (.inr ⟨b,a,c⟩)]
 ·rintro (h|⟨b,a,c⟩|⟨b,a,c⟩)
  ·rwa[.inl (.inl h)]
  ·rwa[.inl (.inr ⟨⟨b,a⟩,c⟩)]
  ·rwa[.inr ⟨⟨b,a⟩,c⟩]
def lZ {S:bf}{o c b d:Int}:Ba S z y o c b d=true↔S c b d=true/\¬(c=z/\b=y/\d=o):=by
 unfold Ba;simp only[aj6,al1,Bool.and_eq_false_iff,alH];constructor
 ·rintro ⟨h,q⟩;rwa[h,λa=>by rcases q with (q|q)|q;rwa[q a.1];rwa[q a.2.1];rwa[q a.2.2]]
 ·rintro ⟨h,q⟩;erw[h];cases e:c=z
  ·cases f:b=y
   ·rwa[.inr λg=>q ⟨e,f,g⟩]
   ·rwa[.inl (.inr f)]
  ·rwa[.inl (.inl e)]
def Hz {x:Int}(i:x≠y){S:bf}{c s o:Int}(j:o≠y):∀l:List (Int×Int),fy x y S l c s o=true↔S c s o=true\/∃p∈l,Adds x y p c s o:=by
 rwa[snoc_ind ?_ λl p k=>?_]
 ·rwa[λh=>.inl h,λh=>h.elim id λζ=>by let⟨p,a,_⟩:=ζ;ext a]
 ·rw[kx]
  let e:mO x y (fy x y S l) p c s o=true↔fy x y S l c s o=true\/Adds x y p c s o:=by
   unfold mO;cases a:p.2=y
   ·rw[ajD a,bU];constructor
    ·rintro (h|⟨g,f,d⟩|⟨g,f,d⟩)
     ·rwa[.inl h]
     ·rwa[.inr (.inl ⟨a,g,d,.inl f⟩)]
     ·rwa[.inr (.inl ⟨a,g,d,.inr f⟩)]
    ·rintro (h|⟨_,g,f,d|d⟩|⟨h,_⟩)
     ·rwa[.inl h]
     ·rwa[.inr (.inl ⟨g,d,f⟩)]
     ·rwa[.inr (.inr ⟨g,d,f⟩)]
     ·rwa[absurd a h]
   ·rw[ajw a,bU,lZ];constructor
    ·rintro (h|h|h)
     ·rwa[.inl h.1]
     ·rwa[.inr (.inr ⟨a,.inl h⟩)]
     ·rwa[.inr (.inr ⟨a,.inr h⟩)]
    ·rintro (h|⟨h,_⟩|⟨_,h|h⟩)
     ·rwa[.inl ⟨h,λz=>j z.2.2⟩]
     ·rwa[absurd h a]
     ·rwa[.inr (.inl h)]
     ·rwa[.inr (.inr h)]
  rw[e,k];constructor
  ·rintro ((h|⟨q,b,h⟩)|h)
   ·rwa[.inl h]
   ·rwa[.inr ⟨q,ajG _ b,h⟩]
   ·rwa[.inr ⟨p,ajo _ (ajn.mpr rfl),h⟩]
  ·rintro (h|⟨q,b,h⟩)
   ·rwa[.inl (.inl h)]
   ·rcases ajr.mp b with b|b
    ·rwa[.inl (.inr ⟨q,b,h⟩)]
    ·rwa[.inr (by rw[<-ajn.mp b];rwa[h])]
def Ak {x:Int}(b:x≠y){S:bf}{c s:Int}(j:c≠y):∀l:List (Int×Int),fy x y S l c s y=true↔S c s y=true/\(-s,c)∉l:=by
 rwa[snoc_ind ?_ λl p i=>?_]
 ·rwa[λh=>⟨h,by simp⟩,λh=>h.1]
 ·rw[kx]
  let e:mO x y (fy x y S l) p c s y=true↔fy x y S l c s y=true/\p≠(-s,c):=by
   unfold mO;cases d:p.2=y
   ·rw[ajD d,bU];constructor
    ·rintro (h|⟨_,_,a⟩|⟨_,_,a⟩)
     ·rwa[h,λz=>j (by rw[z]at d;rwa[d])]
     ·rwa[absurd a.symm b]
     ·rwa[absurd a.symm b]
    ·rwa[λh=>.inl h.1]
   ·rw[ajw d,bU,lZ];constructor
    ·rintro (⟨h,q⟩|⟨_,_,a⟩|⟨_,_,a⟩)
     ·rwa[h,λz=>q ([z]▸⟨2,by simp,2⟩)]
     ·rwa[absurd a.symm d]
     ·rwa[absurd a.symm b]
    ·rintro ⟨h,q⟩;rwa[.inl ⟨h,λz=>q ?_⟩];let⟨m,k⟩:=p;let⟨z1,z2,_⟩:=z;simp only at z1 z2;rw[z1,z2,akv]
  rw[e,i];constructor
  ·rintro ⟨⟨g,f⟩,a⟩;rwa[g,λz=>(ajr.mp z).elim f λz=>a (ajn.mp z).symm]
  ·rintro ⟨g,f⟩;rwa[⟨g,λz=>f (ajG _ z)⟩,λz=>f ([z]▸ajo _ (ajn.mpr rfl))]
def iX (S:bf)(x y:Int):bf:=λc s o=>(!decide (c=y) && !decide (o=y)) && (((S c s o || (decide (c=x) && S y s o)) || (decide (o=x) && S c s y)) || (decide (c=x) && decide (o=x) && S y s y))
def pJ {S:bf}{x s o:Int}:iX S x y z s o=true↔(z≠y/\o≠y)/\(S z s o=true\/(z=x/\S y s o=true)\/(o=x/\S z s y=true)\/(z=x/\o=x/\S y s y=true)):=by
 unfold iX;simp only[aj6,akH,al1,alH,alB];constructor
 ·rintro ⟨h,((a|a)|a)|⟨⟨a,b⟩,c⟩⟩
  ·rwa[h,.inl a]
  ·rwa[h,.inr (.inl a)]
  ·rwa[h,.inr (.inr (.inl a))]
  ·rwa[h,.inr (.inr (.inr ⟨a,b,c⟩))]
 ·rintro ⟨h,a|a|a|⟨a,b,c⟩⟩
  ·rwa[h,.inl (.inl (.inl a))]
  ·rwa[h,.inl (.inl (.inr a))]
  ·rwa[h,.inl (.inr a)]
  ·rwa[h,.inr ⟨⟨a,b⟩,c⟩]
def wI (S:bf):Prop:=∀c s o,S c s o=true->S o (-s) c=true
def fold_all {S:bf}(r:wI S){x y:Int}(b:x≠y){l:List (Int×Int)}(n:∀p,p∈l↔S y p.1 p.2=true)(c s o:Int):fy x y (λc s o=>S c s o && !decide (c=y)) l c s o=iX S x y c s o:=by
 let g:∀c s o,(S c s o && !decide (c=y))=true↔S c s o=true/\c≠y:=λc s o=>by simp
 rw[ak0,pJ];cases j:o=y
 ·subst j;constructor
  ·intro h;exfalso
   cases q:c=o
   ·have:fy x o (λc s i=>S c s i && !decide (c=o)) l c s o=false:=by
     subst q
     have:∀l:List (Int×Int),fy x c (λt s i=>S t s i && !decide (t=c)) l c s c=false:=by
      rwa[snoc_ind (by unfold fy;simp) λl p u=>?_]
      rw[kx,Bool.eq_false_iff];intro h;unfold mO at h;cases m:p.2=c
      ·rw[ajD m,bU]at h;rcases h with h|h|h
       ·rw[u]at h;ext h
       ·rwa[b h.1.symm]
       ·rwa[b h.1.symm]
      ·rw[ajw m,bU,lZ]at h;rcases h with h|h|h
       ·rw[u]at h;cases h.1
       ·rwa[b h.1.symm]
       ·rwa[m h.1.symm]
     rwa[this l]
    rw[this]at h;ext h
   ·let⟨e,a⟩:=(Ak b q l).mp h;rwa[a ((n _).mpr (r _ _ _ ((g^_).mp e).1))]
  ·rintro ⟨⟨_,h⟩,_⟩;rwa[absurd rfl h]
 ·rw[Hz b j];constructor
  ·rintro (h|⟨p,m,h⟩)
   ·rwa[⟨((g^_).mp h).2,j⟩,.inl ((g^_).mp h).1]
   ·let d:=(n p).mp m;rcases h with ⟨e,a,k,f⟩|⟨e,⟨a,k,f⟩|⟨a,k,f⟩⟩
    ·rwa[⟨⟨by rw[a];rwa[b],j⟩,.inr (.inr (.inr ⟨a,k,?_⟩))⟩];rw[e]at d;rcases f with f|f
     ·rw[f];rwa[d]
     ·rw[f];rwa[r _ _ _ d]
    ·rwa[⟨⟨[a]▸b,j⟩,.inr (.inl ⟨a,[k,f]▸d⟩)⟩]
    ·rwa[⟨⟨[a]▸e,j⟩,.inr (.inr (.inl ⟨f,[a,k]▸r _ _ _ d⟩))⟩]
  ·rintro ⟨⟨q,_⟩,h|⟨e,a⟩|⟨e,a⟩|⟨e,a,k⟩⟩
   ·rwa[.inl ((g^_).mpr ⟨h,q⟩)]
   ·rwa[.inr ⟨(s,o),(n _).mpr a,.inr ⟨j,.inl ⟨e,22⟩⟩⟩]
   ·rwa[.inr ⟨(-s,c),(n _).mpr (r _ _ _ a),.inr ⟨q,.inr ⟨2,(akv s).symm,e⟩⟩⟩]
   ·rwa[.inr ⟨(s,y),(n _).mpr k,.inl ⟨2,e,a,.inl rfl⟩⟩]
def Nz {S:bf}(h:wI S)(x y:Int):wI (iX S x y):=λc s o q=>by
 rw[pJ]at q ⊢;let⟨⟨d,b⟩,q⟩:=q;erw[⟨b,d⟩];rcases q with q|⟨e,q⟩|⟨e,q⟩|⟨a,f,q⟩
 ·rwa[.inl (h _ _ _ q)]
 ·rwa[.inr (.inr (.inl ⟨e,h _ _ _ q⟩))]
 ·rwa[.inr (.inl ⟨e,h _ _ _ q⟩)]
 ·rwa[.inr (.inr (.inr ⟨f,a,h _ _ _ q⟩))]
def Al {S:bf}(h:wI S)(c s o:Int):wI (dN S c s o):=λf e g q=>by
 rw[bU]at q ⊢;rcases q with q|⟨a,d,b⟩|⟨a,d,b⟩
 ·rwa[.inl (h _ _ _ q)]
 ·rwa[.inr (.inr ⟨b,by rw[d],a⟩)]
 ·rwa[.inr (.inl ⟨b,by rw[d,akv],a⟩)]
def NE (J:JS):Prop:=∀c s e,J.E c s\e->∃o,J.S c s o=true
def fZ (J:JS)(y:Int):Int->Zp:=λc=>if c=y then none else J.D c
inductive F2 (C:Zt) (vs:Zb) (H:Hp) (Q:VK) (E_:XK):Prop
 |mk (r:Zt) (a:JA) (J:JS) (x y:Int):vs=[↑r,.int x,.int y]->fB C H r a J->Bd J->x≠y->(∃d,J.D x\d)->(∃d,J.D y\d)->wI J.S->NE J->(∀E' H',jF (cf a.aK J.D J.E) H H'->fB C H' r a { J with D:=fZ J y,E:=E',S:=iX J.S x y }->(∀b,cf a.aK (fZ J y) E' b->cf a.aK J.D J.E b\/H b=none)->NE { J with D:=fZ J y,E:=E',S:=iX J.S x y }->Bd { J with D:=fZ J y,E:=E',S:=iX J.S x y }->Q .non H')->F2 C vs H Q E_
structure fj (C r:Zt) (a:JA) (J:JS) (H:Hp) (y:Int) (dy:Zt) (ud:HO) (fz:Zt->HO->HO) (S2:bf) (E2:Int->Int->Zp) (Hc:Hp):Prop where
 j:fB C Hc r a { J with D:=fZ J y,E:=E2,S:=S2 }
 d:Hc dy\ud
 g:∀s e u,J.E y s\e->H e\u->Hc e\(fz e u)
 o:∀b,cf a.aK (fZ J y) E2 b->(cf a.aK J.D J.E b\/H b=none)/\b≠dy/\∀s,J.E y s≠some b
 b:jF (cf a.aK J.D J.E) H Hc
 bd:Bd { J with D:=fZ J y,E:=E2,S:=S2 }
 ne:∀c s e,E2 c s\e->(J.E c s\e/\c≠y)\/∃o,o≠y/\S2 c s o=true
 ex:∀c s e,c≠y->J.E c s\e->E2 c s\e
section
variable {C r:Zt}{a:JA}{J:JS}{H:Hp}{y:Int}{dy:Zt}{ud:HO}{fz:Zt->HO->HO}{S2:bf}{E2:Int->Int->Zp}{Hc:Hp}
def fj.learn (G:fB C H r a J)(h:fj C r a J H y dy ud fz S2 E2 Hc){c s o:Int}(hc:c≠y)(F:o≠y)(L:0<=c/\c<100000)(bo:0<=o/\o<100000)(bs: -1000<s/\s<1000){g:Int->Int->Zp}{j:Hp}(l:jF (cf a.aK (fZ J y) E2) Hc j)
 (v:fB C j r a { J with D:=fZ J y,E:=g,S:=dN S2 c s o }) (B:∀b,cf a.aK (fZ J y) g b->cf a.aK (fZ J y) E2 b\/Hc b=none) (hE:∀f d,g f d=E2 f d\/(E2 f d=none/\((f=c/\d=s)\/(f=o/\d= -s)))):
 fj C r a J H y dy ud fz (dN S2 c s o) g j:=by
 let gone:∀s e,J.E y s\e->∃u,H e\u:=λs e q=>by let⟨t,w⟩:=G.kn.there (.inr (.inr ⟨y,s,q⟩));rwa[_,w]
 rwa[⟨v,l _ _ (λz=>(h.o _ z).2.1 rfl) h.d,λd e u p I=>l _ _ (λz=>(h.o _ z).2.2 _ p) (h.g d e u p I),λb z=>?_,h.b.trans l λb z=>(h.o b z).1,⟨h.bd.d,λf d x q=>?_,λf d k q=>?_⟩,λf d e q=>?_,λf d e n q=>?_⟩]
 ·rcases B b z with z|z
  ·rwa[h.o b z]
  ·rwa[⟨?_,(λq=>by rw[q,h.d]at z;ext z),λd q=>?_⟩]
   ·cases w:cf a.aK J.D J.E b
    ·rwa[.inl w]
    ·rwa[.inr ?_]
     cases q:H b with
     |none=>rfl
     |some u=>rw[h.b b u w q]at z;ext z
   ·let⟨u,w⟩:=gone^q;rw[h.g _ _ _ q w]at z;ext z
 ·replace q:g f d\x:=q;rcases hE f d with w|⟨_,⟨_,w⟩|⟨_,w⟩⟩
  ·rw[w]at q;rwa[h.bd.e _ _ _ q]
  ·ext
  ·ext
 ·replace q:dN S2 c s o f d k=true:=q;rw[bU]at q;rcases q with q|⟨_,_,q⟩|⟨_,_,q⟩
  ·rwa[h.bd.s _ _ _ q]
  ·ext
  ·ext
 ·rcases hE f d with w|⟨_,⟨i,m⟩|⟨i,m⟩⟩
  ·rw[w]at q;rcases h.ne _ _ _ q with z|⟨k,z1,z2⟩
   ·rwa[.inl z]
   ·rwa[.inr ⟨k,z1,bU.mpr (.inl z2)⟩]
  ·rwa[.inr ⟨o,F,bU.mpr (.inr (.inl ⟨i,m,rfl⟩))⟩]
  ·rwa[.inr ⟨c,hc,bU.mpr (.inr (.inr ⟨i,m,rfl⟩))⟩]
 ·let z:=h.ex _ _ _ n q;rcases hE f d with w|⟨w,_⟩
  ·rw[w];rwa[z]
  ·rw[z]at w;ext w
def fj.pop (h:fj C r a J H y dy ud fz S2 E2 Hc){c s:Int}{e:Zt}(m:E2 c s\e){d:List (Key×V)}(i:Hc e\.dK d):
 fj C r a J H y dy ud fz (Ba S2 c s y) E2 (upd Hc e (.dK (dC d (Sum.inl y)))):=by
 let g:cf a.aK (fZ J y) E2 e:=.inr (.inr ⟨c,s,m⟩);let bt:∀b u,b≠e->Hc b\u->upd Hc e (.dK (dC d (Sum.inl y))) b\u:=λb u n q=>by rw[ai n];rwa[q]
 rwa[⟨⟨bt _ _ (h.j.t4 g) h.j.ins,lu h.j.r6 λb u n1 _ q=>bt b u (λz=>?_) q,h.j.kn.QF m i y⟩,bt _ _ (λz=>(h.o _ g).2.1 z.symm) h.d,λf k u j p=>bt _ _ (λz=>(h.o _ g).2.2 f (by rw[<-z];rwa[j])) (h.g f k u j p),h.o,λb u n q=>bt b u (λz=>?_) (h.b b u n q),⟨h.bd.d,h.bd.e,λo f l q=>h.bd.s _ _ _ (lZ.mp q).1⟩,λo f k q=>?_,h.ex⟩]
 ·subst z;rw[i]at q;rwa[n1 _ (Za0 q).symm]
 ·rcases (h.o _ g).1 with w|w
  ·rwa[n (by rw[z];rwa[w])]
  ·rw[z,w]at q;ext q
 ·rcases h.ne _ _ _ q with z|⟨l,z1,z2⟩
  ·rwa[.inl z]
  ·rwa[.inr ⟨l,z1,lZ.mpr ⟨z2,λw=>z1 w.2.2⟩⟩]
def fj.cq (h:fj C r a J H y dy ud fz S2 E2 Hc){b:Zt}{u:HO}{f:Zt->HO->HO}{d:HO}(x:¬cf a.aK (fZ J y) E2 b)(t:b≠r)(j:∀o,Hc b\o->(∀g,o≠.lst g)/\∀g,o≠.tup g)(m:cf a.aK J.D J.E b)(hd:upd Hc b u dy\d)
 (k:∀s e v,J.E y s\e->H e\v->upd Hc b u e\f e v):fj C r a J H y dy d f S2 E2 (upd Hc b u):=by
 let bt:∀c v,c≠b->Hc c\v->upd Hc b u c\v:=λc v n q=>by rw[ai n];rwa[q]
 rwa[⟨⟨bt _ _ t.symm h.j.ins,5,h.j.kn.keep λc v z q=>bt c v (λw=>x (by rw[<-w];rwa[z])) q⟩,hd,k,h.o,λc v n q=>bt c v (λz=>n ([z]▸m)) (h.b c v n q),h.bd,h.ne,h.ex⟩];let⟨l,i,B⟩:=h.j.r6;rwa[l,bt _ _ (λz=>(j _ (by rw[<-z];rwa[i])).1 _ rfl) i,B.keep λp g q=>bt _ _ (λz=>(j _ (by rw[<-z];rwa[q])).2 _ rfl) q]
end
def ik:Key->Int
 |Sum.inl i=>i
 |Sum.inr _=>0
def clL (H:Hp)(v:V):List (Key×V):=match v with
 |.ref e=>match H e with
  |some (.dK l)=>l
  |_=>[]
 |_=>[]
def oE (H:Hp)(a:Key×V):List (Int×Int):=(clL H a.2).map λb=>(ik a.1,ik b.1)
def gY (H:Hp)(a:List (Key×V))(i:Nat):List (Int×Int):=(a.take i).flatMap (oE H)
def HB {a:List (Key×V)}{b:Key×V}(h:a[i]?\b):gY H a (i+ 1)=gY H a i++oE H b:=by
 unfold gY;rw[akx,h,alG];simp
def dS (L c m:Int)(a:JA){x:Str}(h:x∉(["letters","words","common","made","known"]:Zq)):(lY L c m a).lookup x=none:=by
 simp only[ajE,akc,alR,not_or]at h;let⟨e,b,g,d,i⟩:=h;let f:∀y:Str,¬x=y->(x==y)=false:=λy q=>ajH.mpr q
 unfold lY;rw[akR,f _ e,akR,f _ b,akR,f _ g,akR,f _ d,akR,f _ i];rfl
def DN {a:List (Key×V)}{p:Int×Int}(h:p∈gY H a i):∃b c,b<i/\a[b]?\c/\p∈oE H c:=by
 unfold gY at h;let⟨c,f,d⟩:=akz.mp h;let⟨b,g,e⟩:=List.getElem_of_mem f;rw[ajN]at g;rw[List.getElem_take]at e;rwa[b,c,3,by rw[ajg ∅,e],d]
def Rn {a:List (Key×V)}{b:Key×V}{p:Int×Int}(d:b∈a)(c:p∈oE H b):p∈gY H a ⇑a:=by
 unfold gY;rw[aky];rwa[akz.mpr ⟨b,d,c⟩]
def KL {a:List (Key×V)}(m:(a.map (·.1)).Nodup){i j:Nat}{b c:Key×V}(g:a[i]?\b)(f:a[j]?\c)(e:b.1=c.1):i=j:=by
 let d:(a.map (·.1))[i]?\b.1:=by rw[ajq,g];rfl
 let l:(a.map (·.1))[j]?\b.1:=by rw[ajq,f,e];rfl
 let⟨n,h⟩:=aji.mp d;let⟨o,k⟩:=aji.mp l;rwa[(List.getElem_inj m).mp (h.trans k.symm)]
def KN {c:List (Key×V)}(h:H b\.dK c):∀o,H b\o->(∀a,o≠.lst a)/\∀a,o≠.tup a:=λo q=>by
 rw[h]at q;obtain rfl:=Za0 q;rwa[(λa z=>by ext z),λa z=>by ext z]
def F3 {c:Obj}{u:HO}(h:H b\.cq c u):∀o,H b\o->(∀a,o≠.lst a)/\∀a,o≠.tup a:=λo q=>by
 rw[h]at q;obtain rfl:=Za0 q;rwa[(λa z=>by ext z),λa z=>by ext z]
theorem qu (T:Txt K mg A):T.iF.Ok mg P w base 2 (F2 A.a8):=by
 rwa[T.iF.on d0 (λb8 AA outer s H vs Q E hr h=>?_)]
 ·let⟨r,a,J,x,y,rfl,h,hb,D,hx,hy,hS,hN,k⟩:=h;let pC:=ib hr
  erw[_,{bP 3 d0.nd (vL (0<<<1) (pv 2) ⟨2222⟩),uo (cX ajR rfl (GF (pv 3)) (fL 4 d0.nd)
    {uo (cX ajR rfl (GF (jJ pC (pv 3) (pv 4) (λ_ _=>rfl))) (fL 5 d0.nd)
     {bS (bI (bh eK (pv 5) (pv 2) (bq _))
      {aT (pm (pv 0) (bD T) T.hJ (iW T) hr #[1,4,1])}
      {aT (vL (jJ pC (jJ pC (0<<<1) (pv 5) (λ_ _=>rfl)) (fm dJ (pv 4)) (λ_ _=>rfl)) (pv 2) ⟨2222⟩),aT (pm (pv 0) (bD T) T.hJ (iW T) hr #[1,4,5])})})})}]
  rwa[kM ?_];intro fh;let⟨dx,hdx⟩:=hx;let⟨m,B⟩:=hy;let⟨Z,h1,h2,h3,h4⟩:=h.kn.pL;erw[12,r,_,a.dx,112,h.ins,bD T,T.gT,iJ _ _ _ _,a.aK,2,.inl ⟨_,.inl h1⟩,12,Z,Sum.inl y,↑m,h1,2,(by rw[h4,B];rfl)];let k1:=h.kn.L9 y h1;let⟨f,g1,g2,g3,g4⟩:=h.kn.pM B;let VS:cf a.aK J.D J.E m:=.inr (.inl ⟨y,B⟩);let ndk:m≠a.aK:=h.kn.nd^B;let VW:cf a.aK J.D J.E a.aK:=.inl rfl;let nrd:m≠r:=(h.t4 VS).symm;let VX:fZ J y x\dx:=by unfold fZ;rw[ajw D];rwa[hdx]
  let bx:=hb.d^hdx
  let P1:fj A.a8 r a J H y m (.dK f) (λ_ u=>u) (fy x y (λc s o=>J.S c s o && !decide (c=y)) []) (λc s=>if c=y then none else J.E c s) (upd H a.aK (.dK (dC Z (Sum.inl y)))):=by
   let un:∀{c:Int} {p q:Zp} {z:Zt},(if c=y then p else q)\z->p=none->c≠y/\q\z:=λ{c p q z} w hp=>by
    cases e:c=y
    ·rw[ajD e,hp]at w;ext w
    ·rw[ajw e]at w;rwa[e,w]
   rwa[⟨⟨[ai (h.t4 VW)]▸h.ins,lu h.r6 λb o n1 _ q=>?_,k1⟩,[ai ndk]▸g1,λs e u S C=>[ai (h.kn.ne _ _ _ S)]▸C,λb z=>?_,λb o n q=>?_,⟨λc d q=>hb.d^(un q rfl).2,λc s e q=>hb.e _ _ _ (un q rfl).2,λc s o q=>?_⟩,λc s e q=>.inl ⟨(un q rfl).2,(un q rfl).1⟩,λc s e n q=>by show (if c=y then none else J.E c s)\e;rw[ajw n];rwa[q]⟩]
   ·rw[ai (bN q h1 (n1 _))];rwa[q]
   ·rcases z with rfl|⟨c,z⟩|⟨c,s,z⟩
    ·rwa[⟨.inl VW,ndk.symm,λs q=>h.kn.ne _ _ _ q rfl⟩]
    ·let⟨n,z⟩:=un z rfl;rwa[.inl (.inr (.inl ⟨c,z⟩)),λq=>n (h.kn.dd _ _ _ z ([q]▸B)),λs q=>h.kn.de _ _ _ _ z q]
    ·let⟨n,z⟩:=un z rfl;rwa[.inl (.inr (.inr ⟨c,s,z⟩)),λq=>h.kn.de _ _ _ _ B (by rw[<-q];rwa[z]),λI q=>n (h.kn.ee _ _ _ _ _ z q).1]
   ·rw[ai (λz=>n ([z]▸VW))];rwa[q]
   ·rwa[hb.s c s o (Bool.and_eq_true_iff.mp q).1]
  clear k1;change upd H a.aK _=H1 at P1 ⊢
  let t:∀kv∈f,∃s e F,kv=(Sum.inl s,V.ref e)/\J.E y s\e/\H e\.dK F/\(F.map (·.1)).Nodup/\(∀q∈F,∃i:Int,q.1=Sum.inl i)/\(∀i:Int,bB F (Sum.inl i)=if J.S y s i=true then some (.bl true) else none)/\oE H kv=F.map λq=>(s,ik q.1):=λkv hk=>by
   let⟨s,hs⟩:=g3 kv hk;let hv:=ny g2 hk;rw[hs,g4]at hv
   cases G:J.E y s with
   |none=>rw[G]at hv;ext hv
   |some e=>
    rw[G]at hv;let⟨F,c1,c2,c3,c4⟩:=h.kn.yP G;let e2:V.ref e=kv.2:=Za0 hv;erw[s,e,F,by rw[e2,<-hs],G,c1,c2,c3,c4];unfold oE;rw[<-e2,hs];show (match H e with|some (.dK l)=>l|_=>[]).map _=_;rw[c1];rfl
  erw[m,.dK f,P1.d,True.intro];rwa[⟨12,m,f,2,P1.d,λo1=>?_⟩];let VY:∀{M:Int->Int->Zp} {S2:bf} {ud:HO} {fz:Zt->HO->HO} {O:Hp},fj A.a8 r a J H y m ud fz S2 M O->¬cf a.aK (fZ J y) M m:=λp z=>(p.o _ z).2.1 rfl
  refine B9 (d:=m) (o:=o1) (kvs:=f) (λi Y O=>∃M v4 v5,Y=#v[↑r,.int x,.int y,↑m,v4,v5]/\fj A.a8 r a J H y m (.cq o1 (.dK f)) (λ_ u=>u) (fy x y (λc s o=>J.S c s o && !decide (c=y)) (gY H f i)) M O)
   ⟨_,none,none,2,P1.cq (VY P1) nrd (KN P1.d) VS aj λs e v S C=>?_⟩ (λi Y O _ ζ=>by let⟨_,_,_,_,p⟩:=ζ;rwa[p.d]) ?_ ?_
  ·rw[ai (λz=>h.kn.de _ _ _ _ B (by rw[<-z];rwa[S]))];rwa[P1.g s e v S C]
  ·rintro i kv Y O hi ⟨M,v4,v5,rfl,p⟩;let hkm:=ajj hi;let⟨s,e,F,rfl,G,c1,c2,c3,c4,c5⟩:=t kv hkm;let oe:cf a.aK J.D J.E e:=.inr (.inr ⟨y,s,G⟩);let nre:e≠r:=(h.t4 oe).symm;let ned:e≠m:=λz=>h.kn.de _ _ _ _ B (by rw[<-z];rwa[G])
   let noe:∀{M:Int->Int->Zp} {S2:bf} {ud:HO} {fz:Zt->HO->HO} {O:Hp},fj A.a8 r a J H y m ud fz S2 M O->¬cf a.aK (fZ J y) M e:=λp z=>(p.o _ z).2.2 s G
   let bs:=hb.e _ _ _ G;let VZ:O e\(.dK F):=p.g s e _ G c1;erw[e,.dK F,VZ,True.intro];let acv:cO O m (.int s) (some ↑e):=.inl ⟨f,Sum.inl s,.inr ⟨o1,p.d⟩,2,by rw[g4,G];rfl⟩;rwa[⟨1212,m,12,acv,e,F,2,VZ,λo2=>?_⟩]
   refine B9 (d:=e) (o:=o2) (kvs:=F) (λj Y H2=>∃E3 v5,Y=#v[↑r,.int x,.int y,↑m,.int s,v5]/\fj A.a8 r a J H y m (.cq o1 (.dK f)) (λb u=>if b=e then .cq o2 u else u) (fy x y (λc s o=>J.S c s o && !decide (c=y)) (gY H f i++(oE H (Sum.inl s,V.ref e)).take j)) E3 H2)
    ⟨M,v5,25⟩ (λj Y H2 _ ⟨111,q⟩=>by have:=q.g s e _ G c1;rw[ajD rfl]at this;rwa[this]) ?_ ?_
   ·rw[List.take_zero,ajQ];rwa[p.cq (noe p) nre (KN VZ) oe ([ai ned.symm]▸p.d) λI U v S C=>?_]
    cases ee:U=e
    ·subst ee;rw[aj,ajD rfl];rw[c1]at C;rw[Za0 C]
    ·rw[ai ee,ajw ee];rwa[p.g I U v S C]
   ·rintro j IU Y H2 hj ⟨E3,v5',rfl,q⟩;let hj2:=ajj hj;let⟨o,ho⟩:=c3 IU hj2;let⟨kk,vv⟩:=IU;replace ho:kk=Sum.inl o:=ho;subst ho
    let hSo:J.S y s o=true:=by
     have:=ny c2 hj2;rw[c4]at this
     cases w:J.S y s o with
     |true=>rfl
     |false=>rw[w]at this;ext this
    let hso:=hS _ _ _ hSo;let hpj:(oE H (Sum.inl s,V.ref e))[j]?\(s,o):=by rw[c5,ajq,hj];rfl
    let N:gY H f i++(oE H (Sum.inl s,V.ref e)).take (j+ 1)=(gY H f i++(oE H (Sum.inl s,V.ref e)).take j)++[(s,o)]:=by
     rw[akx,hpj,ajZ];rfl
    let acw:(s,o)∉gY H f i++(oE H (Sum.inl s,V.ref e)).take j:=by
     intro z;rcases ajr.mp z with z|z
     ·let⟨i',kv',hi',PL,R⟩:=DN z;let⟨I,U,V0,rfl,_,_,_,_,_,c5'⟩:=t kv' (ajj PL);rw[c5']at R;let⟨w,_,L⟩:=aj7.mp R;have:I=s:=akm Prod.fst L;have:=KL g2 PL hi (by rw[this]);ext
     ·let⟨j',hj',w⟩:=List.getElem_of_mem z;rw[ajN]at hj';rw[List.getElem_take]at w;let L:(oE H (Sum.inl s,V.ref e))[j']?\(s,o):=by rw[ajg ∅,w]
      rw[c5,ajq]at L
      cases w3:F[j']? with
      |none=>rw[w3]at L;ext L
      |some C=>
       rw[w3]at L;let⟨i2,w4⟩:=c3 C (ajj w3);let w5:ik C.1=o:=akm Prod.snd (Za0 L);rw[w4]at w5;have:=KL c2 w3 hj (by show C.1=Sum.inl o;rw[w4];rwa[akm Sum.inl w5]);ext
    rwa[⟨15,λ_ _ z=>z⟩];rwa[⟨1212212,bX (λhh=>?_) (λhh=>?_)⟩]
    ·let eo:o=y:=by have:=ajM hh;injection this
     subst eo
     let g: -1000<s:=by
      have:=hS _ _ _ hSo;let⟨e9,w⟩:=h.kn.se _ _ _ this;have:=hb.e _ _ _ w;ext
     rwa[⟨12,r,a.dx,12,q.j.ins,dS _ _ _ _ ⋯,121212,r,a,_,x,s,x,2,q.j,q.bd,⟨dx,VX⟩,⟨dx,VX⟩,g,3,λE4 H4 hB j4 hO V1=>?_⟩];erw[E4,12];rw[N,kx];unfold mO;rw[ajD rfl];rwa[q.learn h D D bx bx ⟨g,3⟩ hB j4 hO V1]
    ·let no:o≠y:=λz=>hh (ajF (by rw[z];rfl))
     let⟨e9,w9⟩:=h.kn.se _ _ _ hso;let⟨d9,v9⟩:=h.kn.ed _ _ _ w9;let b9:=hb.e _ _ _ w9;let bo:=hb.d^v9;let x9:=q.ex _ _ _ no w9;let X:fZ J y o\d9:=by unfold fZ;rw[ajw no];rwa[v9]
     let s9:fy x y (λc s o=>J.S c s o && !decide (c=y)) (gY H f i++(oE H (Sum.inl s,V.ref e)).take j) o (-s) y=true:=(Ak D no _).mpr ⟨by simp[hso,no],[akv]▸acw⟩;let⟨t1,a1,_,_,a4⟩:=q.j.kn.pL;let⟨t2,b1,_,_,b4⟩:=cy.pM (E:=E3) q.j.kn X;let⟨t3,f1,_,_,f4⟩:=cy.yP (E:=E3) q.j.kn x9;let g: -1000<s:=∅
     let V2:cO H2 a.aK (.int o) (some ↑d9):=.inl ⟨t1,Sum.inl o,.inl a1,2,by rw[a4 o];first|rwa[akm (Option.map V.ref) X]|rwa[(akm (Option.map V.ref) X).symm]⟩;let dg2:cO H2 d9 (.int (-s)) (some ↑e9):=.inl ⟨t2,Sum.inl (-s),.inl b1,2,by rw[b4 (-s)];first|rwa[akm (Option.map V.ref) x9]|rwa[(akm (Option.map V.ref) x9).symm]⟩;erw[12,r,_,a.dx,112,q.j.ins,bD T,T.gT,iJ _ _ _ _,12,a.aK,12,V2,12,s,2,d9,12,dg2,e9,2,.inl ⟨_,.inl f1⟩,12,t3,Sum.inl y,.bl true,f1,2,(f4 y).trans (ajD s9)];let q':=q.pop x9 f1;change upd H2 e9 _=H5 at q' ⊢;rwa[⟨12,r,a.dx,12,q'.j.ins,dS _ _ _ _ ⋯,121212,r,a,_,x,s,o,2,q'.j,q'.bd,⟨dx,VX⟩,⟨d9,X⟩,g,3,λE4 H4 hB j4 hO V1=>?_⟩];erw[E4,12];rw[N,kx];unfold mO;rw[ajw no];rwa[q'.learn h D no bx bo ⟨g,3⟩ hB j4 hO V1]
   ·rintro Y H2 ⟨E3,v5',rfl,q⟩;let V3:=q.g s e _ G c1;rw[ajD rfl]at V3;erw[o2,V3,E3,112];rw[HB hi];let Dm:(oE H (Sum.inl s,V.ref e)).take ⇑F=oE H (Sum.inl s,V.ref e):=alg ([c5,ajk]▸ajp _);rw[Dm]at q;rwa[q.cq (noe q) nre (F3 V3) oe ([ai ned.symm]▸q.d) λI U v S C=>?_]
    cases ee:U=e
    ·subst ee;rw[aj];rw[c1]at C;rwa[C]
    ·rw[ai ee];have:=q.g I U v S C;rw[ajw ee]at this;rwa[this]
  ·rintro Y O ⟨M,v4,v5,rfl,p⟩;erw[o1,p.d]
   let acx:∀q,q∈gY H f ⇑f↔J.S y q.1 q.2=true:=λq=>by
    constructor
    ·intro z;let⟨i',kv',_,PL,R⟩:=DN z;let⟨I,U,V0,rfl,_,_,c2,c3,c4,c5⟩:=t kv' (ajj PL);rw[c5]at R;let⟨w,w1,rfl⟩:=aj7.mp R;let⟨i2,w4⟩:=c3 w w1;let w5:=ny c2 w1;rw[w4,c4]at w5;show J.S y I (ik w.1)=true;rw[w4]
     cases w6:J.S y I i2 with
     |true=>exact w6
     |false=>rw[w6]at w5;ext w5
    ·intro z;let⟨U,hE'⟩:=h.kn.se _ _ _ z;let w1:bB f (Sum.inl q.1)\↑U:=by rw[g4,hE'];rfl
     let L:=vP w1;let⟨I,e2,V0,w3,hE2,_,c2,c3,c4,c5⟩:=t _ L;let w4:q.1=I:=Sum.inl.inj (akm Prod.fst w3);rw[<-w4]at c4 c5;rwa[Rn L ?_];rw[c5];let w6:bB V0 (Sum.inl q.2)\(.bl true):=by rw[c4,ajD z]
     rwa[aj7.mpr ⟨_,vP w6,2⟩]
   let eS:fy x y (λc s o=>J.S c s o && !decide (c=y)) (gY H f ⇑f)=iX J.S x y:=funext λc=>funext λs=>funext λo=>fold_all hS D acx c s o
   rw[eS]at p
   let p2:fj A.a8 r a J H y m (.dK f) (λ_ u=>u) (iX J.S x y) M (upd O m (.dK f)):=p.cq (VY p) nrd (F3 p.d) VS aj λI U v S C=>by
    rw[ai (λz=>h.kn.de _ _ _ _ B (by rw[<-z];rwa[S]))];rwa[p.g I U v S C]
   rwa[k M _ p2.b p2.j (λb z=>(p2.o b z).1) (λc s e q=>?_) p2.bd];rcases p2.ne c s e q with ⟨w1,L⟩|⟨o,_,w⟩
   ·let⟨o,ho⟩:=hN _ _ _ w1;cases eo:o=y
    ·subst eo;rwa[x,pJ.mpr ⟨⟨L,D⟩,.inr (.inr (.inl ⟨2,ho⟩))⟩]
    ·rwa[o,pJ.mpr ⟨⟨L,eo⟩,.inl ho⟩]
   ·rwa[o,w]
structure JW (J:JS):Prop where
 bd:Bd J
 ne:NE J
 sy:wI J.S
 dm:∀c d,J.D c\d->0<=c/\c<J.q
 L0:0<=J.L/\J.L<=900
 m1:1<=J.q/\J.q<=5000
def JW.std {J:JS}{k:Zt}(h:JW J)(kn:cy H k J.D J.E J.S){c s o:Int}(q:J.S c s o=true):(∃d,J.D c\d)/\∃d,J.D o\d:=by
 let⟨e,w⟩:=kn.se _ _ _ q;let⟨b,a⟩:=kn.se _ _ _ (h.sy _ _ _ q);rwa[kn.ed _ _ _ w,kn.ed _ _ _ a]
def Bb (J:JS)(c s n:Int):Prop:=(∃d,J.D c\d)/\(1<=s.natAbs/\(s.natAbs:Int)<=J.L)/\J.E c s=none/\n=J.q
def DP (J:JS)(c s n:Int)(a:Int->Int->Zp)(d:Zt):JS:={ J with q:=J.q+ 1,D:=λx=>if x=n then some d else J.D x,E:=a,S:=dN J.S c s n }
inductive KP (C:Zt) (vs:Zb) (H:Hp) (Q:VK) (E_:XK):Prop
 |mk (r:Zt) (a:JA) (J:JS) (c s n:Int):vs=[↑r,.int c,.int s,.int n]->fB C H r a J->JW J->J.q<5000->(Bb J c s n->∀E' d H',jF (jE r a J) H H'->fB C H' r a (DP J c s n E' d)->(∀b,jE r a (DP J c s n E' d) b->jE r a J b\/H b=none)->JW (DP J c s n E' d)->Q (.bl true) H')->(¬Bb J c s n->∀H',ao H H'->Q (.bl false) H')->KP C vs H Q E_
def yu (J:JS)(x y:Int)(a:Int->Int->Zp):JS:={ J with D:=fZ J y,E:=a,S:=iX J.S x y }
inductive F4 (C:Zt) (vs:Zb) (H:Hp) (Q:VK) (E_:XK):Prop
 |mk (r:Zt) (a:JA) (J:JS) (c s x y:Int):vs=[↑r,.int c,.int s,.int x,.int y]->fB C H r a J->JW J->(x<y/\J.S c s x=true/\J.S c s y=true->∀E' H',jF (jE r a J) H H'->fB C H' r a (yu J x y E')->(∀b,jE r a (yu J x y E') b->jE r a J b\/H b=none)->JW (yu J x y E')->Q (.bl true) H')->(¬(x<y/\J.S c s x=true/\J.S c s y=true)->∀H',ao H H'->Q (.bl false) H')->F4 C vs H Q E_
def KQ (L c m n:Int)(a:JA):bH "made" (.int n) (lY L c m a)=lY L c n a:=by
 let d:¬(("letters":Str)="made"):=by decide
 let b:¬(("words":Str)="made"):=by decide
 let e:¬(("common":Str)="made"):=by decide
 unfold lY;simp only[bH,ajw d,ajw b,ajw e,amF]
def sq (T:Txt K mg A):T.jz.Ok mg P w base 3 (F4 A.a8):=by
 rwa[T.jz.on sg (λG AA l s H Z Q E u h=>?_)]
 ·let⟨r,a,J,c,s,x,y,rfl,h,hw,M,m⟩:=h
  erw[_,{bS (bI (PW.pt (oJ (bh A4 (pv 3) (pv 4) (bq _)) (oJ (jb (ja (pm (pv 0) (bD T) T.jd (lz T) u #[1,2,3]))) (pV (jb (ja (pm (pv 0) (bD T) T.jd (lz T) u #[1,2,4])))))))
   {aY fk}
   bu),aT (pm (pv 0) (bD T) T.iF (qu T) u #[3,4]),aY fk}]
  rwa[da ?_];intro R C;erw[λ g S=>g=#v[↑r,.int c,.int s,.int x,.int y]/\ao H S/\x<y/\J.S c s x=true/\J.S c s y=true,5]
  ·rwa[⟨1212112212,bX (λt=>?_) (λt=>?_)⟩]
   ·rwa[m (λz=>by have:y<=x:=ajM t;omega) H (ao.refl H)]
   ·let d:x<y:=Int.not_le.mp λq=>t (ajF q)
    rwa[⟨12,r,a.dx,12,h.ins,dS _ _ _ _ ⋯,121212,r,a,J,c,s,x,2,h,λp s1=>?_⟩]
    cases j:J.S c s x with
    |false=>rwa[false,2,dX (m (λz=>by rw[j]at z;cases z.2.1) p s1)]
    |true=>
     rwa[⟨true,2,dA ?_⟩];let f:=h.same s1;rwa[⟨12,r,a.dx,12,f.ins,dS _ _ _ _ ⋯,121212,r,a,J,c,s,y,2,f,λv B=>?_⟩]
     cases i:J.S c s y with
     |false=>rwa[false,2,dX (m (λz=>by rw[i]at z;cases z.2.2) v (s1.trans B))]
     |true=>rwa[true,2,dA ⟨2,s1.trans B,d,22⟩]
  rintro g p ⟨rfl,s1,d,j,i⟩;let f:=h.same s1;let V:=(hw.std h.kn j).2;let O:=(hw.std h.kn i).2;rwa[⟨12,r,a.dx,12,f.ins,dS _ _ _ _ ⋯,1212,r,a,J,x,y,2,f,hw.bd,3,V,O,hw.sy,hw.ne,λD v U Y F X L=>?_⟩];let N:∀b,p b=none->H b=none:=λb q=>same_none s1 q
  rwa[M ⟨d,j,i⟩ D v ?_ Y (λb z=>?_) ⟨L,X,Nz hw.sy _ _,λk I q=>?_,hw.L0,hw.m1⟩]
  ·rwa[λb o n q=>U b o (λz=>n (.inr z)) (s1^q)]
  ·rcases z with z|z
   ·rwa[.inl (.inl z)]
   ·rcases F b z with z|z
    ·rwa[.inl (.inr z)]
    ·rwa[.inr (N b z)]
  ·replace q:(if k=y then none else J.D k)\I:=q;cases e:k=y
   ·rw[ajD e]at q;ext q
   ·rw[ajw e]at q;rwa[hw.dm^q]
def t5 (T:Txt K mg A):T.kh.Ok mg P w base 2 (KP A.a8):=by
 rwa[T.kh.on tP (λb8 AA outer s H vs Q E hr h=>?_)]
 ·let⟨r,a,J,c,s,n,rfl,h,hw,hm,kT,N⟩:=h;let l:=ib hr
  erw[_,{bS (bI (PW.pt (oJ (jb (ja (pm (pv 0) (bD T) T.ki (pH T) hr #[1]))) (pV (jb (vG A3 A3 av (bQ Le rfl T.Xy PyProof.Rows.boot_abs #[2]) (0<<<1))))))
   {aY fk}
   bu),bS (bI (PW.pt (oJ (HM (BE l (pv 2) (jJ l (0<<<1) (pv 1) (λ_ _=>rfl)))) (pV (bh mD (pv 3) (0<<<1) (bq _)))))
    {aY fk}
    bu),bL (pv 0) (aV cY (0<<<1) av) rfl,kK l (0<<<1) (pv 3) c9 rfl,aT (pm (pv 0) (bD T) T.hJ (iW T) hr #[1,2,3]),aY fk}]
  rwa[nu ?_];intro rX oz jg fe fh;let hL:=hw.L0;let ea:(if s<0 then -s else s)=(s.natAbs:Int):=by split <;> ext
  erw[λ j H'=>j=#v[↑r,.int c,.int s,.int n]/\H'=H/\(∃d,J.D c\d)/\(1<=s.natAbs/\(s.natAbs:Int)<=J.L),5]
  ·erw[12,r,a.dx,12,h.ins,dS _ _ _ _ ⋯,12,r,a,J,c,2,h]
   cases hD:J.D c with
   |none=>rwa[false,2,dX (N (λz=>by let⟨⟨d,q⟩,_⟩:=z;rw[hD]at q;ext q) H (ao.refl H))]
   |some d=>
    rwa[⟨true,2,dA ?_⟩];erw[1212112212];simp only[ea];let no:¬(1<=s.natAbs/\(s.natAbs:Int)<=J.L)->Q (.bl false) H:=λq=>N (λz=>q z.2.1) H (ao.refl H)
    rwa[bX (λh1=>?_) (λh1=>?_)]
    ·let q1:(1:Int)<=(s.natAbs:Int):=ajM h1;erw[12,r,_,a.dx,112,h.ins,bD T,T.xZ,Hy _ _ _ _,112212];cases R:(s.natAbs:Int)<=J.L
     ·rw[ajF R];rwa[dA ⟨22,⟨d,2⟩,3,R⟩]
     ·rw[akh R];rwa[dX (no λz=>R z.2)]
    ·rwa[⟨false,2,dX (no λz=>h1 (ajF ∅))⟩]
  rintro j y ⟨rfl,rfl,⟨B,g⟩,hs⟩;let⟨t1,a1,a2,a3,a4⟩:=h.kn.pL;let⟨t2,b1,_,_,b4⟩:=h.kn.pM g;let V2:cO y a.aK (.int c) (some ↑B):=.inl ⟨t1,Sum.inl c,.inl a1,2,by rw[a4,g];rfl⟩;erw[λ j H'=>j=#v[↑r,.int c,.int s,.int n]/\H'=y/\J.E c s=none/\n=J.q,5]
  ·erw[1212,r,_,a.dx,112,h.ins,bD T,T.gT,iJ _ _ _ _,12,a.aK,12,V2,B,12,cO.k (k:=Sum.inl s) b1,12];rw[b4]
   cases hE:J.E c s with
   |some e=>exact dX (N (λz=>by have:=z.2.2.1;rw[hE]at this;ext this) y (ao.refl y))
   |none=>
    rwa[dA ?_];erw[1212,r,_,a.dx,112,h.ins,bD T,T.uC,FY _ _ _ _,212];cases q:n=J.q
    ·rwa[qz (by rw[q]) ⟨222,q⟩]
    ·rwa[bX (λ_=>N (λz=>q z.2.2.2) y (ao.refl y)) (λhh=>?_)];let ne:¬V.int n=V.int J.q:=λz=>q (by injection z)
     rwa[absurd (by simp[ne]) hh]
  rintro j p ⟨rfl,rfl,hE,rfl⟩;let hm1:=hw.m1
  let X:J.D J.q=none:=by
   cases q:J.D J.q with
   |none=>rfl
   |some d=>have:=hw.dm^q;ext
  erw[12,r,_,a.dx,112,h.ins,bD T,T.uC,FY _ _ _ _,112212,r,_,a.dx,12,h.ins,bD T,T.uC,(by show 5<1000;decide)];rw[KQ]
  let U:fB A.a8 (upd p r (.ins A.a8 a.dx (lY J.L J.cm (J.q+ 1) a))) r a { J with q:=J.q+ 1 }:=
   ⟨aj,lu h.r6 λb o _ n2 q=>[ai (bN q h.ins (n2^_))]▸q,h.kn.keep λb o z q=>[ai (h.t4 z).symm]▸q⟩
  let B3:∀b o,b≠r->p b\o->upd p r (.ins A.a8 a.dx (lY J.L J.cm (J.q+ 1) a)) b\o:=λb o n q=>by rw[ai n];rwa[q]
  let N3:∀b,upd p r (.ins A.a8 a.dx (lY J.L J.cm (J.q+ 1) a)) b=none->p b=none:=λb q=>by
   cases e:b=r
   ·rw[e,aj]at q;ext q
   ·rw[ai e]at q;rwa[q]
  change upd p r _=M at U B3 N3 ⊢;intro d nd;let I:=ao.upd (o:=.dK []) nd;let G:upd M d (.dK []) d\(.dK []):=aj;let m:=U.same I;let N4:∀b,upd M d (.dK []) b=none->M b=none:=λb q=>same_none I q
  change upd M d _=u at I G m N4 ⊢;let⟨L,c1,c2,c3,c4⟩:=m.kn.pL;let JZ:¬cf a.aK J.D J.E d:=λz=>by let⟨kvs,q⟩:=U.kn.there z;rw[nd]at q;ext q
  let lt4:⇑L<sizeLine:=wH (nB (n:=100000) (lo:=0) c2 c3 c4 λi v O=>by
   cases q:J.D i with
   |none=>replace O:(J.D i).map V.ref\v:=O;rw[q]at O;ext O
   |some x=>have:=hw.bd.d^q;omega)
  erw[12,r,_,a.dx,112,m.ins,bD T,T.gT,iJ _ _ _ _,12,a.aK,12,m7.k (k:=Sum.inl J.q) c1 lt4];let k5:=m.kn.yQ (n:=J.q) X c1 G JZ;let oK:cf a.aK J.D J.E a.aK:=.inl rfl
  let S:fB A.a8 (upd u a.aK (.dK (putK L (Sum.inl J.q) ↑d))) r a { J with q:=J.q+ 1,D:=λx=>if x=J.q then some d else J.D x }:=
   ⟨[ai (m.t4 oK)]▸m.ins,lu m.r6 λb o n1 _ q=>[ai (bN q c1 (n1 _))]▸q,k5⟩
  let B5:∀b o,b≠a.aK->u b\o->upd u a.aK (.dK (putK L (Sum.inl J.q) ↑d)) b\o:=λb o n q=>by rw[ai n];rwa[q]
  let N5:∀b,upd u a.aK (.dK (putK L (Sum.inl J.q) ↑d)) b=none->u b=none:=λb q=>by
   cases e:b=a.aK
   ·rw[e,aj]at q;ext q
   ·rw[ai e]at q;rwa[q]
  change upd u a.aK _=H5 at k5 S B5 N5 ⊢;let bdc:=hw.bd.d^g
  let b5:Bd { J with q:=J.q+ 1,D:=λx=>if x=J.q then some d else J.D x }:=⟨λf x q=>by
   replace q:(if f=J.q then some d else J.D f)\x:=q;cases e:f=J.q
   ·ext
   ·rw[ajw e]at q;rwa[hw.bd.d^q],hw.bd.e,hw.bd.s⟩
  let Z:(λx=>if x=J.q then some d else J.D x) c\B:=by
   have:=hw.dm^g;show (if c=J.q then some d else J.D c)\B;rw[ajw ∅];rwa[g]
  rwa[⟨12,r,a.dx,12,S.ins,dS _ _ _ _ ⋯,121212,r,a,_,c,s,J.q,2,S,b5,⟨B,Z⟩,⟨d,ajD rfl⟩,33,λY H6 hB j6 hO C=>?_⟩]
  let ow:∀b,cf a.aK (λx=>if x=J.q then some d else J.D x) J.E b->cf a.aK J.D J.E b\/b=d:=λb z=>by
   rcases z with z|⟨f,z⟩|z
   ·rwa[.inl (.inl z)]
   ·replace z:(if f=J.q then some d else J.D f)\b:=z;cases e:f=J.q
    ·rw[ajD e]at z;rwa[.inr (Za0 z).symm]
    ·rw[ajw e]at z;rwa[.inl (.inr (.inl ⟨f,z⟩))]
   ·rwa[.inl (.inr (.inr z))]
  let F:p d=none:=N3 d nd;rwa[kT ⟨⟨B,g⟩,hs,hE,2⟩ Y d H6 (λb o n q=>?_) j6 (λb z=>?_) ⟨⟨b5.d,λf t x q=>?_,λf t o' q=>?_⟩,λf t e q=>?_,Al hw.sy _ _ _,λf x q=>?_,hw.L0,⟨by show 1<=J.q+ 1;ext,by show J.q+ 1<=5000;ext⟩⟩]
  ·let nr:b≠r:=λz=>n (.inl z)
   let nK:¬cf a.aK J.D J.E b:=λz=>n (.inr z)
   rwa[hB b o (λz=>?_) (B5 b o (λz=>nK (.inl z)) (I^B3 b o nr q))];rcases ow b z with z|z
   ·rwa[nK z]
   ·rw[z,F]at q;ext q
  ·rcases z with z|z
   ·rwa[.inl (.inl z)]
   ·rcases hO b z with z|z
    ·rcases ow b z with z|z
     ·rwa[.inl (.inr z)]
     ·rwa[.inr (by rw[z];rwa[F])]
    ·rwa[.inr (N3 _ (N4 _ (N5 _ z)))]
  ·replace q:Y f t\x:=q;rcases C f t with w|⟨_,⟨_,w⟩|⟨_,w⟩⟩
   ·rw[w]at q;rwa[hw.bd.e _ _ _ q]
   ·ext
   ·ext
  ·replace q:dN J.S c s J.q f t o'=true:=q;rw[bU]at q;rcases q with q|⟨_,_,q⟩|⟨_,_,q⟩
   ·rwa[hw.bd.s _ _ _ q]
   ·ext
   ·ext
  ·rcases C f t with w|⟨_,⟨w1,w2⟩|⟨w1,w2⟩⟩
   ·replace q:Y f t\e:=q;rw[w]at q;let⟨o',z⟩:=hw.ne _ _ _ q;rwa[o',bU.mpr (.inl z)]
   ·rwa[J.q,bU.mpr (.inr (.inl ⟨w1,w2,2⟩))]
   ·rwa[c,bU.mpr (.inr (.inr ⟨w1,w2,2⟩))]
  ·replace q:(if f=J.q then some d else J.D f)\x:=q;show 0<=f/\f<J.q+ 1;cases e:f=J.q
   ·ext
   ·rw[ajw e]at q;have:=hw.dm^q;ext
def XI {x:V}{A B:Prop}(h:¬x=q)(k:A):if (!decide (x=q))=true then A else B:=by
 rw[ajD (by simp[h])];rwa[k]
def V4 {x:V}{A B:Prop}(h:x=q)(k:B):if (!decide (x=q))=true then A else B:=by
 rw[ajw (by simp[h])];rwa[k]
def Bc (J:JS)(a:Nat)(p:Zh):Prop:=(∃word,J.ws[a]?\word/\⇑p=⇑word+ 1)/\p.head?=p.getLast?/\((a:Int)<J.cm\/p.head?\0)/\∀c∈p,∃d,J.D c\d
inductive KR (C:Zt) (vs:Zb) (H:Hp) (Q:VK) (E_:XK):Prop
 |mk (r:Zt) (a:JA) (J:JS) (wh:Nat) (q:Zt) (p:Zh):vs=[↑r,.int wh,↑q]->fB C H r a J->wh<⇑J.ws->H q\.tup (au p)->⇑p<=1000->(∀x∈J.ws,⇑x<=1000)->(Bc J wh p->∀H',ao H H'->Q (.bl true) H')->(¬Bc J wh p->∀H',ao H H'->Q (.bl false) H')->KR C vs H Q E_
def F5 {ws:Za3}(h:bp H a ws){i:Nat}(c:i<⇑ws):∃(b:Zo) (wp:Zt),H a\.lst (b.map V.ref)/\iZ (b.map V.ref) (i:Int)\V.ref wp/\H wp\.tup (au (ws[i]'c))/\⇑b=⇑ws:=by
 let⟨b,f,d,g⟩:=h;let e:b[i]?\(b[i]'∅):=ajg ∅
 rwa[b,_,f,cj (by rw[ajq,e];rfl),g i _ _ e (ajg c),d]
def Ro {x:Int}(h:l.getLast?\x):iZ (au l) (-1)\(V.int x):=by
 let⟨ys,rfl⟩:=List.getLast?_eq_some_iff.mp h;let e:au (ys++[x])=au ys++[V.int x]:=by unfold au;rw[ajT];rfl
 rw[e];rwa[Lk _ _]
def DQ (c:Int)(r:Zh):iZ (au (c::r)) 0\(V.int c):=cj (j:=0) rfl
def AY (T:Txt K mg A):T.qX.Ok mg P w base 2 (KR A.a8):=by
 rwa[T.qX.on AU (λb8 AA N s H vs Q E hr h=>?_)]
 ·let⟨r,a,J,l,q,p,rfl,h,g,k,I,L,kT,F⟩:=h
  erw[_,{bS (bI (PW.pt (oJ (bh mD (2<<<0) (aV cY (((0<<<1)|||1)<<<0) av) (bq _)) (pV (bh mD (2&&&av) (2&&&(fm dJ av)) (bq _)))))
   {aY fk}
   bu),bS (bI (PW.pt (HN (bh A4 (pv 1) (0<<<1) (bq _)) (EG (bh mD (2&&&av) av (bq _)))))
    {aY fk}
    bu),aY (bQ (LX rfl) rfl T.Xz PyProof.Rows.boot_all #[kS (fns:=["self"]) (ixs:=[0]) (cl:=_) rfl (wN (pv 2)) (dW [(_,_)] rfl ⟨22222,True.intro⟩ rfl) (λC s H ex=>(pm (pv 1) (bD T) T.ki (pH T) hr #[0]))])}]
  rwa[da ?_];intro fe fh;let⟨wps,wp,hW,M,B,hwn⟩:=F5 h.r6 g;let n:J.ws[l]?\(J.ws[l]'g):=ajg g
  let X:=L _ (List.getElem_mem g);change J.ws[l]'g=word at B n X;erw[λ j U=>j=#v[↑r,.int l,↑q]/\U=H/\⇑p=⇑word+ 1/\p.head?=p.getLast?,5]
  ·erw[12,q,12,.inr (bz.of k),12,r,_,a.dx,112,h.ins,bD T,T.rh,wG _ _ _ _,12,a.aW,11122,aI.of hW,M,wp,12,.inr (bz.of B),1122212];simp only[aP];cases e:⇑p=⇑word+ 1
   ·rwa[qz (by rw[e];rfl) ?_]
    cases f:p with
    |nil=>rw[f]at e;ext e
    |cons m rest=>
     obtain⟨x,y⟩:∃x,p.getLast?\x:=by
      cases w:p.getLast? with
      |none=>rw[List.getLast?_eq_none_iff.mp w]at f;ext f
      |some x=>rwa[x,2]
     erw[12,q,11122,bz.of k,([f]▸DQ m rest),12,(1),2,q,11122,bz.of k,Ro y,212];rw[<-f,y];cases o:m=x
     ·rwa[qz (by rw[o]) ⟨22,e,by rw[f,o];rfl⟩]
     ·rwa[bX (λ_=>F (λz=>o ?_) H (ao.refl H)) (λu=>?_)]
      ·have:=z.2.1;rw[y,f]at this;rwa[Za0 this]
      ·let ne:¬V.int m=V.int x:=λz=>o (by injection z)
       rwa[absurd (by simp[ne]) u]
   ·rwa[bX (λ_=>F (λz=>e ?_) H (ao.refl H)) (λu=>?_)]
    ·let⟨⟨w,z1,z2⟩,_⟩:=z;rw[n]at z1;rw[Za0 z1];rwa[z2]
    ·let ne:¬V.int ((⇑p:Nat):Int)=V.int ((⇑word:Int)+ 1):=λz=>e (by injection z with z;omega)
     rwa[absurd (by simp[ne]) u]
  rintro j O ⟨rfl,rfl,S,o⟩;erw[λ j U=>j=#v[↑r,.int l,↑q]/\U=O/\((l:Int)<J.cm\/p.head?\0),5]
  ·erw[1212,r,_,a.dx,112,h.ins,bD T,T.zY,KJ _ _ _ _,112212];cases e:J.cm<=(l:Int)
   ·rw[ajF e];rwa[dX ?_]
    cases f:p with
    |nil=>rw[f]at S;ext S
    |cons m rest=>
     erw[12,q,11122,bz.of k,([f]▸DQ m rest),212];cases t:m=0
     ·rwa[qz (by rw[t]) ⟨22,.inr (by rw[t];rfl)⟩]
     ·rwa[bX (λ_=>F (λz=>?_) O (ao.refl O)) (λu=>?_)]
      ·rcases z.2.2.1 with w|w
       ·ext
       ·rw[f]at w;rwa[t (Za0 w)]
      ·let ne:¬V.int m=V.int 0:=λz=>t (by injection z)
       rwa[absurd (by simp[ne]) u]
   ·rw[akh e];rwa[dA ⟨22,.inl ∅⟩]
  rintro j H2 ⟨rfl,rfl,t⟩;erw[12,q,2,⟨_,bz.of k⟩];rwa[oO (au p) (λv=>match v with|.int z=>.bl (J.D z).isSome|v=>v) (Bs (bz.of k)) (yF (bz.of k)) (vI (bz.of (K:=K) k)) ([aP]▸aju I ⋯) (λi x y R hR=>?_) (λD Z=>?_)]
  ·let⟨z,rfl,_⟩:=cC y;rwa[12,r,a.dx,12,h.ins,dS _ _ _ _ ⋯,12,r,a,J,z,2,h,hR]
  erw[D,p.map λc=>(J.D c).isSome,25]
  ·let e:((au p).map λv=>match v with|.int z=>V.bl (J.D z).isSome|v=>v)=(p.map λc=>(J.D c).isSome).map V.bl:=by
    unfold au;rw[aj8,aj8];rfl
   rw[e];rwa[aI.of aj]
  ·cases G:∀c∈p,∃d,J.D c\d
   ·have:(p.map λc=>(J.D c).isSome).all id=true:=by
     rw[amG];intro b hb;let⟨c,Y,rfl⟩:=aj7.mp hb;let⟨d,hd⟩:=G c Y;rw[hd];rfl
    rw[this];rwa[kT ⟨⟨word,n,S⟩,o,t,G⟩ _ (ao.upd Z)]
   ·have:(p.map λc=>(J.D c).isSome).all id=false:=by
     rw[Bool.eq_false_iff];intro z;rw[amG]at z;rwa[G λc Y=>?_]
     have:=z _ (akV Y);rwa[akl.mp this]
    rw[this];rwa[F (λz=>G z.2.2.2) _ (ao.upd Z)]
def HC (J:JS)(p:Zh)(n k:Nat)(a:Zh)(c s o:Int):Prop:=J.ws[n]?\a/\a[k]?\s/\p[k]?\c/\p[k+ 1]?\o/\Bc J n p/\∀(i:Nat) (b d e:Int),i≠k->a[i]?\b->p[i]?\d->p[i+ 1]?\e->J.S d b e=true
def KS (J:JS)(b:Int)(p:Zh)(at_:Int):Prop:=∃(n k:Nat) (a:Zh) (c s o:Int),b=n/\at_=k/\HC J p n k a c s o
def uF (J:JS)(c s o:Int)(a:Int->Int->Zp):JS:={ J with E:=a,S:=dN J.S c s o }
inductive F6 (C:Zt) (vs:Zb) (H:Hp) (Q:VK) (E_:XK):Prop
 |mk (r:Zt) (a:JA) (J:JS) (wh:Int) (q:Zt) (p:Zh) (at_:Int):vs=[↑r,.int wh,↑q,.int at_]->fB C H r a J->JW J->H q\.tup (au p)->⇑p<=1000->(∀x∈J.ws,⇑x<=1000/\∀s∈x,-1000<s/\s<1000)->⇑J.ws<=1000->(∀(n k:Nat) (word:Zh) (c s o:Int),wh=(n:Int)->at_=(k:Int)->HC J p n k word c s o->∀E' H',jF (jE r a J) H H'->fB C H' r a (uF J c s o E')->(∀b,jE r a (uF J c s o E') b->jE r a J b\/H b=none)->JW (uF J c s o E')->Q (.bl true) H')->(¬KS J wh p at_->∀H',ao H H'->Q (.bl false) H')->F6 C vs H Q E_
def JW.Rp {J:JS}(hw:JW J){c s o:Int}{d:Int->Int->Zp}(i:0<=c/\c<100000)(bo:0<=o/\o<100000)(bs: -1000<s/\s<1000)(hE:∀b a,d b a=J.E b a\/(J.E b a=none/\((b=c/\a=s)\/(b=o/\a= -s)))):JW (uF J c s o d):=by
 rwa[⟨⟨hw.bd.d,λb a x q=>?_,λb a h q=>?_⟩,λb a e q=>?_,Al hw.sy _ _ _,hw.dm,hw.L0,hw.m1⟩]
 ·replace q:d b a\x:=q;rcases hE b a with w|⟨_,⟨_,w⟩|⟨_,w⟩⟩
  ·rw[w]at q;rwa[hw.bd.e _ _ _ q]
  ·ext
  ·ext
 ·replace q:dN J.S c s o b a h=true:=q;rw[bU]at q;rcases q with q|⟨_,_,q⟩|⟨_,_,q⟩
  ·rwa[hw.bd.s _ _ _ q]
  ·ext
  ·ext
 ·replace q:d b a\e:=q;rcases hE b a with w|⟨_,⟨f,g⟩|⟨f,g⟩⟩
  ·rw[w]at q;let⟨h,z⟩:=hw.ne _ _ _ q;rwa[h,bU.mpr (.inl z)]
  ·rwa[o,bU.mpr (.inr (.inl ⟨f,g,2⟩))]
  ·rwa[c,bU.mpr (.inr (.inr ⟨f,g,2⟩))]
def sr (T:Txt K mg A):T.jy.Ok mg P w base 3 (F6 A.a8):=by
 rwa[T.jy.on ft (λb8 AA outer s H vs Q E hr h=>?_)]
 ·let⟨r,a,J,S,q,p,at_,rfl,h,hw,hq,sO,Pp,hwn,kT,kF⟩:=h
  erw[_,{bI (jb (vG A3 mE av (pv 1) ((0<<<1)<<<0)))
   {aY fk}
   bu,bP 4 ft.nd ((0<<<1)|||1),bS (bI (PW.pt (oJ (jb (vG A3 mE av (pv 3) (4<<<0))) (pV (jb (ja (pm (pv 0) (bD T) T.qX (AY T) hr #[1,2]))))))
    {aY fk}
    bu),cX ajR rfl (Ma rfl T.lD (pv 4) rfl) (pW rfl (eA (fL 5 ft.nd) (eA (fL 6 ft.nd) mR)))
    {bS (bI (PW.pt (HN (bh mD (pv 5) (pv 3) (bq _)) (EG (jb (ja (pm (pv 0) (bD T) T.jd (lz T) hr #[2&&&5,6,2&&&(aV cY (pv 5) av)]))))))
     {aY fk}
     bu)},aT (pm (pv 0) (bD T) T.hJ (iW T) hr #[2&&&3,4&&&3,2&&&(aV cY (pv 3) av)]),aY fk}]
  rwa[nu ?_];intro rX oz jg fe fh;let⟨acy,hW0,acz⟩:=id h.r6;let Ys:⇑acy=⇑J.ws:=acz.1;erw[12112212];let R:¬(0<=S/\S<(⇑J.ws:Int))->Q (.bl false) H:=λz=>kF (λζ=>by let⟨n,k,word,c,s,o,e1,_,z1,_⟩:=ζ;rwa[z ⟨3,by have:=(aji.mp z1).1;ext⟩]) H (ao.refl H)
  rwa[bX (λN=>?_) (λN=>⟨false,2,dX (R λz=>N (ajF z.1))⟩)];let q0:0<=S:=ajM N;erw[12,r,_,a.dx,112,h.ins,bD T,T.rh,wG _ _ _ _,a.aW,12,.inl (aI.of hW0),112212];rw[ajk,Ys];cases q1:S<(⇑J.ws:Int)
  ·rw[ajF q1];rwa[dA ?_];obtain⟨n,rfl⟩:∃n:Nat,S=(n:Int):=⟨S.toNat,3⟩;let X:n<⇑J.ws:=∅
   clear R N;let⟨wps,wp,hW,PN,t,_⟩:=F5 h.r6 X;let g:J.ws[n]?\(J.ws[n]'X):=ajg X
   let hlw:=Pp _ (List.getElem_mem X);change J.ws[n]'X=word at t g hlw;erw[12,r,_,a.dx,112,h.ins,bD T,T.rh,wG _ _ _ _,12,a.aW,11122,aI.of hW,PN];erw[λ gL H'=>∃k:Nat,gL=#v[↑r,.int n,↑q,.int at_,↑wp,none,none]/\ao H H'/\at_=(k:Int)/\k<⇑word/\Bc J n p,5]
   ·erw[12112212]
    let no2:¬(0<=at_/\at_<(⇑word:Int))->Q (.bl false) H:=λz=>kF (λ⟨O,k,l,c,s,o,e1,e2,z1,z2,_⟩=>z ⟨3,by
     obtain rfl:n=O:=∅
     rw[g]at z1;obtain rfl:=Za0 z1;have:=(aji.mp z2).1;ext⟩) H (ao.refl H)
    rwa[bX (λN=>?_) (λN=>⟨false,2,dX (no2 λz=>N (ajF z.1))⟩)];let q2:0<=at_:=ajM N;erw[12,wp,12,.inr (bz.of t),112212];rw[aP];cases q3:at_<(⇑word:Int)
    ·rw[ajF q3];rwa[dA ?_];rwa[⟨12,r,a.dx,12,h.ins,dS _ _ _ _ ⋯,1212,r,a,J,n,q,p,2,h,X,hq,sO,λx hx=>(Pp x hx).1,λhf H1 U=>?_,λhf H1 U=>?_⟩]
     ·rwa[true,2,dA ⟨at_.toNat,2,U,33,hf⟩]
     ·rwa[⟨false,2,dX (kF (λζ=>?_) H1 U)⟩];let⟨O,k,l,c,s,o,e1,e2,z1,z2,F,B,M,_⟩:=ζ;rwa[hf ?_];obtain rfl:n=O:=∅
      rwa[M]
    ·rw[akh q3];rwa[dX (no2 λz=>q3 z.2)]
   rintro gL H1 ⟨k,rfl,U,rfl,hk,hf⟩
   let ahP:⇑p=⇑word+ 1:=by
    let⟨⟨w',z1,z2⟩,_⟩:=hf;rw[g]at z1;rw[Za0 z1];rwa[z2]
   erw[12,wp,2,⟨_,bz.of (U^t)⟩]
   refine xi (xs:=au word) (λi σ H2=>∃v5 v6,σ=#v[↑r,.int n,↑q,.int k,↑wp,v5,v6]/\ao H H2/\∀(m:Nat) (I L G:Int),m<i->m≠k->word[m]?\I->p[m]?\L->p[m+ 1]?\G->J.S L I G=true)
    ⟨none,none,2,U,λm _ _ _ z=>∅⟩ (λi σ H2 _ ζ=>by let⟨_,_,_,s2,_⟩:=ζ;rwa[bz.of (s2^t)]) ?_ ?_
   ·rintro i v σ H2 pp hi npp ⟨v5,v6,rfl,s2,d⟩;let⟨s,rfl,hs⟩:=cC hi;let X1:i<⇑word:=(aji.mp hs).1;let s3:=ao.upd (o:=.tup [.int (i:Int),.int s]) npp;erw[pp,12,bz.of aj,21121122];change upd H2 pp _=H3 at s3 ⊢;let f:=s2.trans s3;let hc:p[i]?\(p[i]'∅):=ajg ∅
    let ho:p[i+ 1]?\(p[i+ 1]'∅):=ajg ∅
    change p[i]'∅=c at hc;change p[i+ 1]'∅=o at ho;rwa[⟨15,λ_ _ z=>z⟩];erw[1212212];cases e:i=k
    ·rwa[V4 (by rw[e]) ?_];rwa[112,f,λm I L G z1 z2 F B M=>d m I L G ∅ z2 F B M]
    ·let ne:¬V.int (i:Int)=V.int (k:Int):=λz=>e (by injection z with z;omega)
     rwa[XI ne ?_];let KW:=f^hq;rwa[⟨12,r,a.dx,12,(h.same f).ins,dS _ _ _ _ ⋯,1212,q,11122,bz.of KW,cj (cP hc),1212121122,q,11122,bz.of KW,cj (j:=i+ 1) (cP ho),r,a,J,c,s,o,2,h.same f,λH4 s4=>?_⟩]
     cases hS:J.S c s o with
     |true=>
      rwa[⟨true,2,dA ⟨112,f.trans s4,λm I L G z1 z2 F B M=>?_⟩⟩];cases e2:m=i
      ·subst e2;rw[hs]at F;rw[hc]at B;rw[ho]at M;rw[<-Za0 F,<-Za0 B,<-Za0 M];rwa[hS]
      ·rwa[d m I L G ∅ z2 F B M]
     |false=>
      rwa[⟨false,2,dX (kF (λζ=>?_) H4 (f.trans s4))⟩];let⟨O,k',l,L,I,G,e1,e2,z1,z2,F,B,M,z6⟩:=ζ;obtain rfl:n=O:=∅
      obtain rfl:k=k':=∅
      rw[g]at z1;obtain rfl:=Za0 z1;have:=z6 i s c o e hs hc ho;rw[hS]at this;ext this
   ·rintro σ H2 ⟨v5,v6,rfl,s2,d⟩;rw[aP]at d;let y:word[k]?\(word[k]'hk):=ajg hk
    let D:p[k]?\(p[k]'∅):=ajg ∅
    let C:p[k+ 1]?\(p[k+ 1]'∅):=ajg ∅
    change word[k]'hk=s at y;change p[k]'∅=c at D;change p[k+ 1]'∅=o at C;let okk:HC J p n k word c s o:=⟨g,y,D,C,hf,λi I L G z1 z2 F B=>d i I L G (aji.mp z2).1 z1 z2 F B⟩;let⟨dc,Z⟩:=hf.2.2.2 c (ajj D);let⟨dO,Y⟩:=hf.2.2.2 o (ajj C);let bs:=hlw.2 s (ajj y);let h2:=h.same s2;let Kb:=s2^hq;let acA:=s2^t;rwa[⟨12,r,a.dx,12,h2.ins,dS _ _ _ _ ⋯,1212,q,11122,bz.of Kb,cj (cP D),1212,wp,11122,bz.of acA,cj (cP y),12121122,q,11122,bz.of Kb,cj (j:=k+ 1) (cP C),r,a,J,c,s,o,2,h2,hw.bd,⟨dc,Z⟩,⟨dO,Y⟩,bs.1,bs.2,λE' H3 hB j3 hO hE=>?_⟩];rwa[kT n k word c s o rfl rfl okk E' H3 (λb u O z=>hB b u (λw=>O (.inr w)) (s2^z)) j3 (λb z=>?_) (hw.Rp (hw.bd.d^Z) (hw.bd.d^Y) bs hE)];rcases z with z|z
    ·rwa[.inl (.inl z)]
    ·rcases hO b z with z|z
     ·rwa[.inl (.inr z)]
     ·rwa[.inr (same_none s2 z)]
  ·rw[akh q1];rwa[dX (R λz=>q1 z.2)]
inductive Rw where
 |new (c s n:Int)
 |rule (w:Int) (p:Zh) (k:Int)
 |meet (c s x y:Int)
def uG (H:Hp)(q:Zt):Rw->Prop
 |.new c s n=>H q\(.tup [.str (tx [110,101,119]),.int c,.int s,.int n])
 |.rule w p k=>∃t,H q\.tup [.str (tx [114,117,108,101]),.int w,↑t,.int k]/\H t\.tup (au p)/\⇑p<=1000
 |.meet c s x y=>H q\(.tup [.str (tx [109,101,101,116]),.int c,.int s,.int x,.int y])
theorem uG.same (s:ao H I):∀{w:Rw},uG H a w->uG I a w
 |.new _ _ _,h=>s^h
 |.rule _ _ _,⟨t,c,b,d⟩=>⟨t,s^c,s^b,d⟩
 |.meet _ _ _ _,h=>s^h
def Nx (J:JS):Rw->JS->Prop
 |.new c s n,a=>Bb J c s n/\∃b d,a=DP J c s n b d
 |.rule w p k,a=>∃(n m:Nat) (e:Zh) (c s o:Int),w=n/\k=m/\HC J p n m e c s o/\∃b,a=uF J c s o b
 |.meet c s x y,a=>(x<y/\J.S c s x=true/\J.S c s y=true)/\∃b,a=yu J x y b
def PQ (J:JS):Rw->Prop
 |.new c s n=>Bb J c s n
 |.rule w p k=>KS J w p k
 |.meet c s x y=>x<y/\J.S c s x=true/\J.S c s y=true
def V5 (J:JS):Prop:=(∀x∈J.ws,⇑x<=1000/\∀s∈x,-1000<s/\s<1000)/\⇑J.ws<=1000
inductive F7 (C:Zt) (vs:Zb) (H:Hp) (Q:VK) (E_:XK):Prop
 |mk (r:Zt) (a:JA) (J:JS) (q:Zt) (w:Rw):vs=[↑r,↑q]->fB C H r a J->JW J->J.q<5000->uG H q w->V5 J->(∀J' H',Nx J w J'->jF (jE r a J) H H'->fB C H' r a J'->(∀b,jE r a J' b->jE r a J b\/H b=none)->JW J'->Q (.bl true) H')->(¬PQ J w->∀H',ao H H'->Q (.bl false) H')->F7 C vs H Q E_
def zl (T:Txt K mg A):T.pO.Ok mg P w base 4 (F7 A.a8):=by
 rwa[T.pO.on za (λS AA C s H Z Q E G h=>?_)]
 ·let⟨r,a,J,q,w,rfl,h,F,V,b,L,I,D⟩:=h
  refine⟨_,{bI (bh eK (1&&&av) (dP (l:=[110,101,119]) rfl) (bq _))
   {aY (pm (pv 0) (bD T) T.kh (t5 T) G #[1&&&av,1&&&av,1&&&av])}
   bu,bI (bh eK (1&&&av) (dP (l:=[114,117,108,101]) rfl) (bq _))
    {aY (pm (pv 0) (bD T) T.jy (sr T) G #[1&&&av,1&&&av,1&&&av])}
    bu,aY (pm (pv 0) (bD T) T.jz (sq T) G #[1&&&av,1&&&av,1&&&av,1&&&av])},?_⟩
  rwa[da ?_];intro Y N
  cases w with
  |new c s n=>
   replace b:H q\(.tup [.str (tx [110,101,119]),.int c,.int s,.int n]):=b;erw[12,q,11122,bz.of b,2212];rwa[bX (λ_=>?_) (λz=>absurd (ajF rfl) z)];rwa[⟨12,r,a.dx,12,h.ins,dS _ _ _ _ ⋯,12,q,11122,bz.of b,212,q,11122,bz.of b,212,q,11122,bz.of b,2,r,a,J,c,s,n,2,h,F,V,λok u d e i j B f=>?_,λno e g=>D no e g⟩];rwa[I _ e ⟨ok,u,d,2⟩ i j B f]
  |rule M p k=>
   let⟨t,b,O,U⟩:=b;erw[12,q,11122,bz.of b,2212];rwa[bX (λz=>?_) (λ_=>?_)]
   ·have:=ajM z;injection this with this
    rwa[absurd (xc this) ⋯]
   erw[12,q,11122,bz.of b,2212];rwa[bX (λ_=>?_) (λz=>absurd (ajF rfl) z)];rwa[⟨12,r,a.dx,12,h.ins,dS _ _ _ _ ⋯,12,q,11122,bz.of b,212,q,11122,bz.of b,212,q,11122,bz.of b,2,r,a,J,M,t,p,k,2,h,F,O,U,L.1,L.2,λn m v c s o X R ok u e i j B f=>?_,λno e g=>D no e g⟩];rwa[I _ e ⟨n,m,v,c,s,o,X,R,ok,u,2⟩ i j B f]
  |meet c s x y=>
   replace b:H q\(.tup [.str (tx [109,101,101,116]),.int c,.int s,.int x,.int y]):=b;erw[12,q,11122,bz.of b,2212];rwa[bX (λz=>?_) (λ_=>?_)]
   ·have:=ajM z;injection this with this
    rwa[absurd (xc this) ⋯]
   erw[12,q,11122,bz.of b,2212];rwa[bX (λz=>?_) (λ_=>?_)]
   ·have:=ajM z;injection this with this
    rwa[absurd (xc this) ⋯]
   rwa[⟨12,r,a.dx,12,h.ins,dS _ _ _ _ ⋯,12,q,11122,bz.of b,212,q,11122,bz.of b,212,q,11122,bz.of b,212,q,11122,bz.of b,2,r,a,J,c,s,x,y,2,h,F,λok u e i j B f=>?_,λno e g=>D no e g⟩];rwa[I _ e ⟨ok,u,2⟩ i j B f]
def V6 (L:Int):List (Str×V):=[("letters",.int L)]
def V7 (L:Int)(l:Zt):List (Str×V):=[("letters",.int L),("words",↑l)]
def V8 (L c:Int)(l:Zt):List (Str×V):=[("letters",.int L),("words",↑l),("common",.int c)]
def V9 (L c:Int)(l:Zt):List (Str×V):=[("letters",.int L),("words",↑l),("common",.int c),("made",.int 1)]
def jp1 (L:Int):bH "letters" (.int L) []=V6 L:=rfl
def jp2 (L:Int)(l:Zt):bH "words" ↑l (V6 L)=V7 L l:=cU (by kernel_rfl)
def jp3 (L c:Int)(l:Zt):bH "common" (.int c) (V7 L l)=V8 L c l:=cU (by kernel_rfl)
def jp4 (L c:Int)(l:Zt):bH "made" (.int 1) (V8 L c l)=V9 L c l:=cU (by kernel_rfl)
def jp5 (L c:Int)(l k a:Zt):bH "known" ↑k (V9 L c l)=lY L c 1 ⟨a,l,k⟩:=cU (by kernel_rfl)
def uH (L:Int)(b:Za3)(a:Int)(d:Zt):JS:=⟨L,b,a,(1),λc=>if c=0 then some d else none,λ_ _=>none,λ_ _ _=>false⟩
inductive KY (C:Zt) (vs:Zb) (H:Hp) (Q:VK) (E_:XK):Prop
 |mk (x dx:Zt) (L:Int) (ru pa:Zt) (rs ps:Za3):vs=[↑x,.int L,↑ru,↑pa]->H x\.ins C dx []->bp H ru rs->bp H pa ps->⇑rs<=400->⇑ps<=400->(∀a d H',(∀b o,H b\o->b≠x->H' b\o)->fB C H' x a (uH L (rs++ps) ⇑rs d)->(∀b,jE x a (uH L (rs++ps) ⇑rs d) b->b=x\/H b=none)->Q .non H')->KY C vs H Q E_
def DR {f:Zo}{d g:Za3}(a:dq H F d)(e:dq H f g):dq H (F++f) (d++g):=by
 rwa[⟨by rw[ajh,ajh,a.1,e.1],λi p w b c=>?_⟩];cases h:i<⇑F
 ·rw[ajs h]at b;rw[ajs (by rw[<-a.1];rwa[h])]at c;rwa[a.2 i p w b c]
 ·rw[ajv ∅]at b;rw[ajv (by have:=a.1;omega),<-a.1]at c;rwa[e.2 _ p w b c]
def uV (T:Txt K mg A):T.gC.Ok mg P w base 1 (KY A.a8):=by
 rwa[T.gC.on uO (λb8 AA outer s H vs Q E hr h=>?_)]
 ·let⟨x,f,L,ru,pa,rs,ps,rfl,G,hR,hP,Ac,sO,k⟩:=h
  erw[_,{bL (pv 0) (pv 1) rfl,bL (pv 0) (aV pX (cR gw rfl T.gG aj2 #[2]) (cR gw rfl T.gG aj2 #[3])) rfl,bL (pv 0) (2<<<0) rfl,bL (pv 0) av rfl,bL (pv 0) (E9 (BH av c9 E8) rfl rfl (by simp) ⋯) rfl}]
  rwa[qE ?_];intro oz jg fe fh;let⟨Kt,C,v⟩:=id hR;let⟨pps,rZ,N⟩:=id hP
  let st:∀{H0:Hp} {fs gs:List (Str×V)},H0 x\.ins A.a8 f fs->(∀b o,H b\o->b≠x->H0 b\o)->upd H0 x (.ins A.a8 f gs) x\.ins A.a8 f gs/\(∀b o,H b\o->b≠x->upd H0 x (.ins A.a8 f gs) b\o)/\∀b o,b≠x->H0 b\o->upd H0 x (.ins A.a8 f gs) b\o:=
   λ_ h=>⟨aj,λb o e n=>[ai n]▸h b o e n,λb o n e=>[ai n]▸e⟩
  let FU:ru≠x:=bN C G f!"";let Ku:pa≠x:=bN rZ G f!"";erw[1212,x,_,f,12,G,bD T,T.xZ,(by show 0<1000;decide)];rw[jp1];obtain⟨x1,o1,-⟩:=st (gs:=(V6 L)) G (λb o e _=>e);change upd H x _=H1 at x1 o1 ⊢;rwa[⟨12,ru,12,.inl (aI.of (o1 _ _ C FU)),λl1 n1=>?_⟩];generalize R:upd H1 l1 _=H2;let⟨s1,Pk⟩:=eR R n1;rwa[⟨12,pa,12,.inl (aI.of (s1^o1 _ _ rZ Ku)),λl2 n2=>?_⟩];generalize R:upd H2 l2 _=H3;let⟨s2,zP⟩:=eR R n2;rwa[⟨l1,l2,1122,s2^Pk,zP,5,λg n3=>?_⟩]
  ·rw[ajk,ajk,v.1,N.1];rwa[aju (show ⇑rs+ ⇑ps<=800 by omega) ⋯]
  generalize R:upd H3 g _=H4;let⟨s3,hl3⟩:=eR R n3;let O:=s1.trans (s2.trans s3);let nl3:H3 g=none:=n3;let x4:=O^x1;let o4:∀b o,H b\o->b≠x->H4 b\o:=λb o e n=>O^o1 b o e n
  let m:g≠x:=(aw (s2^s1^x1) nl3).symm;erw[12,x,_,f,12,x4,bD T,T.rh,(by show 1<1000;decide)];rw[jp2];let⟨x5,o5,k5⟩:=st (gs:=(V7 L g)) x4 o4;let Z:=k5 _ _ m hl3;change upd H4 x _=H5 at x5 o5 Z ⊢;erw[12,ru,12,.inl (aI.of (o5 _ _ C FU)),12,x,_,f,12,x5,bD T,T.zY,(by show 2<1000;decide)];rw[ajk,v.1];rw[jp3];let⟨x6,o6,k6⟩:=st (gs:=(V8 L (⇑rs:Int) g)) x5 o5;let U:=k6 _ _ m Z;change upd H5 x _=H6 at x6 o6 U ⊢;erw[12,x,_,f,12,x6,bD T,T.uC,(by show 3<1000;decide)];rw[jp4];let⟨x7,o7,k7⟩:=st (gs:=(V9 L (⇑rs:Int) g)) x6 o6;let B:=k7 _ _ m U;change upd H6 x _=I at x7 o7 B ⊢;intro a X d nd;let l:a≠x:=(aw x7 X).symm;let s8:=ao.upd (o:=.dK []) X;let nkd:a≠d:=λz=>by rw[<-z,aj]at nd;ext nd
  let s9:=ao.upd (o:=.dK []) nd;let r:upd (upd I a (.dK [])) d (.dK []) a\(.dK []):=s9^aj;let PH:upd (upd I a (.dK [])) d (.dK []) d\(.dK []):=aj;let j:=s8.trans s9
  let n0:∀b,I b=none->b≠x->H b=none:=λb n nx=>by
   cases e:H b with
   |none=>rfl
   |some o=>rw[o7 b o e nx]at n;ext n
  let rH:I d=none:=same_none s8 nd;let D:d≠x:=(aw x7 rH).symm;change upd (upd I a (.dK [])) d (.dK [])=F at r PH j ⊢;erw[r,[(Sum.inl 0,↑d)],2,(by show 1<=15;decide)];let em:iA [] [((Sum.inl 0:Key),V.ref d)]=putK [] (Sum.inl 0) ↑d:=rfl;rw[em];let kt:cy F a (λ_=>none) (λ_ _=>none) (λ_ _ _=>false):=⟨⟨[],r,by simp,(λkv z=>by ext z),λi=>rfl⟩,(λc d z=>by ext z),(λc s e z=>by ext z),(λc s e z=>by ext z),(λc s o z=>by ext z),(λc d z=>by ext z),(λc s e z=>by ext z),(λc c' d z=>by ext z),(λc c' s d z=>by ext z),λc s c' s' e z=>by ext z⟩
  let S:=kt.yQ (n:=0) rfl r PH (λz=>by
   rcases z with z|⟨c,z⟩|⟨c,s,z⟩
   ·rwa[nkd z.symm]
   ·ext z
   ·ext z)
  let y:∀b o,b≠a->F b\o->upd F a (.dK (putK [] (Sum.inl 0) ↑d)) b\o:=λb o n q=>by rw[ai n];rwa[q]
  let x10:=y _ _ l.symm (j^x7);let J:∀b o,H b\o->b≠x->upd F a (.dK (putK [] (Sum.inl 0) ↑d)) b\o:=λb o e n=>y b o (λz=>by rw[z,n0 a X l]at e;ext e) (j^o7 b o e n)
  let u:=y _ _ (aw B X) (j^B);change upd F a _=Dg at S x10 J u ⊢;erw[12,x,_,f,12,x10,bD T,T.gT,(by show 4<1000;decide)];rw[jp5 L (⇑rs:Int) g a f];let⟨x11,M,Y⟩:=st (gs:=lY L (⇑rs:Int) 1 ⟨f,g,a⟩) x10 J;let tk:∀{ps:Zo} {ws:Za3},dq H ps ws->dq (upd Dg x (.ins A.a8 f (lY L (⇑rs:Int) 1 ⟨f,g,a⟩))) ps ws:=λt=>t.keep λp xs e=>M p _ e (bN e G f!"")
  rwa[k ⟨f,g,a⟩ d _ M ⟨x11,⟨Kt++pps,5,DR (tk v) (tk N)⟩,S.keep λb o z q=>?_⟩ λb z=>?_]
  ·rw[ajT];rwa[Y _ _ m u]
  ·rwa[Y b o (λw=>?_) q];rw[w]at q;rw[x10]at q;rcases z with z|⟨c,z⟩|⟨c,s,z⟩
   ·rwa[l (z.symm.trans w)]
   ·replace z:(if c=0 then some d else none)\b:=z;cases e:c=0
    ·rw[ajD e]at z;rwa[D ((Za0 z).trans w)]
    ·rw[ajw e]at z;ext z
   ·ext z
  ·rcases z with z|z|⟨c,z⟩|⟨c,s,z⟩
   ·rwa[.inl z]
   ·rwa[.inr (by rw[z];rwa[n0 a X l])]
   ·replace z:(if c=0 then some d else none)\b:=z;cases e:c=0
    ·rw[ajD e]at z;rw[<-Za0 z];rwa[.inr (n0 d rH D)]
    ·rw[ajw e]at z;ext z
   ·ext z
structure AS where
 q:Int
 st:Int->Bool
 S:bf
def JS.abs (J:JS):AS:=⟨J.q,λc=>(J.D c).isSome,J.S⟩
def t7 (L:Int)(f:Za3)(e:Int)(X:AS):Rw->Prop
 |.new c s n=>X.st c=true/\(1<=s.natAbs/\(s.natAbs:Int)<=L)/\(∀o,X.S c s o=false)/\n=X.q
 |.rule w p k=>∃(n m:Nat) (word:Zh) (c s o:Int),w=n/\k=m/\f[n]?\word/\word[m]?\s/\p[m]?\c/\p[m+ 1]?\o/\⇑p=⇑word+ 1/\p.head?=p.getLast?/\((n:Int)<e\/p.head?\0)/\(∀c∈p,X.st c=true)/\∀(i:Nat) (a b d:Int),i≠m->word[i]?\a->p[i]?\b->p[i+ 1]?\d->X.S b a d=true
 |.meet c s x y=>x<y/\X.S c s x=true/\X.S c s y=true
def kB (ws:Za3)(X:AS):Rw->AS
 |.new c s n=>⟨X.q+ 1,λx=>decide (x=n) || X.st x,dN X.S c s n⟩
 |.rule w p k=>⟨X.q,X.st,dN X.S (p.getD k.toNat 0) ((ws.getD w.toNat []).getD k.toNat 0) (p.getD (k.toNat+ 1) 0)⟩
 |.meet _ _ x y=>⟨X.q,λc=>X.st c && !decide (c=y),iX X.S x y⟩
def Right (L:Int)(a:Za3)(b:Int):AS->List Rw->Prop
 |_,[]=>True
 |X,w::r=>t7 L a b X w/\Right L a b (kB a X w) r
theorem XJ {k:Zt}{J:JS}(hw:JW J)(C:cy H k J.D J.E J.S):∀{w:Rw},t7 J.L J.ws J.cm J.abs w->PQ J w
 |.new c s n,⟨b,d,g,f⟩=>by
  rwa[⟨akl.mp b,d,5,f⟩]
  cases q:J.E c s with
  |none=>rfl
  |some e=>
   let⟨o,z⟩:=hw.ne _ _ _ q;have:=g o;rw[show J.abs.S=J.S from rfl,z]at this;ext this
 |.rule w p k,⟨n,m,a,c,s,o,v,l,b,d,g,f,j,t,i,r,u⟩=>⟨n,m,a,c,s,o,v,l,b,d,g,f,⟨⟨a,b,j⟩,t,i,λc B=>akl.mp (r c B)⟩,u⟩
 |.meet c s x y,h=>h
theorem Wa {J a:JS}:∀{w:Rw},Nx J w a->a.abs=kB J.ws J.abs w/\a.L=J.L/\a.ws=J.ws/\a.cm=J.cm
 |.new c s n,⟨_,b,d,e⟩=>by
  subst e;rwa[⟨5222⟩];unfold JS.abs DP kB;simp only[AS.mk.injEq,true_and,and_true]
  funext x
  cases e:x=n
  ·simp[e]
  ·simp[e]
 |.rule w p k,⟨n,m,f,c,s,o,r,l,⟨j,g,q,i,_⟩,b,e⟩=>by
  subst e r l;rwa[⟨5222⟩];unfold JS.abs uF kB;simp only[akg,ajm,j,g,q,i,Option.getD_some]
 |.meet c s x y,⟨_,b,e⟩=>by
  subst e;rwa[⟨5222⟩];unfold JS.abs yu kB fZ;simp only[AS.mk.injEq,true_and,and_true]
  funext h
  cases e:h=y
  ·simp[e]
  ·simp[e]
def l0:AS:=⟨(1),λc=>decide (c=0),λ_ _ _=>false⟩
theorem oF {L:Int}{a:Za3}{b:Int}:∀{rows:List Rw} {X:AS} {i:Nat} {w:Rw},Right L a b X rows->rows[i]?\w->t7 L a b ((rows.take i).foldl (kB a) X) w
 |[],_,_,_,_,h=>by simp at h
 |v::r,X,0,w,h,e=>by
  have:v=w:=by simpa using e
  rw[<-this];rwa[h.1]
 |v::r,X,i+ 1,w,h,e=>oF (rows:=r) (X:=kB a X v) (i:=i) h.2 (by simpa using e)
theorem Rq {k:Zt}{J r:JS}(l:cy H k J.D J.E J.S):∀{w:Rw},Nx J w r->t7 J.L J.ws J.cm J.abs w
 |.new c s n,⟨⟨b,d,g,f⟩,_⟩=>by
  rwa[⟨akl.mpr b,d,λo=>?_,f⟩]
  cases q:J.S c s o with
  |false=>exact q
  |true=>
   let⟨e,z⟩:=l.se _ _ _ q;rw[g]at z;ext z
 |.rule w p k,⟨n,m,a,c,s,o,E,v,⟨b,d,g,f,⟨⟨i,j,t⟩,C,u,B⟩,D⟩,_⟩=>by
  rw[b]at j;obtain rfl:=Za0 j;rwa[n,m,a,c,s,o,E,v,b,d,g,f,t,C,u,λc F=>akl.mpr (B c F),D]
 |.meet c s x y,⟨h,_⟩=>h
theorem DS {L:Int}{a:Za3}{b:Int}:∀{rows:List Rw} {X:AS} {w:Rw},Right L a b X rows->t7 L a b (rows.foldl (kB a) X) w->Right L a b X (rows++[w])
 |[],_,_,_,h=>⟨h,trivial⟩
 |v::r,X,w,h,e=>⟨h.1,DS (rows:=r) h.2 e⟩
inductive DT (vs:Zb) (H:Hp) (Q:VK) (E_:XK):Prop
 |mk (L:Int) (ru pa pp:Zt) (rs ps:Za3) (qs:Zo) (rows:List Rw):vs=[.int L,↑ru,↑pa,↑pp]->0<=L->L<=900->bp H ru rs->bp H pa ps->⇑rs<=400->⇑ps<=400->(∀x∈rs++ps,⇑x<=1000/\∀s∈x,-1000<s/\s<1000)->H pp\.lst (qs.map V.ref)->⇑qs=⇑rows->(∀(i:Nat) (q:Zt) (w:Rw),qs[i]?\q->rows[i]?\w->uG H q w)->(∀i,Right L (rs++ps) ⇑rs l0 (rows.take i)->((rows.take i).foldl (kB (rs++ps)) l0).q<5000)->(Right L (rs++ps) ⇑rs l0 rows->∀H',ao H H'->Q .non H')->(∀(i:Nat) (w:Rw),rows[i]?\w->Right L (rs++ps) ⇑rs l0 (rows.take i)->¬t7 L (rs++ps) ⇑rs ((rows.take i).foldl (kB (rs++ps)) l0) w->∀H',ao H H'->Q (.int (i:Int)) H')->DT vs H Q E_
def Am (T:Txt K mg A):T.xX.Ok P w base 5 DT:=by
 rwa[T.xX.on pz (λb8 AA outer s H vs Q E hr h=>?_)]
 ·let⟨L,ru,pa,pp,rs,f,l,rows,rfl,N,R,hR,hP,S,Z,U,C,Pg,r,hlen,kR,kW⟩:=h
  refine⟨_,{bP 4 pz.nd (ug (wm T) (uV T) hr.Za5 rfl T.Q7 T.gC.b .nil fK #[0,1,2]),cX ajR rfl (BM rfl T.lD (pv 3)) (pW rfl (eA (fL 5 pz.nd) (eA (fL 6 pz.nd) mR)))
    {bI (jb (ja (pm (pv 4) (bD T) T.pO (zl T) hr #[6])))
     {aY (pv 5)}
     bu},aY dk},?_⟩
  rwa[da ?_];intro fe fh;rwa[⟨121212,λx X nx Ai M=>?_⟩];let F:ao H (upd (upd H X (.own x)) x (.ins A.a8 X [])):=(ao.upd Ai).trans (ao.upd ([ai M.symm]▸nx));rwa[⟨x,X,L,ru,pa,rs,f,2,aj,hR.same F,hP.same F,S,Z,λa d H1 k1 j1 ow=>⟨25⟩⟩];let s1:ao H H1:=λb o e=>k1 b o (F b o e) (λz=>by rw[z,nx]at e;ext e)
  let u:∀b,jE x a (uH L (rs++f) ⇑rs d) b->H b=none:=λb z=>(ow b z).elim (λw=>[w]▸nx) λw=>same_none F w
  let un:∀{c:Int} {z:Zt},(if c=0 then some d else none)\z->c=0:=λ{c z} w=>by
   cases e:c=0
   ·rwa[e]
   ·rw[ajw e]at w;ext w
  let jw:JW (uH L (rs++f) ⇑rs d):=⟨⟨λc y q=>by have:=un q;ext,(λc s y q=>by ext q),(λc s o q=>by ext q)⟩,(λc s e q=>by ext q),(λc s o q=>by ext q),λc y q=>by have:=un q;show 0<=c/\c<1;ext,⟨N,R⟩,⟨by show (1:Int)<=1;decide,by show (1:Int)<=5000;decide⟩⟩
  let ab:(uH L (rs++f) ⇑rs d).abs=l0:=by
   unfold JS.abs uH l0;simp only[AS.mk.injEq,true_and,and_true]
   funext c
   cases e:c=0
   ·simp[e]
   ·simp[e]
  erw[12,pp,2,⟨_,aI.of (s1^C)⟩]
  refine xi (xs:=l.map V.ref) (λi G k=>∃J v5 O,G=#v[.int L,↑ru,↑pa,↑pp,↑x,v5,O]/\ao H k/\fB A.a8 k x a J/\JW J/\V5 J/\(∀b,jE x a J b->H b=none)/\J.abs=(rows.take i).foldl (kB (rs++f)) l0/\J.L=L/\J.ws=rs++f/\J.cm=⇑rs/\Right L (rs++f) ⇑rs l0 (rows.take i))
   ⟨_,none,none,2,s1,j1,jw,⟨U,by show ⇑(rs++f)<=1000;rw[ajh];ext⟩,u,ab,222,trivial⟩ (λi G k _ ζ=>by let⟨_,_,_,_,s2,_⟩:=ζ;rwa[aI.of (s2^C)]) ?_ ?_
  ·rintro i v G k t hi nt ⟨J,v5,O,rfl,s2,Y,w2,wk,p,D,e2,I,e4,m⟩
   let j:i<⇑l:=by
    have:=(aji.mp hi).1;rw[ajk]at this;rwa[this]
   let g1:l[i]?\(l[i]'j):=ajg j
   let B:rows[i]?\(rows[i]'∅):=ajg ∅
   rw[ajq,g1]at hi;obtain rfl:V.ref (l[i]'j)=v:=Za0 hi;change l[i]'j=q at g1;change rows[i]'∅=w at B;let s3:=ao.upd (o:=.tup [.int (i:Int),↑q]) nt;erw[t,12,bz.of aj,21121122];change upd k t _=H3 at s3 ⊢;let g:=s2.trans s3;let j3:=Y.same s3;rwa[⟨12,x,a.dx,12,j3.ins,dS _ _ _ _ ⋯,12,x,a,J,q,w,2,j3,w2,(by have:=hlen i m;rw[<-D]at this;rwa[this]),(r i q w g1 B).same g,wk,λJ' H4 n bj j4 Vb w4=>?_,λno H' s'=>?_⟩]
   ·let okr:t7 L (rs++f) ⇑rs ((rows.take i).foldl (kB (rs++f)) l0) w:=by
     have:=Rq Y.kn n;rw[e2,I,e4,D]at this;rwa[this]
    rwa[⟨true,2,dA ?_⟩];let⟨a1,a2,a3,a4⟩:=Wa n;erw[J',112,λb o e=>bj b o (λz=>by rw[p b z]at e;ext e) (g^e),j4,w4,by unfold V5;rw[a3];rwa[wk],λb z=>(Vb b z).elim (p b) (same_none g),5,a2.trans e2,a3.trans I,a4.trans e4]
    ·rw[a1,D,I,akx,B,aly];rfl
    ·rw[akx,B];rwa[DS m okr]
   ·let nok:¬t7 L (rs++f) ⇑rs ((rows.take i).foldl (kB (rs++f)) l0) w:=λok=>no (XJ w2 Y.kn ([e2,I,e4,D]▸ok))
    erw[false,2];rwa[bX (λ_=>?_) (λz=>absurd rfl z)];rwa[12,kW i w B m nok _ (g.trans s')]
  ·rintro G k ⟨J,v5,O,rfl,s2,_,_,_,_,_,_,_,_,m⟩;rw[ajk,Pg,aky]at m;rwa[kR m k s2]
def t8 {v:Zh}(b:M11.du n l)(a:M11.du n v):M11.du n (l++v):=λs c=>(ajr.mp c).elim (b s) (a s)
def NB {Q:VK}(j:n<=1000)(k:∀(i:Nat) (R:VK),i<n->(∀z:Int,R (.int z) H)->r (some (.int (0+ (i:Int)))::D) H R)
 (f:∀a zs,H a=none->⇑zs=n->Q ↑a (upd H a (.lst (au zs)))):wZ r D Q (EK 0 n) H:=by
 erw[λi m ys d=>m=n - i/\i<=n/\∃zs:Zh,ys=au zs/\⇑zs=i/\d=H,⟨n,by simp,ajU _,[],222⟩];rintro i m ys d ⟨rfl,o,zs,rfl,b,rfl⟩;cases c:i<n
 ·rwa[.inr ⟨c,[aP,b]▸ajt (show i<=1000 by omega) ⋯,λx l h=>?_⟩];let⟨rfl,rfl⟩:=h;rwa[k i _ c λz=>?_]
  rwa[n - (i+ 1),32,c,zs++[z],by rw[ints_app];rfl,by rw[ajh,b];rfl,2]
 ·let e:i=n:=∅
  subst e;rwa[.inl ⟨ajp _,[aP,b]▸aju j ⋯,λa g=>f a zs g b⟩]
inductive Wb (K:Za1) (vs:Zb) (H:Hp) (Q:VK) (E_:XK):Prop
 |mk (a:Zt) (ns:Zh) (k:Nat):vs=[↑a,.int k]->aI K H a (au ns)->k<=1000->(∀z,Q (.int z) H)->Wb K vs H Q E_
def XM:Sp:=λa H Q _=>∃(z p:Int),a=[.int z,.int p]/\0<=p/\p<=1000/\∀r:Int,0<=r->Q (.int r) H
inductive KZ (vs:Zb) (H:Hp) (Q:VK) (E_:XK):Prop
 |mk (a:Zt) (cs:Zh) (L:Nat):vs=[↑a,.int L]->H a\.lst (au cs)->⇑cs<=63->1<=L->L<=40->(∀l w H',ao H H'->H' l\.tup (au w)->M11.du L w->⇑w=⇑cs->Q ↑l H')->KZ vs H Q E_
def Wc:Sp:=λc H Q _=>∃(a:Zt) (ns:Zh),c=[↑a]/\H a\.tup (au ns)/\⇑ns<=1000/\∀l ms b,ao H b->b l\.tup (au ms)->⇑ms=⇑ns->(∀L,M11.du L ns->M11.du L ms)->ms=M11.back ns->Q ↑l b
def XQ:Sp:=λd H Q _=>∃(a:Zt) (cs:Zh),d=[↑a]/\H a\.lst (au cs)/\⇑cs<=24/\∀l b c,ao H c->H l=none->bp c l b->(∀u∈b,M11.du 2 u/\⇑u<=24)->⇑b<=25->Q ↑l c
inductive F8 (K:Za1) (vs:Zb) (H:Hp) (Q:VK) (E_:XK):Prop
 |mk (z:Int) (a:Zt) (cs:Zh):vs=[.int z,↑a]->0<=z->H a\.lst (au cs)->⇑cs<=24->(∀l Ws H',ao H H'->bp H' l Ws->(∀u∈Ws,M11.du 2 u/\⇑u<=100)->⇑Ws<=27->Q ↑l H')->F8 K vs H Q E_
def Rt (K:Za1):Sp:=λd H Q _=>∃(a:Zt) (ns:Zh),d=[↑a]/\aI K H a (au ns)/\⇑ns<=63/\∀q l L c b,ao H b->b q\.tup [.int ((L:Nat):Int),↑l]->bp b l c->2<=L->L<=3->(∀u∈c,M11.du L u/\⇑u<=100)->⇑c<=28->Q ↑q b
def Ru:Sp:=λa H Q _=>∃z:Int,a=[.int z]/\0<=z/\∀n:Nat,1<=n->n<=24->Q (.int n) H
inductive K0 (K:Za1) (vs:Zb) (H:Hp) (Q:VK) (E_:XK):Prop
 |mk (a:Zt) (ns:Zh) (L:Nat):vs=[↑a,.int L]->aI K H a (au ns)->1<=L->L<=3->(∀l Ws H',ao H H'->bp H' l Ws->(∀u∈Ws,M11.du L u/\⇑u<=100)->⇑Ws<=3->Q ↑l H')->K0 K vs H Q E_
def mP (T:Txt K mg A):T.mW.Ok P w base 1 (Wb K):=by
 rwa[T.mW.on Hu (λi l c s H j Q E m h=>?_)]
 ·let⟨a,b,n,rfl,d,o,k⟩:=h
  refine⟨_,{bI (bh mE (pv 1) (0<<<0) (bq _))
   {aY (0|||1)}
   bu,aY (aV cY (aV lF av (pv 1)) av)},?_⟩
  rwa[kM ?_];intro f;erw[1212,a,12,.inl d,112212];rwa[bX (λh=>?_) (λh=>?_)]
  ·let g:(n:Int)<(⇑(au b):Int):=ajM h;rw[aP]at g;let e:b[n]?=some b[n]:=ajg ∅
   rwa[1212,a,11122,d,cj (cP e),k _]
  ·rwa[121122,.inl ⟨44⟩,1122,k _]
def gb (T:Txt K mg A):T.gR.Ok P w base 1 XM:=by
 rwa[T.gR.on hY (λq C c s H B Q E F h=>?_) (len:=by rintro _ _ _ _ ⟨z,p,rfl,_⟩;rfl)]
 ·let⟨z,p,rfl,D,m,k⟩:=h
  erw[_,{bI (bh A4 (pv 0) (aV Ib av av) (bq _))
   {bP 0 hY.nd (aV mZ (aV Bv (pv 0) (aV Ib av av)) av),cX ajR rfl (lE rfl T.mX #[aV cK (pv 1) av]) (fL 2 hY.nd)
    {bP 0 hY.nd (aV Bv (pv 0) av)},aY (aV cK (pv 0) av)}
   bu,bP 3 hY.nd (aV cK (aV lF (aV cY (aV cY (aV cK (pv 0) av) (pv 1)) av) (aV cY (aV lF (aV lF av (pv 1)) (pv 1)) av)) av),bP 3 hY.nd (aV cK (aV lF (pv 3) (pv 3)) av),aY (aV cK (aV lF (pv 3) (aV cY (pv 3) av)) av)}]
  rwa[iC ?_];intro r u j;erw[121122,⟨444⟩,112212];rwa[bX (λh=>?_) (λh=>?_)]
  ·erw[121122,⟨444⟩,1122,⟨4,PyProof.noPylong_of_log2 ⋯⟩,1122];erw[121122,(by show (0:Int)<61;decide),(p % 61),233];rwa[oN (lo:=0) (n:=(p % 61).toNat) (λi d e=>∃(y:Int) (v:Zc),d=#v[.int y,.int p,v,none]/\e=H) ⟨_,none,22⟩ ?_ ?_]
   ·rintro i d e I ⟨y,v,rfl,rfl⟩;erw[121122,⟨4,PyProof.noPylong_of_log2 ⋯⟩];rwa[1122]
   ·rintro d e ⟨y,v,rfl,rfl⟩;rwa[121122,(by show (0:Int)<2147483648;decide),k _ (akJ _ ⋯)]
  ·let x:=akJ z (show (2147483629:Int)≠0 by decide);let G:=akE z (show (0:Int)<2147483629 by decide);erw[121122,(by show (0:Int)<2147483629;decide),1211221122121122,.inl ⟨44⟩,121122,.inr ⟨33⟩,11221122,.inl ⟨33⟩,1122,(by show (0:Int)<2147483647;decide)];change ((z % 2147483629+ p+ 1)* (8* p* p+ 48271))=a;let o:=akJ a (show (2147483647:Int)≠0 by decide);let t:=akE a (show (0:Int)<2147483647 by decide);change a % 2147483647=f at o t ⊢;erw[12121122,.inl ⟨33⟩,1122,(by show (0:Int)<2147483587;decide)];change f* f=b;let l:=akJ b (show (2147483587:Int)≠0 by decide);let g:=akE b (show (0:Int)<2147483587 by decide);change b % 2147483587=J at l g ⊢;erw[121211221122,.inl ⟨33⟩,1122,(by show (0:Int)<2147483579;decide)];rwa[k _ (akJ _ ⋯)]
def iK (T:Txt K mg A):T.iE.Ok P w base 2 KZ:=by
 rwa[T.iE.on gH (λN AA u s H vs Q E D h=>?_)]
 ·let⟨a,cs,L,rfl,x,X,J,Z,k⟩:=h
  erw[_,{bP 2 gH.nd (cH ak),cX ajR rfl (dZ (pv 0)) (fL 3 gH.nd)
    {bP 4 gH.nd (pc T.gR (gb T) D #[3,av]),bP 5 gH.nd (aV cY av (aV cK (aV jH (pv 4) av) (pv 1))),bS (bI (bh eK (aV cK (pv 4) av) av (bq _))
     {bP 5 gH.nd (aV mZ av (pv 5))}
     bu),aT (df ajy ajB ajC bK (pv 2) #[5])},aY (cR jk rfl T.qj ak9 #[2])}]
  rwa[da ?_];intro U F;rwa[⟨ajU _,λl n=>?_⟩];let O:l≠a:=λe=>by rw[e,x]at n;ext n
  let C:ao H (upd H l (.lst [])):=ao.upd n;erw[12,a,2,⟨_,aI.of (C^x)⟩]
  refine g6 (xs:=au cs) (λi p j=>∃(ws:Zh) (t v B:Zc),p=#v[↑a,.int L,↑l,t,v,B]/\ao H j/\j l\.lst (au ws)/\M11.du L ws/\⇑ws=i)
   ⟨[],none,none,none,2,C,aj,(λs g=>by ext g),2⟩ (λi p j _ ζ=>by let⟨_,_,_,_,_,s,_⟩:=ζ;rwa[aI.of (s^x)]) ?_ ?_
  ·rintro i y p j S ⟨ws,t,v,B,rfl,s2,d,f,c⟩;let⟨z,rfl,M⟩:=cC S;let R:i<⇑cs:=(aji.mp M).1;rwa[⟨12,z,(2),244,λr D=>?_⟩];let e1:=akJ (r / 2) (show (L:Int)≠0 by omega);let e2:=akE (r / 2) (show (0:Int)<(L:Int) by omega);erw[121122,⟨44⟩,121122,(by show (0:Int)<(L:Int);omega),1122];erw[λ m Y=>∃st:Int,m=#v[↑a,.int L,↑l,.int z,.int r,.int st]/\Y=j/\st≠0/\st.natAbs<=L,5]
   ·erw[121122,(by show (0:Int)<2;decide),212];rwa[bX (λ_=>?_) (λ_=>⟨12233⟩)];rwa[12112212233]
   rintro m H3 ⟨st,rfl,rfl,G,I⟩;erw[12,.inl ⟨21,aI.of d⟩,12,l,1122,d,5]
   ·rw[aP];rwa[ajt (show ⇑ws<=63 by omega) ⋯]
   rwa[⟨ws++[st],1112,λb o e=>[ai (aw e n)]▸s2^e,by rw[aj,ints_app];rfl,λs g=>?_,by rw[ajh,c];rfl⟩];rcases ajr.mp g with g|g
   ·rwa[f s g]
   ·rw[ajn.mp g];rwa[G,I]
  ·rintro p j ⟨ws,t,v,B,rfl,s2,d,f,c⟩;rw[aP]at c;rwa[⟨12,l,12,.inl ⟨aI.of d,λlt q=>?_⟩⟩];rwa[k lt ws _ (s2.trans (ao.upd q)) aj f c]
def DU (T:Txt K mg A):T.tG.Ok P w base 1 Wc:=by
 rwa[T.tG.on Dd (λj G c s H F Q E J h=>?_) (len:=by rintro _ _ _ _ ⟨a,ns,rfl,_⟩;rfl)]
 ·let⟨a,ns,rfl,u,t,k⟩:=h;erw[_,{aY (cR jk rfl T.qj ak9 #[kS (fns:=[]) (ixs:=[]) (cl:=[]) rfl (wN (Iy Qh (pv 0) jI jI (gu (fm dJ av)))) (dW [] rfl True.intro rfl) (λC s H ex=>(aV mZ av (pv 0)))])}];rwa[⟨121212,a,12,u,222,λp d=>?_⟩];let s1:ao H (upd H p (.tup (au ns).reverse)):=ao.upd d;let b:upd H p (.tup (au ns).reverse) p\(.tup (au ns.reverse)):=by rw[aj];unfold au;rw[List.map_reverse]
  change upd H p _=I at s1 b ⊢;erw[p,2,⟨_,bz.of b⟩];rwa[oO (au ns.reverse) (λv=>match v with|.int z=>.int (0 - z)|v=>v) (Bs (bz.of b)) (yF (bz.of b)) (vI (bz.of b)) ?_ (λi x r R B=>?_) (λD f=>?_)]
  ·rw[aP,ald];rwa[aju t ⋯]
  ·let⟨z,rfl,_⟩:=cC r;rwa[121122,B]
  ·let e:((au ns.reverse).map λv=>match v with|.int z=>V.int (0 - z)|v=>v)=au (ns.reverse.map λz=>0 - z):=by unfold au;rw[aj8,aj8];rfl
   rw[e];rwa[⟨D,12,.inl ⟨aI.of aj,λl m=>?_⟩⟩];rwa[k l _ _ (s1.trans ((ao.upd f).trans (ao.upd m))) aj (by rw[ajk,ald]) (λL q z g=>?_) (ale λz _=>Int.zero_sub z)];let⟨y,n,rfl⟩:=aj7.mp g;have:=q y (amI.mp n);ext
def AZ (T:Txt K mg A):T.qV.Ok P w base 1 Ru:=by
 rwa[T.qV.on AQ (λb l a s H e Q E i h=>?_) (len:=by rintro _ _ _ _ ⟨z,rfl,_⟩;rfl)]
 ·let⟨z,rfl,g,k⟩:=h
  erw[_,{bI (bh eK (aV cK (pv 0) av) av (bq _))
   {aY av}
   bu,bI (bh mE (aV cK (pv 0) av) av (bq _))
    {aY (aV cY av (aV cK (aV jH (pv 0) av) av))}
    bu,aY av}]
  rwa[da ?_];intro c d;let f:=akJ (z / 8) (show (12:Int)≠0 by decide);let j:=akE (z / 8) (show (0:Int)<12 by decide);rwa[⟨121122,(by show (0:Int)<8;decide),212,bX (λ_=>k 24 ⋯ ⋯) λ_=>?_⟩];rwa[⟨121122,(by show (0:Int)<8;decide),112212,bX (λ_=>?_) λ_=>k 12 ⋯ ⋯⟩];erw[121122,⟨44⟩,1122,(by show (0:Int)<12;decide),1122];have:=k (1+ z / 8 % 12).toNat ∅ ∅;rw[show (((1+ z / 8 % 12).toNat:Nat):Int)=1+ z / 8 % 12 by ext]at this;rwa[this]
def DV {a:Za3}(h:dq H F a){w:Zt}{c:Zb}{o:HO}(b:H w\.lst c):dq (upd H w o) F a:=h.keep λp d e=>by
 rw[ai (bN e b f!"")];rwa[e]
def mQ {e:Za3}(h:bp H a e)(c:H a\.lst L)(g:H b\.tup (au l)):bp (upd H a (.lst (L++[↑b]))) a (e++[l]):=by
 let⟨f,d,i⟩:=h;rw[c]at d;ext d;rwa[f++[b],by rw[aj,ajT];rfl,DV (i.snoc g) c]
def fT {b:Za3}(h:bp H a b):∃xs,H a\.lst xs/\⇑xs=⇑b:=by
 let⟨e,d,c⟩:=h;rwa[_,d,by rw[ajk,c.1]]
def uW (T:Txt K mg A):T.kY.Ok P w base 3 XQ:=by
 rwa[T.kY.on eG (λb8 AA outer s H vs Q E G h=>?_) (len:=by rintro _ _ _ _ ⟨a,cs,rfl,_⟩;rfl)]
 ·let⟨a,cs,rfl,ha,lL,k⟩:=h
  erw[_,{bP 1 eG.nd (cH ak),bP 2 eG.nd (cH ak),cX ajR rfl (dZ (pv 0)) (fL 3 eG.nd)
    {aT (df ajy ajB ajC bK (pv 2) #[3]),bS (bI (bh eK (aV cK (pc T.gR (gb T) G #[3,av]) av) av (bq _))
     {aT (df ajy ajB ajC bK (pv 1) #[pc T.iE (iK T) G #[2,av]]),bP 2 eG.nd (cH ak)}
     bu)},aT (df ajy ajB ajC bK (pv 1) #[pc T.iE (iK T) G #[2,av]]),aY (pv 1)}]
  rwa[qE ?_];intro oz jg fe fh;rwa[⟨ajU _,λd t=>?_⟩];let s0:ao H (upd H d (.lst [])):=ao.upd t;let h0:upd H d (.lst []) d\(.lst (([]:Zo).map V.ref)):=aj;change upd H d _=H0 at s0 h0 ⊢;rwa[⟨ajU _,λlk n=>?_⟩];let Y:ao H0 (upd H0 lk (.lst [])):=ao.upd n;let U:upd H0 lk (.lst []) lk\(.lst (au [])):=aj;let L:d≠lk:=λe=>by rw[<-e,h0]at n;ext n
  let j:H lk=none:=s0.free n;change upd H0 lk _=H1 at Y U ⊢;erw[12,a,2,⟨_,aI.of (Y^s0^ha)⟩]
  refine g6 (xs:=au cs) (λi σ m=>∃(p:Za3) (lk:Zt) (f:Zh) (v4:Zc),σ=#v[↑a,↑d,↑lk,v4]/\ao H m/\H lk=none/\d≠lk/\bp m d p/\(∀u∈p,M11.du 2 u/\⇑u<=24)/\⇑p<=i/\m lk\.lst (au f)/\⇑f<=i)
   ⟨[],lk,[],none,2,s0.trans Y,j,L,⟨[],Y^h0,2,λi r ns U=>by simp at U⟩,λr G=>by simp at G,ajp _,U,ajp _⟩ (λi σ m _ ζ=>by let⟨_,_,_,_,_,s,_⟩:=ζ;rwa[aI.of (s^ha)]) ?_ ?_
  ·rintro i y σ m hi ⟨p,lk,f,v4,rfl,s2,j,x,N,O,C,g,I⟩;let⟨z,rfl,hz⟩:=cC hi;let X1:i<⇑cs:=(aji.mp hz).1;erw[12,.inl ⟨21,aI.of g⟩,12,lk,1122,g,[aP]▸ajt (show ⇑f<=63 by omega) ⋯];let S:upd m lk (.lst (au f++[.int z])) lk\(.lst (au (f++[z]))):=by rw[aj,ints_app];rfl
   let s3:ao H (upd m lk (.lst (au f++[.int z]))):=λb o e=>by rw[ai (aw e j)];rwa[s2^e]
   let Z:bp (upd m lk (.lst (au f++[.int z]))) d p:=by let⟨ps,q1,q2⟩:=N;rwa[ps,[ai x]▸q1,DV q2 g]
   change upd m lk _=H3 at S s3 Z ⊢;let M:⇑(f++[z])=⇑f+ 1:=by rw[ajh];rfl
   change f++[z]=kw at S M;rwa[⟨15,λ_ _ h=>h⟩];rwa[⟨12,z,(3),244,λr G=>?_⟩];rwa[⟨1122,(by show (0:Int)<6;decide),212,bX (λ_=>?_) (λ_=>⟨p,lk,kw,12,s3,j,x,Z,O,3,S,3⟩)⟩];let⟨xs,D,PR⟩:=fT Z;rwa[⟨12,.inl ⟨21,aI.of D⟩,12,lk,kw,(2),2,S,344,λX u R c F B FI=>?_⟩];erw[d,1122,c^D,ajt (show ⇑xs<=63 by omega) ⋯];let w5:=mQ (Z.same c) (c^D) F;let s5:ao H (upd R d (.lst (xs++[↑X]))):=λb o e=>by rw[ai (aw e t)];rwa[c^s3^e]
   let n5:upd R d (.lst (xs++[↑X])) d\(.lst (xs++[↑X])):=aj;change upd R d _=H5 at w5 s5 n5 ⊢;rwa[⟨ajU _,λq J=>?_⟩];rwa[⟨p++[u],q,[],12,s5.trans (ao.upd J),s5.free J,(λe=>by rw[<-e,n5]at J;ext J),w5.same (ao.upd J),λv l=>?_,[ajh]▸amH C,aj,ajU _⟩];rcases ajr.mp l with l|l
   ·rwa[O v l]
   ·rw[ajn.mp l];rwa[B,3]
  ·rintro σ m ⟨p,lk,f,v4,rfl,s2,j,x,N,O,C,g,I⟩;rw[aP]at C I;let⟨xs,D,PR⟩:=fT N;rwa[⟨12,.inl ⟨21,aI.of D⟩,12,lk,f,(2),2,g,344,λX u R c F B FI=>?_⟩];erw[d,1122,c^D,ajt (show ⇑xs<=63 by omega) ⋯];rwa[⟨12,k d (p++[u]) _ (λb o e=>[ai (aw e t)]▸c^s2^e) t (mQ (N.same c) (c^D) F) (λv l=>?_) ([ajh]▸amH ∅)⟩];rcases ajr.mp l with l|l
   ·rwa[O v l]
   ·rw[ajn.mp l];rwa[B,3]
def kI (cs:Zh)(lo a:Zk):∃ds,eU (au cs) lo a=au ds/\⇑ds<=⇑cs:=⟨_,by unfold eU au;rw[<-List.map_drop,<-List.map_take],by rw[ajN,aj5];ext⟩
def K1 {f:Za3}(h:bp H a f)(o:H a\.lst L)(lo e:Zk):∃l g,eU L lo e=l.map V.ref/\dq H l g/\(∀u∈g,u∈f)/\⇑g<=⇑f:=by
 let⟨n,k,j⟩:=h;rw[o]at k;ext k;let m:=j.1;unfold eU;change HT.b0 _ 0 lo=d;change HT.b0 _ _ e - d=t;rwa[⟨(n.drop d).take t,(f.drop d).take t,by rw[List.map_take,List.map_drop],⟨by rw[ajN,ajN,aj5,aj5,m],λi p w c b=>?_⟩,λu q=>List.mem_of_mem_drop (List.mem_of_mem_take q),by rw[ajN,aj5];ext⟩];rw[List.getElem?_take]at c b;split at c
 ·rename_i e;rw[ajD e,alS]at b;rw[alS]at c;rwa[j.2 _ p w c b]
 ·ext c
def rD (n:Nat)(w:Zh):(List.replicate ((n:Int)).toNat (au w)).flatten=au (List.replicate n w).flatten:=by
 unfold au;rw[akg,List.map_flatten,List.map_replicate]
def yw {w:Zh}(a:M11.du 2 w)(b:n* ⇑w<=m):M11.du 2 (List.replicate n w).flatten/\(List.replicate n w).flatten.length<=m:=by
 rwa[⟨λs d=>?_,by simpa using b⟩];let⟨u,c,h⟩:=List.mem_flatten.mp d;rw[List.eq_of_mem_replicate c]at h;rwa[a s h]
def A0 (T:Txt K mg A):T.qT.Ok P w base 4 (F8 K):=by
 rwa[T.qT.on fG (λb8 AA outer s H vs Q E Z h=>?_)]
 ·let⟨z,a,cs,rfl,hz,ha,lL,k⟩:=h
  erw[_,{bP 2 fG.nd (aV cY av (aV cK (aV jH (pv 0) av) av)),bP 3 fG.nd (aV cY av (aV cK (aV jH (pv 0) av) av)),bP 4 fG.nd (aV cY av (aV cK (aV jH (pv 0) av) av)),bP 5 fG.nd (cH #[aV uj (dM #[av]) (pv 2),aV uj (dM #[av]) (pv 3)]),bS (bI (bh eK (aV cK (pv 0) av) av (bq _))
    {aT (df ajy ajB ajC bK (pv 5) #[aV uj (dM #[av,av]) (pv 4)])}
    bu),bS (bI (bh eK (aV cK (pv 0) av) av (bq _))
    {aT (df ajy ajB ajC bK (pv 5) #[dM #[av,av,fm dJ av,fm dJ av]])}
    bu),bS (bI (bh eK (aV cK (pv 0) av) av (bq _))
    {aT (df ajy ajB ajC bK (pv 5) #[aV qB (dM #[fm dJ av,av,av]) (aV uj (dM #[fm dJ av]) (aV cK (pv 4) (pv 2)))])}
    bu),bI (bh eK (aV cK (pv 0) av) av (bq _))
    {aY (aV pX (iz mV (pv 5) jI (gu (aV cK (aV jH (pv 0) av) av))) (pc T.kY (uW T) Z #[1]))}
    bu,bP 6 fG.nd (pc T.iE (iK T) Z #[iz mV (pv 1) jI (gu av),av]),aY (aV pX (pv 5) (cH #[aV qB (aV qB (pv 6) (5|||av)) (pc T.tG (DU T) Z #[6])]))}]
  rwa[L6 ?_];intro u_9 Yp OS FE rX oz jg fe fh;obtain⟨t,e1,hn1,ahZ⟩:∃n:Nat,1+ z / 4 % 6=(n:Int)/\1<=n/\n<=6:=⟨(1+ z / 4 % 6).toNat,333⟩;obtain⟨N,e2,YV,ah0⟩:∃n:Nat,1+ z / 24 % 6=(n:Int)/\1<=n/\n<=6:=⟨(1+ z / 24 % 6).toNat,333⟩;obtain⟨J,e3,hn3,ah1⟩:∃n:Nat,1+ z / 144 % 9=(n:Int)/\1<=n/\n<=9:=⟨(1+ z / 144 % 9).toNat,333⟩;erw[121122,⟨44⟩,1122,(by show (0:Int)<6;decide),1122];rw[e1];erw[121122,⟨44⟩,1122,(by show (0:Int)<6;decide),1122];rw[e2];erw[121122,⟨44⟩,1122,(by show (0:Int)<9;decide),1122];rw[e3];rwa[⟨Za4 1,λp1 np1=>⟨12,p1,1122,aj,335,λq1 H1 s1 U=>?_⟩⟩]
  ·rwa[aju (show 1* ((t:Int)).toNat<=100 by omega) ⋯]
  replace s1:=(ao.upd np1).trans s1;rw[show [V.int 1]=au [1] from rfl,rD]at U;rwa[⟨Za4 1,λp2 rY=>⟨12,p2,1122,aj,335,λq2 H2 Y O=>?_⟩⟩]
  ·rwa[aju (show 1* ((N:Int)).toNat<=100 by omega) ⋯]
  replace Y:=(ao.upd rY).trans Y;rw[show [V.int 2]=au [2] from rfl,rD]at O;rwa[⟨Za4 2,λl nl=>?_⟩];let Yx:H l=none:=(s1.trans Y).free nl;let f:ao H (upd H2 l (.lst [↑q1,↑q2])):=(s1.trans Y).trans (ao.upd nl)
  let wl:bp (upd H2 l (.lst [↑q1,↑q2])) l [(List.replicate t [1]).flatten,(List.replicate N [2]).flatten]:=by
   let st:dq (upd H2 l (.lst [↑q1,↑q2])) ([]++[q1]) ([]++[(List.replicate t [(1:Int)]).flatten]):=dq.snoc ⟨2,λi p w h=>by simp at h⟩ ((ao.upd nl) _ _ (Y^U));rwa[[q1,q2],aj,st.snoc ((ao.upd nl) _ _ O)]
  let d:∀u∈[(List.replicate t [(1:Int)]).flatten,(List.replicate N [2]).flatten],M11.du 2 u/\⇑u<=24:=λu r=>by
   rcases ajE.mp r with rfl|r
   ·rwa[yw (λs j=>by rw[ajn.mp j];decide) (by simp;omega)]
   ·rw[ajn.mp r];rwa[yw (λs j=>by rw[ajn.mp j];decide) (by simp;omega)]
  generalize hg:[(List.replicate t [(1:Int)]).flatten,(List.replicate N [2]).flatten]=c at wl d;let R:⇑c=2:=by rw[<-hg];rfl
  clear hg;change upd H2 l _=H3 at f wl ⊢;clear U O s1 Y nl np1 rY
  let add:∀{H3 I:Hp} {c:Za3} {q:Zt} {u:Zh} {G:Hp->Prop} {m:Nat},ao H H3->bp H3 l c->(∀u∈c,M11.du 2 u/\⇑u<=24)->⇑c=2->ao H3 I->I q\.tup (au u)->M11.du 2 u/\⇑u<=24->(∀y F,ao H y->bp y l F->(∀u∈F,M11.du 2 u/\⇑u<=24)->⇑F=3->G y)->yD ↑l [↑q] I λ_ y=>G y:=λ{H3 I c q u G m} s3 w3 d h2 X hq r kk=>by
   let⟨xs,B,PR⟩:=fT w3;rwa[⟨l,xs,122,X^B,ajt (show ⇑xs<=2 by omega) ⋯,kk _ (c++[u]) (λb o e=>[ai (aw e Yx)]▸X^s3^e) (mQ (w3.same X) (X^B) hq) (λv D=>?_) (by rw[ajh,h2];rfl)⟩];rcases ajr.mp D with D|D
   ·rwa[d v D]
   ·rw[ajn.mp D];rwa[r]
  let m0:=akJ z (show (4:Int)≠0 by decide);let m4:=akE z (show (0:Int)<4 by decide);erw[λ g L=>∃c,g=#v[.int z,↑a,.int t,.int N,.int J,↑l,none]/\ao H L/\bp L l c/\(∀u∈c,M11.du 2 u/\⇑u<=24)/\⇑c=if z % 4<=0 then 3 else 2,5]
  ·rwa[⟨121122,(by show (0:Int)<4;decide),212,bX (λh=>?_) (λh=>⟨c,2,f,wl,d,[ajw (λq=>h (ajF (by rw[show z % 4=0 by ext])))]▸R⟩)⟩];let h:z % 4=0:=V.int.inj (ajM h);let⟨xs,B,_⟩:=fT wl;rwa[⟨12,.inl ⟨21,aI.of B⟩,Za4 2,λp3 C=>⟨12,p3,1122,aj,335,λq3 I X KW=>?_⟩⟩]
   ·rwa[aju (show 2* ((J:Int)).toNat<=100 by omega) ⋯]
   rw[show [V.int 1,V.int 2]=au [1,2] from rfl,rD]at KW;rwa[add (m:=0) f wl d R ((ao.upd C).trans X) KW (yw (λs j=>by simp at j;rcases j with rfl|rfl <;> decide) (by simp;omega)) λy F a1 a2 a3 a4=>⟨F,2,a1,a2,a3,[ajD ∅]▸a4⟩]
  clear f wl d R;rintro g I ⟨c,rfl,f,wl,d,x⟩;erw[λ g L=>∃c,g=#v[.int z,↑a,.int t,.int N,.int J,↑l,none]/\ao H L/\bp L l c/\(∀u∈c,M11.du 2 u/\⇑u<=24)/\⇑c=if z % 4<=1 then 3 else 2,5]
  ·refine⟨121122,(by show (0:Int)<4;decide),212,bX (λh=>?_) (λh=>⟨c,2,f,wl,d,by
    let h:z % 4≠1:=λq=>h (ajF (by rw[q]))
    rw[x];split <;> split <;> ext⟩)⟩
   let h:z % 4=1:=V.int.inj (ajM h);rw[ajw ∅]at x;let⟨xs,B,_⟩:=fT wl;rwa[⟨12,.inl ⟨21,aI.of B⟩,1212,Za4 4,λp3 C=>?_⟩];rwa[add (m:=0) (u:=[1,2,-1,-2]) f wl d x (ao.upd C) aj ⟨λs j=>by simp at j;rcases j with rfl|rfl|rfl|rfl <;> decide,4⟩ λy F a1 a2 a3 a4=>⟨F,2,a1,a2,a3,[ajD ∅]▸a4⟩]
  clear f wl d x;rintro g I ⟨c,rfl,f,wl,d,x⟩;erw[λ g L=>∃c,g=#v[.int z,↑a,.int t,.int N,.int J,↑l,none]/\ao H L/\bp L l c/\(∀u∈c,M11.du 2 u/\⇑u<=24)/\⇑c=if z % 4<=2 then 3 else 2,5]
  ·refine⟨121122,(by show (0:Int)<4;decide),212,bX (λh=>?_) (λh=>⟨c,2,f,wl,d,by
    let h:z % 4≠2:=λq=>h (ajF (by rw[q]))
    rw[x];split <;> split <;> ext⟩)⟩
   let h:z % 4=2:=V.int.inj (ajM h);rw[ajw ∅]at x;let⟨xs,B,_⟩:=fT wl;let b1:=akJ (J:Int) (show (t:Int)≠0 by omega);let b2:=akE (J:Int) (show (0:Int)<(t:Int) by omega);obtain⟨n4,e4,h4⟩:∃n:Nat,(J:Int) % (t:Int)=(n:Int)/\n<=6:=⟨((J:Int) % (t:Int)).toNat,33⟩;rwa[⟨12,.inl ⟨21,aI.of B⟩,12,Za4 3,λp3 C=>⟨12,Za4 1,λp4 np4=>⟨12121122,(by show (0:Int)<(t:Int);omega),5⟩⟩⟩];rw[e4];rwa[⟨p4,1122,aj,33,aju (show 1* ((n4:Int)).toNat<=100 by omega) ⋯,λq4 y s5 hq4=>?_⟩];replace s5:=(ao.upd np4).trans s5;rw[show [V.int (-1)]=au [-1] from rfl,rD]at hq4;let Z:=yw (n:=n4) (m:=6) (w:=[-1]) (λs j=>by rw[ajn.mp j];decide) (by simp;omega);rwa[⟨p3,q4,1122,s5^aj,hq4,aju (show 3+ ⇑(au _)<=100 by rw[aP];omega) ⋯,λq5 H6 s6 hq5=>?_⟩];rwa[add (m:=0) (u:=[-2,1,2]++(List.replicate n4 [-1]).flatten) f wl d x ((ao.upd C).trans (s5.trans s6)) ([ints_app]▸hq5) ⟨t8 (λs j=>by simp at j;rcases j with rfl|rfl|rfl <;> decide) Z.1,[ajh]▸aju (Nat.add_le_add_left Z.2 3) ⋯⟩ λy F a1 a2 a3 a4=>⟨F,2,a1,a2,a3,[ajD ∅]▸a4⟩]
  clear f wl d x add;rintro g I ⟨c,rfl,f,wl,d,x⟩;let⟨xs,B,PR⟩:=fT wl;let PV:⇑c<=3:=by rw[x];split <;> ext
  rwa[⟨121122,(by show (0:Int)<4;decide),212,bX (λh=>?_) (λh=>?_)⟩]
  ·let h:z % 4=3:=V.int.inj (ajM h);rw[ajw ∅]at x;rwa[⟨12121122,⟨44⟩,1122,(by show (0:Int)<3;decide),12,l,12,aI.of B,λp np=>?_⟩];let⟨qs,F,e,ht,hV,hVl⟩:=K1 wl B none (some (z / 1296 % 3));rw[e];rwa[⟨12,a,cs,2,(ao.upd np) _ _ (f^ha),lL,λl2 Us y s5 _ w5 hU hUl=>?_⟩];let⟨qs2,hl5,ht5⟩:=w5;let Pg:=ht.1;let ah2:=ht5.1;rwa[⟨p,l2,1122,s5^aj,hl5,5,λq nq=>?_⟩]
   ·rw[ajk,ajk];rwa[aju (show ⇑qs+ ⇑qs2<=100 by omega) ⋯]
   rwa[k q (F++Us) _ (f.trans ((ao.upd np).trans (s5.trans (ao.upd nq)))) ⟨qs++qs2,by rw[aj,ajT],(DR (ht.same ((ao.upd np).trans s5)) ht5).same (ao.upd nq)⟩ (λu r=>?_) (by rw[ajh];omega)];rcases ajr.mp r with r|r
   ·have:=d u (hV u r);rwa[this.1,3]
   ·have:=hU u r;rwa[this.1,3]
  ·let h:z % 4≠3:=λq=>h (ajF (by rw[q]))
   rw[ajD ∅]at x;rwa[⟨1212,a,12,aI.of (f^ha),λp np=>?_⟩];let⟨ds,e,hds⟩:=kI cs none (some 6);rw[e];rwa[⟨p,ds,(2),2,aj,344,λq6 u y s5 hq6 r FI=>?_⟩];replace s5:=(ao.upd np).trans s5;let⟨ps,h1,h2⟩:=wl.same s5;let sO:=h2.1;let S:ps[2]?\(ps[2]'∅):=ajg ∅
   let hw2:c[2]?\(c[2]'∅):=ajg ∅
   let t2:=h2.2 2 _ _ S hw2;let⟨zO,ln2⟩:=d _ (ajj hw2);change ps[2]'∅=p2 at S t2;change c[2]'∅=w2 at t2 zO ln2;rwa[⟨121212,l,11122,aI.of h1,(show iZ _ ((2:Nat):Int)=_ from fP S),q6,p2,1122,hq6,t2,aju (show ⇑(au u)+ ⇑(au w2)<=100 by rw[aP,aP];omega) ⋯,λq7 H7 s7 hq7=>?_⟩];rw[<-ints_app]at hq7;rwa[⟨12,q6,u,2,s7^hq6,3,λlb ms H8 s8 hb X2 hms _=>?_⟩];rwa[⟨q7,lb,1122,s8^hq7,hb,aju (show ⇑(au (u++w2))+ ⇑(au ms)<=100 by rw[aP,aP,ajh];omega) ⋯,λq9 H9 s9 hq9=>?_⟩];rw[<-ints_app]at hq9;rwa[⟨Za4 1,λll nll=>?_⟩];let M:=s7.trans (s8.trans (s9.trans (ao.upd (o:=.lst [↑q9]) nll)));rwa[⟨l,ll,1122,M^h1,aj,5,λq nq=>?_⟩]
   ·rw[ajk];rwa[aju (show ⇑ps+ 1<=100 by omega) ⋯]
   rwa[k q (c++[u++w2++ms]) _ (f.trans (s5.trans (M.trans (ao.upd nq)))) ⟨ps++[q9],by rw[aj,ajT];rfl,((h2.same M).snoc ((ao.upd nll) _ _ hq9)).same (ao.upd nq)⟩ (λv D=>?_) (by rw[ajh,akb];omega)];rcases ajr.mp D with D|D
   ·have:=d v D;rwa[this.1,3]
   ·rw[ajn.mp D];rwa[t8 (t8 r zO) (hms 2 r),by rw[ajh,ajh];ext]
def aI.Be {K:Za1}(h:aI K H a L)(s:ao H I):aI K I a L:=by
 rcases h with (h|⟨o,h⟩)|h
 ·rwa[.inl (.inl (s^h))]
 ·rwa[.inl (.inr ⟨o,s^h⟩)]
 ·rwa[.inr h]
def A1 (T:Txt K mg A):T.qU.Ok P w base 5 (Rt K):=by
 rwa[T.qU.on mw (λb8 AA C s H vs Q E r h=>?_) (len:=by rintro _ _ _ _ ⟨a,n,rfl,_⟩;rfl)]
 ·let⟨a,n,rfl,G,hn,k⟩:=h
  refine⟨_,{bP 1 mw.nd (pc T.gR (gb T) r #[pc T.mW (mP T) r #[0,av],av]),bP 2 mw.nd (pc T.qT (A0 T) r #[1,iz mV (pv 0) (gu av) (gu av)]),bI (bh eK (aV cK (aV jH (pv 1) av) av) av (bq _))
    {aY (dM #[av,aV pX (pv 2) (cH #[aV qB (dM #[av]) (pc T.iE (iK T) r #[iz mV (pv 0) (gu av) (gu av),av])])])}
    bu,aY (dM #[av,2])},?_⟩
  rwa[iC ?_];intro jg fe fh;rwa[⟨12,a,n,(0),2,G,4,λy=>⟨y,(4),244,λz hz=>?_⟩⟩];rwa[⟨12121212,a,12,G,λp np=>?_⟩];let⟨ds,e,hds⟩:=kI n (some 4) (some 28);rw[e];let i:⇑ds<=24:=by rw[<-aP,<-e];unfold eU;rw[ajN,aj5];unfold HT.b0;simp;ext
  let s1:ao H (upd H p (.lst (au ds))):=ao.upd np;let O:upd H p (.lst (au ds)) p\(.lst (au ds)):=aj;change upd H p _=H1 at s1 O ⊢;rwa[⟨z,p,ds,2,hz,O,i,λl S H2 s2 I t PV=>?_⟩];rwa[⟨121122,⟨44⟩,1122,(by show (0:Int)<4;decide),212,bX (λ_=>?_) (λ_=>?_)⟩]
  ·let⟨xs,R,Y⟩:=fT I;rwa[⟨12,Za4 1,λV j=>⟨121212,a,12,aI.Be G (s1.trans (s2.trans (ao.upd j))),λX m=>?_⟩⟩];let⟨L,e2,U⟩:=kI n (some 4) (some 10);rw[e2];rwa[⟨X,L,(2),2,aj,344,λq5 u H5 s5 F hu FI=>?_⟩];rwa[⟨V,q5,1122,s5^((ao.upd m) _ _ aj),F,aju (show 1+ ⇑(au u)<=100 by rw[aP];omega) ⋯,λx H6 Z J=>?_⟩];let B:=(ao.upd (o:=.tup [.int 3]) j).trans ((ao.upd (o:=.lst (au L)) m).trans (s5.trans Z));rwa[⟨Za4 1,λll g=>?_⟩];let c:=B.trans (ao.upd (o:=.lst [↑x]) g);rwa[⟨l,ll,1122,c^R,aj,aju (show ⇑xs+ 1<=100 by omega) ⋯,λq nq=>?_⟩];rwa[⟨Za4 2,λD b=>?_⟩];let M:=(ao.upd (o:=.lst (xs++[↑x])) nq).trans (ao.upd (o:=.tup [.int 3,↑q]) b);let⟨ps,N,h2⟩:=I;rw[R]at N;ext N;rwa[k D q 3 (S++[3::u]) _ (s1.trans (s2.trans (c.trans M))) aj ⟨ps++[x],(ao.upd b) _ _ (by rw[aj,ajT];rfl),((h2.same c).snoc ((ao.upd g) _ _ J)).same M⟩ ⋯ ⋯ (λv f=>?_) (by rw[ajh,akb];omega)];let up:∀{u:Zh},M11.du 2 u->M11.du 3 u:=λh s d=>⟨(h s d).1,aju (h s d).2 ⋯⟩
   rcases ajr.mp f with f|f
   ·rwa[⟨up (t v f).1,(t v f).2⟩]
   ·rw[ajn.mp f];rwa[⟨λs d=>?_,by rw[ajO];ext⟩];rcases ajE.mp d with rfl|d
    ·decide
    ·rwa[up hu s d]
  ·rwa[⟨_,rfl,Za4 2,λD b=>?_⟩];rwa[k D l 2 S _ (s1.trans (s2.trans (ao.upd b))) aj (I.same (ao.upd b)) ⋯ ⋯ t ∅]
theorem DW (T:Txt K mg A):T.tH.Ok P w base 3 (K0 K):=by
 rwa[T.tH.on gI (λb8 AA N s H vs Q E m h=>?_)]
 ·let⟨a,Z,L,rfl,hS,O,hL3,k⟩:=h
  erw[_,{bP 2 gI.nd (pc T.gR (gb T) m #[pc T.mW (mP T) m #[0,av],av]),bP 3 gI.nd (cH ak),cX ajR rfl (lE rfl T.mX #[aV cK (pv 2) av]) (fL 4 gI.nd)
    {bP 5 gI.nd (pc T.gR (gb T) m #[pc T.mW (mP T) m #[0,av],aV cY av (pv 4)]),vk (iy:=6) gI.nd rfl (Or.inl rfl) (fns:=["_law_some"]) (ixs:=[5]) (cl:=_) rfl (lE rfl T.mX #[aV cK (pv 5) av]) (dW [(_,_)] rfl ⟨22222,True.intro⟩ rfl) (λC s H ex=>(pc T.gR (gb T) m #[1,0])),aT (df ajy ajB ajC bK (pv 3) #[pc T.iE (iK T) m #[6,1]])},aY (pv 3)}]
  rwa[iC ?_];intro jg fe fh;rwa[⟨12,a,Z,(2),2,hS,4,λy=>⟨y,(6),244,λz hz=>?_⟩⟩];rwa[⟨ajU _,λc B=>?_⟩];let s0:ao H (upd H c (.lst [])):=ao.upd B;let h0:bp (upd H c (.lst [])) c []:=⟨[],aj,2,λi p w h=>by simp at h⟩;change upd H c _=H0 at s0 h0 ⊢;let m0:=akJ z (show (4:Int)≠0 by decide);let m4:=akE z (show (0:Int)<4 by decide);erw[121122,(by show (0:Int)<4;decide),z % 4,233];rwa[oN (lo:=0) (n:=(z % 4).toNat) (λi U f=>∃(g:Za3) (S Y I:Zc),U=#v[↑a,.int L,.int z,↑c,S,Y,I]/\ao H f/\bp f c g/\(∀u∈g,M11.du L u/\⇑u<=100)/\⇑g<=i) ⟨[],none,none,none,2,s0,h0,λu hu=>(by ext hu),ajp _⟩ ?_ ?_]
  ·rintro i U f hi ⟨g,S,Y,I,rfl,G,F,M,q⟩;rwa[⟨12,a,Z,(2),2,aI.Be hS G,4,λy=>⟨121122,y,1233,λx hx=>?_⟩⟩];let x0:=akJ x (show (5:Int)≠0 by decide);let x5:=akE x (show (0:Int)<5 by decide);erw[121122,(by show (0:Int)<5;decide),x % 5,233];rwa[NB ∅ (λj R hj hR=>⟨1212,x,1233,λr _=>hR r⟩) λD cs nD lL=>?_]
   let⟨xs,d,PR⟩:=fT F;let s3:ao f (upd f D (.lst (au cs))):=ao.upd nD;rwa[⟨12,.inl ⟨21,aI.of (s3^d)⟩,1212,D,cs,L,2,aj,3,O,3,λqw u H4 l X J FI=>?_⟩];replace l:=s3.trans l;erw[c,1122,l^d,ajt (show ⇑xs<=63 by omega) ⋯];rwa[⟨g++[u],1112,λb o e=>[ai (aw e B)]▸l^G^e,mQ (F.same l) (l^d) X,λv t=>?_,[ajh]▸amH q⟩];rcases ajr.mp t with t|t
   ·rwa[M v t]
   ·rw[ajn.mp t];rwa[J,3]
  ·rintro U f ⟨g,S,Y,I,rfl,G,F,M,q⟩;rwa[12,k c g f G F M ∅]
def pG.same (h:pG H a S)(s:ao H I):pG I a S:=by
 let⟨b,f,c,g⟩:=h;rwa[b,s^f,c.imp (λp d _ _ e=>e.same s),g]
def K2 (h:z∈bF (2* n)): -z∈bF (2* n):=by
 let⟨b,a⟩:=iU.mp h;rwa[iU.mpr ⟨33⟩]
def Fl.mL {rs d:Za3}(h:Fl rs d n m i S)(b:∀u∈rs++d,∀z∈u,z∈bF (2* n)/\-z∈bF (2* n))(q:1<=i):S.q<=i/\S.L=n:=by
 rwa[⟨5,by let⟨R,y⟩:=h.ys b;rwa[y.l]⟩]
 cases h with
 |start t _=>
  let⟨_,_,a,_⟩:=YS.new.tr t b;let a:S.q=1:=a;ext
 | @next g _ c z f p l t _=>
   let⟨R,y⟩:=f.ys b;let⟨o,j,e,k⟩:=l.1;let⟨_,_,a,_⟩:=(y.make o (tZ j) k e (K2 e)).tr t b;let a:S.q=g.q+ 1:=a;ext
def Rx (a:Zb)(j:Nat):eU a none (some (j:Int))=a.take j:=by
 unfold eU;rw[HT.uh];show (List.drop 0 a).take (min j _ - 0)=_;rw[List.drop_zero,Nat.sub_zero];cases b:j<=⇑a
 ·rw[akI b]
 ·rw[alJ ∅,aky,alg ∅]
def K3 (a:Zb)(j:Nat)(h:j<=⇑a):eU a (some (j:Int)) none=a.drop j:=by
 unfold eU;rw[HT.uh,akI h];show (a.drop j).take (⇑a - j)=_;rw[alg ([aj5]▸ajp _)]
def atB:Dt->Bool
 |.i _=>true
 |.s _=>true
 |_=>false
def dV:Dt->V
 |.i n=>.int n
 |.s l=>.str (tx l)
 |_=>.non
def K4 {ds:Zg}(h:bG H 4 ↑a (.t ds))(g:ds.all atB=true):H a\(.tup (ds.map dV)):=by
 cases h with
 | @t _ _ c _ k j l=>
   rw[k]
   congr 2
   rwa[alb λi=>?_]
   rw[ajq]
   cases e:ds[i]? with
   |none=>
    rw[al9]at e;rw[ajS ∅];rfl
   |some d=>
    let f:i<⇑c:=by rw[j];rwa[(aji.mp e).1]
    let b:=amG.mp g d (ajj e);let q:=l i _ d (ajg f) e;rw[ajg f];change c[i]=v at q
    cases q with
    |i=>rfl
    |s=>rfl
    |_=>ext b
def PX (h:bG H 4 ↑a (fF n z m i)):H a\(.tup [.str (tx [109,101,101,116]),.int n,.int z,.int m,.int i]):=K4 h rfl
def Wd (h:bG H 4 ↑a (j7 n z m)):H a\(.tup [.str (tx [110,101,119]),.int n,.int z,.int m]):=K4 h rfl
def Kp.words {pos:Pos}(k:Kp a H I)(t:dF a pos x H){l:Zt}{ws:Za3}(h:bp H l ws):bp I l ws:=by
 let⟨b,c,d⟩:=h;rwa[b,k.at t c s!"",d.keep λp f e=>k.at t e s!""]
def HD {rs:Zo}(h:(rs.map V.ref)[i]?\q):∃r,rs[i]?\r/\q=↑r:=by
 rw[ajq]at h
 cases e:rs[i]? with
 |none=>rw[e]at h;ext h
 |some r=>rw[e]at h;rwa[r,2,(Za0 h).symm]
inductive K5 (ws:Za3) (nr L:Nat):Zi->(Za2)->Dt->Zi->(Za2)->Prop
 |old {E E1:Zi} {W W1:Za2} {row:Dt}:One ws nr E W row E1 W1->K5 ws nr L E W row E1 W1
 |new {E:Zi} {W:Za2} {c:Nat} {z:Int}:E[c]?\c->z≠0->z.natAbs<=L->(∀b,¬W c z b)->K5 ws nr L E W (j7 c z ⇑E) (E++[⇑E]) (eD W c z ⇑E)
def PY (h:bG H 4 ↑a (hH n B m)):∃q,H a\.tup [.str (tx [114,117,108,101]),.int n,↑q,.int m]/\H q\(.tup (au (nI B))):=by
 cases h with
 | @t _ _ o _ r g b=>
   let⟨C,s,y,k,rfl⟩:=args_is4 (show ⇑o=4 from g);let f:=b 0 C _ rfl rfl;let p:=b 1 s _ rfl rfl;let D:=b 2 y _ rfl rfl;let u:=b 3 k _ rfl rfl;ext f;ext p;ext u
   cases D with
   | @t _ j us _ v l E=>
     erw[j,r];rw[v]
     congr 2
     rwa[alb λi=>?_]
     unfold au nI;rw[ajq,ajq];rw[ajk]at l
     cases d:B[i]? with
     |none=>rw[ajS (by have:=al9.mp d;omega)];rfl
     |some c=>
      let z:i<⇑us:=by have:=(aji.mp d).1;ext
      let e:=ajg z;have:=E i _ _ e (by rw[ajq,d];rfl);rw[e];change us[i]=x at this;ext this;rfl
inductive r9 (ws:Za3) (nr L:Nat):Zi->(Za2)->Zg->Zi->(Za2)->Prop
 |nil {E:Zi} {W W':Za2}:(∀a z b,W a z b↔W' a z b)->r9 ws nr L E W [] E W'
 |cons {E E1 E2:Zi} {W0 W W1 W2:Za2} {row:Dt} {ms:Zg}:(∀a z b,W0 a z b↔W a z b)->K5 ws nr L E W row E1 W1->r9 ws nr L E1 W1 ms E2 W2->r9 ws nr L E W0 (row::ms) E2 W2
def goN {d:Za3}{p j:Zi}{W l:Za2}{f i:Zg}(h:Go d n B W f p R):∀{g:Za2},(∀a z b,g a z b↔W a z b)->(∀q,(∀a z b,q a z b↔R a z b)->r9 d n m p q i j l)->r9 d n m B g (f++i) j l:=by
 induction h with
 |nil e=>exact λc k=>k _ λa z b=>(c a z b).trans (e a z b)
 |cons o _ r=>exact λc k=>.cons c (.old o) (r (λ_ _ _=>Iff.rfl) k)
def Wg (g:Good S [] R){c:Nat}{z:Int}{f:Zh}(h:c<S.q)(j:S.by c z=none){W:Za2}(d:∀a z b,W a z b↔S.by a z=some b)(a:Nat)(y:Int)(b:Nat):eD W c z S.q a y b↔(S.make c z f).by a y=some b:=by
 rw[Cu g.wf h];unfold eD;rw[d];let i:S.by a y=some b->a<S.q:=λe=>(g.st _ _ _ e).1
 cbv
def Fl.pap {rs j:Za3}{w:Nat}(h:Fl rs j n w m S)(o:∀u∈rs++j,∀z∈u,z∈bF (2* n)/\-z∈bF (2* n)):∀{E2:Zi} {W2:Za2} {ns:Zg},(∀d,(∀a z b,d a z b↔S.by a z=some b)->r9 (rs++j) ⇑rs n S.aX d ns E2 W2)->r9 (rs++j) ⇑rs n [0] (λ_ _ _=>False) (S.rows++ns) E2 W2:=by
 induction h with
 |start t _=>
  intro E2 W2 ns k;let y:=YS.new (L:=n) (ks:=bF (2* n));let⟨F,g,_,_,v,e,go⟩:=A7 t o y.g y.w y.k;rw[e];rwa[goN go (λa z b=>⟨False.elim,λζ=>?_⟩) λd f=>k d λa z b=>(f a z b).trans g.nj.symm];let⟨_,_,r,_⟩:=ζ;rwa[r]
 | @next S I c z hf x C t _ D=>
   intro E2 W2 ns k;let⟨R,y⟩:=hf.ys o;let⟨s,q,p,l⟩:=C.1;let⟨E,G⟩:=iU.mp p;let i:=y.make s (tZ q) l p (K2 p);let⟨F,g,_,_,v,e,go⟩:=A7 t o i.g i.w i.k;rw[e,show (S.make c z (bF (2* n))).rows=S.rows++[j7 c z S.q] from rfl,ajZ,ajZ];rwa[D λd f=>?_]
   let el:⇑S.aX=S.q:=y.g.wf.e;rw[<-el];rwa[.cons (λ_ _ _=>Iff.rfl) (.new q E G λb B=>by rw[(f^_).mp B]at l;ext l) ?_];rw[el];rwa[goN go (λa z b=>(Wg y.g s l f a z b).trans i.g.nj) λd f=>k d λa z b=>(f a z b).trans g.nj.symm]
def Wh {a:Za3}{E:Zi}{W:Za2}{row:Dt}(h:K5 a n m E W row B R):⇑E<=⇑B:=by
 rcases h with h|_
 ·cases h <;> simp
 ·simp
def r9.len {ws:Za3}{E:Zi}{W:Za2}{a:Zg}(h:r9 ws n m E W a B R):⇑E<=⇑B:=by
 induction h with
 |nil=>exact ajp _
 |cons _ o _ b=>exact aju (Wh o) b
inductive DX (Pt cT:Zt) (vs:Zb) (H:Hp) (Q:VK) (E_:XK):Prop
 |mk (ru pa:Zt) (L lim w:Nat) (ot:Zi) (rs ps:Za3):vs=[.int L,↑ru,↑pa,.int lim,.str (tx ot)]->(ot=pF w\/ot=[]/\w=0)->w<3->1<=L->L<=40->1<=lim->lim<=300->bp H ru rs->bp H pa ps->(∀u∈rs++ps,Pz L u)->lim* ⇑rs+ ⇑ps<=700->⇑rs<=400->⇑ps<=400->dF Pt fi jD H->(∀pp S H',Kp Pt H H'->Fl rs ps L w lim S->pG H' pp S->Q ↑pp H')->DX Pt cT vs H Q E_
def A2 (T:Txt K mg A)(v:kQ mg base):T.qW.Ok P w base 12 (DX A.eQ A.bE):=by
 rwa[T.qW.on eF (λb8 AA outer s H vs Q E hr h=>?_)]
 ·let⟨ru,pa,L,b,p,ot,rs,Z,rfl,D,B,F,X,U,C,O,R,M,r,I,y,hT,k⟩:=h;let⟨tkd,hbd⟩:=T.fill.bd
  erw[_,{bP 5 eF.nd dk,bP 6 eF.nd dk,bS (QV rfl rfl (Uj (bh eK (pv 4) (dP (l:=[]) rfl) (bq _)) (Fv (i:=5) eF.nd rfl (Or.inl rfl) (Ct (dvs:=[V.str (tx [114,111,111,109,115])]) (FX T v) hr.Za5 rfl T.fill.m T.fill.kp hbd (.cons ⟨12⟩ .nil) #[0,1,2,3])) (Fv (i:=5) eF.nd rfl (Or.inl rfl) (Ct (FX T v) hr.Za5 rfl T.fill.m T.fill.kp T.fill.b .nil #[0,1,2,3,4])))
    (Uk (i:=7) eF.nd rfl rfl rfl T.zX (λ_=>{bP 6 eF.nd (pv 7)})
    Ul (by decide))),bI (bh mU (pv 6) dk (bq _))
    {aY (QT (pv 6) rfl)}
    bu,aY (5&&&av)}]
  rwa[qE ?_];intro oz jg fe fh;erw[λ J f=>Kp A.eQ H f/\dF A.eQ fi jD f/\∃Y vr,J=#v[.int L,↑ru,↑pa,.int b,.str (tx ot),some Y,some vr,none]/\((∃t u a S N,Y=↑t/\vr=.non/\Fl rs Z L p b S/\(∀c z,¬iV S L c z)/\f t\.tup [↑u,↑a]/\TabAt f u (M24.Cy (cz S) (2* S.L) (M24.bZ (cz S) (2* S.L) 0 N))/\⇑(M24.bZ (cz S) (2* S.L) 0 N)=N/\pG f a S)\/∃x d a S,Y=.non/\vr=↑x/\Fl rs Z L p b S/\S.q=b/\(∃c z,mM p S L c z)/\f x\XO x A.bE (some d) false/\f d\XD d (KG S.q a)/\pG f a S),5]
  ·erw[12212];rwa[bX (λh=>?_) (λh=>?_)]
   ·let e:ot=[]:=jW.mp (ajM h)
    let ew:p=0:=by
     rcases D with q|q
     ·rw[e]at q;rcases (show p=0\/p=1\/p=2 by omega) with rfl|rfl|rfl
      ·rfl
      ·rwa[absurd q (by decide)]
      ·rwa[absurd q (by decide)]
     ·rwa[q.2]
    subst ew;rwa[⟨12121212,ru,pa,L,b,(0),rs,Z,2,B,F,X,U,C,O,R,M,r,I,y,hT,λt u a S N f m t1 g g1 j a2 a3 G=>?_,λd a S f m t1 g m1 l1 j a2=>?_⟩]
    ·rwa[m,t1,↑t,.non,2,.inl ⟨t,u,a,S,N,22,g,g1,j,a2,a3,G⟩]
    ·rwa[⟨12,true,T.Yj,dX λx nx=>⟨125⟩⟩];let n:=ao.upd (o:=XO x A.bE (some d) false) nx;rwa[m.trans (.same n),t1.same n,.non,↑x,2,.inr ⟨x,d,a,S,22,g,m1,l1,aj,n^j,a2.same n⟩]
   ·let e:ot=pF p:=D.elim id λq=>absurd (ajF (jW.mpr q.1)) h
    subst e;rwa[⟨1212121212,ru,pa,L,b,p,rs,Z,2,B,F,X,U,C,O,R,M,r,I,y,hT,λt u a S N f m t1 g g1 j a2 a3 G=>?_,λd a S f m t1 g m1 l1 j a2=>?_⟩]
    ·rwa[m,t1,↑t,.non,2,.inl ⟨t,u,a,S,N,22,g,g1,j,a2,a3,G⟩]
    ·rwa[⟨12,true,T.Yj,dX λx nx=>⟨125⟩⟩];let n:=ao.upd (o:=XO x A.bE (some d) false) nx;rwa[m.trans (.same n),t1.same n,.non,↑x,2,.inr ⟨x,d,a,S,22,g,m1,l1,aj,n^j,a2.same n⟩]
  rintro J H1 ⟨m,t1,Y,vr,rfl,cs⟩;rcases cs with ⟨t,u,a,S,N,rfl,rfl,g,g1,j,a2,a3,G⟩|⟨x,d,a,S,rfl,rfl,g,m1,l1,a0,j,a2⟩
  ·rwa[⟨_,rfl,rfl,_,rfl,bX (λh=>absurd h (by decide)) λ_=>?_⟩];rwa[12,t,11122,bz.of j,2,k a S _ m g G]
  ·rwa[⟨12212,bX (λ_=>?_) λh=>absurd rfl h⟩];rwa[12,x,A.bE,d,false,KG S.q a,↑a,2,a0,j,Hx T,T.Fz,2,k a S _ m g a2]
def dI:Dt->Int
 |.i n=>n
 |_=>0
def ky:Dt->Rw
 |.t [_,.i w,.t p,.i k]=>.rule w (p.map dI) k
 |.t [_,.i c,.i z,.i x,.i y]=>.meet c z x y
 |.t [_,.i c,.i z,.i n]=>.new c z n
 |_=>.new 0 0 0
structure Ab (X:AS) (E:Zi) (W:Za2):Prop where
 m:X.q=⇑E
 s:∀x,X.st x=true↔∃c:Nat,x=c/\E[c]?\c
 S:∀x s y,X.S x s y=true↔∃a b:Nat,x=a/\y=b/\W a s b
def An {S:bf}{W:Za2}(h:∀x s y,S x s y=true↔∃a b:Nat,x=a/\y=b/\W a s b)(x s y:Int):dN S n z m x s y=true↔∃a b:Nat,x=a/\y=b/\eD W n z m a s b:=by
 unfold dN eD;rw[akH,akH,h];simp only[aj6,alB];constructor
 ·rintro ((⟨a,b,c,d,r⟩|⟨⟨c,d⟩,e⟩)|⟨⟨c,d⟩,e⟩)
  ·rwa[a,b,c,d,.inl r]
  ·rwa[n,m,c,e,.inr (.inl ⟨2,d,2⟩)]
  ·rwa[m,n,c,e,.inr (.inr ⟨2,d,2⟩)]
 ·rintro ⟨a,b,c,d,r|⟨rfl,e,rfl⟩|⟨rfl,e,rfl⟩⟩
  ·rwa[.inl (.inl ⟨a,b,c,d,r⟩)]
  ·rwa[.inl (.inr ⟨⟨c,e⟩,d⟩)]
  ·rwa[.inr ⟨⟨c,e⟩,d⟩]
def NC {S:bf}{W:Za2}(h:∀x s y,S x s y=true↔∃a b:Nat,x=a/\y=b/\W a s b)(j:n<m)(x s y:Int):iX S n m x s y=true↔∃a b:Nat,x=a/\y=b/\GN n m W a s b:=by
 unfold iX GN oU;simp only[aj6,akH,al1,alB,alH,h];constructor
 ·rintro ⟨⟨k,l⟩,((⟨a,b,rfl,rfl,r⟩|⟨rfl,a,b,c,rfl,r⟩)|⟨rfl,a,b,rfl,d,r⟩)|⟨⟨rfl,rfl⟩,a,b,c,d,r⟩⟩
  ·rwa[a,b,22,a,b,r,by rw[ajw ∅],by rw[ajw ∅]]
  ·rwa[n,b,22,a,b,r,by rw[ajD ∅],by rw[ajw ∅]]
  ·rwa[a,n,22,a,b,r,by rw[ajw ∅],by rw[ajD ∅]]
  ·rwa[n,n,22,a,b,r,by rw[ajD ∅],by rw[ajD ∅]]
 ·rintro ⟨a,b,rfl,rfl,e,f,r,c,d⟩;cases g:e=m <;> cases i:f=m
  ·rw[ajD g]at c;rw[ajD i]at d;rwa[⟨33⟩,.inr ⟨⟨33⟩,e,f,33,r⟩]
  ·rw[ajD g]at c;rw[ajw i]at d;rwa[⟨33⟩,.inl (.inl (.inr ⟨3,e,f,33,r⟩))]
  ·rw[ajw g]at c;rw[ajD i]at d;rwa[⟨33⟩,.inl (.inr ⟨3,e,f,33,r⟩)]
  ·rw[ajw g]at c;rw[ajw i]at d;rwa[⟨33⟩,.inl (.inl (.inl ⟨e,f,33,r⟩))]
def PZ (p:Zi):(p.map λc:Nat=>Dt.i (c:Int)).map dI=nI p:=by
 unfold nI;rw[aj8];rfl
def t9 {x:Int}:(nI B)[i]?\x↔∃c:Nat,B[i]?\c/\x=c:=by
 unfold nI;rw[ajq];cases B[i]? <;> simp[eq_comm]
def Rz {ws:Za3}{E:Zi}{W:Za2}{row:Dt}{X:AS}(h:Ab X E W)(o:K5 ws n m E W row B R):t7 m ws n X (ky row)/\Ab (kB ws X (ky row)) B R:=by
 cases o with
 | @new _ c z t C J l=>
   rwa[⟨⟨(h.s c).mpr ⟨c,2,t⟩,⟨33⟩,λy=>?_,h.m.symm⟩,⟨5,λx=>?_,An h.S⟩⟩]
   ·cases q:X.S c z y with
    |false=>rfl
    |true=>
     let⟨a,b,M,H,r⟩:=(h.S^_).mp q;obtain rfl:c=a:=∅
     rwa[absurd r (l b)]
   ·show X.q+ 1=_;rw[h.m,ajh];rfl
   ·show (decide (x=(⇑E:Int)) || X.st x)=true↔_;rw[akH,h.s,alB];constructor
    ·rintro (e|⟨c,e,q⟩)
     ·rwa[⇑E,e,by simp]
     ·rwa[c,e,[ajs (aji.mp q).1]▸q]
    ·rintro ⟨c,e,q⟩;cases hc:c<⇑E
     ·rw[ajs hc]at q;rwa[.inr ⟨c,e,q⟩]
     ·have:c<⇑E+ 1:=by have:=(aji.mp q).1;rw[ajh]at this;rwa[this]
      rwa[.inl ∅]
 |old o=>
  cases o with
  | @meet c u v z D eu ev O Z=>
    rwa[⟨⟨by show (u:Int)<v;ext,(h.S^_).mpr ⟨c,u,22,O⟩,(h.S^_).mpr ⟨c,v,22,Z⟩⟩,⟨5,λx=>?_,NC h.S D⟩⟩]
    ·show X.q=_;rw[h.m,ajk]
    ·show (X.st x && !decide (x=(v:Int)))=true↔_;rw[aj6,h.s];simp only[al1,alH,ajq];constructor
     ·rintro ⟨⟨c,rfl,q⟩,f⟩;erw[c,2];rw[q];show some (oU u v c)=_;unfold oU;rw[ajw ∅]
     ·rintro ⟨c,rfl,q⟩
      cases e:E[c]? with
      |none=>rw[e]at q;ext q
      |some d=>
       rw[e]at q;let q:oU u v d=c:=Za0 q;unfold oU at q;cases F:d=v
       ·rw[ajD F]at q;subst q;rw[eu]at e;have:=Za0 e;ext
       ·rw[ajw F]at q;subst q;rwa[⟨d,2,e⟩,3]
  | @rule g k c d j p z t C J l S L G I h9=>
    let ep:ky (hH g p k)=.rule g (nI p) k:=by
     show Rw.rule g ((p.map λc:Nat=>Dt.i (c:Int)).map dI) k=_;rw[PZ]
    rw[ep];erw[⟨g,k,j,c,z,d,22,t,L,t9.mpr ⟨c,G,2⟩,t9.mpr ⟨d,I,2⟩,by rw[bW,C],55,λx V=>?_,λi N c' o' Y M H e3=>?_⟩]
    ·rw[amu,List.getLast?_eq_getElem?,bW,C,Nat.add_sub_cancel];unfold nI;rw[ajq,ajq,J]
    ·rcases l with l|l
     ·rwa[.inl (by omega)]
     ·rwa[.inr (by rw[amu];rwa[t9.mpr ⟨(0),l,rfl⟩])]
    ·let⟨i,e⟩:=List.mem_iff_getElem?.mp V;let⟨a,T,rfl⟩:=t9.mp e;rwa[(h.s _).mpr ⟨a,2,S a (ajj T)⟩]
    ·let⟨a,f2,rfl⟩:=t9.mp H;let⟨b,f3,rfl⟩:=t9.mp e3;rwa[(h.S^_).mpr ⟨a,b,22,h9 i a b N Y M f2 f3⟩]
    ·erw[h.m,h.s];let U:(nI p).getD k 0=c:=by rw[ajm,t9.mpr ⟨c,G,2⟩];rfl
     let Q:(nI p).getD (k+ 1) 0=d:=by rw[ajm,t9.mpr ⟨d,I,2⟩];rfl
     let g3:(ws.getD g []).getD k 0=z:=by rw[ajm,ajm,t];show (j[k]?).getD 0=z;rw[L];rfl
     show ∀x s y,dN X.S ((nI p).getD (k:Int).toNat 0) ((ws.getD (g:Int).toNat []).getD (k:Int).toNat 0) ((nI p).getD ((k:Int).toNat+ 1) 0) x s y=true↔_;rw[akg,akg,U,Q,g3];rwa[An h.S]
def ab0:Ab l0 [0] λ_ _ _=>False:=by
 rwa[⟨2,λx=>?_,λx s y=>?_⟩]
 ·show decide (x=0)=true↔_;rw[alB];constructor
  ·rintro rfl;rwa[(0),22]
  ·rintro ⟨c,rfl,q⟩;have:=(aji.mp q).1;simp at this;ext
 ·rwa[λh=>(by ext h),λζ=>by let⟨_,_,_,_,r⟩:=ζ;rwa[r.elim]]
def XS {d:Za3}{c:Zi}{W:Za2}{ms:Zg}(g:r9 d n m B W ms c R):∀{X:AS},Ab X B W->Right m d n X (ms.map ky)/\∀i,(((ms.map ky).take i).foldl (kB d) X).q<=⇑c:=by
 induction g with
 |nil _=>exact λh=>⟨trivial,λi=>[List.map_nil,List.take_nil]▸Int.le_of_eq h.m⟩
 | @cons B z c u W v R row ms e o g t=>
   intro X h;let⟨p,k⟩:=Rz (E:=B) (W:=W) ⟨h.m,h.s,λx s y=>(h.S x s y).trans ⟨λζ=>by let⟨a,b,j,f,r⟩:=ζ;rwa[⟨a,b,j,f,(e a s b).mp r⟩],λζ=>by let⟨a,b,j,f,r⟩:=ζ;rwa[⟨a,b,j,f,(e a s b).mpr r⟩]⟩⟩ o;let⟨q,l⟩:=t k;rwa[⟨⟨p,q⟩,λi=>?_⟩]
   cases i with
   |zero=>
    have:=(r9.cons e o g).len;show X.q<=_;rw[h.m];ext
   |succ i=>exact l i
theorem yx {a:Za3}:∀{rows:List Rw} {X:AS} (k:Nat),Right z a y X rows->Right z a y X (rows.take k)
 |[],_,k,_=>by rw[List.take_nil];trivial
 |_::_,_,0,_=>trivial
 |_::_,_,k+ 1,h=>⟨h.1,yx k h.2⟩
def twice {d:Za3}{rows:List Rw}{c s n:Int}(h:Right z d y l0 rows)(e:rows[i]?\.new c s n):(rows.take (i+ 1)++rows.drop i)[i+ 1]?\.new c s n/\(rows.take (i+ 1)++rows.drop i).take (i+ 1)=rows.take (i+ 1)/\¬t7 z d y ((rows.take (i+ 1)).foldl (kB d) l0) (.new c s n):=by
 let k:=(aji.mp e).1;let f:⇑(rows.take (i+ 1))=i+ 1:=by rw[ajN];ext
 rwa[⟨55,λg=>?_⟩]
 ·rw[ajv ∅,f,ak4,alS,Nat.add_zero];rwa[e]
 ·rwa[List.take_left' f]
 ·let j:=oF h e;rw[akx,e,aly]at g;let a:=j.2.2.2;let b:n=((rows.take i).foldl (kB d) l0).q+ 1:=g.2.2.2;ext
def P0 (d:Dt):Prop:=(∃c z n,d=j7 c z n)\/(∃c z x y,d=fF c z x y)\/∃w p k,d=hH w p k/\⇑p<=1000
def RB {b:Za3}{i:Zi}{W:Za2}{a:Zg}(g:r9 b n m B W a i R)(c:∀u∈b,⇑u<=900):∀d∈a,P0 d:=by
 induction g with
 |nil _=>exact λd h=>by ext h
 |cons _ o _ e=>
  intro d h;rcases ajE.mp h with rfl|h
  ·cases o with
   |new=>exact .inl ⟨1112⟩
   |old o=>
    cases o with
    |meet=>exact .inr (.inl ⟨11112⟩)
    |rule f j=>exact .inr (.inr ⟨1112,by have:=c _ (ajj f);ext⟩)
  ·rwa[e d h]
def K6 {d:Dt}(r:P0 d)(h:bG H 4 ↑a d):uG H a (ky d):=by
 rcases r with ⟨c,z,n,rfl⟩|⟨c,z,x,y,rfl⟩|⟨w,q,k,rfl,e⟩
 ·rwa[Wd h]
 ·rwa[PX h]
 ·let⟨t,g,f⟩:=PY h
  let b:ky (hH w q k)=.rule w (nI q) k:=by
   show Rw.rule w ((q.map λc:Nat=>Dt.i (c:Int)).map dI) k=_;rw[PZ]
  rw[b];rwa[t,g,f,[bW]▸e]
def Wi {d c:Type}{xs:List d}{ys:List c}(h:⇑xs=⇑ys){i j:Nat}{x:d}{y:c}(a:(xs.take (i+ 1)++xs.drop i)[j]?\x)(b:(ys.take (i+ 1)++ys.drop i)[j]?\y):∃m:Nat,xs[m]?\x/\ys[m]?\y:=by
 let e:⇑(xs.take (i+ 1))=⇑(ys.take (i+ 1)):=by rw[ajN,ajN,h]
 cases f:j<⇑(xs.take (i+ 1))
 ·rw[ajs f]at a;rw[ajs ∅]at b;rw[List.getElem?_take]at a b;split at a
  ·rename_i q;rw[ajD q]at b;rwa[j,a,b]
  ·ext a
 ·rw[ajv ∅,alS]at a b;rw[<-e]at b;rwa[_,a,b]
def rE {a:Za3}{rows:List Rw}{w:Rw}(r:Right z a y l0 (rows.take j))(e:rows[m]?\w)(no:¬t7 z a y ((rows.take m).foldl (kB a) l0) w):j<=m:=by
 rcases amD m j with q|q
 ·have:=oF r (i:=m) (w:=w) (by rw[List.getElem?_take,ajD q];rwa[e]);rw[List.take_take,akI (akZ q)]at this;rwa[absurd this no]
 ·rwa[q]
seal L2.PE L2.PS L2.iY L2.PA L2.PT
def Wj (T:Txt K mg A)(FQ:kQ mg base):T.law.Ok P w base 13 (A9 K A.eQ):=by
 rwa[T.law.on jf (λb8 AA outer s H vs Q E hr h=>?_) (len:=by rintro _ _ _ _ ⟨a,ns,rfl,_⟩;rfl)]
 ·let⟨a,ns,rfl,hS,hlen,hPt,k⟩:=h;let hu8:=ajt (Nat.add_le_add_left (by decide:8<=64) _) hr.units
  erw[_,{sv (pc T.qU (A1 T) hr #[0]) (pW rfl (eA (fL 1 jf.nd) (eA (fL 2 jf.nd) mR))),bP 3 jf.nd (pc T.tH (DW T) hr #[0,1]),bP 4 jf.nd (pc T.gR (gb T) hr #[pc T.mW (mP T) hr #[0,av],av]),bP 5 jf.nd ((cH (ae (dP (l:=[114,111,111,109,115]) rfl) (ae (dP (l:=[108,101,116,116,101,114,115]) rfl) (ae (dP (l:=[110,101,119,101,115,116]) rfl) (ae (dP (l:=[]) rfl) ak yd) yd) yd) yd))|||(aV cK (aV jH (pv 4) av) av)),bP 6 jf.nd (cH #[cR gw rfl T.gG aj2 #[2],cR gw rfl T.gG aj2 #[3]]),bP 7 jf.nd (pc T.qW (A2 T FQ) hr #[1,6|||av,6|||av,pc T.qV (AZ T) hr #[4],5]),bI (jb (ja (bQ qA rfl T.kl ak8 #[7,ub (v:=.ty "list") rfl T.gG aj2 rfl])))
    {aY fk}
    bu,bP 8 jf.nd (cR gw rfl T.gG aj2 #[7]),bS (bI (PW.pt (oJ (bh mU (pc T.xX (Am T) hr #[1,6|||av,6|||av,7]) dk (bq _)) (oJ (bh (Fg hu8) (pv 7) (pv 8) (bq _)) (pV (bh (Fg hu8) (pv 6) (cH #[2,3]) (bq _))))))
    {aY fk}
    bu),cX ajR rfl (lE rfl T.mX #[8<<<0]) (fL 9 jf.nd)
    {bI (bh eK ((8|||9)&&&av) (dP (l:=[110,101,119]) rfl) (bq _))
     {aY (Qb eK (pc T.xX (Am T) hr #[1,2,3,aV pX (iz mV (pv 8) jI (gu (aV cY (pv 9) av))) (iz mV (pv 8) (gu (pv 9)) jI)]) (aV cY (pv 9) av) (bq _))}
     bu},aY fk}]
  rwa[Ja ?_];intro ah3 u_9 Yp OS FE rX oz jg fe fh;replace hS:aI K H a (au ns):=hS;rwa[⟨12,a,ns,2,hS,hlen,λq l L Ws H1 s1 hq wl Aa hL3 hW PV=>?_⟩];erw[q,12,bz.of hq,21121122];rwa[⟨1212,a,ns,L,2,aI.Be hS s1,3,hL3,λlp Ps H2 s2 wp hP hPl=>?_⟩];replace wl:=wl.same s2;replace s1:=s1.trans s2;rwa[⟨12,a,ns,(1),2,aI.Be hS s1,4,λy=>⟨y,(5),244,λz hz=>?_⟩⟩];rwa[⟨Za4 4,λq nq=>⟨121122,⟨44⟩,1122,(by show (0:Int)<4;decide),5⟩⟩]
  obtain⟨ot,o,PN,hot,ho3⟩:∃(ot:Zi) (o:Nat),iZ [V.str (tx [114,111,111,109,115]),V.str (tx [108,101,116,116,101,114,115]),V.str (tx [110,101,119,101,115,116]),V.str (tx [])] (z / 96 % 4)\.str (tx ot)/\(ot=pF o\/ot=[]/\o=0)/\o<3:=by
   rcases (show z / 96 % 4=0\/z / 96 % 4=1\/z / 96 % 4=2\/z / 96 % 4=3 by omega) with e|e|e|e
   ·rwa[⟨_,(0),by rw[e];rfl,.inl rfl,by decide⟩]
   ·rwa[⟨_,(1),by rw[e];rfl,.inl rfl,by decide⟩]
   ·rwa[⟨_,(2),by rw[e];rfl,.inl rfl,by decide⟩]
   ·rwa[⟨_,(0),by rw[e];rfl,.inr ⟨rfl,rfl⟩,by decide⟩]
  rwa[⟨q,_,_,_,rfl,rfl,aI.of aj,PN,?_⟩];let s3:=ao.upd (o:=.lst [V.str (tx [114,111,111,109,115]),V.str (tx [108,101,116,116,101,114,115]),V.str (tx [110,101,119,101,115,116]),V.str (tx [])]) nq;change upd H2 q _=H3 at s3 ⊢;replace wl:=wl.same s3;replace wp:=wp.same s3;replace s1:=s1.trans s3;clear s3 PN nq s2 hq H1 H2;let⟨pR,hR0,tR⟩:=id wl;let⟨pQ,hQ0,tQ⟩:=id wp;rwa[⟨12,l,12,.inl (aI.of hR0),λG n1=>?_⟩];let s5:=ao.upd (o:=.lst (pR.map V.ref)) n1;let w1:bp (upd H3 G (.lst (pR.map V.ref))) G Ws:=⟨pR,aj,tR.same s5⟩;change upd H3 G _=H4 at s5 w1 ⊢;rwa[⟨12,lp,12,.inl (aI.of (s5^hQ0)),λF n2=>?_⟩];let s6:=ao.upd (o:=.lst (pQ.map V.ref)) n2;let w2:bp (upd H4 F (.lst (pQ.map V.ref))) F Ps:=⟨pQ,aj,(tQ.same s5).same s6⟩;change upd H4 F _=H5 at s6 w2 ⊢;rwa[⟨(Za4 2),λhd n3=>?_⟩];generalize e_:upd H5 hd _=H6;let⟨s7,hh⟩:=eR e_ n3;replace w1:=w1.same (s6.trans s7);replace w2:=w2.same s7;let U:=s5.trans (s6.trans s7);replace s1:=s1.trans U;replace wl:=wl.same U;replace wp:=wp.same U;clear s5 s6 s7 U hR0 hQ0 tR tQ;let hT:dF A.eQ fi jD H6:=.inl (s1^hPt)
  let Z:∀u∈Ws++Ps,Pz L u:=λu hu=>by
   let⟨h1,h2⟩:=(ajr.mp hu).elim (hW u) (hP u);rwa[3,λy hy=>by have:=h1 y hy;ext]
  rwa[⟨1212,hd,11122,aI.of hh,212,hd,11122,aI.of hh,212,z,2,hz,λlim l1 l24=>?_⟩];rwa[⟨12,G,F,L,lim,o,ot,Ws,Ps,2,hot,ho3,33,l1,3,w1,w2,Z,533,hT,λpp S H7 k7 f1 hpp=>?_⟩]
  ·have:=amC l24 PV;ext
  let ll:=PV;let Wk:=k7.at hT hh s!"";let w1':=k7.words hT w1;let w2':=k7.words hT w2;let wl':=k7.words hT wl;let wp':=k7.words hT wp;let Ah:∀u∈Ws++Ps,∀z∈u,z∈bF (2* L)/\-z∈bF (2* L):=λu hu z hz=>((tY ∅ (Z u hu)).2 z hz).2
  let⟨hm,eL⟩:=f1.mL Ah l1;let⟨Rr,ys⟩:=f1.ys Ah;let Wm:=f1.pap Ah (E2:=S.aX) (W2:=λa z b=>S.by a z=some b) (ns:=[]) λW' h'=>.nil h'
  rw[ajQ]at Wm;let⟨ri,hmd⟩:=XS Wm ab0;let ro:=RB Wm λu hu=>by have:=(ajr.mp hu).elim (hW u) (hP u);ext
  let⟨B,hl,f,Ac⟩:=hpp;let el:⇑S.aX<=24:=by rw[ys.g.wf.e];ext
  clear w1 w2 wl wp hh hT;rwa[⟨1211112,.lst hl,Bu K "list",true,2,dA ?_⟩];rwa[⟨12,pp,12,.inl (aI.of hl),λJ nk=>?_⟩];generalize e_:upd H7 J _=H8;let⟨s8,hk8⟩:=eR e_ nk;let hwd:∀x∈Ws++Ps,⇑x<=1000/\∀s∈x,-1000<s/\s<1000:=λx hx=>⟨(Z x hx).1,λs hs=>by have:=(Z x hx).2 s hs;ext⟩
  rwa[⟨15,λ_ _ h=>h⟩];rwa[⟨1212,hd,11122,aI.of (s8^Wk),212,hd,11122,aI.of (s8^Wk),212,L,G,F,pp,Ws,Ps,B,S.rows.map ky,233,w1'.same s8,w2'.same s8,33,hwd,s8^hl,[ajk]▸f.1,λi q w R X=>?_,λi _=>by have:=hmd i;ext,λ_ H9 s9=>?_,λi w R _ no=>absurd (oF ri R) no⟩]
  ·rw[ajq]at X
   cases e3:S.rows[i]? with
   |none=>rw[e3]at X;ext X
   |some d=>
    rw[e3]at X;rw[<-Za0 X];rwa[K6 (ro d (ajj e3)) ((f.2 i q d R e3).same s8)]
  rwa[⟨212,dA ?_⟩];let O:=s8.trans s9
  let dtl:∀{H9:Hp} {r:Zt},ao H7 H9->H9 r\.lst (B.map V.ref)->bG H9 8 ↑r (.l S.rows):=λ{H9 r} s e=>by
   rwa[bG.le (k:=5) (.l e ([ajk]▸f.1) λj v d R X=>?_) ⋯];let⟨q,hq,rfl⟩:=HD R;rwa[(f.2 j q d hq X).same s]
  rwa[⟨1212,.l S.rows,pp,J,22,dtl O (O^hl),dtl O (s9^hk8),12,dA ?_⟩];rwa[⟨121212,Za4 2,λe ne=>?_⟩];let Wn:=ao.upd (o:=.lst [↑l,↑lp]) ne;let g:=O.trans Wn;rwa[⟨_,hd,e,22,KD (g^Wk) ((rB (w1'.same g)).le ⋯) ((rB (w2'.same g)).le ⋯),KD aj ((rB (wl'.same g)).le ⋯) ((rB (wp'.same g)).le ⋯),12,dA ?_⟩];let D:=Wn^s9^hk8;change upd H9 e _=Dg at g D ⊢;clear Wn s9 s8 ne;let ln:(⇑(B.map V.ref):Int)=(⇑S.rows:Int):=by rw[ajk,f.1]
  erw[12,J,12,.inl (aI.of D),(⇑S.rows:Int),akm (λx=>[V.int x]) ln,33];rw[akg];rwa[oN (lo:=0) (n:=⇑S.rows) (λi σ N=>∃v9,σ=#v[↑a,.int L,↑l,↑lp,.int z,.str (tx ot),↑hd,↑pp,↑J,v9]/\ao H7 N/\N J\.lst (B.map V.ref)) ⟨none,2,g,D⟩ ?_ ?_]
  ·rintro i σ N hi ⟨v9,rfl,C,hk⟩;rw[Int.zero_add];let Y:S.rows[i]?=some S.rows[i]:=ajg hi
   let Ag:B[i]?\(B[i]'([f.1]▸hi)):=ajg _
   let I:=(f.2 i _ _ Ag Y).same C;let hro:=ro _ (ajj Y);change S.rows[i]=dd at Y I hro;change B[i]'([f.1]▸hi)=p at Ag I;let rZ:(B.map V.ref)[i]?\(V.ref p):=by rw[ajq,Ag];rfl
   rcases hro with ⟨c,y,n,rfl⟩|⟨c,y,x1,x2,rfl⟩|⟨w,pt,k1,rfl,_⟩
   ·let h1:=Wd I;erw[1212,J,11122,aI.of hk,cj rZ,p,11122,bz.of h1,(rfl:iZ _ (0:Int)=_),212];rw[ajF rfl];rwa[dX ?_];rwa[⟨1212121212112212,J,12,aI.of hk,λc1 n1=>?_⟩];let a1:=ao.upd (o:=.lst (eU (B.map V.ref) none (some ((i:Int)+ 1)))) n1;rwa[⟨121212,J,12,aI.of (a1^hk),λc2 n2=>?_⟩];let a2:=ao.upd (o:=.lst (eU (B.map V.ref) (some (i:Int)) none)) n2;rw[show (i:Int)+ 1=((i+ 1:Nat):Int) by ext,Rx,K3 _ i (by rw[ajk,f.1];omega),<-List.map_take,<-List.map_drop]at *;rwa[⟨c1,c2,1122,a2^aj,aj,5,λc3 n3=>?_⟩]
    ·rw[ajk,ajk,ajN,aj5,f.1];rwa[aju (show _<=3000000 by omega) ⋯]
    let a3:=ao.upd (o:=.lst ((B.take (i+ 1)).map V.ref++(B.drop i).map V.ref)) n3;let sA:=C.trans (a1.trans (a2.trans a3));let er:(S.rows.map ky)[i]?\(.new c y n):=by rw[ajq,Y];rfl
    let⟨t1,t2,t3⟩:=twice ri er;let M:=t3;rw[<-t2]at M;rwa[⟨L,l,lp,c3,Ws,Ps,B.take (i+ 1)++B.drop i,(S.rows.map ky).take (i+ 1)++(S.rows.map ky).drop i,233,wl'.same sA,wp'.same sA,33,hwd,by rw[aj,ajT],5,λj q w R X=>?_,λj r=>?_,λr=>absurd (oF r t1) M,λj w R r no UI s12=>?_⟩]
    ·rw[ajh,ajh,ajN,ajN,aj5,aj5,ajk,f.1]
    ·let⟨m,f1,f2⟩:=Wi ([ajk]▸f.1) R X;rw[ajq]at f2
     cases e3:S.rows[m]? with
     |none=>rw[e3]at f2;ext f2
     |some d=>
      rw[e3]at f2;rw[<-Za0 f2];rwa[K6 (ro d (ajj e3)) ((f.2 m q d f1 e3).same sA)]
    ·have:=rE r t1 M
     let e:((S.rows.map ky).take (i+ 1)++(S.rows.map ky).drop i).take j=(S.rows.map ky).take j:=by
      have:=akm (List.take j) t2;rw[List.take_take,List.take_take,akI ∅]at this;rwa[this]
     rw[e];have:=hmd j;ext
    ·let g1:=rE r t1 M;let g2:=rE (j:=i+ 1) ([t2]▸yx _ ri) R no;obtain rfl:j=i+ 1:=∅
     erw[1211222];rw[show ((i:Int)+ 1)=((i+ 1:Nat):Int) by ext,ajF rfl];rwa[k _]
   ·let h1:=PX I;rwa[⟨1212,J,11122,aI.of hk,cj rZ,p,11122,bz.of h1,(rfl:iZ _ (0:Int)=_),212,bX (λe=>?_) λ_=>⟨12,C,hk⟩⟩];rwa[absurd e ⋯]
   ·let⟨t,h1,_⟩:=PY I;rwa[⟨1212,J,11122,aI.of hk,cj rZ,p,11122,bz.of h1,(rfl:iZ _ (0:Int)=_),212,bX (λe=>?_) λ_=>⟨12,C,hk⟩⟩];rwa[absurd e ⋯]
  ·rintro σ N ⟨v9,rfl,C,hk⟩;rwa[k _]
unseal L2.PE L2.PS L2.iY L2.PA L2.PT
end
def all_mk {l:PySem.W.OpenLaw}(q:M "law"=some ↑a)
 {b g f m d i j n h o:Zt}
 {p k:Zt}
 {f1 f2 f3 f4 f5 f6 f7 f8 f9 J1 U G f13 f14 O8 z P f18 f19 f20 t f22 Y W f25 f26 H f28 X f30 f31 f32 f33 f34 f35 f36 D f38 I f40 f41 f42 f43 f44 f45 f46 f47 f48 J f50 N f52 f53 f54 C f56 Q f58 f59 f60 f61 f62:Zt} {d1 d2 d3 d4 d5 d6 d7 d8 d9 d10 F d12 x d14 d15 R d17 y A d20 d21 d22 d23 d24 d25 d26 d27 d28 d29 d30 d31 Z d33 d34 O B d37 d38 E d40 d41 V d43 d44 d45 d46 d47 d48 S d50 d51 d52 u d54 d55 d56 d57 d58 d59 L r d62:FuncData}
 (T:Txt K M ⟨f1,d1,f2,d2,f3,d3,f4,d4,f5,d5,f6,d6,f7,d7,f8,d8,f9,d9,J1,d10,U,F,G,d12,f13,x,f14,d14,O8,d15,z,R,P,d17,f18,y,f19,A,f20,d20,t,d21,f22,d22,Y,d23,W,d24,f25,d25,f26,d26,H,d27,f28,d28,X,d29,f30,d30,f31,d31,f32,Z,f33,d33,f34,d34,f35,O,f36,B,D,d37,f38,d38,I,E,f40,d40,f41,d41,f42,V,f43,d43,f44,d44,f45,d45,f46,d46,f47,d47,f48,d48,J,S,f50,d50,N,d51,f52,d52,f53,u,f54,d54,C,d55,f56,d56,Q,d57,f58,d58,f59,d59,f60,L,f61,r,f62,d62,b,g,f,m,d,i,j,n,h,o,p,k⟩)
 :∃fd:FuncData,(∃fd2 c,LamAt K fd2 c k)/\(∀(s:Zv) (v:Zu),BindsTo s fd ⟨[v],[]⟩ [("_law_script",v)])/\∀base:Heap,K.In base->base.Ns mainGlobals M->kQ M base->dv l.prog w K M base (cZ l.prog w) 13 a fd ["_law_script"] (A9 K k):=by
 let e:=q.symm.trans T.law.m;ext e;let⟨kV,doc,pm,an,b8,ct,e⟩:=T.law.fd;rwa[_,⟨11,T.lam⟩,λs v=>[e]▸.of_eq rfl,λbase _ _ FQ=>Wj T FQ]
def walk {l:PySem.W.OpenLaw}{loose:Zq}{XP:(Str->Zm)->Heap->Prop}{j:World->Heap->Prop}{d:DefRec}{K:Params->Za1}(r:l.most\63)(g:d.params.defaults=[])
 (p:∀(w:World) (h:Heap),j w h->(K w.params).In h/\h.get? a\(PySem.W.tabObj #[]))
 (F:∀(w:World) (e:Str->Zm) (i:Zt) (h:Heap),(K w.params).In h->h.Ns mainGlobals e->e d.name\↑i->
  ∃fd:FuncData,(∃fd2 c,LamAt (K w.params) fd2 c a)/\(∀(s:Zv) (u:Zu),BindsTo s fd ⟨[u],[]⟩ [("_law_script",u)])/\∀base:Heap,(K w.params).In base->base.Ns mainGlobals e->kQ e base->dv l.prog w (K w.params) e base (cZ l.prog w) 13 i fd ["_law_script"] (A9 (K w.params) a)):
 PySem.W.WalkO P loose XP j l.row.toRowW d [] (λf o=>PySem.call f o):=
 L2.Mg (n:=63) (k:=13) (x:="_law_script") (CX:=λw=>(cZ l.prog w)) (sp:=λw=>A9 (K w.params) a) r ⋯ g ⟨244⟩ p F (λ_ _ b m q t v=>⟨b,m,2,v,q,t,λ_=>rfl⟩) λ_ _ _ _ _ z=>Oy z
end K44
end Lake
open PySem PySem.W PyProof.Rows
namespace PySem.W.Fast
universe tw12968318751900377857 tw7417767295138190663 tw17621948488289476118 tw9447401847606761197 tw8588392569299407233 tw10137245043741761944 tw7328424669898055795 tw3315705150696365410 tw7356392466518324971 tw8153639267799102135 tw17504661569786090581 tw97948600963719315 tw15642021403346622489 tw13544565063762799234 tw8931948799710960408 tw13626530080675037316 tw15846098374750766191 tw11979931970325918229 tw12722213672165980826 tw9593133520677695475 tw10290042741500607649 tw13079927419772372534 tw4685759915973540429 tw3880685403249079500 tw5211105123837457133 tw8679433625282502585 tw14829067740066858675 tw11906343649389064230 tw16538037590720932359 tw12141635177693891217 tw6610832459715487611 tw18017089520247027929 tw12232422267248891636 tw17595674860419587377 tw7756378209189822898 tw4392685986898198432 tw16423413576484507626 tw3500594447743333228 tw17909894455262510514 tw15136676360947577174 tw4588205090145948203 tw2337427794639654920 tw6894259406397607155 tw10494092772133327498 tw10854874275250558219 tw8850965664537176888 tw10144225632765355842 tw10062914976581204497 tw1776929775370742102 tw13603219903122678056 tw11068736170726279390 tw12357419901051194254 tw3224338490541200551 tw16383306452817391622 tw1542929032341657351 tw5592648270373578023 tw14427807756282830455 tw14919435727104153266 tw7763255554657306297 tw12980029507852103920 tw12999498275707900769 tw2653334287841092131 tw3607561262221901399 tw668214809199704475 tw14576812699685077880 tw12807392095581137850 tw15825306257009970826 tw18073420988996441914 tw1107067792230616449 tw7773108651506429499 tw2186735353784615505 tw18278285324397716887 tw16279776183130201436 tw15088545878561143844 tw15023722572914612739 tw11333910424096357182 tw13694140563477186940 tw12069888711117374461 tw16375640357407251861 tw14926234370421957588 tw9357724321114248770 tw17007301426905238896 tw15490463813909833773 tw1433791219268636367 tw8279240076425553097 tw7731394851421784541 tw15239845238986288437 tw16060630003700192666 tw9391188363092255591 tw17489146651347018093 tw9996318158239580565 tw16733997101905093460 tw16439374094278428005 tw17593623333373626592 tw14230083711299864702 tw5398272370336645215 tw9308643031000365817 tw11086621815028313266 tw5727666168173097128 tw1932506936401482442 tw4961951133039802267 tw11834182182203732105 tw8223086895205066194 tw698197794904448589 tw2327911006554722844 tw11763706953979607814 tw2363359862813428434 tw17070893902697156863 tw6755305529896496437 tw4526537618435923469 tw2426174025714414519 tw17427977476239927 tw17970742628431548615 tw11619303766741259059 tw18068901902348243839 tw15371697724465287774 tw8991691423318185501 tw1258970507980512459 tw15124891498289106701 tw14659935803473009095 tw4488513823590955449 tw5328076235947699536 tw17506014984888824230 tw17229741482141173663 tw5760103745452139744 tw15562149567073854324 tw4817697952449575565 tw17585480854510639699 tw7132640725200436763 tw3750757791156805683 tw5582183470072696708 tw6459752369056814445 tw17132009989843367410 tw11119098601199685170 tw9523768887400632927 tw1879416030225051683 tw508889621492423773 tw13678790601270760785 tw13184342284259799147 tw18067536143169278810 tw12289298487407448628 tw10551190121150710154 tw16700365714333477505 tw9375745875076646683 tw611888400451631688 tw8361362403883604271 tw11300678722896767889 tw13238862094667490219 tw14318896757696015481 tw13338171929908732972 tw16089410538658585858 tw17910448208292797434 tw8356898310837818668 tw16924172057530647831 tw1524821330364506421 tw12008046941958327447 tw3696914469627854872 tw1942678070650262348 tw6699853334635414307 tw14143151158739758034 tw10618380776525280183 tw13091260540396092628 tw2605544837320018431 tw9679035893866572311 tw4399612545449906020 tw6532029913739950019 tw11954699215522371527 tw11049596651353636694 tw5783254318462827822 tw14913764273725573793 tw15948657597307178386 tw4291281057302503493 tw1629401063419175451 tw6610067028028996093 tw3604751474744990696 tw7340990391530953259 tw1241578205122479943 tw4919097044009196874 tw349358517994805783 tw9158423331152962992 tw10353151090018505106 tw17458849628840951090 tw7369884749091353244 tw161988914731155554 tw6965394861183031415 tw17649371551464894323 tw16633874897332209868 tw15954582053559515698 tw10277421415680395547 tw7530845720069765692 tw7018349363517831638 tw12845041732169702449 tw4659336630558128404 tw8589586301655576712 tw7242741122022335847 tw10386286171313610556 tw2869286774491199551 tw8904680893358377468 tw6478697394850427098 tw4404174340119357382 tw4393819518056139485 tw3198267366317467588 tw10678602263326757458 tw16331995070347130218 tw14577515670550384187 tw4629268081206735407 tw17495034221307207387 tw15712621692299661892 tw1964473257173140474 tw3902685171710100355 tw5228704446388427029 tw12792259521956161354 tw15782978252868493998 tw5342982841865854273 tw14276810575110278929 tw9442080852496851903 tw6407006318039362842 tw13222865403390165239 tw11673082272704569355 tw8359847121449190528 tw1886066623426907417 tw17379838062135611484 tw6489963123185538813 tw7903005480456092335 tw4549130143846142224 tw65226757875769630 tw17387798140846499822 tw6351329094788957025 tw6116705288797156143 tw5104426717684337389 tw2844292071067305339 tw18139601515602799447 tw17879041015981078952 tw13491302535980288720 tw12399607226915193049 tw11876116223322521116 tw10790155289554503441 tw10234662435636809752 tw5074467717034735751 tw3903147577335518490 tw1275782217341422434 tw7311140959130191665 tw5814978325202130638 tw4839650403292850469 tw17416298351740262715 tw6952045938240454099 tw875810166056821036 tw9410654704310508697 tw9181814693075717624 tw9087175613605270190 tw8896782767908202327 tw8531785044010436109 tw8380328908477101292 tw8351163422479057299 tw8293510504944490220 tw7579223130528120521 tw7216564287465181667 tw6499583962909182274 tw6307252296153307761 tw461484619260290725 tw3554469454028849642 tw1967183152952270327 tw17108361079432537203 tw16711540609546223381 tw1599199581618196069 tw14536023972820014022 tw13977910187920986314 tw13602595932422189961 tw1355726260144087927 tw13017824222475992998 tw130025328982160134 tw12941186107226984618 tw12889419654962414828 tw1204539828460736531 tw11427042927190262180 tw11259821193400355932 tw1120563302097492515 tw1119573873863433844 tw10798557579422528955 tw10382397405189411282 tw4941638515676346061 tw13139162431915012550 tw17185149788118393857 tw6387853518828183494 tw450162710599673205 tw3479261810737299438 tw17811129248090202180 tw17209112622543224776 tw12005927914125639302 tw1169005266132474064 tw11162274550560499883 tw10773379218249424779 tw11273213357820597077 tw18286961438735305908 tw5384454251971911801 tw10574809138335321957 tw15836451042113864294 tw1566802033969784867 tw12770981637464986737 tw11611069932078267813 tw15703344007150681360 tw1550260134122536813 tw8827903960972980313 tw8475076636321877491 tw7673129196986084399 tw7205463546977766021 tw6440740076761159154 tw5946854824983958655 tw5059515483492436351 tw5057195063680187488 tw4767028060813167625 tw2685303415701202283 tw17702221838506423272 tw17637273917041542421 tw17390907551454027642 tw17068705119263837148 tw16750973498618995379 tw14616467568312210785 tw14520967236113055813 tw13889695098514720765 tw11331622583777484353 tw10849993757912557680 tw1084215445537655400 tw10594086551682931253 tw10316381594861569130 tw8318644503409508729 tw7779537585543155691 tw1502194915084534072 tw8165738042623059691 tw7621159741067004067 tw4823362017338967638 tw2991265445542852625 tw2081078042346997541 tw15999948524373580476 tw10082836832035321159 tw4320756053072231224 tw237698136523212841 tw16663769460887275074 tw6115708781225683765 tw5555348789359497405 tw2012169530717152464 tw1733091790817805936 tw13129767505223882021 tw11080741005690674581 tw7992915932403604347 tw5145808867972821831 tw169860811427042225 tw671753642265281417 tw14099177432933104625 tw4690632223603743186 tw8885426983392269536 tw7620759235382997209 tw6420320954705924100 tw18235737741401722531 tw12557615595153891346 tw7343997547993546233 tw6302315377839461634 tw17681826521768465081 tw161202629926514512 tw7230012196424505394 tw5556807144416324824 tw5161233132842566388 tw4879753920377441722 tw17897739351314794334 tw17861202970966370499 tw14450117054828222859 tw12080583044122677518 tw11730705598669430108 tw4158941377116766706 tw13542730958522656093 tw13517862242655014818 tw16998459116514960143 tw1376753067521161183 tw5979306116686093233 tw11989454885000830046 tw2285755654880331391 tw7556557876753334400 tw6979776197647228913 tw6372091793087070812 tw5017768379347663397 tw4762629168539274829 tw15795546926659439456 tw15542100891778201232 tw15443463832796373930 tw16121362317528222464 tw4596131085110873076 tw7654552446561185867 tw5876578150069282670 tw479745444719676922 tw18249232522879884156 tw13320255870764284342 tw931189604352865584 tw8473646009525843911 tw2927154150421531925 tw17777903568337491494 tw17639246110420127402 tw9587873899954286419 tw9176470977434193845 tw9148642357980610916 tw8836011247891664486 tw8691952649360592607 tw8652937248270344627 tw8610644560999608362 tw8362474283364457898 tw8334021093661677728 tw8259727289992599742 tw8257323674168122394 tw8251907333453469604 tw8108138832605311706 tw78624030500436615 tw7763471318158767819 tw7497136298569787410 tw7412161176220759464 tw735034722620444581 tw7145099177519501766 tw6680395184893722208 tw647639505360792217 tw6379475198472836047 tw6372726847199867956 tw6071477460747134299 tw603432719452781276 tw5690676650028079962 tw5487751007526816617 tw5245714844094975945 tw4892112847907956691 tw4866034195503476784 tw4830358725563934381 tw4734849477104040970 tw4725439085651479593 tw459725851924742384
end PySem.W.Fast
end
open Lake
set_option maxRecDepth 100000 in
set_option maxHeartbeats 0 in
theorem PySem.Challenge.cw_cosetyard_k44_whole_papers_of_filling_holds : PySem.Challenge.rw_cosetyard_k44_whole_papers_of_filling.Holds := by
  w_on; o_law; k_head;(case hw => w_witness2)
  k_fill
  refine K44.walk (l := PySem.Challenge.rw_cosetyard_k44_whole_papers_of_filling) rfl rfl (fun w h Y => ⟨PySem.W.km_in_of Y, PySem.W.km_tabs_of Y _ (List.Mem.head _)⟩) ?F
  case F =>
    intro w mg fa h KX G hmg
    refine' K44.all_mk hmg ⟨?D1,?D2,?D3,?D4,?D5,?D6,?D7,?D8,?D9,?D10,?D11,?D12,?D13,?D14,?D15,?D16,?D17,?D18,?D19,?D20,?D21,?D22,?D23,?D24,?D25,?D26,?D27,?D28,?D29,?D30,?D31,?D32,?D33,?D34,?D35,?D36,?D37,?D38,?D39,?D40,?D41,?D42,?D43,?D44,?D45,?D46,?D47,?D48,?D49,?D50,?D51,?D52,?D53,?D54,?D55,?D56,?D57,?D58,?D59,?D60,?D61,?D62,?z1,?z2,?z3,?z4,?z5,?z6,?z7,?z8,?z9,?z10,?z11,?z12,?z13,?z14,?y_YardError,?y_NoOrder,?y_TooMany,?y_Order,?y_ByLetters,?y_Newest,?y_Rooms,?y_Going,?y_Closing,?y_Judge,_,_,_,_,_,_,_,_,_,_,_,_,_,_,_,_,_,_,_,_,_,_,_,_,_,_,_,_,_,_,_,_,_,_,_,_,_,_,_,_,_,_,_,_,_,_,_,_,_,_,_,_,_,_,_,_,_,_,_,_,_,_,_,_,_,_,_,_,_,_,_,_,_,_,_,_,_,_,_,_,_,_,_,_,_,_,_,_,_,_,_,_,?w_lam⟩
    all_goals try dsimp only
    (case y_YardError|y_NoOrder|y_TooMany|y_Order|y_ByLetters|y_Newest|y_Rooms|y_Going|y_Closing|y_Judge => refine' PySem.W.mg_of KX G ?a;(case a => k_is))
    (case D1 => refine' L2.Def.of KX G ?_ ?_ ?_ ?_ (fun _ _ _ _ _ _ _ hl => by obtain ⟨_, _, _, _, rfl⟩ := L2.args_is4 hl; rfl);all_goals try k_is)
    (case D2 => refine' L2.Def.of KX G ?_ ?_ ?_ ?_ (fun _ _ _ _ _ _ _ hl => by obtain ⟨_, _, _, rfl⟩ := L2.args_is3 hl; rfl);all_goals try k_is)
    (case D3|D4|D5|D6|D7|D9|D10|D15|D16|D18|D19|D22 => refine' L2.Def.of KX G ?_ ?_ ?_ ?_ (fun _ _ _ _ _ _ _ hl => by obtain ⟨_, rfl⟩ := L2.args_is1 hl; rfl);all_goals try k_is)
    (case D8|D12|D13|D14|D17|D20 => refine' L2.Def.of KX G ?_ ?_ ?_ ?_ (fun _ _ _ _ _ _ _ hl => by obtain ⟨_, _, rfl⟩ := L2.args_is2 hl; rfl);all_goals try k_is)
    (case D11 => refine' L2.DDef.of KX G ?_ ?_ ?_ ?_ ?_ (fun _ _ _ _ _ _ _ hl => by obtain ⟨_, _, _, _, _, rfl⟩ := L2.args_is5 hl; exact ⟨_, rfl, rfl⟩) (fun _ _ _ _ _ _ _ hl => by obtain ⟨_, _, _, _, rfl⟩ := L2.args_is4 (Nat.succ.inj hl); exact ⟨_, rfl, rfl⟩);all_goals try k_is)
    (case D21 => refine' L2.Def.of KX G ?_ ?_ ?_ ?_ (fun _ _ _ _ _ _ _ hl => by obtain ⟨_, _, _, _, _, rfl⟩ := L2.args_is5 hl; rfl);all_goals try k_is)
    (case D23|D25|D26|D30|D31|D34|D37|D39|D43|D59 => refine' L2.MDef.of ?_ ?_ ?_ ?_ ?_ (fun _ _ _ _ _ _ _ hl => by obtain ⟨_, _, _, _, rfl⟩ := L2.args_is4 hl; rfl);all_goals try k_is)
    (case D24|D28|D35|D36|D38|D42|D44|D47|D48|D49|D50|D51|D55|D58 => refine' L2.MDef.of ?_ ?_ ?_ ?_ ?_ (fun _ _ _ _ _ _ _ hl => by obtain ⟨_, _, rfl⟩ := L2.args_is2 hl; rfl);all_goals try k_is)
    (case D27|D53 => refine' L2.MDef.of ?_ ?_ ?_ ?_ ?_ (fun _ _ _ _ _ _ _ hl => by obtain ⟨_, _, _, _, _, rfl⟩ := L2.args_is5 hl; rfl);all_goals try k_is)
    (case D29|D32|D33|D41|D45|D52|D54|D60|D62 => refine' L2.MDef.of ?_ ?_ ?_ ?_ ?_ (fun _ _ _ _ _ _ _ hl => by obtain ⟨_, _, _, rfl⟩ := L2.args_is3 hl; rfl);all_goals try k_is)
    (case D40|D46|D56|D57 => refine' L2.MDef.of ?_ ?_ ?_ ?_ ?_ (fun _ _ _ _ _ _ _ hl => by obtain ⟨_, rfl⟩ := L2.args_is1 hl; rfl);all_goals try k_is)
    (case D61 => refine' L2.MDef.of ?_ ?_ ?_ ?_ ?_ (fun _ _ _ _ _ _ _ hl => by obtain ⟨_, _, _, _, _, _, rfl⟩ := L2.args_is6 hl; rfl);all_goals try k_is)
    (case z1|z2|z3|z4|z5|z6|z7|z8|z9|z10|z11|z12|z13|z14 => refine' PySem.W.mg_none_of KX G ?a;(case a => k_is))
    (case w_lam => refine' L2.LamAt.mk ?e ?h ?n;(case e => rfl);(case h => kernel_rfl);(case n => kernel_rfl))
    all_goals first|k_is|kit_is|kts_exm|kernel_rfl
