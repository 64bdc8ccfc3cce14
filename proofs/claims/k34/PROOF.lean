import PyProof.Rows.All
import Wide.All
import OpenK.AllK
import Wide.FinOn
import Lean
import PyProof.EqAt
import PyProof.EqKinds
import PyProof.TupleCall
import PyProof.FString
import OpenK.KOwn
import KE.KTryMore
import PyProof.NsDelKeeps
import PyProof.StrBlock2
import PyProof.AutoListH
import KE.KIntText
import PyProof.Rows.StrIntSpec
import KE.KRevIter
import PyProof.StrWalks
import PyProof.CompUse
import PyProof.NeKinds
import PyProof.Rows.Range3
import PyProof.Rows.EnumRows
import PyProof.ConsumeWalk
import PyProof.Rows.SeqGen
import PyProof.StrLawsRepr
import PyProof.ZipIter
import PyProof.Rows.FactsT2
import PyProof.EnumMake
import PyProof.DictWalks
import PyProof.DictTruth
import PyProof.ListRange
import PyProof.ListStr
import PyProof.TupleOfGen
import PyProof.TupleOfSeq
import PyProof.MinMaxWalk
import PyProof.WalkInts
import KE.KSortAsk
import PyProof.MeetsSeq3
import KE.KRevSl
import PyProof.Rows.SeqMore
import PyProof.ListMulRoad
import PyProof.Rows.SumAny
import PyProof.SeqI3
import PyProof.AttrMissSeq
import KE.KDictOf
import PyProof.Rows.StrCut
import PyProof.Rows.StrSplitCount
import PyProof.DictItems
import PyProof.Rows.SortWalk
import PySem.Challenge.RW_cosetyard_k34_whole_paper_walked
set_option Elab.async false
set_option linter.all false
set_option maxRecDepth 100000
set_option compiler.extract_closed false
set_option compiler.small 0
set_option genSizeOfSpec false
set_option maxHeartbeats 4000000
noncomputable section
local macro_rules|`(tactic|decide)=>`(tactic|decide +kernel)
local macro_rules|`(tactic|ac_rfl)=>`(tactic|exact⟨2224244⟩)
local macro_rules|`(⟨$x,*⟩)=>do
  let q:=#[←`(_),←`(rfl),←`(∅),←`(⋯),←`(?_)]
  let r:Array Lean.Term:=x.getElems.flatMap λe=>match e.raw.isNatLit? with|some n=>(toString n).toList.toArray.map λc=>q[c.toNat-49]!|_=>#[e]
  if x.getElems.any λe=>e.raw.isNatLit?.isSome then`(⟨$r,*⟩)else Lean.Macro.throwUnsupported
local macro_rules|`(tactic|erw[$r,*])=>do let a:=r.getElems.map λe=>(⟨e.raw[1]⟩:Lean.Term);`(tactic|refine⟨$a,*, ?_⟩)
local macro_rules|`(tactic|rwa[$r,*])=>do let a:=r.getElems.map λe=>(⟨e.raw[1]⟩:Lean.Term);if a.size=1&&(a[0]!).raw.isNatLit?.isNone then`(tactic|refine $(a[0]!))else`(tactic|exact⟨$a,*⟩)
local macro_rules|`([$x,*]▸$e)=>do let a←x.getElems.mapM λt=>do match(⟨t⟩:Lean.Term)with|`(-$s)=>`(Lean.Parser.Tactic.rwRule|←$s:term)|s=>`(Lean.Parser.Tactic.rwRule|$s:term)
                                   `(by rw[$a,*];exact $e)
def CVP:Nat→Lean.Term→Lean.MacroM (Lean.TSyntax `rcasesPat)
|0,_=>Lean.Macro.throwUnsupported
|n+1,t=>do match t with
  |`(⟨$x,*⟩)=>let a←x.getElems.mapM λt=>do`(Lean.Parser.Tactic.rcasesPatLo|$(←CVP n t):rcasesPat)
              `(rcasesPat|⟨$a,*⟩)
  |`($i:ident)=>`(rcasesPat|$i:ident)
  |`(_)=>`(rcasesPat|_)
  |_=>Lean.Macro.throwUnsupported
def RN(x:Lean.Syntax):Lean.Syntax:=if x.getId=`rfl then Lean.mkIdent (.num `r (x.getPos?.getD 0).byteIdx)else x
def HR:Nat→Lean.Syntax→Array Lean.Ident
|0,_=>#[]
|n+1,s=>if s.getId=`rfl then#[⟨RN s⟩]else s.getArgs.flatMap (HR n)
theorem GL {p:Prop}(h:let q:Prop:=p;q):p:=h
local macro_rules|`(tactic|let $d:letDecl)=>`(tactic|have $d:letDecl)
local macro_rules|`(tactic|let $p:term:=$e)=>do match p with|`(⟨$x,*⟩)=>if x.getElems.size<3 then`(tactic|obtain $(←CVP 9 p):rcasesPat:=$e)else let n:=HR 9 p;let o←n.mapM λn=>`(tactic|obtain $(Lean.mkIdent `rfl):ident:=$n);let o:=#[←`(tactic|refine GL ?_),←`(tactic|intro q),←`(tactic|obtain $(←CVP 9 ⟨p.raw.rewriteBottomUp RN⟩):rcasesPat:=$e),←`(tactic|subst q)]++o;`(tactic|($[$o]*))|_=>Lean.Macro.throwUnsupported
local macro_rules|`(∅)=>`(by omega)
local macro_rules|`(⋯)=>`(by decide)
local macro_rules|`(tactic|omega)=>`(tactic|lia)
local macro_rules|`($a\$b)=>`($a=some $b)
local macro_rules|`($a^$b)=>match b.raw.isNatLit? with|some _=>Lean.Macro.throwUnsupported|_=>`($a _ _ $b)
local macro_rules|`(↥$s)=>`(($s).heap.objs.size)
local macro_rules|`(#v[$x,*])=>do let a←x.getElems.mapM λe=>do if e.raw.isOfKind `coeNotation||e.raw.isOfKind ``Lean.Parser.Term.dotIdent||e.raw[0].isOfKind ``Lean.Parser.Term.dotIdent then`(some $e)else pure e
                                  `([$a,*])
local macro_rules|`($s<*$h)=>`({ $s with heap:=$h })
local macro_rules|`(⇑$s)=>`(($s).length)
local macro_rules|`(↑$s)=>`(.ref $s)
local macro_rules|`(tactic|trivial)=>`(tactic|first|exact .inl rfl|exact .inr rfl|exact .inr (.inl rfl)|exact .inr (.inr rfl)|assumption)
local macro_rules|`(tactic|cbv)=>`(tactic|grind -abstractProof)
local macro_rules|`(tactic|ext $p*)=>match p with|#[]=>`(tactic|omega)|_=>let i:Lean.Ident:=⟨p[0]!.raw[0][0]⟩;`(tactic|cases $i:ident)
local macro_rules|`($a:str>>>$b)=>`({ cls:=.type $a,data:=$b })
local macro_rules|`($x⁻¹)=>`(PySem.wpAny (PySem.model ($x).prog ($x).w))
local macro_rules|`($x<|>$y)=>`(PySem.wpAny (PySem.model $x $y))
local macro_rules|`(universe $x*)=>do return Lean.mkNullNode (←x.mapM λi=>do return(←`(command|def $i:ident:=Nat)).raw)
local macro_rules|`(tactic|cases $h:ident:$p)=>`(tactic|by_cases $h:ident:$p)
local macro_rules|`(tactic|change $t$[$l]?)=>match t with|`($e=$x:ident)=>`(tactic|generalize $e:term=$x:ident$[$l]?)|_=>Lean.Macro.throwUnsupported
local macro_rules|`($s•$b)=>`(($s).heap.get? $b)
local macro_rules|`(~~~$n)=>`(List.range $n)
abbrev Zg:=List Int
abbrev Zh:=List Nat
abbrev Zi:=Option Nat
abbrev Zj:=Option Int
abbrev Zk:=List PySem.Value
abbrev Zl:=Option PySem.Value
abbrev Zm:=Array PySem.Value
abbrev Zn:=List PySem.Addr
abbrev Zo:=Option PySem.Addr
abbrev Zp:=List PySem.Str
abbrev Zq:=List PySem.Env
abbrev Zr:=List PySem.Expr
abbrev Zs:=PySem.Addr
abbrev Zt:=PySem.Value
abbrev Zu:=PySem.Shared
abbrev Za0:=@Option.some.inj
abbrev Za1:=PySem.W.Frag
abbrev Za2:=Nat->Int->Nat->Prop
abbrev Za3:=List Zg
def Za4 (n:Nat)(h:n<=PySem.sizeLine:=by decide):n<=PySem.sizeLine:=h
abbrev aiK:=@PySem.wpAny_bind
abbrev aiL:=@List.getElem?_eq_getElem
abbrev aiM:=@PySem.Heap.get?_push_of_some
abbrev aiN:=@List.mem_of_getElem?
abbrev aiO:=@List.getElem?_eq_some_iff
abbrev aiP:=@List.length_append
abbrev aiQ:=@List.length_map
abbrev aiR:=@List.mem_singleton
abbrev aiS:=@Nat.le_refl
abbrev aiT:=@List.getD_eq_getElem?_getD
abbrev aiU:=@PySem.wpAny_pure
abbrev aiV:=@List.mem_append_right
abbrev aiW:=@Nat.lt_of_le_of_lt
abbrev aiX:=@PySem.F.plainAttrs_list
abbrev aiY:=@List.mem_append
abbrev aiZ:=@List.getElem?_append_left
abbrev ai0:=@Nat.le_trans
abbrev ai1:=@List.getElem?_append_right
abbrev ai2:=@PySem.Heap.get?_push_size
abbrev ai3:=@List.mem_cons
abbrev ai4:=@PySem.F.slot_list_append
abbrev ai5:=@PySem.F.type_list_append
abbrev ai6:=@List.getElem?_map
abbrev ai7:=@List.mem_cons_self
abbrev ai8:=@List.size_toArray
abbrev ai9:=@PySem.Heap.lt_size
abbrev aja:=@of_decide_eq_true
abbrev ajb:=@if_neg
abbrev ajc:=@PySem.PassesOwn.never
abbrev ajd:=@beq_eq_false_iff_ne
abbrev aje:=@decide_eq_true
abbrev ajf:=@List.length_cons
abbrev ajg:=@if_pos
abbrev ajh:=@List.mem_append_left
abbrev aji:=@List.length_set
abbrev ajj:=@Nat.zero_le
abbrev ajk:=@Nat.lt_of_lt_of_le
abbrev ajl:=@PySem.boot_len
abbrev ajm:=@Nat.ne_of_lt
abbrev ajn:=@List.map_append
abbrev ajo:=@List.mem_cons_of_mem
abbrev ajp:=@List.append_nil
abbrev ajq:=@Int.toNat_natCast
abbrev ajr:=@List.nodup_cons
abbrev ajs:=@List.length_take
abbrev ajt:=@decide_eq_true_iff
abbrev aju:=@List.getElem?_eq_none
abbrev ajv:=@List.getElem?_set_self
abbrev ajw:=@List.map_map
abbrev ajx:=@decide_eq_false
abbrev ajy:=@List.append_assoc
abbrev ajz:=@List.mem_map
abbrev ajA:=@List.not_mem_nil
abbrev ajB:=@PySem.Heap.get?_update_self
abbrev ajC:=@PySem.Heap.get?_update_other
abbrev ajD:=@Bool.false_ne_true
abbrev ajE:=@PyProof.Rows.boot_isinstance
abbrev ajF:=@List.nodup_append
abbrev ajG:=@List.getElem?_of_mem
abbrev ajH:=@PyProof.Rows.callWith_type1
abbrev ajI:=@List.mem_range
abbrev ajJ:=@PySem.wpAny_newObj_type
abbrev ajK:=@List.length_range
abbrev ajL:=@PySem.Calls.spliced_cons
abbrev ajM:=@List.length_drop
abbrev ajN:=@List.map_congr_left
abbrev ajO:=@List.getElem?_set_ne
abbrev ajP:=@PySem.wpAny_holding
abbrev ajQ:=@Bool.eq_iff_iff
abbrev ajR:=@Ne.symm
abbrev ajS:=@PySem.wpAny_field
abbrev ajT:=@congrArg
abbrev ajU:=@PySem.Calls.callWith_builtin
abbrev ajV:=@Option.map_eq_some_iff
abbrev ajW:=@PyProof.Rows.slot_tuple_getitem
abbrev ajX:=@PySem.wpAny_Call_Name_kw
abbrev ajY:=@List.length_singleton
abbrev ajZ:=@PySem.wpAny_mono
abbrev aj0:=@List.map_cons
abbrev aj1:=@PySem.wpAny_setField_rec
abbrev aj2:=@Nat.ne_of_gt
abbrev aj3:=@PySem.wpAny_callSpecial?_slot
abbrev aj4:=@PySem.F.plainAttrs_dict
abbrev aj5:=@Int.emod_lt_of_pos
abbrev aj6:=@PyProof.Rows.boot_list
abbrev aj7:=@PySem.W.kia_one
abbrev aj8:=@List.nodup_nil
abbrev aj9:=@List.range_succ
abbrev aka:=@Nat.lt_irrefl
abbrev akb:=@PySem.wpAny_call_entry
abbrev akc:=@Nat.lt_succ_self
abbrev akd:=@List.eq_nil_of_length_eq_zero
abbrev ake:=@List.cons_append
abbrev akf:=@PySem.Heap.SameBut.update
abbrev akg:=@PySem.Calls.spliced_nil
abbrev akh:=@Option.isSome_iff_exists
abbrev aki:=@Array.getElem?_toList
abbrev akj:=@Nat.lt_succ_of_lt
abbrev akk:=@PySem.Obj.data_mapFields
abbrev akl:=@Int.emod_nonneg
abbrev akm:=@List.length_nil
abbrev akn:=@PyProof.Rows.boot_tuple
abbrev ako:=@PySem.Calls.evalArgs_plain
abbrev akp:=@PySem.codeAny_call_builtin
abbrev akq:=@List.take_length
abbrev akr:=@List.mem_flatMap
abbrev aks:=@Array.getElem?_eq_some_iff
abbrev akt:=@PySem.wpAny_truthy_bool
abbrev aku:=@List.ext_getElem?
abbrev akv:=@Int.neg_neg
abbrev akw:=@List.pairwise_map
abbrev akx:=@PySem.Heap.size_push
abbrev aky:=@List.mem_filter
abbrev akz:=@Nat.le_of_lt
abbrev akA:=@PySem.F.slot_dict_get
abbrev akB:=@PySem.tupleKind_room_in1
abbrev akC:=@Bool.and_eq_true
abbrev akD:=@List.mem_iff_getElem
abbrev akE:=@List.dropLast_concat_getLast
abbrev akF:=@PySem.F.slot_dict_setdefault
abbrev akG:=@List.take_succ
abbrev akH:=@Nat.sub_self
abbrev akI:=@Array.length_toList
abbrev akJ:=@PySem.mem_of_lookup
abbrev akK:=@List.replicate_succ
abbrev akL:=@List.mem_map_of_mem
abbrev akM:=@List.filter_sublist
abbrev akN:=@List.take_of_length_le
abbrev akO:=@or_false
abbrev akP:=@PySem.F.slot_tuple_iterator_next
abbrev akQ:=@PySem.F.excBase_ValueError
abbrev akR:=@PySem.Obj.isFreed_of_fields
abbrev akS:=@List.length_filter_le
abbrev akT:=@PySem.wpAny_setField
abbrev akU:=@List.mem_or_eq_of_mem_set
abbrev akV:=@List.drop_eq_getElem_cons
abbrev akW:=@List.getElem?_eq_none_iff
abbrev akX:=@Nat.mul_le_mul_right
abbrev akY:=@PySem.wpAny_execs_nil
abbrev akZ:=@PySem.wpAny_passesOwn
abbrev ak0:=@PySem.wpAny_pyIter_list
abbrev ak1:=@List.getElem?_take_of_lt
abbrev ak2:=@PySem.wpAny_Call_method
abbrev ak3:=@PySem.wpAny_loadPart'
abbrev ak4:=@not_false_eq_true
abbrev ak5:=@List.length_erase_of_mem
abbrev ak6:=@Nat.min_eq_left
abbrev ak7:=@PySem.codeAny_mono
abbrev ak8:=@PySem.wpAny_typeOf
abbrev ak9:=@PySem.call_meetsIn
abbrev ala:=@PySem.plainId_quiet
abbrev alb:=@PySem.F.slot_dict_itemiterator_next
abbrev alc:=@PySem.F.plain_min_loop
abbrev ald:=@PySem.wpAny_call
abbrev ale:=@PySem.F.entry_dict_get
abbrev alf:=@List.find?_cons_of_neg
abbrev alg:=@PySem.W.callWith_K
abbrev alh:=@PySem.F.slot_dict_keyiterator_next
abbrev ali:=@List.nil_append
abbrev alj:=@List.find?_cons
abbrev alk:=@PySem.F.slot_dict_pop
abbrev alm:=@PySem.wpAny_notOrdered_dict
abbrev aln:=@PySem.wpAny_updateSeq
abbrev alp:=@List.flatten_cons
abbrev alq:=@PySem.wpAny_dictEntries
abbrev alr:=@List.foldl_append
abbrev als:=@Decidable.not_not
abbrev alu:=@PySem.wpAny_loadPart_at
abbrev alv:=@PySem.Around.under_plainId
abbrev alw:=@PySem.wpAny_seqItems
abbrev alx:=@Classical.byContradiction
abbrev aly:=@Nat.mul_le_mul
abbrev alz:=@Nat.min_eq_right
abbrev alA:=@Nat.max_eq_right
abbrev alB:=@PySem.W.hideAll_get
abbrev alC:=@List.getElem?_range
abbrev alD:=@List.flatMap_append
abbrev alE:=@beq_iff_eq
abbrev alF:=@Nat.le_of_eq
abbrev alG:=@PySem.F.args_tuple_add_2
abbrev alH:=@PySem.call_meets
abbrev alI:=@Nat.lt_trans
abbrev alJ:=@Nat.lt_or_ge
abbrev alK:=@Nat.le_total
abbrev alL:=@List.Pairwise.imp_of_mem
abbrev alM:=@PySem.wpAny_standAt
abbrev alN:=@List.mem_filterMap
abbrev alO:=@PySem.F.entry_tuple_add
abbrev alP:=@Bool.or_eq_true
abbrev alQ:=@PySem.codeAny_builtin
abbrev alR:=@Bool.false_eq_true
abbrev alS:=@PySem.wpAny_ite_split
abbrev alT:=@Nat.max_eq_left
abbrev alU:=@List.filter_cons_of_pos
abbrev alV:=@PySem.W.cellsFrom_some
abbrev alW:=@PySem.F.slot_tuple_add
abbrev alX:=@List.find?_cons_of_pos
abbrev alY:=@Option.map_eq_none_iff
abbrev alZ:=@List.pairwise_lt_range
abbrev al0:=@PySem.wpAny_rule
abbrev al1:=@Nat.le_succ
abbrev al3:=@PySem.wpAny_letGo
abbrev al6:=@List.filter_congr
abbrev al7:=@List.getElem?_inj
abbrev al8:=@Nat.add_mul
abbrev al9:=@List.findIdx_cons
abbrev ama:=@Nat.lt_of_succ_lt
abbrev amb:=@if_false
abbrev amc:=@PySem.wpAny_tryCatch
abbrev amd:=@List.lookup_cons
abbrev ame:=@List.any_eq_true
abbrev amf:=@List.nodup_range
abbrev amg:=@List.drop_length
abbrev amh:=@if_true
namespace Lake
namespace L2
open PySem PySem.Spec PyProof.Rows
abbrev Key:=Sum Int Str
abbrev Zd:=List Key
noncomputable def sO:Key->Zt->Bool
 |.inl k,v=>Value.isInt k v
 |.inr x,v=>Value.isStrOf x v
noncomputable def aaG (w:World):Key->Int
 |.inl k=>hashInt k
 |.inr x=>hashStr w x
theorem eA:∀{k:Key} {v:Zt},sO k v=true->(∃i t,k=Sum.inl i/\v=Value.int i t)\/(∃x t,k=Sum.inr x/\v=Value.str x t)
 |.inl i,v,h=>by
  let⟨t,e⟩:=Value.isInt_shape (k:=i) (v:=v) h;rwa[.inl ⟨i,t,2,e⟩]
 |.inr x,v,h=>by
  let⟨t,e⟩:=Value.isStrOf_shape (x:=x) (v:=v) h;rwa[.inr ⟨x,t,2,e⟩]
def Hl (i:Int)(t:Tok):sO (.inl i) (.int i t)=true:=by simp[sO,Value.isInt]
def Hm (x:Str)(t:Tok):sO (.inr x) (.str x t)=true:=by simp[sO,Value.isStrOf]
def Q0 (a b:Int):decide ((Sum.inl a:Key)=Sum.inl b)=(a==b):=by
 cbv
def Q5 (a b:Str):decide ((Sum.inr a:Key)=Sum.inr b)=decide (a=b):=by
 cbv
def Q6 (a:Int)(b:Str):decide ((Sum.inl a:Key)=Sum.inr b)=false:=ajx (λq=>nomatch q)
def Q7 (a:Str)(b:Int):decide ((Sum.inr a:Key)=Sum.inl b)=false:=ajx (λq=>nomatch q)
def bY (c:Program)(w:World):PySem.KeyKind c w Key where
 is:=sO
 hash:=aaG w
 inj:=λv a b l f=>by
  rcases eA l with ⟨i,t,rfl,rfl⟩|⟨x,t,rfl,rfl⟩
  ·rcases eA f with ⟨j,u,rfl,e⟩|⟨y,u,rfl,e⟩
   ·cbv
   cbv
  ·rcases eA f with ⟨j,u,rfl,e⟩|⟨y,u,rfl,e⟩
   ·rwa[nomatch e]
   cbv
 byValue:=λk v h=>by
  rcases eA h with ⟨i,t,rfl,rfl⟩|⟨x,t,rfl,rfl⟩ <;> rfl
 pyHash:=λd h=>by
  rcases eA d with ⟨i,t,rfl,rfl⟩|⟨x,t,rfl,rfl⟩
  ·rwa[wpAny_pyHash_int h]
  ·rwa[wpAny_pyHash_str h]
 eqBool:=λm d h=>by
  rcases eA m with ⟨i,t,rfl,rfl⟩|⟨x,t,rfl,rfl⟩
  ·rcases eA d with ⟨j,u,rfl,rfl⟩|⟨y,u,rfl,rfl⟩
   ·rw[Q0]at h;rwa[wpAny_eqBool_int h]
   ·rw[Q6]at h;rwa[SeqAt.EqAt.int_str i t y u _ _ _ _ h]
  ·rcases eA d with ⟨j,u,rfl,rfl⟩|⟨y,u,rfl,rfl⟩
   ·rw[Q7]at h;rwa[SeqAt.EqAt.str_int x t j u _ _ _ _ h]
   ·rw[Q5]at h;rwa[wpAny_eqBool_str h]
 «strs»:=λk x t v h=>by
  rcases eA h with ⟨i,u,rfl,e⟩|⟨y,u,rfl,e⟩
  ·rwa[nomatch e]
  ·injection e with g _
   subst g;cases v <;> rfl
def DF (a:Program)(w:World)(i:Int)(t:Tok):(bY a w).is (.inl i) (.int i t)=true:=Hl i t
def DG (a:Program)(w:World)(x:Str)(t:Tok):(bY a w).is (.inr x) (.str x t)=true:=Hm x t
end L2
variable {n m i j:Nat}{a b c d:PySem.Addr}{z y:Int}{v u:PySem.Value}{x f:PySem.Str}{e:PySem.Expr}{p:PySem.Pos}{K:Za1}{Q E:PySem.Value->PySem.Shared->Prop}{s:PySem.Shared}{P:PySem.Program}{w:PySem.World}{h g:PySem.Heap}{R:Za2}{A:PySem.Around}{o:List (PySem.Addr×PySem.Obj)}{M:PySem.Str->Option PySem.Value}{l:Zg}{N:List PySem.Value}{B:Zh}{W:Za3}{U:Unit->PySem.Shared->Prop}{C:List PySem.Expr}{F:List PySem.Addr}{Z:List PySem.Str}
namespace L2
open PySem PySem.Spec PyProof.Rows
inductive V where
 |non|bl (b:Bool)|int (i:Int)|str (x:Str)|nB (b:Array UInt8)|Aw (b:UInt64)|ref (a:Zs)|ty (n:String)
 deriving DecidableEq
abbrev Zc:=Option V
abbrev Zb:=List V
def RelV:V->Zt->Prop
 |.non,u=>u=Value.none
 |.bl b,u=>u=Value.bool b
 |.int i,u=>∃t,u=Value.int i t
 |.str x,u=>∃t,u=Value.str x t
 |.nB b,u=>∃t,u=Value.bytes b t
 |.Aw b,u=>∃t,u=Value.float b t
 |.ref a,u=>u=Value.ref a
 |.ty n,u=>u=Value.type n
abbrev Vals:Zb->Zk->Prop:=Paired RelV
def Vals.length {xs:Zb}{us:Zk}(r:Vals xs us):⇑xs=⇑us:=Paired.length r
theorem Vals.get:∀{b:Zb} {a:Zk} {i:Nat} {x:V},Vals b a->b[i]?\x->∃u,a[i]?\u/\RelV x u
 |_,_,_,_,.nil,e=>by simp at e
 |_,_,0,_,.cons r _,e=>by simp at e;subst e;rwa[12,r]
 |_,_,i+ 1,x,.cons _ t,e=>by
  let⟨u,d,c⟩:=Vals.get (i:=i) (x:=x) t (by simpa using e);rwa[u,by simpa using d,c]
theorem Vals.set {x:V}(r:RelV x u):∀{xs:Zb} {us:Zk} (i:Nat),Vals xs us->Vals (xs.set i x) (us.set i u)
 |_,_,_,.nil=>.nil
 |_,_,0,.cons _ t=>.cons r t
 |_,_,i+ 1,.cons q t=>.cons q (Vals.set r i t)
theorem Vals.append:∀{a ys:Zb} {b ws:Zk},Vals a b->Vals ys ws->Vals (a++ys) (b++ws)
 |_,_,_,_,.nil,s=>s
 |_,_,_,_,.cons r t,s=>.cons r (Vals.append t s)
theorem Vals.take:∀{xs:Zb} {us:Zk} (n:Nat),Vals xs us->Vals (xs.take n) (us.take n)
 |_,_,0,_=>.nil
 |_,_,_+ 1,.nil=>.nil
 |_,_,n+ 1,.cons r t=>.cons r (Vals.take n t)
theorem Vals.drop:∀{xs:Zb} {us:Zk} (n:Nat),Vals xs us->Vals (xs.drop n) (us.drop n)
 |_,_,0,r=>r
 |_,_,_+ 1,.nil=>.nil
 |_,_,n+ 1,.cons _ t=>Vals.drop n t
def eT:Zc->Zl->Prop
 |some v,some u=>RelV v u
 |none,none=>True
 |_,_=>False
def KV {a:Type}:List (a×V)->List (a×Zt)->Prop:=Paired λ(p:a×V) (q:a×Zt)=>p.1=q.1/\RelV p.2 q.2
noncomputable def kV:Key->V
 |.inl i=>.int i
 |.inr x=>.str x
inductive HO where
 /-- a list -/
 |lst (xs:Zb)
 /-- a tuple (never changes) -/
 |tup (xs:Zb)
 /-- a dict whose keys are ints and texts;one whose keys are tuples of ints and texts (the empty one is both) -/
 |dK (kvs:List (Key×V))|dT (kvs:List (Zd×V))
 /-- a set of ints:its members,its size -/
 |set (S:Int->Bool) (n:Nat)
 /-- an instance of the class at C,its dict at dx,its attributes -/
 |ins (C dx:Zs) (fs:List (Str×V))
 /-- the dict of the instance at x -/
 |own (x:Zs)
 /-- the dict of an exception -/
 |xd (fs:List (Str×V))
 /-- a bound method,f of x -/
 |met (f x:Zs)
 /-- a range object lo,lo+ 1,.. below hi -/
 |fH (lo hi:Int)
 /-- a thing that is known to the object (the script;a dict while a loop walks it):read,never written while it is so -/
 |cz (o:Obj) (u:HO)
 /-- a code object's table -/
 |fI (ps:Zm)
 /-- any other thing,by what is true of its one object (a def of ahk own:ahu a S n:=HO.ext λh=>..) -/
 |ext (φ:Heap->Prop)
abbrev Hp:=Zs->Option HO
noncomputable def upd (H:Hp)(a:Zs)(o:HO):Hp:=λb=>if b=a then some o else H b
def aj {H:Hp}{o:HO}:upd H a o a\o:=by unfold upd;cbv
def ak {H:Hp}{o:HO}(h:b≠a):upd H a o b=H b:=by unfold upd;rw[ajb h]
def Pg {H:Hp}{o u:HO}:upd (upd H a o) a u=upd H a u:=by
 funext b;unfold upd;cbv
def cf {H:Hp}{o u:HO}(h:H a\o)(c:H b\u)(d:o≠u):a≠b:=by
 cbv
def aw {H:Hp}{o:HO}(h:H a\o)(c:H b=none):a≠b:=by
 cbv
section
variable (P:Program) (w:World)
def b9 (H:Hp)(h:Heap)(a:Zs):HO->Prop
 |.lst xs=>⇑xs<=sizeLine/\∃(c:Zk) (n:Nat),Vals xs c/\h.get? a\("list">>>.seq c.toArray n)
 |.tup xs=>⇑xs<=sizeLine/\∃c:Zk,Vals xs c/\IsTup h a c.toArray
 |.dK b=>⇑b<=sizeLine/\(a==sysModules)=false/\∃j,KV b j/\h.DictOf (bY P w) a j
 |.dT b=>⇑b<=sizeLine/\(a==sysModules)=false/\∃xs:List (Zd×Zs×Zt),
  Paired (λ(p:Zd×V) (q:Zd×Zs×Zt)=>p.1=q.1/\H q.2.1\.tup (p.1.map kV)/\RelV p.2 q.2.2) b xs/\
  ∃o l s,h.get? a\o/\o.ExactDict/\o.data=.dict l s/\l.toList=xs.map (entryOfKey (tupleKind (bY P w)))/\(xs.map (·.1)).Nodup
 |.set S n=>h.SetOf (intKind P w) a S n
 |.ins C e fs=>H e\.own a/\⇑fs<=1000/\e≠a/\h.get? a\PySem.W.instObj C e/\
  ∃d,h.Ns1 e d/\(∀f,eT (fs.lookup f) (d f))/\PySem.Within d (fs.map (·.1))
 |.own _=>∃o,h.get? a\o
 |.xd fs=>∃d,h.Ns1 a d/\∀f,eT (fs.lookup f) (d f)
 |.fH lo r=>∃t u v,h.get? a\("range">>>.fields #[.int lo t,.int r u,.int 1 v])
 |.cz o u=>h.get? a\o/\b9 H h a u
 |.fI m=>h.get? a\{ cls:=.none,data:=.fields m }
 |.met f x=>h.get? a\(PySem.W.methodObj ↑f ↑x)
 |.ext g=>g h/\(∃o,h.get? a\o)/\∀k i:Heap,g k->(∀o,k.get? a\o->i.get? a\o)->g i
def dC (H:Hp)(h:Heap):Prop:=∀a o,H a\o->b9 P w H h a o
end
section
variable {P:Program}{w:World}{H H':Hp}{h h':Heap}{a:Zs}{o:HO}
def b9.lt (x:b9 P w H h a o):a<h.objs.size:=by
 cases o with
 |lst c=>let⟨_,_,_,_,e⟩:=x;rwa[ai9 e]
 |tup c=>let⟨_,_,_,p⟩:=x;rwa[p.lt]
 |dK b=>let⟨_,_,_,_,o,_,_,e,_⟩:=x;rwa[ai9 e]
 |dT b=>let⟨_,_,_,_,o,_,_,e,_⟩:=x;rwa[ai9 e]
 |set S n=>let⟨o,_,_,_,e,_⟩:=x;rwa[ai9 e]
 |ins C dx fs=>let⟨_,_,_,e,_⟩:=x;rwa[ai9 e]
 |own y=>let⟨_,e⟩:=x;rwa[ai9 e]
 |xd fs=>let⟨_,⟨_,_,_,e,_⟩,_⟩:=x;rwa[ai9 e]
 |fH lo i=>let⟨_,_,_,e⟩:=x;rwa[ai9 e]
 |cz ob u=>let⟨e,_⟩:=x;rwa[ai9 e]
 |fI d=>exact ai9 (show h.get? a=some _ from x)
 |met f y=>exact ai9 (show h.get? a=some _ from x)
 |ext g=>let⟨_,⟨_,e⟩,_⟩:=x;rwa[ai9 e]
theorem Paired.KC {g e:Type}{F G:g->e->Prop}:∀{c:List g} {d:List e},Paired F c d->(∀a b,F a b->G a b)->Paired G c d
 |_,_,.nil,_=>.nil
 |_,_,.cons r t,f=>.cons (f^r) (Paired.KC t f)
def b9.fE (x:b9 P w H h a o)(k:∀b u,(b=a\/H b\.own a)->h.get? b\u->h'.get? b\u)
 (G:∀b,H b\.own a->H' b\.own a) (D:∀b l,H b\.tup l->H' b\.tup l):b9 P w H' h' a o:=by
 induction o with
 |lst l=>let⟨z,j,n,r,e⟩:=x;rwa[z,j,n,r,k _ _ (.inl rfl) e]
 |tup l=>let⟨z,j,r,ob,e,c⟩:=x;rwa[z,j,r,ob,k _ _ (.inl rfl) e,c]
 |dK m=>let⟨z,y,E,r,ob,g,i,e,c⟩:=x;rwa[z,y,E,r,ob,g,i,k _ _ (.inl rfl) e,c]
 |dT m=>
  let⟨z,y,l,r,ob,g,i,e,c⟩:=x;rwa[z,y,l,Paired.KC r λp q z=>⟨z.1,D^z.2.1,z.2.2⟩,ob,g,i,k _ _ (.inl rfl) e,c]
 |set S n=>let⟨ob,g,i,t,e,c⟩:=x;rwa[ob,g,i,t,k _ _ (.inl rfl) e,c]
 |ins C dx fs=>
  let⟨d,z,ne,e,s,⟨A,g,i,F,c⟩,r⟩:=x;rwa[G _ d,z,ne,k _ _ (.inl rfl) e,s,⟨A,g,i,k _ _ (.inr d) F,c⟩,r]
 |own y=>let⟨ob,e⟩:=x;rwa[ob,k _ _ (.inl rfl) e]
 |xd fs=>let⟨s,⟨A,g,i,e,c⟩,r⟩:=x;rwa[s,⟨A,g,i,k _ _ (.inl rfl) e,c⟩,r]
 |fH lo L=>let⟨t,u,v,e⟩:=x;rwa[t,u,v,k _ _ (.inl rfl) e]
 |cz ob u I=>let⟨e,q⟩:=x;rwa[k _ _ (.inl rfl) e,I q]
 |fI B=>
  let e:h.get? a\{ cls:=.none,data:=.fields B }:=x;show h'.get? a\{ cls:=.none,data:=.fields B };rwa[k a _ (.inl rfl) e]
 |met f y=>
  let e:h.get? a\(PySem.W.methodObj ↑f ↑y):=x;show h'.get? a\PySem.W.methodObj ↑f ↑y;rwa[k a _ (.inl rfl) e]
 |ext J=>let⟨p,⟨o,e⟩,st⟩:=x;rwa[st _ _ p λo q=>k _ _ (.inl rfl) q,⟨o,k _ _ (.inl rfl) e⟩,st]
def dC.lt (x:dC P w H h)(e:H a\o):a<h.objs.size:=(x a o e).lt
def dC.fresh (x:dC P w H h)(e:h.objs.size<=a):H a=none:=by
 cases q:H a with
 |none=>rfl
 |some u=>exact absurd (ajk (x.lt q) e) (aka _)
def dC.kept (x:dC P w H h)(k:∀b u,h.get? b\u->h'.get? b\u):dC P w H h':=λa o e=>
 (x a o e).fE (λb u _ q=>k b u q) (λ_ q=>q) λ_ _ q=>q
def dC.laid (x:dC P w H h)(k:∀b u,h.get? b\u->h'.get? b\u)(g:h.objs.size<=a)(new:b9 P w (upd H a o) h' a o):dC P w (upd H a o) h':=λb u e=>by
 let f:=x.fresh g;cases d:b=a
 ·subst d;rw[aj]at e;cbv
 ·rw[ak d]at e;rwa[(x b u e).fE (λc v _ q=>k c v q) (λc q=>[ak (aw q f)]▸q) λc i q=>[ak (aw q f)]▸q]
end
def Rd (H:Hp)(a:Zs)(u:HO):Prop:=H a\u\/∃o,H a\(.cz o u)
def Rd.ok {H:Hp}{u:HO}(r:Rd H a u)(x:dC P w H h):b9 P w H h a u:=by
 rcases r with r|⟨o,r⟩
 ·rwa[x a u r]
 ·let⟨_,q⟩:=x a _ r;rwa[q]
def tN:Option HO->Prop
 |some (.lst _)=>True
 |some (.dK _)=>True
 |some (.dT _)=>True
 |some (.set _ _)=>True
 |some (.ins _ _ _)=>True
 |some (.ext _)=>True
 |_=>False
section
variable {P:Program}{w:World}{H:Hp}{h h':Heap}{x e:Zs}{o':HO}
def dC.write (ok:dC P w H h)(mu:tN (H x))(l:e=x\/H e\.own x)(k:∀b u,b≠e->h.get? b\u->h'.get? b\u)(g:∃u,h'.get? e\u)
 (new:b9 P w (upd H x o') h' x o'):dC P w (upd H x o') h':=λb u q=>by
 let a:∀c y,H c\.own y->c≠x:=λc y r z=>by subst z;rw[r]at mu;rwa[mu]
 let jm:∀c d,H c\.tup d->c≠x:=λc d r z=>by subst z;rw[r]at mu;rwa[mu]
 cases i:b=x
 ·subst i;rw[aj]at q;cbv
 ·rw[ak i]at q;cases f:b=e
  ·let j:H b\(.own x):=by
    rcases l with z|z
    ·cbv
    ·rw[f];rwa[z]
   rw[q]at j;ext j;let⟨v,m⟩:=g;rwa[v,by cbv]
  ·refine(ok b u q).fE (λc v hc r=>k c v ?_ r) (λc r=>[ak (a c b r)]▸r) λc d r=>by rw[ak (jm c d r)];rwa[r]
   cbv
end
structure Un (fs ex:Zn) (H H':Hp) (h h':Heap):Prop where
 keep:∀b o,h.get? b\o->H b=none->b∉fs->b∉ex->h'.get? b\o
 slot:∀b o,h.get? b\o->H b=none->b∈fs->b∉ex->∃sl,h'.get? b\{ o with slots:=sl }
 free:∀b o,h.get? b\o->H b=none->b∉ex->H' b=none
 there:∀b o,h.get? b\o->b∉ex->∃o',h'.get? b\o'
 iq:∀b xs,H b\.tup xs->H' b\(.tup xs)
 gQ:∀b o u,H b\.cz o u->H' b\(.cz o u)
 iw:∀b ps,H b\.fI ps->∃more,H' b\(.fI (ps++more))
section
variable {fs ex:Zn}{H H1:Hp}{h h1 h':Heap}{a x e:Zs}{o:HO}
def Un.any (u:Un fs ex H H1 h h1){b:Zs}{ob:Obj}(q:h.get? b\ob)(n:H b=none)(d:b∉ex):∃sl,h1.get? b\{ ob with slots:=sl }:=by
 cases c:b∈fs
 ·rwa[u.slot b ob q n c d]
 ·rwa[ob.slots,u.keep b ob q n c d]
def Un.kept (k:∀b u,h.get? b\u->h'.get? b\u):Un fs ex H H h h':=
 ⟨λb ob q _ _ _=>k b ob q,λb ob q _ _ _=>⟨ob.slots,k b ob q⟩,λ_ _ _ n _=>n,λb ob q _=>⟨ob,k b ob q⟩,λ_ _ q=>q,λ_ _ _ q=>q,λ_ c q=>⟨#[],by rw[q];simp⟩⟩
def Un.refl:Un fs ex H H h h:=Un.kept λ_ _ q=>q
def Un.laid (k:∀b u,h.get? b\u->h'.get? b\u)(d:h.objs.size<=a)(c:H a=none):Un fs ex H (upd H a o) h h' where
 keep:=λb u q _ _ _=>k b u q
 slot:=λb u q _ _ _=>⟨u.slots,k b u q⟩
 free:=λb u q n _=>by rw[ak (ajm (ajk (ai9 q) d))];rwa[n]
 there:=λb u q _=>⟨u,k b u q⟩
 iq:=λb f q=>by rw[ak (aw q c)];rwa[q]
 gQ:=λb u f q=>by rw[ak (aw q c)];rwa[q]
 iw:=λb g q=>⟨#[],by rw[ak (aw q c),q];simp⟩
def Un.write (mu:tN (H x))(l:e=x\/H e\.own x)(k:∀b u,b≠e->h.get? b\u->h'.get? b\u)(g:∃u,h'.get? e\u):Un fs ex H (upd H x o) h h':=by
 let i:∀b,H b=none->b≠x:=λb n z=>by subst z;rw[n]at mu;rwa[mu]
 let d:∀b,H b=none->b≠e:=λb n z=>by
  cbv
 let c:∀b u,H b\u->¬tN (some u)->b≠x:=λb u q nm z=>by cbv
 rwa[⟨λb u q n _ _=>k b u (d b n) q,λb u q n _ _=>⟨u.slots,k b u (d b n) q⟩,λb u q n _=>[ak (i b n)]▸n,λb u q _=>?_,λb f q=>[ak (c b _ q λz=>z)]▸q,λb u f q=>[ak (c b _ q λz=>z)]▸q,λb j q=>⟨#[],by rw[ak (c b _ q λz=>z),q];simp⟩⟩]
 cbv
end
noncomputable def MZ (h:Heap)(H:Hp):Zn:=(~~~h.objs.size).filter λa=>(H a).isSome
def pR (h:Heap)(H:Hp):Heap:=PySem.W.hideAll h (MZ h H)
def Hn (h:Heap)(H:Hp):(pR h H).objs.size=h.objs.size:=PySem.W.hideAll_size _ _
def uv {H:Hp}{o:Obj}(e:h.get? b\o)(n:H b=none):(pR h H).get? b\o:=
 alB _ e λa=>by
  let q:(H b).isSome=true:=(aky.mp a).2
  cbv
def Ph {H:Hp}{o:Obj}(e:(pR h H).get? b\o):h.get? b\o/\H b=none:=by
 let a:h.get? b\o:=PySem.W.of_hideAll (MZ h H) e;erw[a]
 cases q:H b with
 |none=>rfl
 |some x=>
  let c:b∈MZ h H:=aky.mpr ⟨ajI.mpr (ai9 a),by simp[q]⟩;let z:(pR h H).get? b=none:=PySem.W.hideAll_none (MZ h H) c
  cbv
noncomputable def Pj (g h:Heap)(L:Zs):List (Zs×Obj):=(~~~h.objs.size).filterMap λa=>if a=L\/(g.get? a).isSome=true then none else (h.get? a).map λo=>(a,o)
def rest (g h:Heap)(L d:Zs):List (Zs×Obj):=(Pj g h L).filter λp=>decide (p.1≠d)
end L2
variable {H I J:L2.Hp}{q:L2.V}{L:List L2.V}
namespace L2
open PySem PySem.Spec PyProof.Rows
structure Mod (K:Za1) (mg:Str->Zl) (base:Heap):Prop where
 vn:K.In base
 glob:base.Ns mainGlobals mg
 blt:∃mb,base.Ns builtinsNs mb/\∀x:Str,x≠"__name__"->mb x=bootBuiltins x
 nolimit:base.NoLimit
structure Cx where
 prog:Program
 w:World
 K:Za1
 mg:Str->Zl
 base:Heap
 A:Around
 N:Zp
 eK:Zu
 uw:Hp
 env:Env
 outer:Zq
 stack:Zq
 ex:Zn
 fn:Str->Bool
 calm:Bool
 pn:List (Zs×Obj)
 xe:Zt->Zu->Prop
def cS (l:Zq):Zn:=l.filterMap (·.frame)
abbrev Cx.fs (X:Cx):Zn:=cS X.outer
def Q8 (sc:Scope)(x:Str):Prop:=sc.names.lookup x=some .local\/sc.names.lookup x=some .cell\/sc.names.lookup x=some .free
def Loc (sc:Scope)(x:Str):Prop:=sc.names.lookup x=some .local\/sc.names.lookup x=some .cell
def Look (env:Env)(h:Heap)(m:Str->Zl)(x:Str)(u:Zt):Prop:=
 (env.kindOf x=some .local/\m x\u)\/((env.kindOf x=some .cell\/env.kindOf x=some .free)/\∃c,env.cells.lookup x\c/\h.IsCell c (some u))
structure Cx.Ok (X:Cx):Prop where
 mod:Mod X.K X.mg X.base
 kind:X.env.scope.kind=.function
 glob:X.env.globals=mainGlobals
 blt:X.env.builtins=builtinsNs
 above:X.eK.heap.objs.size<=X.env.locals
 inj:∀x y c,X.env.cells.lookup x\c->X.env.cells.lookup y\c->x=y
 has:∀x,(X.env.kindOf x=some .cell\/X.env.kindOf x=some .free)->∃c,X.env.cells.lookup x\c
 Ax:∀x c,X.fn x=true->X.env.cells.lookup x\c->X.eK.heap.objs.size<=c
 hd:X.calm=true->X.A.handled=none
 frames:X.A.frames\X.stack
 Eo:X.stack=X.outer\/(X.stack=X.env::X.outer/\X.env.frame\X.env.locals)
 M0:∀b∈X.ex,b≠X.env.locals/\∀x c,X.env.cells.lookup x\c->c≠b
 bs:∀b o,X.base.get? b\o->X.eK.heap.get? b\o/\X.uw b=none
 qV:X.base.objs.size<=X.eK.heap.objs.size
 ux:∀b o,X.base.get? b\o->b∉X.ex
 xK:∀b∈X.ex,b∉X.fs
 jn:X.eK.heap.FunFrames X.base X.outer
 tO:∀b∈X.fs,X.uw b=none
structure Inv (X:Cx) (pins:List (Zs×Obj)) (σ:List Zc) (H:Hp) (s:Zu):Prop where
 ok:X.Ok
 os:s.os=X.eK.os
 bare:AllBare s.gens
 base:Un X.fs X.ex X.uw H X.eK.heap s.heap
 loc:∃m,s.heap.Ns X.env.locals m/\∀(i:Nat) (x:Str) (v:V),X.N[i]?\x->σ[i]?\some v->Q8 X.env.scope x->∃u,RelV v u/\Look X.env s.heap m x u
 cell:∀x c,X.env.cells.lookup x\c->∃v,s.heap.IsCell c v
 free:H X.env.locals=none
 gR:∀x c,X.env.cells.lookup x\c->H c=none
 pin:∀p∈X.pn++pins,s•p.1\p.2/\H p.1=none/\p.1≠X.env.locals/\p.1∉X.fs/\∀v,p.2.data≠.cell v
 aP:dC X.prog X.w H s.heap
 len:⇑σ=⇑X.N
section
variable {X:Cx}{pins:List (Zs×Obj)}{σ:List Zc}{H H':Hp}{s:Zu}{h':Heap}
def Cx.Ok.aaH (ok:X.Ok){b:Zs}{o:Obj}(e:X.base.get? b\o):b∉X.fs:=λa=>by
 have:=(ok.jn.mem a).1
 cbv
def Inv.bs (I:Inv X pins σ H s):∀b o,X.base.get? b\o->s•b\o/\H b=none:=λb o e=>
 ⟨I.base.keep b o (I.ok.bs b o e).1 (I.ok.bs b o e).2 (I.ok.aaH e) (I.ok.ux b o e),I.base.free b o (I.ok.bs b o e).1 (I.ok.bs b o e).2 (I.ok.ux b o e)⟩
def Inv.bk (I:Inv X pins σ H s):∀b o,X.base.get? b\o->s•b\o:=λb o e=>(I.bs b o e).1
def Inv.mod (I:Inv X pins σ H s):Mod X.K X.mg X.base:=I.ok.mod
def Inv.dA (I:Inv X pins σ H s):X.K.In s.heap:=I.ok.mod.vn.keeps I.bk
def Inv.lt (I:Inv X pins σ H s):X.env.locals<↥s:=let ⟨_,a,_⟩:=I.loc;a.lt
def Inv.sz (I:Inv X pins σ H s):X.eK.heap.objs.size<=↥s:=ai0 I.ok.above (akz I.lt)
def Inv.FV (I:Inv X pins σ H s){a:Zs}(h:↥s<=a):a∉X.fs:=λc=>by
 let⟨_,o,b,_⟩:=I.ok.jn.mem c;rwa[absurd (ajk (ai9 b) (ai0 I.sz h)) (aka _)]
def Inv.lP (I:Inv X pins σ H s):∀x c,X.env.cells.lookup x\c->c≠X.env.locals:=λx c e z=>by
 let⟨v,o,f,hd⟩:=I.cell x c e;let⟨m,⟨h,g,d,b,a,_⟩,_⟩:=I.loc
 cbv
def Inv.jn (I:Inv X pins σ H s):s.heap.FunFrames X.base X.outer:=by
 let all:∀(l:Zq),(∀b∈cS l,b∈X.fs)->X.eK.heap.FunFrames X.base l->s.heap.FunFrames X.base l:=by
  intro l
  induction l with
  |nil=>intro _ _;trivial
  |cons env r i=>
   intro f j;let⟨g,⟨L,o,d,m,h,hd⟩,k⟩:=j;let a:L∈X.fs:=f L (by unfold cS;cbv);let⟨sl,e⟩:=I.base.slot L o h (I.ok.tO L a) a λz=>I.ok.xK L z a
   rwa[g,⟨L,_,d,m,e,hd⟩,i (λb c=>f b (by unfold cS;rw[List.filterMap_cons,d];rwa[ajo _ c])) k]
 rwa[all X.outer (λ_ c=>c) I.ok.jn]
def Inv.stack (I:Inv X pins σ H s):s.heap.FunFrames X.base X.stack:=by
 rcases I.ok.Eo with e|⟨e,a⟩
 ·rw[e];rwa[I.jn]
 ·rw[e];let⟨m,b,_⟩:=I.loc;rwa[.cons (by rw[I.ok.kind];decide) a b ?_ I.jn];rwa[Heap.get?_none_of_le (ai0 I.ok.qV I.ok.above)]
def Inv.Ay (I:Inv X pins σ H s):∀b∈cS X.stack,b∈X.env.locals::X.fs:=λb a=>by
 rcases I.ok.Eo with e|⟨e,c⟩
 ·cbv
 ·rw[e]at a;unfold cS at a;rw[List.filterMap_cons,c]at a;rwa[a]
def Inv.oK (I:Inv X pins σ H s):∀b∈cS X.stack,H b=none:=λb a=>by
 rcases ai3.mp (I.Ay b a) with e|a
 ·rw[e];rwa[I.free]
 ·let⟨_,o,c,_⟩:=I.ok.jn.mem a;rwa[I.base.free b o c (I.ok.tO b a) λz=>I.ok.xK b z a]
def Inv.step {g':Array GenState}{t':Nat}{d':Drawn}{ch:Zn}(I:Inv X pins σ H s)
 (g:∀b∈ch,(b∈X.ex\/X.eK.heap.objs.size<=b)/\b≠X.env.locals/\(∀x c,X.env.cells.lookup x\c->c≠b)/\∀p∈X.pn++pins,p.1≠b)
 (keep:∀b o,b≠X.env.locals->b∉X.fs->b∉ch->s•b\o->H b=none->h'.get? b\o)
 (slot:∀b o,b≠X.env.locals->b∈X.fs->b∉ch->s•b\o->H b=none->∃sl,h'.get? b\{ o with slots:=sl }) (free:∀b o,b∉ch->s•b\o->H b=none->H' b=none)
 (there:∀b o,b∉ch->s•b\o->∃B,h'.get? b\B)
 (iq:∀b j,H b\.tup j->H' b\.tup j) (gQ:∀b o u,H b\.cz o u->H' b\.cz o u) (iw:∀b C,H b\.fI C->∃more,H' b\.fI (C++more))
 (ns:∀m,s.heap.Ns X.env.locals m->h'.Ns X.env.locals m) (aP:dC X.prog X.w H' h') (J:AllBare g'):
 Inv X pins σ H' { s with heap:=h',gens:=g',drawn:=d',toks:=t' }:=by
 let A:∀b o,X.eK.heap.get? b\o->b≠X.env.locals:=λb o e=>ajm (ajk (ai9 e) I.ok.above)
 let h:∀b o,X.eK.heap.get? b\o->b∉X.ex->b∉ch:=λb o e a w=>by
  rcases (g b w).1 with z|z
  ·rwa[a z]
  ·rwa[absurd (ajk (ai9 e) z) (aka _)]
 let cellK:∀x c,X.env.cells.lookup x\c->∀v,s.heap.IsCell c v->h'.IsCell c v:=λx c e v ζ=>by
  let⟨o,y,hd⟩:=ζ
  let f:c∉ch:=λz=>(g c z).2.2.1 x c e rfl
  cases hc:c∈X.fs
  ·let⟨sl,q⟩:=slot c o (I.lP x c e) hc f y (I.gR x c e);rwa[_,q,hd]
  ·rwa[o,keep c o (I.lP x c e) hc f y (I.gR x c e),hd]
 rwa[⟨I.ok,I.os,J,⟨λb o e n w a=>?_,λb o e n w a=>?_,λb o e n a=>?_,λb o e a=>?_,λb j e=>iq b j (I.base.iq b j e),λb o j e=>gQ b o j (I.base.gQ b o j e),λb C e=>?_⟩,5,λx c e=>?_,5,λx c e=>?_,λp F=>?_,aP,I.len⟩]
 ·rwa[keep b o (A b o e) w (h b o e a) (I.base.keep b o e n w a) (I.base.free b o e n a)]
 ·let⟨sl,t⟩:=I.base.slot b o e n w a;let⟨E,D⟩:=slot b _ (A b o e) w (h b o e a) t (I.base.free b o e n a);rwa[E,D]
 ·let⟨B,t⟩:=I.base.there b o e a;rwa[free b B (h b o e a) t (I.base.free b o e n a)]
 ·let⟨B,t⟩:=I.base.there b o e a;rwa[there b B (h b o e a) t]
 ·let⟨O,t⟩:=I.base.iw b C e
  cbv
 ·let⟨m,M,L⟩:=I.loc;rwa[⟨m,ns m M,λi x v t D N=>?_⟩];let⟨u,r,l⟩:=L i x v t D N;erw[u,r];rcases l with l|⟨k,c,e,z⟩
  ·rwa[.inl l]
  ·rwa[.inr ⟨k,c,e,cellK x c e _ z⟩]
 ·let⟨v,z⟩:=I.cell x c e;rwa[v,cellK x c e v z]
 ·let⟨m,⟨o,_,_,y,_⟩,_⟩:=I.loc;rwa[free _ o (λz=>(g _ z).2.1 rfl) y I.free]
 ·let⟨v,o,y,hd⟩:=I.cell x c e;rwa[free c o (λz=>(g c z).2.2.1 x c e rfl) y (I.gR x c e)]
 ·let⟨e,n,ne,G,d⟩:=I.pin p F;let f:p.1∉ch:=λz=>(g p.1 z).2.2.2 p F rfl
  rwa[keep p.1 p.2 ne G f e n,free p.1 p.2 f e n,ne,G,d]
def Inv.un {t':Nat}(I:Inv X pins σ H s)(u:Un X.fs [] H H' s.heap h')(aP:dC X.prog X.w H' h'):Inv X pins σ H' { s with heap:=h',toks:=t' }:=by
 let⟨m,⟨o,p,v,g,r⟩,_⟩:=id I.loc;let⟨sl,i⟩:=u.any g I.free (by simp)
 exact I.step (g':=s.gens) (d':=s.drawn) (ch:=[]) (λ_ z=>nomatch z) (λb o _ c _ e n=>u.keep b o e n c (by simp)) (λb o _ c _ e n=>u.slot b o e n c (by simp)) (λb o _ e n=>u.free b o e n (by simp)) (λb o _ e=>u.there b o e (by simp)) u.iq u.gQ u.iw (λt j=>by
  let⟨q,f,d,a,h⟩:=j;rw[g]at a;ext a;rwa[_,f,d,i,h]) aP I.bare
def Inv.call {g':Array GenState}{t':Nat}{d':Drawn}{ch:Zn}(I:Inv X pins σ H s)(u:Un (cS X.stack) ch H H' s.heap h')(aP:dC X.prog X.w H' h')(l:AllBare g')
 (d:∀b∈ch,(b∈X.ex\/X.eK.heap.objs.size<=b)/\b≠X.env.locals/\(∀x c,X.env.cells.lookup x\c->c≠b)/\∀p∈X.pn++pins,p.1≠b):
 Inv X pins σ H' { s with heap:=h',gens:=g',drawn:=d',toks:=t' }:=by
 let⟨m,⟨o,t,y,i,r⟩,_⟩:=id I.loc;let⟨sl,g⟩:=u.any i I.free λz=>(d _ z).2.1 rfl
 exact I.step (ch:=ch) d (λb o g k hc e n=>u.keep b o e n (λz=>(ai3.mp (I.Ay b z)).elim g k) hc) (λb o _ _ hc e n=>u.any e n hc) (λb o hc e n=>u.free b o e n hc) (λb o hc e=>u.there b o e hc) u.iq u.gQ u.iw (λw q=>by
  let⟨v,h,f,a,j⟩:=q;rw[i]at a;ext a;rwa[_,h,f,g,j]) aP l
def Inv.turned {t':Nat}{it:Zs}(I:Inv X pins σ H s)(k:∀b o,b≠it->s•b\o->h'.get? b\o)(C:H it=none)(a:it≠X.env.locals)
 (g:it∈X.ex\/X.eK.heap.objs.size<=it) (d:∀x c,X.env.cells.lookup x\c->c≠it) (j:∀p∈X.pn++pins,p.1≠it):Inv X pins σ H { s with heap:=h',toks:=t' }:=by
 let l:∀b u,H b\u->b≠it:=λb u e z=>by cbv
 refine I.step (g':=s.gens) (d':=s.drawn) (ch:=[it]) (λb f=>?_) (λb o _ _ hc e _=>k b o (λz=>hc (by simp[z])) e) (λb o _ _ hc e _=>⟨o.slots,k b o (λz=>hc (by simp[z])) e⟩) (λ_ _ _ _ n=>n)
  (λb o hc e=>⟨o,k b o (λz=>hc (by simp[z])) e⟩) (λ_ _ e=>e) (λ_ _ _ e=>e) (λb y e=>⟨#[],by rw[e];simp⟩) (λm t=>?_) (λb u e=>?_) I.bare
 ·let e:b=it:=by simpa using f
  subst e;rwa[g,a,d,j]
 ·let⟨o,i,w,h,r⟩:=t;rwa[o,i,w,k _ o (ajR a) h,r]
 ·rwa[(I.aP b u e).fE (λc v hc q=>k c v ?_ q) (λ_ q=>q) λ_ _ q=>q]
  cbv
def Inv.tok (I:Inv X pins σ H s)(t:Nat):Inv X pins σ H { s with toks:=t }:=I.un (h':=s.heap) (t':=t) Un.refl I.aP
def Inv.kept {t':Nat}(I:Inv X pins σ H s)(k:∀b u,s•b\u->h'.get? b\u):Inv X pins σ H { s with heap:=h',toks:=t' }:=I.un (Un.kept k) (I.aP.kept k)
def Inv.laid {o:HO}{t':Nat}(I:Inv X pins σ H s)(k:∀b u,s•b\u->h'.get? b\u)(c:↥s<=a)(new:b9 X.prog X.w (upd H a o) h' a o):
 Inv X pins σ (upd H a o) { s with heap:=h',toks:=t' }:=I.un (Un.laid k c (I.aP.fresh c)) (I.aP.laid k c new)
def Inv.write {x e:Zs}{o:HO}{t':Nat}(I:Inv X pins σ H s)(mu:tN (H x))(c:e=x\/H e\.own x)(k:∀b u,b≠e->s•b\u->h'.get? b\u)(a:∃u,h'.get? e\u)
 (new:b9 X.prog X.w (upd H x o) h' x o):Inv X pins σ (upd H x o) { s with heap:=h',toks:=t' }:=I.un (Un.write mu c k a) (I.aP.write mu c k a new)
def Inv.jy (I:Inv X pins σ H s)(h:∀p∈o,s•p.1\p.2/\H p.1=none/\p.1≠X.env.locals/\p.1∉X.fs/\∀v,p.2.data≠.cell v):Inv X o σ H s:=
 ⟨I.ok,I.os,I.bare,I.base,I.loc,I.cell,I.free,I.gR,λp a=>(aiY.mp a).elim (λz=>I.pin p (ajh _ z)) (h p),I.aP,I.len⟩
def uy (d:Z.Nodup){i j:Nat}{x:Str}(a:Z[i]?\x)(b:Z[j]?\x):i=j:=by
 let⟨g,c⟩:=aiO.mp a;let⟨f,e⟩:=aiO.mp b;rwa[(List.getElem_inj d).mp (c.trans e.symm)]
def yN {M:Model}{v:V}(I:Inv X pins σ H s)(hN:X.N.Nodup)(L:X.N[i]?\x)(l:Loc X.env.scope x)(r:RelV v u)
 (h:∀O,Inv X pins (σ.set i (some v)) H O->(∃a,Heap.SameBut a s.heap O.heap/\(a=X.env.locals\/X.env.cells.lookup x\a))->U () O) (hf:X.fn x=true\/X.env.scope.names.lookup x=some .local:=by trivial):wpAny M A (storeName X.env x u) U E s:=by
 let⟨m,hn,hl⟩:=id I.loc;let J:(X.env.scope.kind==.class || (X.env.scope.kind==.module && X.env.locals !=X.env.globals))=false:=by rw[I.ok.kind];rfl
 let B:i < ⇑σ:=by rw[I.len];rwa[(aiO.mp L).1]
 let lP:=I.lP
 let tracked:∀{a:Zs} {h':Heap},(∃o,s•a\o/\H a=none)->Heap.SameBut a s.heap h'->dC X.prog X.w H h':=λ{a h'} ha f b ob e=>by
  let⟨_,_,T⟩:=ha;rwa[(I.aP b ob e).fE (λc Q t q=>(f.2 c ?_).trans q) (λ_ q=>q) λ_ _ q=>q]
  cbv
 rcases l with G|G
 ·rwa[wpAny_storeName_local G hn (λh' hn' f=>?_) J];let⟨oL,_,_,hoL,_⟩:=id hn;rwa[h _ ⟨I.ok,I.os,I.bare,⟨λb o e n C l=>?_,λb o e n C l=>?_,I.base.free,λb o e l=>?_,I.base.iq,I.base.gQ,I.base.iw⟩,⟨_,hn',λj y R g w e3=>?_⟩,λy c e=>?_,I.free,I.gR,λp hp=>?_,tracked ⟨oL,hoL,I.free⟩ f,by simpa using I.len⟩ ⟨_,f,.inl rfl⟩]
  ·rwa[(f.2 b (ajm (ajk (ai9 e) I.ok.above))).trans (I.base.keep b o e n C l)]
  ·let⟨Y,g⟩:=I.base.slot b o e n C l;rwa[Y,(f.2 b (ajm (ajk (ai9 e) I.ok.above))).trans g]
  ·let⟨o',g⟩:=I.base.there b o e l;rwa[o',(f.2 b (ajm (ajk (ai9 e) I.ok.above))).trans g]
  ·cases D:j=i
   ·subst D;rw[L]at g;ext g;rw[ajv B]at w;ext w;rwa[u,r,.inl ⟨G,by simp⟩]
   ·rw[ajO (ajR D)]at w;let⟨u',S,q⟩:=hl j y R g w e3;erw[u',S];rcases q with ⟨k,e⟩|⟨k,c,e,z⟩
    ·rwa[.inl ⟨k,?_⟩];have:y≠x:=λe=>D (uy hN g (e ▸ L))
     simp[this,e]
    ·rwa[.inr ⟨k,c,e,z.sameBut f (lP y c e)⟩]
  ·let⟨Q,z⟩:=I.cell y c e;rwa[Q,z.sameBut f (lP y c e)]
  ·let⟨e,n,ne,nf,d⟩:=I.pin p hp;rwa[(f.2 p.1 ne).trans e,n,ne,nf,d]
 ·let F:X.fn x=true:=by
   rcases hf with z|z
   ·rwa[z]
   ·cbv
  let⟨c,t⟩:=I.ok.has x (.inl G);let⟨Q,z⟩:=I.cell x c t;rwa[wpAny_storeName_cell I.ok.kind G t z (λh' Z f=>?_)];let⟨oc,P,ahv⟩:=id z;rwa[h (s<*h') ⟨I.ok,I.os,I.bare,⟨λb o e n C l=>?_,λb o e n C l=>?_,I.base.free,λb o e l=>?_,I.base.iq,I.base.gQ,I.base.iw⟩,⟨m,hn.sameBut f (ajR (lP x c t)),λj y R g w e3=>?_⟩,λy N e=>?_,I.free,I.gR,λp hp=>?_,tracked ⟨oc,P,I.gR x c t⟩ f,by simpa using I.len⟩ ⟨c,f,.inr t⟩]
  ·rwa[(f.2 b (ajm (ajk (ai9 e) (I.ok.Ax x c F t)))).trans (I.base.keep b o e n C l)]
  ·let⟨Y,g⟩:=I.base.slot b o e n C l;rwa[Y,(f.2 b (ajm (ajk (ai9 e) (I.ok.Ax x c F t)))).trans g]
  ·let⟨o',g⟩:=I.base.there b o e l;rwa[o',(f.2 b (ajm (ajk (ai9 e) (I.ok.Ax x c F t)))).trans g]
  ·cases D:j=i
   ·subst D;rw[L]at g;ext g;rw[ajv B]at w;ext w;rwa[u,r,.inr ⟨.inl G,c,t,Z⟩]
   ·rw[ajO (ajR D)]at w;let⟨u',S,q⟩:=hl j y R g w e3;erw[u',S];rcases q with q|⟨k,N,e,z'⟩
    ·rwa[.inl q]
    ·rwa[.inr ⟨k,N,e,z'.sameBut f ?_⟩];rintro rfl;rwa[D (uy hN g (I.ok.inj _ _ _ e t ▸ L))]
  ·cases W:N=c
   ·cbv
   ·let⟨w2,z2⟩:=I.cell y N e;rwa[w2,z2.sameBut f W]
  ·let⟨e,n,ne,nf,d⟩:=I.pin p hp;rwa[⟨(f.2 p.1 ?_).trans e,n,ne,nf,d⟩]
   cbv
def pS {M:Model}{v:V}(I:Inv X pins σ H s)(d:X.N.Nodup)(e:X.N[i]?\x)(f:Loc X.env.scope x)(r:RelV v u)
 (h:∀a,Inv X pins (σ.set i (some v)) H a->U () a) (b:X.fn x=true\/X.env.scope.names.lookup x=some .local:=by trivial):wpAny M A (storeName X.env x u) U E s:=
 yN I d e f r (λa c _=>h a c) b
def Inv.FW {s':Zu}{ch:Zn}(I:Inv X pins σ H s)(h:s'.os=s.os)(u:Un (cS X.stack) ch H H' s.heap s'.heap)(aP:dC X.prog X.w H' s'.heap)(i:AllBare s'.gens)
 (a:∀b∈ch,(b∈X.ex\/X.eK.heap.objs.size<=b)/\b≠X.env.locals/\(∀x c,X.env.cells.lookup x\c->c≠b)/\∀p∈X.pn++pins,p.1≠b):Inv X pins σ H' s':=by
 let⟨h',g,d,f,j⟩:=s';let e:j=s.os:=h;subst e;rwa[I.call (g':=g) (t':=f) (d':=d) u aP i a]
end
abbrev XK:=Zt->Zo->Hp->Prop
abbrev St:=List Zc
abbrev VK:=V->Hp->Prop
abbrev TE:=St->Hp->VK->Prop
abbrev TT:=St->Hp->(Bool->Hp->Prop)->Prop
abbrev TA:=St->Hp->(Zb->Hp->Prop)->Prop
structure Ends where
 nx:St->Hp->Prop
 rt:VK
 bk:St->Hp->Prop:=λ_ _=>False
 ct:St->Hp->Prop:=λ_ _=>False
abbrev TS:=Ends->St->Hp->Prop
def EP (X:Cx)(a:List (Zs×Obj))(d:St)(Q:VK)(u:Zt)(c:Zu):Prop:=∃v b,Inv X a d b c/\RelV v u/\Q v b
def TP (X:Cx)(a:List (Zs×Obj))(e:St)(Q:Bool->Hp->Prop)(b:Bool)(d:Zu):Prop:=∃c,Inv X a e c d/\Q b c
def AP (X:Cx)(a:List (Zs×Obj))(f:St)(Q:Zb->Hp->Prop)(e:Zk)(d:Zu):Prop:=∃b c,Inv X a f c d/\Vals b e/\Q b c
def SP (X:Cx)(b:List (Zs×Obj))(D:Ends)(f:Flow)(d:Zu):Prop:=
 match f with
 |.next=>∃ a c,Inv X b a c d/\D.nx a c
 |.brk=>∃ a c,Inv X b a c d/\D.bk a c
 |.cont=>∃ a c,Inv X b a c d/\D.ct a c
 |.ret u=>∃v a c,Inv X b a c d/\RelV v u/\D.rt v c
def PE (X:Cx)(e:Expr)(t:TE):Prop:=
 ∀(a:List (Zs×Obj)) (s:Zu) (b:St) (H:Hp) (Q:VK),Inv X a b H s->t b H Q->X⁻¹ X.A (eval e X.env) (EP X a b Q) X.xe s
def PT (X:Cx)(e:Expr)(t:TT):Prop:=
 ∀(a:List (Zs×Obj)) (s:Zu) (b:St) (H:Hp) (Q:Bool->Hp->Prop),Inv X a b H s->t b H Q->X⁻¹ X.A (isTrue e X.env (eval e X.env)) (TP X a b Q) X.xe s
def PW (X:Cx)(e:Expr)(t:TT):Prop:=
 ∀(whole:Sem Zt) (a:List (Zs×Obj)) (s:Zu) (b:St) (H:Hp) (Q:Bool->Hp->Prop),Inv X a b H s->t b H Q->X⁻¹ X.A (isTrue e X.env whole) (TP X a b Q) X.xe s
def PW.pt {X:Cx}{t:TT}(h:PW X e t):PT X e t:=h _
def PA (X:Cx)(d:Zr)(t:TA):Prop:=
 ∀(b:Pos) (a:List (Zs×Obj)) (s:Zu) (c:St) (H:Hp) (Q:Zb->Hp->Prop),Inv X a c H s->t c H Q->X⁻¹ X.A (spliced (backTo b (starEach d X.env))) (AP X a c Q) X.xe s
def PS (X:Cx)(st:Stmt)(t:TS):Prop:=
 ∀(a:List (Zs×Obj)) (s:Zu) (b:St) (H:Hp) (D:Ends),Inv X a b H s->t D b H->X⁻¹ X.A (exec st X.env) (SP X a D) X.xe s
def jz (X:Cx)(st:List Stmt)(t:TS):Prop:=
 ∀(a:List (Zs×Obj)) (s:Zu) (b:St) (H:Hp) (D:Ends),Inv X a b H s->t D b H->X⁻¹ X.A (execs st X.env) (SP X a D) X.xe s
def bp {c:Type}{t:Sem c}{Q b:c->Zu->Prop}{M:Model}(h:wpAny M A t Q E s)(d:∀a s,Q a s->b a s):wpAny M A t b E s:=ajZ h d λ_ _ x=>x
end L2
variable {D:L2.St}{r:L2.TE}{G:L2.Ends}{X:L2.Cx}
namespace L2
open PySem PySem.Spec PyProof.Rows
section
variable {X:Cx}
def bin {b:Expr}{l:TE}(B:PE X e r)(o:PE X b l){a:List (Zs×Obj)}{s:Zu}{c:St}{H:Hp}{R:V->V->Hp->Prop}(I:Inv X a c H s)(h:r c H λx k=>l c k λy d=>R x y d)
 {m:Type} {Q:m->Zu->Prop} {f:Zt->Zt->Sem m}
 (w:∀v u j x y d,Inv X a c d j->RelV x v->RelV y u->R x y d->X⁻¹ X.A (f v u) Q X.xe j):
 X⁻¹ X.A (eval e X.env) (λv i=>X⁻¹ X.A (eval b X.env) (λu g=>X⁻¹ X.A (f v u) Q X.xe g) X.xe i) X.xe s:=by
 rwa[bp (B a s c H _ I h) λv z ζ=>?_];let⟨x,k,p,n,q⟩:=ζ
 rwa[bp (o a z c k _ p q) λu j ζ=>?_];let⟨y,d,t,A,C⟩:=ζ
 rwa[w v u j x y d t n A C]
inductive jo (i:Nat) (σ:St) (H:Hp) (Q:VK):Prop
 |mk (v:V):σ[i]?\some v->Q v H->jo i σ H Q
def tC (v:V):TE:=λ_ H Q=>Q v H
def Q9 (o:X.N[i]?\x)(w:Q8 X.env.scope x)(f:(x==("__debug__":Str))=false:=by decide)(g:(x==("__classdict__":Str))=false:=by decide):PE X (.Name x p) (jo i):=by
 intro d s n H Q I h;let⟨v,e,h⟩:=h;let⟨m,q,k⟩:=I.loc;let⟨u,r,l⟩:=k i x v o e w;let fin:EP X d n Q u s:=⟨v,H,I,r,h⟩;rcases l with ⟨b,t⟩|⟨b,c,j,a⟩
 ·rwa[wpAny_Name (wpAny_loadName_local I.ok.kind b q t fin) f]
 ·rcases b with b|b
  ·rwa[wpAny_Name (wpAny_loadName_cell I.ok.kind b j a fin) f]
  ·rwa[wpAny_Name (wpAny_loadName_free I.ok.kind b j a fin g) f]
def ao {i j a}:PE X (.Constant (.int i) j a) (tC (.int i)):=λ_ _ _ H _ I h=>wpAny_Constant_int ⟨.int i,H,I.tok _,⟨12⟩,h⟩
def fu {b j a}:PE X (.Constant (.bool b) j a) (tC (.bl b)):=λ_ _ _ H _ I h=>Constant_bool ⟨.bl b,H,I,2,h⟩
def cJ {j a}:PE X (.Constant .none j a) (tC .non):=λ_ _ _ H _ I h=>Constant_none ⟨.non,H,I,2,h⟩
def Rb {x j a}:PE X (.Constant (.str x) j a) (tC (.str x)):=λ_ _ _ H _ I h=>Calls.Constant_str ⟨.str x,H,I.tok _,⟨12⟩,h⟩
def Gl (X:Cx)(x:Str):Prop:=X.env.kindOf x=some .globalImplicit
def kj (I:Inv X o D H s)(c:Gl X x)(b:X.mg x\u)(h:Q u s)
 (a:(x==("__debug__":Str))=false:=by decide):X⁻¹ X.A (eval (.Name x p) X.env) Q E s:=
 Calls.Name_function_global I.ok.kind c (Calls.loadGlobal_global ([I.ok.glob]▸I.mod.glob.keeps I.bk) b h) a
def gw (I:Inv X o D H s)(f:Gl X x)(b:X.mg x=none)(c:bootBuiltins x\u)(h:Q u s)
 (g:x≠"__name__":=by decide) (a:(x==("__debug__":Str))=false:=by decide):X⁻¹ X.A (eval (.Name x p) X.env) Q E s:=by
 let⟨i,e,d⟩:=I.mod.blt;rwa[Calls.Name_function_global I.ok.kind f (Calls.loadGlobal_builtin ([I.ok.glob]▸I.mod.glob.keeps I.bk) b ([I.ok.blt]▸e.keeps I.bk) ((d x g).trans c) h) a]
def iK {v:V}(d:Gl X x)(b:X.mg x=none)(c:bootBuiltins x\u)(r:RelV v u)(e:x≠"__name__":=by decide)(a:(x==("__debug__":Str))=false:=by decide):PE X (.Name x p) (tC v):=
 λ_ _ _ H _ I h=>gw I d b c ⟨v,H,I,r,h⟩ e a
def t2I (e b:TE)(k:Int->Int->Hp->Prop):St->Hp->Prop:=λ a H=>e a H λx d=>b a d λy c=>∃i j,x=.int i/\y=.int j/\k i j c
variable {a b:Expr}{ta tb:TE}{pos:Pos}
def PC (X:Cx)(g:CmpOp)(a b:Expr)(t:TE):Prop:=
 ∀(c:List (Zs×Obj)) (s:Zu) (f:St) (H:Hp) (Q:VK),Inv X c f H s->t f H Q->
  X⁻¹ X.A (eval a X.env) (λv e=>X⁻¹ X.A (eval b X.env) (λu d=>X⁻¹ X.A (compareOp g v u) (EP X c f Q) X.xe d) X.xe e) X.xe s
def Az (b:Expr){c:CmpOp}(h:c≠.In)(f:c≠.NotIn):behindInMarks c b=false:=by
 let d:(c==CmpOp.In)=false:=by cbv
 let e:(c==CmpOp.NotIn)=false:=by cbv
 cases b <;> simp[behindInMarks,d,e]
def aaI (p:Int->Int->Bool)(ta tb:TE):TE:=λ d H Q=>t2I ta tb (λi j c=>Q (.bl (p i j)) c) d H
abbrev M3:TE->TE->TE:=aaI λi j=>decide (i<j)
def tB (t:TE):TT:=λ e H Q=>t e H λx d=>∃c,x=.bl c/\Q c d
def Ho {d:CmpOp}{t:TE}(h:PC X d a b t)(f:behindInMarks d b=false:=by first|rwa[Az _ (by decide) (by decide)]|rfl):PE X (.Compare a [d] [b] pos) t:=λc s g H Q I e=>wpAny_Compare1 (h c s g H Q I e) f
def vo {g:CmpOp}{t:TE}(h:PC X g a b t)(f:behindInMarks g b=false:=by first|rwa[Az _ (by decide) (by decide)]|rfl):PT X (.Compare a [g] [b] pos) (tB t):=by
 intro e s o H Q I m;rwa[wpAny_isTrue_Compare1 (bp (h e s o H _ I m) λv r f=>bp f λu p i=>bp i λc w ζ=>?_) f];let⟨x,n,k,j,l⟩:=ζ;let⟨d,rfl,q⟩:=l;ext j;rwa[akt ⟨n,k,q⟩]
def cX {t:TE}(h:PE X e t)(m:∀whole,isTrue e X.env whole=(do let v <-whole;standAt e.pos;holding [v] (truthy v)):=by intro _;rfl):PT X e (tB t):=by
 intro c s l H Q I j;rwa[isTrue_plain (bp (h c s l H _ I j) λv n ζ=>?_) (m _)];let⟨x,k,g,f,i⟩:=ζ;let⟨d,rfl,q⟩:=i;ext f;rwa[akt ⟨k,g,q⟩]
variable {tA M4:TT}{rest:Zr}
def aaJ (t u:TT):TT:=λ e H Q=>t e H λc d=>if c=true then u e d Q else Q false d
def tOr (t u:TT):TT:=λ e H Q=>t e H λc d=>if c=true then Q true d else u e d Q
def aaK (t:TT):TT:=λ e H Q=>t e H λc d=>Q (!c) d
def jA (f:PT X a tA):PW X (.BoolOp .And [a] pos) tA:=by
 intro i d s g H Q I h;rwa[isTrue_and (bp (f d s g H Q I h) λc j e=>?_)]
 cases c with
 |true=>exact isTrue_and_nil e
 |false=>exact e
def i9 (f:PT X a tA):PW X (.BoolOp .Or [a] pos) tA:=by
 intro i d s g H Q I h;rwa[isTrue_or (bp (f d s g H Q I h) λc j e=>?_)]
 cases c with
 |false=>exact isTrue_or_nil e
 |true=>exact e
def kT (j:PT X a tA)(m:PW X (.BoolOp .And (b::rest) pos) M4):PW X (.BoolOp .And (a::b::rest) pos) (aaJ tA M4):=by
 intro k d s i H Q I h;rwa[isTrue_and (bp (j d s i H _ I h) λc l ζ=>?_)];let⟨e,g,f⟩:=ζ
 cases c with
 |true=>exact m k d l i e Q g f
 |false=>rwa[e,g,f]
def eH (j:PT X a tA)(m:PW X (.BoolOp .Or (b::rest) pos) M4):PW X (.BoolOp .Or (a::b::rest) pos) (tOr tA M4):=by
 intro k d s i H Q I h;rwa[isTrue_or (bp (j d s i H _ I h) λc l ζ=>?_)];let⟨e,g,f⟩:=ζ
 cases c with
 |true=>rwa[e,g,f]
 |false=>exact m k d l i e Q g f
def fJ (f:PT X a tA):PT X (.UnaryOp .Not a pos) (aaK tA):=by
 intro d s g H Q I h;rwa[isTrue_not (f d s g H (λc e=>Q (!c) e) I h)]
def V8 (ta tb:TE):TE:=λ e H Q=>ta e H λx d=>∃c,x=.bl c/\if c=true then tb e d Q else Q (.bl false) d
def V9 (ta:TE):TE:=λ e H Q=>ta e H λx d=>∃c,x=.bl c/\Q (.bl (!c)) d
def vp {e}{t:TE}(h:PE X a t):PE X (.BoolOp e [a] pos) t:=λc s f H Q I d=>BoolOp_one (h c s f H Q I d)
def qW (j:PE X a ta)(m:PE X (.BoolOp .And (b::rest) pos) tb):PE X (.BoolOp .And (a::b::rest) pos) (V8 ta tb):=by
 intro d s i H Q I h;rwa[BoolOp_and (bp (j d s i H _ I h) λv l ζ=>?_)];let⟨x,f,g,k,e⟩:=ζ;let⟨c,rfl,e⟩:=e;ext k;rwa[akt ?_]
 cases c with
 |true=>exact m d l i f Q g e
 |false=>rwa[.bl false,f,g,2,e]
def Rc (g:PE X a ta):PE X (.UnaryOp .Not a pos) (V9 ta):=by
 intro d s k H Q I h;rwa[UnaryOp_ (bp (g d s k H _ I h) λv l ζ=>?_)];let⟨x,f,j,i,e⟩:=ζ;let⟨c,rfl,e⟩:=e;ext i;rwa[not_of (akt ⟨.bl (!c),f,j,2,e⟩)]
end
def aD (K:Za1)(H:Hp)(a:Zs)(c:Zb):Prop:=
 Rd H a (.lst c)\/
  ∃(o:Obj) (b:Zm) (n:Nat),K.lookup a\o/\o.cls=.type "list"/\o.dict=none/\o.data=.seq b n/\b.size<=sizeLine/\Vals c b.toList
def bB (K:Za1)(H:Hp)(a:Zs)(c:Zb):Prop:=
 Rd H a (.tup c)\/
  ∃(o:Obj) (b:Zm) (n:Nat),K.lookup a\o/\o.cls=.type "tuple"/\o.data=.seq b n/\b.size<=sizeLine/\Vals c b.toList
noncomputable def aaL:Zt->Zc
 |.none=>some .non
 |.bool b=>some (.bl b)
 |.int i _=>some (.int i)
 |.str x _=>some (.str x)
 |.bytes b _=>some (.nB b)
 |.float b _=>some (.Aw b)
 |.ref a=>some ↑a
 |.type n=>some (.ty n)
 |_=>none
def RelV.abs {x:V}(r:RelV x u):aaL u\x:=by
 cases x with
 |non=>ext r;rfl
 |bl _=>ext r;rfl
 |int _=>let⟨t,rfl⟩:=r;rfl
 |str _=>let⟨t,rfl⟩:=r;rfl
 |nB _=>let⟨t,rfl⟩:=r;rfl
 |Aw _=>let⟨t,rfl⟩:=r;rfl
 |ref _=>ext r;rfl
 |ty _=>ext r;rfl
def RelV.inj {x:V}(r:RelV x u)(a:RelV q u):x=q:=Za0 (r.abs.symm.trans a.abs)
theorem Vals.inj:∀{b ys:Zb} {a:Zk},Vals b a->Vals ys a->b=ys
 |_,_,_,.nil,.nil=>rfl
 |_,_,_,.cons r t,.cons c d=>by rw[r.inj c,Vals.inj t d]
section
variable {X:Cx}{pins:List (Zs×Obj)}{σ:St}{H:Hp}{s:Zu}{a:Zs}{xs ys:Zb}
def aD.of (h:H a\.lst xs):aD K H a xs:=.inl (.inl h)
def bB.of (h:H a\.tup xs):bB K H a xs:=.inl (.inl h)
def Inv.list (I:Inv X pins σ H s)(h:aD X.K H a xs):∃b:Zk,Vals xs b/\PlainL s.heap a b.toArray/\⇑xs<=sizeLine:=by
 rcases h with h|⟨o,b,n,c,hc,hd,d,hz,r⟩
 ·let⟨z,b,n,r,e⟩:=h.ok I.aP;rwa[b,r,⟨_,n,e,222⟩,z]
 ·erw[b.toList,r,⟨o,n,I.dA a o c,hc,hd,3⟩];let e:=⇑r;simp only[akI]at e;ext
def Inv.tuple (I:Inv X pins σ H s)(h:bB X.K H a xs):∃b:Zk,Vals xs b/\IsTup s.heap a b.toArray/\⇑xs<=sizeLine:=by
 rcases h with h|⟨o,b,n,c,hc,d,hz,r⟩
 ·let⟨z,b,r,p⟩:=h.ok I.aP;rwa[b,r,p,z]
 ·erw[b.toList,r,⟨o,I.dA a o c,hc,n,3⟩];let e:=⇑r;simp only[akI]at e;ext
def Inv.KD (I:Inv X pins σ H s)(h:aD X.K H a xs)(i:aD X.K H a ys):xs=ys:=by
 let⟨c,r,⟨o,n,e,_,_,d⟩,_⟩:=I.list h;let⟨b,j,⟨l,k,g,_,_,f⟩,_⟩:=I.list i;rw[e]at g;ext g;rw[d]at f;injection f with d1 _
 have:c=b:=by simpa using ajT Array.toList d1
 subst this;rwa[r.inj j]
def Inv.Hq (I:Inv X pins σ H s)(h:bB X.K H a xs)(i:bB X.K H a ys):xs=ys:=by
 let⟨c,r,⟨o,e,_,n,d⟩,_⟩:=I.tuple h;let⟨b,j,⟨l,g,_,k,f⟩,_⟩:=I.tuple i;rw[e]at g;ext g;rw[d]at f;injection f with d1 _
 have:c=b:=by simpa using ajT Array.toList d1
 subst this;rwa[r.inj j]
end
abbrev Cx.wish (X:Cx) (E:Zt->Zu->Prop):Cx:={ X with xe:=E }
abbrev Cx.tQ (X:Cx):Cx:=X.wish λ_ _=>False
def Cx.Ok.wish (ok:X.Ok)(E:Zt->Zu->Prop):(X.wish E).Ok:=
 ⟨ok.mod,ok.kind,ok.glob,ok.blt,ok.above,ok.inj,ok.has,ok.Ax,ok.hd,ok.frames,ok.Eo,ok.M0,ok.bs,ok.qV,ok.ux,ok.xK,ok.jn,ok.tO⟩
def Cx.Ok.iz (ok:(X.wish E).Ok):X.Ok:=
 ⟨ok.mod,ok.kind,ok.glob,ok.blt,ok.above,ok.inj,ok.has,ok.Ax,ok.hd,ok.frames,ok.Eo,ok.M0,ok.bs,ok.qV,ok.ux,ok.xK,ok.jn,ok.tO⟩
section
variable {X:Cx}{pins:List (Zs×Obj)}{σ:St}{H:Hp}{s:Zu}{E:Zt->Zu->Prop}
def Inv.wish (I:Inv X pins σ H s)(E:Zt->Zu->Prop):Inv (X.wish E) pins σ H s:=⟨I.ok.wish E,I.os,I.bare,I.base,I.loc,I.cell,I.free,I.gR,I.pin,I.aP,I.len⟩
def Inv.iz (I:Inv (X.wish E) pins σ H s):Inv X pins σ H s:=⟨I.ok.iz,I.os,I.bare,I.base,I.loc,I.cell,I.free,I.gR,I.pin,I.aP,I.len⟩
def SP.iz {f:Flow}{c:Zu}(h:SP (X.wish E) pins G f c):SP X pins G f c:=by
 cases f with
 |next=>let⟨a,b,I,q⟩:=h;rwa[a,b,I.iz,q]
 |brk=>let⟨a,b,I,q⟩:=h;rwa[a,b,I.iz,q]
 |cont=>let⟨a,b,I,q⟩:=h;rwa[a,b,I.iz,q]
 |ret u=>let⟨v,a,b,I,r,q⟩:=h;rwa[v,a,b,I.iz,r,q]
def jz.tQ {st:List Stmt}{t:TS}(h:jz X.tQ st t):jz X st t:=λpins s σ H D I a=>
 ajZ (h pins s σ H D (I.wish _) a) (λ_ _ q=>q.iz) λ_ _ z=>False.elim z
end
section
variable {X:Cx}{st:Stmt}{rest:List Stmt}{t u:TS}{e:Expr}{te:TE}{pos:Pos}
def Wa:TS:=λD a H=>D.nx a H
def aU (t u:TS):TS:=λD a H=>t { D with nx:=u D } a H
def bj:jz X [] Wa:=λ_ _ a H _ I h=>akY ⟨a,H,I,h⟩
def ai (d:PS X st t)(c:jz X rest u):jz X (st::rest) (aU t u):=by
 intro a s k H D I h;rwa[wpAny_execs_cons (bp (d a s k H { D with nx:=u D } I h) λf i q=>?_)]
 cases f with
 |next=>
  let⟨b,j,g,q⟩:=q;rwa[c a i b j D g q]
 |ret v=>exact q
 |brk=>exact q
 |cont=>exact q
def au (b:PS X st t):jz X [st] t:=by
 intro a s c H D I h;rwa[wpAny_execs_cons (bp (b a s c H D I h) λf d q=>?_)]
 cases f with
 |next=>exact akY q
 |ret v=>exact q
 |brk=>exact q
 |cont=>exact q
def Rf:TS:=λD a H=>D.bk a H
def uz:PS X (.Break pos) Rf:=λ_ _ a H _ I h=>wpAny_Break ⟨a,H,I,h⟩
def Inv.quiet (I:Inv X o D H s):interactive X.env=false:=by simp[interactive,I.ok.kind]
def Wb (te:TE):TS:=λD a H=>te a H λ_ b=>D.nx a b
def aZ (d:PE X e te)(g:swapsWith e none pos.line X.env=pure false:=by rfl):PS X (.Expr e pos) (Wb te):=by
 intro a s b H D I h;rwa[wpAny_Expr_any (bp (d a s b H _ I h) λv k ζ=>?_) I.quiet g];let⟨x,c,i,j,f⟩:=ζ;rwa[⟨b,c,i,f⟩]
def aaM (te:TE):TS:=λD a H=>te a H D.rt
def a9 (d:PE X e te):PS X (.Return (some e) pos) (aaM te):=by
 intro a s b H D I h;rwa[wpAny_Return_some (bp (d a s b H _ I h) λv j ζ=>?_)];let⟨x,c,i,f,g⟩:=ζ;rwa[⟨x,b,c,i,f,g⟩]
def Wc:TS:=λD _ H=>D.rt .non H
def xM:PS X (.Return none pos) Wc:=λ_ _ a H _ I h=>wpAny_Return_none ⟨.non,a,H,I,2,h⟩
def aaN (c:TT)(t u:TS):TS:=λD a H=>c a H λb d=>if b=true then t D a d else u D a d
def bC {c:Expr}{a b:List Stmt}{j:TT}(p:PT X c j)(o:jz X a t)(n:jz X b u):PS X (.If c a b pos) (aaN j t u):=by
 intro f s g H D I h;rwa[wpAny_If (bp (p f s g H _ I h) λd m ζ=>?_)];let⟨l,i,k⟩:=ζ
 cases d with
 |true=>exact o f m g l D i k
 |false=>exact n f m g l D i k
def Hr:TS:=λ_ _ _=>False
def KG:PS X st Hr:=λ_ _ _ _ _ _ h=>h.elim
def yO {a:List Stmt}:jz X a Hr:=λ_ _ _ _ _ _ h=>h.elim
end
abbrev TG:=V->St->Hp->(St->Hp->Prop)->Prop
abbrev Ep:=Zb->St->Hp->(St->Hp->Prop)->Prop
def PG (X:Cx)(target:Expr)(t:TG):Prop:=
 ∀(a:List (Zs×Obj)) (s:Zu) (d:St) (H:Hp) (v:V) (u:Zt) (Q:St->Hp->Prop),Inv X a d H s->RelV v u->t v d H Q->
  X⁻¹ X.A (assign target X.env u) (λ_ e=>∃ b c,Inv X a b c e/\Q b c) X.xe s
def M5 (X:Cx)(h:Zr)(t:Ep):Prop:=
 ∀(a:List (Zs×Obj)) (s:Zu) (f:St) (H:Hp) (d:Zb) (c:Zk) (Q:St->Hp->Prop),Inv X a f H s->Vals d c->t d f H Q->
  X⁻¹ X.A (assignInOrder ((assignEach h X.env).map (·.2)) c) (λ_ g=>∃ b e,Inv X a b e g/\Q b e) X.xe s
abbrev KH:=V->V->V->Hp->(Hp->Prop)->Prop
def Rg (X:Cx)(t:KH):Prop:=
 ∀(a:List (Zs×Obj)) (s:Zu) (e:St) (H:Hp) (o i v:V) (d b u:Zt) (Q:Hp->Prop),Inv X a e H s->RelV o d->RelV i b->RelV v u->t o i v H Q->
  X⁻¹ X.A (setItem d b u) (λ_ f=>∃c,Inv X a e c f/\Q c) X.xe s
section
variable {X:Cx}{pos:Pos}
def lX (i:Nat):TG:=λv a H Q=>Q (a.set i (some v)) H
def Er (d:X.N.Nodup)(e:X.N[i]?\x)(f:Loc X.env.scope x)(b:X.fn x=true\/X.env.scope.names.lookup x=some .local:=by trivial):PG X (.Name x pos) (lX i):=by
 intro a s j H v u Q I r h;rwa[wpAny_assign_Name (pS I d e f r (λg c=>⟨_,H,c,h⟩) b)]
def aaO:Ep:=λb a H Q=>b=[]/\Q a H
inductive M6 (t:TG) (u:Ep) (vs:Zb) (σ:St) (H:Hp) (Q:(St->Hp->Prop)):Prop
 |mk (v:V) (r:Zb):vs=v::r->(t v σ H λ e8 H'=>u r e8 H' Q)->M6 t u vs σ H Q
def hM:M5 X [] aaO:=by
 intro a s b H d c Q I r h;let⟨e,h⟩:=h;subst e;rwa[assignInOrder_nil ⟨b,H,I,h⟩]
def bX {t:TG}{u:Ep}(g:PG X e t)(c:M5 X C u)
 (l:(assignEach (e::C) X.env).map (·.2)=assign e X.env::(assignEach C X.env).map (·.2):=by rfl):M5 X (e::C) (M6 t u):=by
 intro a s m H o q Q I r h;let⟨v,p,n,h⟩:=h;subst n
 cases r with
 |cons r i=>
  rw[l];rwa[assignInOrder_cons (bp (g a s m H _ _ _ I r h) λ_ k ζ=>?_)];let⟨b,j,d,f⟩:=ζ;rwa[c a k b j _ _ Q d i f]
inductive Rh (K:Za1) (n:Nat) (t:Ep) (v:V) (σ:St) (H:Hp) (Q:(St->Hp->Prop)):Prop
 |mk (a:Zs) (xs:Zb):v=↑a->bB K H a xs->⇑xs=n->t xs σ H Q->Rh K n t v σ H Q
def ja {k:Nat}{t:Ep}(B:X.calm=true)(h:M5 X C t)
 (y:⇑(assignEach C X.env)=n:=by rfl) (d:(assignEach C X.env).findIdx? (·.1)=none:=by rfl):PG X (.Tuple C k pos) (Rh X.K n t):=by
 intro c s g H v u Q I r f;let⟨a,x,A,m,w,f⟩:=f;subst A;ext r;let⟨p,q,i,E⟩:=I.tuple m;rwa[assign_Tuple_tuple (I.ok.hd B) i (by simp[y,<-w,⇑q]) d λl z=>?_]
 let j:Inv X c g H (s<*l):=I.kept (t':=s.toks) λb o e=>z b o (ajm (ai9 e)) e
 rwa[h c _ g H x _ Q j ∅ f]
def aaP (to b:TE)(t:KH):TG:=λv a H Q=>to a H λo d=>b a d λi c=>t o i v c λe=>Q a e
def vq {i:Expr}{to:TE}{t:KH}(q:PE X e to)(B:PE X i r)(A:Rg X t)
 (G:∀v,assign (.Subscript e i pos) X.env v=(do
  let c <-holding [v] (eval e X.env)
  let d <-holding [v,c] (eval i X.env)
  standAt pos
  holding [v,c,d] (setItem c d v)
  release [v,c,d] []):=by intro _;rfl):PG X (.Subscript e i pos) (aaP to r t):=by
 intro b s f H v u Q I a h;rwa[aiK (ajP (bp (q b s f H _ I h) λc z ζ=>?_))];let⟨x,w,j,g,n⟩:=ζ;rwa[aiK (ajP (bp (B b z f w _ j n) λd m ζ=>?_))];let⟨y,D,p,C,E⟩:=ζ;rwa[aiK (alM (aiK (ajP (bp (A b m f D x y v c d u _ p g C a E) λ_ F ζ=>?_))))];let⟨k,l,o⟩:=ζ;rwa[wpAny_release ⟨f,k,l,o⟩]
def xN (b:TE)(g:TG):TS:=λD a H=>b a H λx c=>g x a c D.nx
def kU {a:Expr}{g:TG}(p:PE X a r)(f:PG X e g)(o:swapsWithSole [e] a pos.line X.env=pure false:=by rfl)(l:swappedStores [e] a X.env=pure none:=by rfl)
 (k:(assignEach [e] X.env).map (·.2)=[assign e X.env]:=by rfl):PS X (.Assign [e] a pos) (xN r g):=by
 intro b s c H D I h;rwa[wpAny_Assign_stores (bp (p b s c H _ I h) λv n ζ=>?_) o l];let⟨x,m,i,d,j⟩:=ζ;rw[k];rwa[bp (f b n c m x v _ i d j) λ_ t q=>q]
def Ri {pos':Pos}(o:X.N.Nodup)(l:X.N[i]?\x)(n:Loc X.env.scope x)(p:PE X e r)(k:swapsWith e (some (.Name x pos')) pos.line X.env=pure false:=by rfl)(g:X.fn x=true\/X.env.scope.names.lookup x=some .local:=by trivial):
 PS X (.Assign [.Name x pos'] e pos) (xN r (lX i)):=by
 intro a s m H D I h;rwa[wpAny_Assign_Name (bp (p a s m H _ I h) λv t ζ=>?_) k];let⟨y,j,c,b,d⟩:=ζ;rwa[pS c o l n b (λq f=>⟨_,j,f,d⟩) g]
inductive ipI (f:Int->Int->Int) (x:V) (y:V) (H:Hp) (Q:VK):Prop
 |mk (i j:Int):x=.int i->y=.int j->Q (.int (f i j)) H->ipI f x y H Q
end
section
variable {X:Cx}{pos:Pos}
def Rj (c:TT)(h:TS):TS:=λD a H=>∃W:Nat->St->Hp->Prop,(∃m,W m a H)/\∀m a H,W m a H->
 c a H λb e=>if b=true then ∃N:St->Hp->Prop,(∀ d g,N d g->∃f,f<m/\W f d g)/\h { D with nx:=N,ct:=N,bk:=D.nx } a e else D.nx a e
def fU {body:List Stmt}{r:TT}{u:TS}(w:PassesOwn (model X.prog X.w) X.A X.env X.xe)(P:PT X e r)(E:jz X body u):PS X (.While e body [] pos) (Rj r u):=by
 intro c s O H D I h;let⟨W,⟨J,L⟩,turn⟩:=h;rwa[wpAny_While (codeAny_whileLoop (λn B=>∃ i z,Inv X c i z B/\W n i z) ?_ J ⟨O,H,I,L⟩)];rintro n M ⟨d,x,F,C⟩;rwa[akZ w (bp (P c M d x _ F (turn n d x C)) λb G ζ=>?_)];let⟨y,t,k⟩:=ζ
 cases b with
 |true=>
  let⟨N,A,k⟩:=k;rwa[akZ w (bp (E c G d y _ t k) λf Q j=>?_)]
  cases f with
  |next=>
   let⟨a,g,o,m⟩:=j;let⟨p,q,l⟩:=A a g m;rwa[p,q,a,g,o,l]
  |cont=>
   let⟨a,g,o,m⟩:=j;let⟨p,q,l⟩:=A a g m;rwa[p,q,a,g,o,l]
  |brk=>exact j
  |ret v=>exact j
 |false=>
  rwa[akY ⟨d,y,t,k⟩]
end
structure It where
 go:Nat->Hp->Prop
 tR:Nat->Hp->V->Hp->Prop
 stop:Nat->Hp->Prop
def pT (X:Cx)(a:List (Zs×Obj))(H:Hp)(b:Zs):Prop:=
 H b=none/\b≠X.env.locals/\b∉X.fs/\(b∈X.ex\/X.eK.heap.objs.size<=b)/\(∀x c,X.env.cells.lookup x\c->c≠b)/\∀p∈X.pn++a,p.1≠b
def Inv.FX (a:Inv X o D H s)(d:↥s<=b)(g:I b=none):pT X o I b:=by
 rwa[⟨g,aj2 (ajk a.lt d),a.FV d,.inr (ai0 a.sz d),λx c e z=>?_,λp f z=>?_⟩]
 ·let⟨v,q⟩:=a.cell x c e;rwa[absurd (ajk q.lt ([z]▸d)) (aka _)]
 ·rwa[absurd (ajk (ai9 (a.pin p f).1) ([z]▸d)) (aka _)]
structure Turn (P:Program) (w:World) (K:Za1) (tg:Expr) (J:It) (fp:Zn) (it:Zs) (tn:Nat->Heap->Prop):Prop where
 mem:it∈fp
 obj:∀i h,tn i h->∀b∈fp,∃o,h.get? b\o/\∀v,o.data≠.cell v
 keep:∀i h h',tn i h->(∀b∈fp,∀o,h.get? b\o->h'.get? b\o)->tn i h'
 item:∀(X:Cx),X.prog=P->X.w=w->X.K=K->X.calm=true->∀(i:Nat) (pins:List (Zs×Obj)) (s:Zu) (σ:St) (H:Hp) (E:Zt->Zu->Prop),Inv X pins σ H s->(∀b∈fp,pT X pins H b)->tn i s.heap->J.go i H->
  (P<|>w) X.A (pyNext ↑it) (λr s1=>∃u,r\u/\
   (P<|>w) X.A (letOwnedTupleGo tg ↑it u) (λ_ s2=>∃x H',Inv X pins σ H' s2/\RelV x u/\J.tR i H x H'/\tn (i+ 1) s2.heap/\∀b∈fp,H' b=none) E s1) E s
 done:∀(X:Cx),X.prog=P->X.w=w->X.K=K->X.calm=true->∀(i:Nat) (pins:List (Zs×Obj)) (s:Zu) (σ:St) (H:Hp) (E:Zt->Zu->Prop),Inv X pins σ H s->(∀b∈fp,pT X pins H b)->tn i s.heap->J.stop i H->
  (P<|>w) X.A (pyNext ↑it) (λr s1=>r=none/\Inv X pins σ H s1) E s
 self:∀(A:Around) (i:Nat) (s:Zu) (Q:Zt->Zu->Prop) (E:Zt->Zu->Prop),tn i s.heap->Q ↑it s->(P<|>w) A (pyIter ↑it) Q E s
abbrev TI:=St->Hp->(It->Hp->Prop)->Prop
def M7 (X:Cx)(a:List (Zs×Obj))(h:St)(g:Expr)(R:It->Hp->Prop)(c:Zt)(s2:Zu):Prop:=
 ∃(it:Zs) (f:Zn) (e:Nat->Heap->Prop) (J:It) (d:Hp),c=↑it/\Inv X a h d s2/\Turn X.prog X.w X.K g J f it e/\e 0 s2.heap/\(∀b∈f,pT X a d b)/\R J d
def PI (X:Cx)(d iter:Expr)(c:TI):Prop:=
 ∀(a:List (Zs×Obj)) (s:Zu) (b:St) (H:Hp) (R:It->Hp->Prop),Inv X a b H s->c b H R->
  X⁻¹ X.A (eval iter X.env) (λv e=>X⁻¹ X.A (pyIter v) (M7 X a b d R) X.xe e) X.xe s
abbrev M8:List String:=["enumerate","zip","dict_itemiterator","dict_reverseitemiterator","odict_iterator","itertools.zip_longest","itertools.pairwise"]
def M9 {M:Model}{it:Zs}{o:Obj}{n:String}{b:Zm}(d:s•it\o)(f:o.cls=.type n)(c:o.data=.fields b)
 (g:M8.contains n=false) (a:U () s):wpAny M A (letOwnedTupleGo e ↑it u) U E s:=by
 cases e <;> first
  |rwa[aiU a]
  |(cases u <;> first
   |rwa[aiU a]
   |(rwa[aiK (wpAny_load d ?_)]
     rw[f,c];show wpAny M A (if (M8.contains n && b[0]?==some (rawInt _))=true then _ else _) U E s;rw[ajb (by cbv)];rwa[aiU a]))
def Es (Q:Hp->Zb->Prop):It:=
 ⟨λi H=>∃xs x,Q H xs/\xs[i]?\x,λi H x a=>a=H/\∀xs,Q H xs->xs[i]?\x,λi H=>∃xs,Q H xs/\⇑xs=i⟩
abbrev Hs (K:Za1) (a:Zs):It:=Es (λH=>aD K H a)
abbrev Ht (K:Za1) (a:Zs):It:=Es (λH=>bB K H a)
noncomputable def AB (lo:Int)(n:Nat):It:=⟨λi _=>i<n,λi H x a=>a=H/\x=.int (lo+ i),λi _=>n<=i⟩
def Inv.mv {fp:Zn}{t':Nat}(I:Inv X o D H s)(k:∀b u,b∉fp->s•b\u->h.get? b\u)(d:∀b∈fp,pT X o H b):Inv X o D H { s with heap:=h,toks:=t' }:=by
 let g:∀b u,H b\u->b∉fp:=λb u e z=>by rw[(d b z).1]at e;ext e
 refine I.step (g':=s.gens) (d':=s.drawn) (ch:=fp) (λb f=>⟨(d b f).2.2.2.1,(d b f).2.1,(d b f).2.2.2.2.1,(d b f).2.2.2.2.2⟩) (λb a _ _ hc e _=>k b a hc e) (λb a _ _ hc e _=>⟨a.slots,k b a hc e⟩)
  (λb a _ e n=>n) (λb a hc e=>⟨a,k b a hc e⟩) (λb j e=>e) (λb a u e=>e) (λb w e=>⟨#[],by rw[e];simp⟩) (λm p=>?_) (λb u e=>?_) I.bare
 ·let⟨a,l,t,i,r⟩:=p;rwa[a,l,t,k _ a (λz=>(d _ z).2.1 rfl) i,r]
 ·rwa[(I.aP b u e).fE (λc v hc q=>k c v ?_ q) (λc q=>q) λc j q=>q]
  rcases hc with z|z
  ·rw[z];rwa[g b u e]
  ·rwa[g c _ z]
namespace Et
section
variable {prog:Program}{w:World}{A:Around}{E:Zt->Zu->Prop}{s:Zu}
theorem item {it t:Zs}{items:Zm}{x:Zt}(hit:s.heap.IsTupleIter it t i)(e:s.heap.IsTuple t items)(j:items[i]?\x)
 (f:∀g,g.IsTupleIter it t (i+ 1)->Heap.SameBut it s.heap g->Q x (s<*g)):(prog<|>w) A (Builtin.SmallTypes.nextOf ↑it) Q E s:=by
 let⟨o,b,h,a⟩:=id hit;let⟨l,d,_,k,c⟩:=e;rwa[aiK (aj3 (name:=Str.ofString "__next__") hit.typeIs akP (akb akP hit.typeIs F.entry_tuple_iterator_next ?_ (F.args_tuple_iterator_next_1 _)))];show wpAny _ _ (field ↑it 0 >>=_) _ _ s;rwa[aiK (ajS b a (x:=↑t) rfl ?_)];rw[ajb (show ¬((Value.ref t==Value.none)=true) by cbv)];rwa[aiK (ajS b a (x:=.int i 0) rfl ?_)];rwa[aiK (alw d c ?_)];simp only[ajq,j];rwa[aiK (akT b a (by simp) (aiU ⟨x,2,aiU (f _ ⟨_,ajB _ b (akR (akk a _)),(Obj.cls_mapFields ..).trans h,by rw[akk a];simp[rawInt]⟩ (akf ..))⟩))]
theorem fin {it t:Zs}{items:Zm}(h:A.handled=none)(hit:s.heap.IsTupleIter it t i)(j:s.heap.IsTuple t items)(l:items[i]?=none)
 (k:∀g e,Heap.ExtBut it s.heap g->(∃o,g.get? e\o/\o.cls=.type "StopIteration")->E ↑e (s<*g)):(prog<|>w) A (Builtin.SmallTypes.nextOf ↑it) Q E s:=by
 let⟨o,d,p,b⟩:=id hit;let⟨q,c,_,n,f⟩:=j;rwa[aiK (aj3 (name:=Str.ofString "__next__") hit.typeIs akP (akb akP hit.typeIs F.entry_tuple_iterator_next ?_ (F.args_tuple_iterator_next_1 _)))];show wpAny _ _ (field ↑it 0 >>=_) _ _ s;rwa[aiK (ajS d b (x:=↑t) rfl ?_)];rw[ajb (show ¬((Value.ref t==Value.none)=true) by cbv)];rwa[aiK (ajS d b (x:=.int i 0) rfl ?_)];rwa[aiK (alw c f ?_)];simp only[ajq,l];rwa[aiK (al0 (aiK (akT d b (by simp) ?_)))];rwa[aiK ?_];rwa[aiK (m:=firstArgMember _ _) (wpAny_of_eq (a:=Value.none) (by first|rfl|(simp only[firstArgMember];rfl)) ?_)];rwa[ajJ ?_ (by size_fits)];rwa[aiK (wpAny_handled ?_)];first|rw[show A.in1.handled=none from h]|rw[h]
 rwa[aiK (aiU (wpAny_throw ?_))];rwa[k _ _ (((akf ..).extBut.push _).push _) ⟨_,ai2 _ rfl,2⟩]
def draws (n:A.handled=none)(it l:Zs)(a:l≠it)(items:Zm):Draws prog w A it [it,l] items.size (λi v=>items[i]?\v) (λi h=>h.IsTupleIter it l i/\h.IsTuple l items) where
 live:=λ_ _ st=>let ⟨o,b,_⟩:=st.1;⟨o,b⟩
 frame:=λ_ _ _ st c=>⟨st.1.at λo e=>c it (by simp) o e,by let⟨o,b,r⟩:=st.2;rwa[o,c l (by simp) o b,r]⟩
 item:=λi s Q E d st j=>by
  rwa[item st.1 st.2 (x:=items[i]) (by simp[d]) λg k f=>?_]
  rwa[j _ g s.toks (by simp[d]) ⟨k,st.2.extBut f.extBut a⟩ f]
 done:=λs Q E st m=>fin n st.1 st.2 (by simp) m
end
end Et
def vt {o u:Obj}(c:h.get? a\o)(d:h.get? b\u)(e:o.cls≠u.cls):a≠b:=λz=>by
 cbv
structure Hu (K:Za1) (Q:Hp->Zb->Prop) (a it:Zs) (tn:Nat->Heap->Prop):Prop where
 ob:∀i h,tn i h->∃o n vs,h.get? it\o/\o.cls=.type n/\o.data=.fields vs/\M8.contains n=false
 kp:∀i h h',tn i h->(∀o,h.get? it\o->h'.get? it\o)->tn i h'
 dr:∀{X:Cx} {pins:List (Zs×Obj)} {σ:St} {H:Hp} {s:Zu} {i:Nat} {xs:Zb},X.K=K->X.calm=true->Inv X pins σ H s->Q H xs->tn i s.heap->
  (∀ys,Q H ys->ys=xs)/\∃(its:Zk) (oa:Obj) (St:Nat->Heap->Prop),Vals xs its/\s•a\oa/\oa.cls≠.type "enumerate"/\Draws X.prog X.w X.A.in1 it [it,a] its.toArray.size (λi v=>its.toArray[i]?\v) St/\
   Walks X.prog X.w X.A it [it,a] [it] its.toArray.size (λi v=>its.toArray[i]?\v) St/\St i s.heap/\∀i h,St i h->tn i h
def uA (a it:Zs):Hu K (λH=>aD K H a) a it (λi h=>h.IsListIter it a i) where
 ob:=λi h ζ=>by let⟨o,e,c,d⟩:=ζ;rwa[⟨o,11,e,c,d,4⟩]
 kp:=λi h v st k=>st.at k
 dr:=λ{X g B H s i z} m j I q st=>by
  subst m;let⟨b,r,p,_⟩:=I.list q;let p:=p.isList;let⟨u,f,t,_⟩:=id p;let⟨w,l,x,_⟩:=id st;let n:=vt f l (by cbv);rwa[λys y=>I.KD y q,b,u,_,r,f,by rw[t];decide,Draws.list (A:=X.A.in1) (I.ok.hd j) it a n _,.list (I.ok.hd j) it a n _,⟨st,p⟩,λ_ _ y=>y.1]
def Eu (a it:Zs):Hu K (λH=>bB K H a) a it (λi h=>h.IsTupleIter it a i) where
 ob:=λi h ζ=>by let⟨o,e,c,d⟩:=ζ;rwa[⟨o,11,e,c,d,4⟩]
 kp:=λi h v st k=>st.at k
 dr:=λ{X g B H s i z} m j I q st=>by
  subst m;let⟨b,r,p,_⟩:=I.tuple q;let⟨u,f,t,_⟩:=id p;let⟨w,l,x,_⟩:=id st;let n:=vt f l (by cbv);rwa[λys y=>I.Hq y q,b,u,_,r,f,by rw[t];decide,Et.draws (A:=X.A.in1) (I.ok.hd j) it a n _,.tuple (I.ok.hd j) it a n _,⟨st,p⟩,λ_ _ y=>y.1]
def Hv {J:It}{it:Zs}{j:Nat->Heap->Prop}(S:∀i h,j i h->∃o n F,h.get? it\o/\o.cls=.type n/\o.data=.fields F/\M8.contains n=false)
 (kp:∀i h g,j i h->(∀o,h.get? it\o->g.get? it\o)->j i g)
 (wk:∀(X:Cx) (f:List (Zs×Obj)) (t:St) (H:Hp) (s:Zu) (i:Nat),X.K=K->X.calm=true->Inv X f t H s->j i s.heap->J.go i H\/J.stop i H->∃C n u St,Walks X.prog X.w X.A it C [it] n u St/\St i s.heap/\(∀i h,St i h->j i h)/\
  (J.go i H->i<n/\∀v,u i v->∃x,RelV x v/\J.tR i H x H)/\(J.stop i H->i=n))
 (sf:∀(A:Around) (i:Nat) (s:Zu) (Q:Zt->Zu->Prop) (E:Zt->Zu->Prop),j i s.heap->Q ↑it s->(P<|>w) A (pyIter ↑it) Q E s):Turn P w K e J [it] it j where
 mem:=by simp
 obj:=λi h st b D=>by
  let⟨o,n,F,a,_,d,_⟩:=S i h st;rw[aiR.mp D];rwa[o,a,by cbv]
 keep:=λi h g st k=>kp i h g st (k it (by simp))
 item:=by
  intro X N M G O i f s t H E I z st l;subst N M;let⟨C,n,u,St,W,L,B,q,_⟩:=wk X f t H s i G O I st (.inl l);let⟨T,q⟩:=q l;rwa[W.item i s _ _ T L λv g R V p k=>?_]
  let⟨o,m,F,a,c,d,U⟩:=S^B^p;let⟨x,r,y⟩:=q v V;rwa[v,2,M9 (s:={ s with heap:=g,toks:=R }) a c d U ⟨x,H,I.mv k z,r,y,B^p,λb D=>(z b D).1⟩]
 done:=by
  intro X N M G O i f s t H E I z st l;subst N M;let⟨C,n,u,St,W,L,B,_,q⟩:=wk X f t H s i G O I st (.inr l);rwa[W.done s _ _ (q l ▸ L) λg R k=>⟨2,I.mv k z⟩]
 self:=sf
def AF {Q:Hp->Zb->Prop}{it:Zs}{d:Nat->Heap->Prop}(S:Hu K Q a it d)
 (sf:∀(A:Around) (i:Nat) (s:Zu) (Q:Zt->Zu->Prop) (E:Zt->Zu->Prop),d i s.heap->Q ↑it s->(P<|>w) A (pyIter ↑it) Q E s):Turn P w K e (Es Q) [it] it d:=
 Hv S.ob S.kp (λX j C H s i n r I st h=>by
  obtain⟨b,q⟩:∃b,Q H b:=by
   rcases h with ⟨b,_,q,_⟩|⟨b,q,_⟩ <;> rwa[⟨b,q⟩]
  let⟨inj,m,D,St,f,_,_,_,W,o,k⟩:=S.dr n r I q st;let t:=⇑f;rwa[⟨1111,W,o,k,λg=>?_,λg=>?_⟩]
  ·let⟨ys,x,y,c⟩:=g;rw[inj ys y]at c;let⟨u,B,F⟩:=f.get c;rwa[⟨by simp;cbv,λv p=>⟨x,52,λl z=>[inj l z]▸c⟩⟩];simp at p
   cbv
  ·let⟨ys,y,c⟩:=g;rw[inj ys y]at c;simp;omega) sf
def Hw (a it:Zs):Turn P w K e (Hs K a) [it] it (λi h=>h.IsListIter it a i):=
 AF (uA a it) λ_ _ _ _ _ st h=>wpAny_pyIter_listiter st h
def FY (a it:Zs):Turn P w K e (Ht K a) [it] it (λi h=>h.IsTupleIter it a i):=
 AF (Eu a it) λ_ _ _ _ _ st h=>wpAny_pyIter_tupleiter st h
def FZ (it:Zs)(lo:Int)(n:Nat):Turn P w K e (AB lo n) [it] it (λi h=>IsRangeIter h it (lo+ (i:Nat)* 1) ((n:Int) - (i:Nat)) 1) where
 mem:=by simp
 obj:=λi h st b f=>by
  cbv
 keep:=λi h l st k=>k it (by simp) _ st
 item:=by
  intro X u q p m i d s A H E I g st j;subst u q p;let W:=Walks.range (prog:=X.prog) (w:=X.w) (I.ok.hd m) it lo 1 n;rwa[W.item i s _ _ j st λv l x B c y=>?_]
  let⟨t,rfl⟩:=B;rwa[⟨12,M9 (s:={ s with heap:=l,toks:=x }) (n:="range_iterator") c rfl rfl ⋯ ⟨.int (lo+ i),H,I.mv y g,⟨t,5⟩,⟨22⟩,c,λb f=>(g b f).1⟩⟩]
  cbv
 done:=by
  intro X u q p m i d s A H E I g st j;rwa[wpAny_pyNext_range_end (I.ok.hd m) st (by have:n<=i:=j;omega) λl z=>⟨2,I.mv (t':=s.toks) (λb o f a=>z b o (by simpa using f) a) g⟩]
 self:=λ_ _ _ _ _ st h=>wpAny_pyIter_rangeiter st h
section
variable {X:Cx}{tg:Expr}
def Wd (K:Za1)(tl:TE):TI:=λ d H R=>tl d H λx b=>∃a,x=↑a/\(∃c,aD K b a c)/\R (Hs K a) b
def aaQ (K:Za1)(tl:TE):TI:=λ d H R=>tl d H λx b=>∃a,x=↑a/\(∃c,bB K b a c)/\R (Ht K a) b
def vu {R:It->Hp->Prop}{J:It}{c:Nat->Heap->Prop}{a:Obj}{t:Nat}(I:Inv X o D H s)(T:Turn X.prog X.w X.K tg J [↥s] ↥s c)(d:c 0 (s.heap.push a))(q:R J H):
 M7 X o D tg R ↑↥s { s with heap:=s.heap.push a,toks:=t }:=
 ⟨1111,H,2,I.kept λb a e=>aiM _ e,T,d,λb f=>by
   rw[aiR.mp f];rwa[I.FX (aiS _) (I.aP.fresh (aiS _))],q⟩
def cY {tl:TE}(j:PE X e tl):PI X tg e (Wd X.K tl):=by
 intro c s k H R I h;rwa[bp (j c s k H _ I h) λv r ζ=>?_];let⟨x,n,d,f,a,b,⟨o,g⟩,q⟩:=ζ
 subst b;ext f;let⟨i,l,p,m⟩:=d.list g;rwa[ak0 p.isList (vu d (Hw a _) ⟨_,ai2 _ rfl,22⟩ q)]
def vw {tl:TE}(n:PE X e tl):PI X tg e (aaQ X.K tl):=by
 intro d s r H R I h;rwa[bp (n d s r H _ I h) λv s1 ζ=>?_];let⟨x,m,f,i,l⟩:=ζ
 let⟨a,c,⟨y,k⟩,q⟩:=l;subst c;ext i;let⟨g,u,p,w⟩:=f.tuple k;rwa[wpAny_pyIter_tuple (show s1.heap.IsTuple a g.toArray from p) ?_];rwa[⟨↥s1,[↥s1],11,m,2,f.kept (t':=s1.toks) λb o c=>aiM _ c,FY a _,⟨_,ai2 _ rfl,22⟩,λb j=>?_,q⟩];let c:b=↥s1:=by simpa using j
 subst c;rwa[f.FX (aiS _) (f.aP.fresh (aiS _))]
def AG {R:It->Hp->Prop}{lo:Int}{t u v:Tok}(I:Inv X o D H s)(f: -(2 ^ 62)<=lo)(c:lo<2 ^ 62)(h: -(2 ^ 62)<=z)(d:z<2 ^ 62)
 (q:R (AB lo (z - lo).toNat) H):X⁻¹ X.A (pyIter ↑↥s) (M7 X o D tg R) E { s with heap:=s.heap.push ("range">>>.fields #[.int lo t,.int z u,.int 1 v]),toks:=n }:=by
 rwa[wpAny_pyIter_range (IsRange.new ..) (small_one f c h d) (vu (s:={ s with heap:=s.heap.push _,toks:=n }) (I.kept λb a e=>aiM _ e) (FZ _ lo (z - lo).toNat) ?_ q)];let i:lo+ ((0:Nat):Int)* 1=lo:=by simp
 let g:(((z - lo).toNat:Nat):Int) - ((0:Nat):Int)=Builtin.Range.rangeSize lo z 1:=by rw[rangeSize_one];split <;> ext
 rw[i,g];rwa[ai2 _ rfl]
def Wg (c:TA):TI:=λ d H R=>c d H λa b=>∃j:Int,a=[.int j]/\-(2 ^ 62)<=j/\j<2 ^ 62/\R (AB 0 j.toNat) b
def Wh (c:TA):TI:=λ d H R=>c d H λa b=>∃i j:Int,a=[.int i,.int j]/\(-(2 ^ 62)<=i/\i<2 ^ 62/\-(2 ^ 62)<=j/\j<2 ^ 62)/\R (AB i (j - i).toNat) b
def gL {f:TA}{c:Pos}(i:Gl X "range")(o:X.mg "range"=none)(u:PA X [e] f)(m:starEach [e] X.env=[(false,eval e X.env)]:=by rfl):PI X tg (.Call (.Name "range" p) [e] [] c) (Wg f):=by
 intro a s n H R I h;rwa[Call_ (gw I i o boot_range (ajH (bp (u c a s n H _ I h) λz y ζ=>?_) m rfl))];let⟨w,x,k,g,d⟩:=ζ;let⟨j,b,d,v,q⟩:=d;subst b
 cases g with
 |cons r l=>
  ext l;let⟨t,rfl⟩:=r;rwa[call_range_1 (AG k ∅ ∅ d v (by simpa using q))]
def kX {b:Expr}{l:TA}{f:Pos}(o:Gl X "range")(z:X.mg "range"=none)(A:PA X [e,b] l)(x:starEach [e,b] X.env=[(false,eval e X.env),(false,eval b X.env)]:=by rfl)(d:starEach [b] X.env=[(false,eval b X.env)]:=by rfl):
 PI X tg (.Call (.Name "range" p) [e,b] [] f) (Wh l):=by
 intro a s y H R I h;rwa[Call_ (gw I o z boot_range (ajH (bp (A f a s y H _ I h) λG F ζ=>?_) (by rw[x,d]) (by rw[d];rfl)))];let⟨D,E,u,n,g⟩:=ζ;let⟨i,j,c,⟨g,B,v,w⟩,q⟩:=g;subst c
 cases n with
 |cons r k=>
  cases k with
  |cons m k=>
   ext k;let⟨t,rfl⟩:=r;let⟨C,rfl⟩:=m;rwa[call_range_2 (AG u g B v w q)]
abbrev pU (J:It) (g:TG) (tb:TS) (D:Ends) (σ:St) (H:Hp):Prop:=∃W:Nat->Nat->St->Hp->Prop,(∃m,W 0 m σ H)/\∀i m σ H,W i m σ H->
 (J.stop i H/\D.nx σ H)\/(J.go i H/\∃N:St->Hp->Prop,(∀ e8 H',N e8 H'->∃m',m'<m/\W (i+ 1) m' e8 H')/\∀x H',J.tR i H x H'->g x σ H' λ σ2 H2=>tb { D with nx:=N,ct:=N,bk:=D.nx } σ2 H2)
def aaR (c:TI)(g:TG)(b:TS):TS:=λD a H=>c a H λJ d=>pU J g b D a d
noncomputable def vx (a:Zn)(h:Heap):List (Zs×Obj):=a.filterMap λb=>(h.get? b).map λo=>(b,o)
def iL {o:Obj}(a:b∈F)(e:h.get? b\o):(b,o)∈vx F h:=alN.mpr ⟨b,a,by rw[e];rfl⟩
def Hx {p:Zs×Obj}(a:p∈vx F h):p.1∈F/\h.get? p.1\p.2:=by
 let⟨b,c,e⟩:=alN.mp a
 cases q:h.get? b with
 |none=>rw[q]at e;ext e
 |some o=>
  cbv
def Inv.pinned (I:Inv X o D H s)(d:∀b∈F,pT X o H b)(h:∀b∈F,∃a,s•b\a/\∀v,a.data≠.cell v):Inv X (o++vx F s.heap) D H s:=
 I.jy λp c=>(aiY.mp c).elim (λz=>I.pin p (aiV _ z)) λz=>by
  let⟨f,e⟩:=Hx z;let⟨i,f1,g,_⟩:=d p.1 f
  cbv
def Inv.uB {pl:List (Zs×Obj)}(I:Inv X (o++pl) D H s):Inv X o D H s:=I.jy λp a=>I.pin p (aiV _ (ajh _ a))
def ck {iter:Expr}{body:List Stmt}{S:TI}{g:TG}{Z:TS}(F:PassesOwn (model X.prog X.w) X.A X.env X.xe)(Y:X.calm=true)(hi:PI X tg iter S)(hg:PG X tg g)(k:jz X body Z)
 (hs:∀x,foldedSetIterable iter X.env x=pure x:=by intro _;rfl):PS X (.For tg iter body [] p) (aaR S g Z):=by
 intro c s σ H D I h;rwa[wpAny_For (bp (hi c s σ H _ I h) λv s1 h1=>bp h1 λitv s2 h2=>?_) hs];let⟨it,B,tn,J,H2,e,I2,T,P,V,W,⟨m0,w0⟩,turn⟩:=h2;subst e
 let stat:∀{w:Hp},(∀b∈B,w b=none)->∀b∈B,pT X c w b:=λhn b k=>⟨hn b k,(V b k).2⟩
 rwa[codeAny_forLoop_any (λn s'=>∃i t w,Inv X c t w s'/\tn i s'.heap/\(∀b∈B,w b=none)/\W i n t w) ?_ m0 ⟨(0),σ,H2,I2,P,λb k=>(V b k).1,w0⟩];rintro n s3 ⟨i,j,G,I3,C,E,w3⟩;rcases turn i n j G w3 with ⟨stop,qn⟩|⟨go,N,hN,step⟩
 ·rwa[akZ F (bp (T.done X rfl rfl rfl Y i c s3 j G X.xe I3 (stat E) C stop) λr s4 ζ=>?_)];let⟨Q,I4⟩:=ζ;subst Q;rwa[akY ⟨j,G,I4,qn⟩]
 ·rwa[akZ F (bp (T.item X rfl rfl rfl Y i c s3 j G X.xe I3 (stat E) C go) λr s4 ζ=>?_)];let⟨u,Q,h4⟩:=ζ;subst Q;rwa[akZ F (bp h4 λ_ s5 ζ=>?_)];let⟨x,U,I5,r5,y5,z,M⟩:=ζ;let R:=I5.pinned (stat M) (T.obj^z);rwa[akZ F (bp (hg _ s5 j U x u _ R r5 (step x U y5)) λ_ s6 ζ=>?_)];let⟨O,H6,I6,q6⟩:=ζ;rwa[akZ F (bp (k _ s6 O H6 _ I6 q6) λf L y=>?_)]
  let again:∀{a:St} {l:Hp},Inv X (c++vx B s5.heap) a l L->N a l->∃m,m<n/\∃i t w,Inv X c t w L/\tn i L.heap/\(∀b∈B,w b=none)/\W i m t w:=λ{a l} q A=>by
   let⟨m',hm,w7⟩:=hN a l A;rwa[⟨m',hm,i+ 1,a,l,q.uB,T.keep _ _ _ z λb k o e=>(q.pin (b,o) (aiV _ (aiV _ (iL k e)))).1,λb k=>?_,w7⟩];let⟨o,e,d⟩:=T.obj _ _ z b k;rwa[(q.pin (b,o) (aiV _ (aiV _ (iL k e)))).2.1]
  cases f with
  |next=>let⟨a,l,q,A⟩:=y;rwa[again q A]
  |cont=>let⟨a,l,q,A⟩:=y;rwa[again q A]
  |brk=>let⟨a,l,q,y⟩:=y;rwa[a,l,q.uB,y]
  |ret v=>let⟨x7,a,l,q,r7,y⟩:=y;rwa[x7,a,l,q.uB,r7,y]
end
section
variable {g:TG}{tb:TS}{D:Ends}{σ:St}{H:Hp}{Pv:Nat->St->Hp->Prop}
def sP {J:It}(j:Pv 0 σ H)
 (d:∀i σ H,i<n->Pv i σ H->J.go i H/\∀x c,J.tR i H x c->g x σ c λ b e=>tb { D with nx:=Pv (i+ 1),ct:=Pv (i+ 1),bk:=D.nx } b e)
 (f:∀ σ H,Pv n σ H->J.stop n H/\D.nx σ H):pU J g tb D σ H:=by
 erw[λi m σ H=>m=n - i/\i<=n/\Pv i σ H,⟨n,2,ajj _,j⟩];rintro i m σ H ⟨rfl,o,p⟩;cases a:i<n
 ·rwa[.inr ⟨(d i σ H a p).1,Pv (i+ 1),λ k c h=>⟨n - (i+ 1),32,a,h⟩,(d i σ H a p).2⟩]
 ·obtain rfl:i=n:=∅
  rwa[.inl (f σ H p)]
def eI {Q:Hp->Zb->Prop}{xs:Zb}(Pv:Nat->St->Hp->Prop)(f:Pv 0 σ H)(b:∀i σ H,i<=⇑xs->Pv i σ H->Q H xs)
 (h:∀i x σ H,xs[i]?\x->Pv i σ H->g x σ H λ a e=>tb { D with nx:=Pv (i+ 1),ct:=Pv (i+ 1),bk:=D.nx } a e) (d:∀ σ H,Pv ⇑xs σ H->D.nx σ H):pU (Es Q) g tb D σ H:=
 sP f (λi σ H c p=>⟨⟨xs,xs[i],b i σ H (akz c) p,aiL c⟩,λx j y=>by
  rw[y.1];rwa[h i x σ _ (y.2 xs (b i σ _ (akz c) p)) p]⟩) λ σ H p=>⟨⟨xs,b _ σ H (aiS _) p,2⟩,d σ H p⟩
def gM {lo:Int}(Pv:Nat->St->Hp->Prop)(e:Pv 0 σ H)
 (f:∀i σ H,i<n->Pv i σ H->g (.int (lo+ i)) σ H λ a d=>tb { D with nx:=Pv (i+ 1),ct:=Pv (i+ 1),bk:=D.nx } a d) (c:∀ σ H,Pv n σ H->D.nx σ H):pU (AB lo n) g tb D σ H:=
 sP e (λi σ H b p=>⟨b,λx h y=>by
  rw[y.1,y.2];rwa[f i σ _ b p]⟩) λ σ H p=>⟨aiS n,c σ H p⟩
end
abbrev R2:=V->V->Hp->VK->Prop
def fB (X:Cx)(f:Zt->Zt->Sem Zt)(r:R2):Prop:=
 ∀(a:List (Zs×Obj)) (s:Zu) (b:St) (H:Hp) (x y:V) (v u:Zt) (Q:VK),Inv X a b H s->RelV x v->RelV y u->r x y H Q->
  X⁻¹ X.A (f v u) (EP X a b Q) X.xe s
def Rk (X:Cx)(f:Zt->Sem Zt)(r:V->Hp->VK->Prop):Prop:=
 ∀(a:List (Zs×Obj)) (s:Zu) (b:St) (H:Hp) (x:V) (v:Zt) (Q:VK),Inv X a b H s->RelV x v->r x H Q->
  X⁻¹ X.A (f v) (EP X a b Q) X.xe s
def iM (X:Cx)(f:Zt)(r:Zb->Hp->VK->Prop):Prop:=
 ∀(a:List (Zs×Obj)) (s:Zu) (d:St) (H:Hp) (c:Zb) (b:Zk) (Q:VK),Inv X a d H s->Vals c b->r c H Q->
  X⁻¹ X.A (call f b) (EP X a d Q) X.xe s
noncomputable def aaS (X:Cx)(r:V->Hp->(Bool->Hp->Prop)->Prop):Prop:=
 ∀(a:List (Zs×Obj)) (s:Zu) (b:St) (H:Hp) (x:V) (v:Zt) (Q:Bool->Hp->Prop),Inv X a b H s->RelV x v->r x H Q->
  X⁻¹ X.A (truthy v) (TP X a b Q) X.xe s
def Nb (r:R2)(e b:TE):TE:=λ a H Q=>e a H λx d=>b a d λy c=>r x y c Q
def tUn (r:V->Hp->VK->Prop)(b:TE):TE:=λ c H Q=>b c H λx a=>r x a Q
inductive rI (C:Int->Int->Prop) (g:Int->Int->V) (x:V) (y:V) (H:Hp) (Q:VK):Prop
 |mk (i j:Int):x=.int i->y=.int j->C i j->Q (g i j) H->rI C g x y H Q
inductive vy (g:Int->Int->V) (x:V) (y:V) (H:Hp) (Q:VK):Prop
 |mk (i j:Int):x=.int i->y=.int j->Q (g i j) H->vy g x y H Q
inductive rU (g:Int->V) (x:V) (H:Hp) (Q:VK):Prop
 |mk (i:Int):x=.int i->Q (g i) H->rU g x H Q
section
variable {X:Cx}{a b:Expr}{ta tb:TE}{pos:Pos}
def KJ (z:PE X a ta)(n:PE X b tb){d:List (Zs×Obj)}{s:Zu}{e:St}{H:Hp}{R:V->V->Hp->Prop}(I:Inv X d e H s)
 (h:ta e H λx l=>tb e l λy g=>R x y g) {Q:Zt->Zu->Prop} {f:Zt->Zt->Sem Zt}
 (r:∀v u k x y g,Inv X d e g k->RelV x v->RelV y u->R x y g->X⁻¹ X.A (f v u) Q X.xe k):
 X⁻¹ X.A (eval a X.env) (λv j=>X⁻¹ X.A (eval b X.env) (λu i=>X⁻¹ X.A (f v u) Q X.xe i) X.xe j) X.xe s:=by
 rwa[bp (z d s e H _ I h) λv t ζ=>?_];let⟨x,l,o,m,p⟩:=ζ
 rwa[bp (n d t e l _ o p) λu k ζ=>?_];let⟨y,g,q,w,A⟩:=ζ
 rwa[r v u k x y g q m w A]
def aL {e:Operator}{r:R2}(j:fB X (binaryOp e) r)(o:PE X a ta)(f:PE X b tb):PE X (.BinOp a e b pos) (Nb r ta tb):=by
 intro d s m H Q I h;rwa[wpAny_BinOp (KJ o f I h λv u g x y n i k l q=>j d g m n x y v u Q i k l q)]
def eU {e:UnaryOp}{r:V->Hp->VK->Prop}(g:Rk X (unaryOp e) r)(i:PE X a ta):PE X (.UnaryOp e a pos) (tUn r ta):=by
 intro d s f H Q I h;rwa[UnaryOp_ (bp (i d s f H _ I h) λv m ζ=>?_)];let⟨x,j,n,k,l⟩:=ζ;rwa[g d m f j x v Q n k l]
def Rl {f:Zt->Zt->Sem Zt}{C:Int->Int->Prop}{g:Int->Int->Int}
 (rule:∀(i j:Int) (t u:Tok) (s:Zu) (Q:Zt->Zu->Prop) (E:Zt->Zu->Prop),C i j->Q (.int (g i j) s.toks) { s with toks:=s.toks+ 1 }->X⁻¹ X.A (f (.int i t) (.int j u)) Q E s):
 fB X f (rI C λi j=>.int (g i j)):=by
 intro d s n H x y v u Q I k l h;let⟨i,j,rfl,rfl,m,q⟩:=h;let⟨t,rfl⟩:=k;let⟨e,rfl⟩:=l;rwa[rule i j t e s _ _ m ⟨.int (g i j),H,I.tok _,⟨12⟩,q⟩]
def Rm {f:Zt->Zt->Sem Zt}{g:Int->Int->Int}
 (rule:∀(i j:Int) (t u:Tok) (s:Zu) (Q:Zt->Zu->Prop) (E:Zt->Zu->Prop),Q (.int (g i j) s.toks) { s with toks:=s.toks+ 1 }->X⁻¹ X.A (f (.int i t) (.int j u)) Q E s):
 fB X f (vy λi j=>.int (g i j)):=by
 intro d s m H x y v u Q I k l h;let⟨i,j,rfl,rfl,q⟩:=h;let⟨t,rfl⟩:=k;let⟨e,rfl⟩:=l;rwa[rule i j t e s _ _ ⟨.int (g i j),H,I.tok _,⟨12⟩,q⟩]
def F0 {f:Zt->Zt->Sem Zt}{g:Int->Int->Bool}
 (rule:∀(i j:Int) (t u:Tok) (s:Zu) (Q:Zt->Zu->Prop) (E:Zt->Zu->Prop),Q (.bool (g i j)) s->X⁻¹ X.A (f (.int i t) (.int j u)) Q E s):
 fB X f (vy λi j=>.bl (g i j)):=by
 intro d s m H x y v u Q I k l h;let⟨i,j,rfl,rfl,q⟩:=h;let⟨t,rfl⟩:=k;let⟨e,rfl⟩:=l;rwa[rule i j t e s _ _ ⟨.bl (g i j),H,I,2,q⟩]
def aaT (i j:Int):Prop:=0<j/\j<1073741824
def KL (i j:Int):Prop:=(-(2 ^ 64)<i/\i<2 ^ 64)\/(-(2 ^ 64)<j/\j<2 ^ 64)
def KL.ok (h:KL z y):IntMulOk z y:=by
 rcases h with ⟨e,d⟩|⟨e,d⟩
 ·rwa[.of_left (intBits_le_64 e d)]
 ·rwa[.of_right (intBits_le_64 e d)]
def cK:fB X (binaryOp .Add) (vy λi j=>.int (i+ j)):=Rm λ_ _ _ _ _ _ _ q=>add_int q
def jT:fB X (binaryOp .Sub) (vy λi j=>.int (i - j)):=Rm λ_ _ _ _ _ _ _ q=>sub_int q
def mz:fB X (binaryOp .Mult) (rI KL λi j=>.int (i* j)):=Rl λ_ _ _ _ _ _ _ d q=>mul_int q d.ok
def dg:fB X (binaryOp .FloorDiv) (rI aaT λi j=>.int (i / j)):=Rl λi j _ _ _ _ _ d q=>by
 let f:(0:Int)<j:=d.1;let e:j<1073741824:=d.2;rwa[floordiv_int ∅ ([Int.fdiv_eq_ediv_of_nonneg i ∅]▸q) (.inl (PyProof.noPylong_small ∅))]
def bV:fB X (binaryOp .Mod) (rI (λ_ j=>0<j) λi j=>.int (i % j)):=Rl λi j _ _ _ _ _ d q=>by
 rwa[mod_int' ∅ ([Int.fmod_eq_emod_of_nonneg i ∅]▸q)]
def unI {f:Zt->Sem Zt}{g:Int->Int}
 (rule:∀(i:Int) (t:Tok) (s:Zu) (Q:Zt->Zu->Prop) (E:Zt->Zu->Prop),Q (.int (g i) s.toks) { s with toks:=s.toks+ 1 }->X⁻¹ X.A (f (.int i t)) Q E s):
 Rk X f (rU λi=>.int (g i)):=by
 intro d s j H x v Q I e h;let⟨i,rfl,q⟩:=h;let⟨t,rfl⟩:=e;rwa[rule i t s _ _ ⟨.int (g i),H,I.tok _,⟨12⟩,q⟩]
def dD:Rk X (unaryOp .USub) (rU λi=>.int (-i)):=unI λ_ _ _ _ _ q=>neg_int q
end
noncomputable def KP:V->V->Bool
 |.non,.non=>true|.non,.int _=>true|.int _,.non=>true|.non,.bl _=>true|.bl _,.non=>true|.non,.str _=>true|.str _,.non=>true
 |.int _,.int _=>true|.bl _,.bl _=>true|.str _,.str _=>true|.nB _,.nB _=>true
 |.int _,.str _=>true|.str _,.int _=>true|.bl _,.str _=>true|.str _,.bl _=>true
 |_,_=>false
inductive Xx (x:V) (y:V) (H:Hp) (Q:VK):Prop
 |mk:KP x y=true->Q (.bl (decide (x=y))) H->Xx x y H Q
inductive Xy (x:V) (y:V) (H:Hp) (Q:VK):Prop
 |mk:KP x y=true->Q (.bl (!decide (x=y))) H->Xy x y H Q
def Ew:decide (V.int z=V.int y)=(z==y):=by
 rw[ajQ];simp
def Hy {i j:Bool}:decide (V.bl i=V.bl j)=(i==j):=by
 rw[ajQ];simp
def Ey:decide (V.str x=V.str f)=(x==f):=by
 rw[ajQ];simp
def Ez {i j:Array UInt8}:decide (V.nB i=V.nB j)=(i.toList==j.toList):=by
 rw[ajQ];ext i;ext j;simp
section
variable {X:Cx}{a b c:Expr}{ta tb tc:TE}{pos:Pos}
def bZ {Q:VK}{k d:Bool}(I:Inv X o D H s)(q:Q (.bl k) H)(e:k=d):EP X o D Q (.bool d) s:=by
 subst e;rwa[.bl k,H,I,2,q]
def dm:fB X (compareOp .Eq) Xx:=by
 intro k s l H x y v u Q I g d h;let⟨f,q⟩:=h
 cases x with
 |non=>
  ext g
  cases y with
  |non=>ext d;rwa[PySem.EqNone.eq_none_none (bZ I q (by simp))]
  |bl j=>ext d;rwa[PySem.EqNone.eq_none_bool (bZ I q (by simp))]
  |int j=>let⟨e,rfl⟩:=d;rwa[PySem.EqNone.eq_none_int (bZ I q (by simp))]
  |str j=>let⟨e,rfl⟩:=d;rwa[PySem.EqNone.eq_none_str (bZ I q (by simp))]
  |_=>exact absurd (show false=true from f) ajD
 |bl i=>
  ext g
  cases y with
  |non=>ext d;rwa[PySem.EqNone.eq_bool_none (bZ I q (by simp))]
  |bl j=>ext d;rwa[eq_bool (bZ I q Hy)]
  |str j=>let⟨e,rfl⟩:=d;rwa[PySem.EqMixed.eq_bool_str (bZ I q (by simp))]
  |_=>exact absurd (show false=true from f) ajD
 |int i=>
  let⟨t,rfl⟩:=g
  cases y with
  |non=>ext d;rwa[PySem.EqNone.eq_int_none (bZ I q (by simp))]
  |int j=>let⟨e,rfl⟩:=d;rwa[eq_int (bZ I q Ew)]
  |str j=>let⟨e,rfl⟩:=d;rwa[PySem.EqMixed.eq_int_str (bZ I q (by simp))]
  |_=>exact absurd (show false=true from f) ajD
 |str i=>
  let⟨t,rfl⟩:=g
  cases y with
  |non=>ext d;rwa[PySem.EqNone.eq_str_none (bZ I q (by simp))]
  |bl j=>ext d;rwa[PySem.EqMixed.eq_str_bool (bZ I q (by simp))]
  |int j=>let⟨e,rfl⟩:=d;rwa[PySem.EqMixed.eq_str_int (bZ I q (by simp))]
  |str j=>let⟨e,rfl⟩:=d;rwa[eq_str (bZ I q Ey)]
  |_=>exact absurd (show false=true from f) ajD
 |nB i=>
  let⟨t,rfl⟩:=g
  cases y with
  |nB j=>let⟨e,rfl⟩:=d;rwa[PySem.W.eq_bytes (bZ I q Ez)]
  |_=>exact absurd (show false=true from f) ajD
 |_=>cases y <;> rwa[absurd (show false=true from f) ajD]
def ib:fB X (compareOp .NotEq) Xy:=by
 intro k s l H x y v u Q I g d h;let⟨f,q⟩:=h
 cases x with
 |non=>
  ext g
  cases y with
  |non=>ext d;rwa[PySem.EqNone.ne_none_none (bZ I q (by simp))]
  |bl j=>ext d;rwa[PySem.EqNone.ne_none_bool (bZ I q (by simp))]
  |int j=>let⟨e,rfl⟩:=d;rwa[PySem.EqNone.ne_none_int (bZ I q (by simp))]
  |str j=>let⟨e,rfl⟩:=d;rwa[PySem.EqNone.ne_none_str (bZ I q (by simp))]
  |_=>exact absurd (show false=true from f) ajD
 |bl i=>
  ext g
  cases y with
  |non=>ext d;rwa[PySem.EqNone.ne_bool_none (bZ I q (by simp))]
  |bl j=>ext d;rwa[ne_bool (bZ I q (ajT not Hy))]
  |str j=>let⟨e,rfl⟩:=d;rwa[PySem.EqMixed.ne_bool_str (bZ I q (by simp))]
  |_=>exact absurd (show false=true from f) ajD
 |int i=>
  let⟨t,rfl⟩:=g
  cases y with
  |non=>ext d;rwa[PySem.EqNone.ne_int_none (bZ I q (by simp))]
  |int j=>let⟨e,rfl⟩:=d;rwa[ne_int (bZ I q (ajT not Ew))]
  |str j=>let⟨e,rfl⟩:=d;rwa[PySem.EqMixed.ne_int_str (bZ I q (by simp))]
  |_=>exact absurd (show false=true from f) ajD
 |str i=>
  let⟨t,rfl⟩:=g
  cases y with
  |non=>ext d;rwa[PySem.EqNone.ne_str_none (bZ I q (by simp))]
  |bl j=>ext d;rwa[PySem.EqMixed.ne_str_bool (bZ I q (by simp))]
  |int j=>let⟨e,rfl⟩:=d;rwa[PySem.EqMixed.ne_str_int (bZ I q (by simp))]
  |str j=>let⟨e,rfl⟩:=d;rwa[ne_str (bZ I q (ajT not Ey))]
  |_=>exact absurd (show false=true from f) ajD
 |nB i=>
  let⟨t,rfl⟩:=g
  cases y with
  |nB j=>let⟨e,rfl⟩:=d;rwa[PySem.W.ne_bytes (bZ I q (ajT not Ez))]
  |_=>exact absurd (show false=true from f) ajD
 |_=>cases y <;> rwa[absurd (show false=true from f) ajD]
def jU:fB X (compareOp .Lt) (vy λi j=>.bl (decide (i<j))):=F0 λ_ _ _ _ _ _ _ q=>lt_int q
def Nc:fB X (compareOp .LtE) (vy λi j=>.bl (decide (i<=j))):=F0 λ_ _ _ _ _ _ _ q=>le_int q
def vz:fB X (compareOp .Gt) (vy λi j=>.bl (decide (j<i))):=F0 λ_ _ _ _ _ _ _ q=>gt_int q
def vA:fB X (compareOp .GtE) (vy λi j=>.bl (decide (j<=i))):=F0 λ_ _ _ _ _ _ _ q=>ge_int q
def kY:fB X (compareOp .Is) (λx y H Q=>y=.non/\Q (.bl (decide (x=.non))) H):=by
 intro d s g H x y v u Q I e f h;let⟨rfl,q⟩:=h;ext f;rwa[is_none_gen (bZ I q ?_)]
 cases x <;> first
  |(ext e;rfl)
  |(let⟨t,rfl⟩:=e;rfl)
noncomputable def oM:fB X (compareOp .IsNot) (λx y H Q=>y=.non/\Q (.bl (!decide (x=.non))) H):=by
 intro d s g H x y v u Q I e f h;let⟨rfl,q⟩:=h;ext f;rwa[isnot_none_gen (bZ I q ?_)]
 cases x <;> first
  |(ext e;rfl)
  |(let⟨t,rfl⟩:=e;rfl)
def aV (b:Expr){d:CmpOp}(h:d≠.In:=by decide)(g:d≠.NotIn:=by decide):behindInMarks d b=false:=by
 let e:(d==CmpOp.In)=false:=by cbv
 let f:(d==CmpOp.NotIn)=false:=by cbv
 cases b <;> simp[behindInMarks,e,f]
def mw {e:CmpOp}{r:R2}(j:fB X (compareOp e) r)(p:PE X a ta)(f:PE X b tb)(n:behindInMarks e b=false):PE X (.Compare a [e] [b] pos) (Nb r ta tb):=by
 intro d s m H Q I h;rwa[wpAny_Compare1 (KJ p f I h λv u g x y o i k l q=>j d g m o x y v u Q i k l q) n]
inductive Rn (x:V) (H:Hp) (Q:Bool->Hp->Prop):Prop
 |mk (k:Bool):x=.bl k->Q k H->Rn x H Q
def Wi (t:TE):TT:=λ e H Q=>t e H λx d=>Rn x d Q
def aO {g:CmpOp}{r:R2}(A:fB X (compareOp g) r)(G:PE X a ta)(l:PE X b tb)(E:behindInMarks g b=false):PT X (.Compare a [g] [b] pos) (Wi (Nb r ta tb)):=by
 intro d s f H Q I h
 rwa[wpAny_isTrue_Compare1 (bp (G d s f H _ I h) λv C ζ=>?_) E];let⟨x,B,m,j,q⟩:=ζ;rwa[bp (l d C f B _ m q) λu p ζ=>?_];let⟨y,F,w,D,J⟩:=ζ;rwa[ bp (A d p f F x y v u _ w j D J) λc L ζ=>?_];let⟨z,n,o,i,k,e,t⟩:=ζ
 subst e;ext i;rwa[akt ⟨n,o,t⟩]
def Ro (r h:R2)(ta tb tc:TE):TE:=λ d H Q=>ta d H λx i=>tb d i λy f=>r x y f λz e=>∃k,z=.bl k/\
 (if k=true then tc d e λj g=>h y j g Q else Q (.bl false) e)
def KQ {j op':CmpOp}{r l:R2}(N:fB X (compareOp j) r)(i:fB X (compareOp op') l)(V:PE X a ta)(C:PE X b tb)(W:PE X c tc)
 (S:lastMarks [j,op'] [b,c]=false):PE X (.Compare a [j,op'] [b,c] pos) (Ro r l ta tb tc):=by
 intro f s g H Q I h
 rwa[Compare_chain (bp (V f s g H _ I h) λv R ζ=>?_) S];let⟨x,P,E,A,L⟩:=ζ;rwa[chain_link (bp (C f R g P _ E L) λu J ζ=>?_)];let⟨y,T,M,p,Y⟩:=ζ;rwa[ bp (N f J g T x y v u _ M A p Y) λd U ζ=>?_];let⟨z,m,n,q,k,e,o⟩:=ζ
 subst e;ext q;rwa[akt ?_]
 cases k with
 |false=>exact ite_ff ⟨.bl false,m,n,2,o⟩
 |true=>exact ite_tt (chain_last (bp (W f U g m _ n o) λt w ζ=>by let⟨D,G,B,F,O⟩:=ζ;rwa[i f w g G y D u t Q B p F O]))
def Rp (K:Za1)(x:V)(H:Hp)(k:Bool):Prop:=
 match x with
 |.non=>k=false
 |.bl b=>k=b
 |.int i=>k=(i !=0)
 |.str y=>⇑y<=sizeLine/\k=((⇑y:Int) !=0)
 |.nB y=>y.size<=sizeLine/\k=((y.size:Int) !=0)
 |.ref p=>(∃xs,aD K H p xs/\k=!xs.isEmpty)\/(∃xs,bB K H p xs/\k=!xs.isEmpty)\/∃d,H p\.dK d/\k=!d.isEmpty
 |_=>False
def F1 {f:Type}{d:List (f×V)}{e:List (f×Zt)}(r:KV d e):(!e.isEmpty)=!d.isEmpty:=by
 cases r <;> rfl
def vB {xs:Zb}(r:Vals xs N):(!N.toArray.isEmpty)=!xs.isEmpty:=by
 cases r <;> simp
def qX:(sizeLine:Nat)<2 ^ 63:=⋯
def Rq:aaS X (λx H Q=>∃k,Rp X.K x H k/\Q k H):=by
 intro u s C H x v Q I g h;let⟨k,e,q⟩:=h;let A:=qX;let B:sizeLine=16777216:=sizeLine_eq
 cases x with
 |non=>
  ext g;let d:k=false:=e;subst d;rwa[truthy_none ⟨H,I,q⟩]
 |bl b=>
  ext g;let d:k=b:=e;subst d;rwa[akt ⟨H,I,q⟩]
 |int i=>
  let⟨t,rfl⟩:=g;let d:k=(i !=0):=e;subst d;rwa[PySem.P.truthy_int ⟨H,I,q⟩]
 |str y=>
  let⟨t,rfl⟩:=g;obtain⟨w,d⟩:⇑y<=sizeLine/\k=((⇑y:Int) !=0):=e;subst d;rwa[PySem.P.truthy_str ∅ ⟨H,I.tok _,q⟩]
 |nB y=>
  let⟨t,rfl⟩:=g;obtain⟨w,d⟩:y.size<=sizeLine/\k=((y.size:Int) !=0):=e;subst d;rwa[PySem.W.truthy_bytes ∅ ⟨H,I.tok _,q⟩]
 |ref p=>
  ext g;let d:(∃xs,aD X.K H p xs/\k=!xs.isEmpty)\/(∃xs,bB X.K H p xs/\k=!xs.isEmpty)\/∃f,H p\.dK f/\k=!f.isEmpty:=e;rcases d with ⟨xs,j,d⟩|⟨xs,j,d⟩|⟨f,j,d⟩
  ·subst d;let⟨n,r,pl,o⟩:=I.list j;let hlen:=⇑r;rwa[wpAny_truthy_list pl.isList (by simp only[ai8];omega) ⟨H,I.tok _,[vB r]▸q⟩]
  ·subst d;let⟨n,r,pl,o⟩:=I.tuple j;let hlen:=⇑r;rwa[truthy_tuple pl (by simp only[ai8];omega) ⟨H,I.tok _,[vB r]▸q⟩]
  ·subst d;obtain⟨o,z,l,r,m⟩:⇑f<=sizeLine/\(p==sysModules)=false/\∃l,KV f l/\s.heap.DictOf (bY X.prog X.w) p l:=I.aP p _ j;let hlen:⇑f=⇑l:=Paired.length r;rwa[wpAny_truthy_dict z m ∅ ⟨H,I.tok _,[F1 r]▸q⟩]
 |_=>exact(show False from e).elim
def AH (j:PE X a ta)(i:∀whole,isTrue a X.env whole=(do let v <-whole;standAt a.pos;holding [v] (truthy v))):
 PT X a (λ e H Q=>ta e H λx f=>∃k,Rp X.K x f k/\Q k f):=by
 intro d s e H Q I h;rwa[isTrue_plain (bp (j d s e H _ I h) λv n ζ=>?_) (i _)];let⟨x,g,o,l,m⟩:=ζ;rwa[Rq d n e g x v Q o l m]
def vals1 {x:V}(r:Vals [x] N):∃u,N=[u]/\RelV x u:=by
 cases r with
 |cons e d=>ext d;rwa[12,e]
def vals2 {x:V}(r:Vals [x,q] N):∃u d,N=[u,d]/\RelV x u/\RelV q d:=by
 cases r with
 |cons h e=>
  cases e with
  |cons g f=>ext f;rwa[112,h,g]
def KR:iM X (.builtin "abs") (λd H Q=>∃i,d=[.int i]/\Q (.int (if i<0 then -i else i)) H):=by
 intro e s j H d f Q I r h;let⟨i,rfl,q⟩:=h;let⟨u,rfl,t,rfl⟩:=vals1 r;rwa[call_abs_int λu g=>⟨.int (if i<0 then -i else i),H,I.tok _,⟨12⟩,q⟩]
def Hz (g:X.calm=true):iM X (.builtin "max") (λe H Q=>∃i j,e=[.int i,.int j]/\Q (.int (if j > i then j else i)) H):=by
 intro f s p H e v Q I r h;let⟨i,j,rfl,q⟩:=h;let⟨u,l,rfl,⟨t,rfl⟩,⟨m,rfl⟩⟩:=vals2 r;rwa[max_two_ints (I.ok.hd g) λn o k=>⟨_,H,I.kept k,5,q⟩]
 cases d:j > i
 ·rw[ajg d,ajg d];rwa[12]
 ·rw[ajb d,ajb d];rwa[12]
def HB (g:X.calm=true):iM X (.builtin "min") (λe H Q=>∃i j,e=[.int i,.int j]/\Q (.int (if j<i then j else i)) H):=by
 intro f s p H e v Q I r h;let⟨i,j,rfl,q⟩:=h;let⟨u,l,rfl,⟨t,rfl⟩,⟨m,rfl⟩⟩:=vals2 r;rwa[min_two_ints (I.ok.hd g) λn o k=>⟨_,H,I.kept k,5,q⟩]
 cases d:j<i
 ·rw[ajg d,ajg d];rwa[12]
 ·rw[ajb d,ajb d];rwa[12]
end
structure uC (h:Heap) (x dx C:Zs) (mA:Str->Zl):Prop where
 obj:h.get? x\(PySem.W.instObj C dx)
 ns:h.Ns1 dx mA
 ne:dx≠x
def yP (n:h.Ns1 a M):∃d,h.get? a\d/\∀name,PySem.W.lookIn name d\(M name):=by
 let⟨o,k,m,i,f,g,_,l⟩:=n;rwa[⟨o,i,λname=>?_⟩];let e:=l name;unfold nsFind findBy at e;rw[<-Array.find?_toList]at e;unfold PySem.W.lookIn;rw[f];dsimp only;split
 ·cbv
 ·rename_i q;rw[q]at e
  let b:k.toList.any (·.refKey)=false:=by
   rw[List.any_eq_false];intro y j;let⟨z,t,c⟩:=g y (Array.mem_toList_iff.mp j);simp[DictEntry.refKey,c]
  cbv
def uC.look {x dx:Zs}(I:uC h x dx a M):∃b,PySem.W.InstAt h x (PySem.W.instObj a dx) a (some b)/\∀name,PySem.W.lookIn name b\(M name):=
 let ⟨b,c,d⟩:=yP I.ns
 ⟨b,⟨I.obj,22,c⟩,d⟩
section
variable {prog:Program}{w:World}{A:Around}{E:Zt->Zu->Prop}{s:Zu}{K:Za1}{x dx C f:Zs}{mA:Str->Zl}{name:Str}{v:Zt}
def get_map {expr:Bool}(X:K.In s.heap)(I:uC s.heap x dx C mA)(g:PySem.W.plainGet K C name=true)(d:PySem.W.hasDictIn K C=true)
 (c:PySem.W.findIn K ↑C name\none) (b:mA name\v) (a:PySem.W.handedIn v=true) (h:Q v { s with toks:=s.toks+ 1 }):
 (prog<|>w) A (getAttr ↑x name expr) Q E s:=by
 let⟨i,J,e⟩:=I.look;rwa[PySem.W.get_value X J (PySem.W.plainGet_of g).1 (PySem.W.findObj_own d c rfl (by rw[e,b])) a h]
def KS {pl:Sem Bool}{Q:Zt×Zk->Zu->Prop}(X:K.In s.heap)(I:uC s.heap x dx C mA)(a:PySem.W.plainGet K C name=true)
 (b:PySem.W.findIn K ↑C name\some ↑f) (g:PySem.W.isFn K ↑f=true) (c:mA name=none) (h:Q (↑f,[↑x]) s):
 (prog<|>w) A (getMethod ↑x name pl) Q E s:=by
 let⟨d,J,e⟩:=I.look;rwa[PySem.W.method_fn X J (PySem.W.plainGet_of a).1 (PySem.W.plainGet_of a).2 b (alE.mp g) (by show (PySem.W.lookIn name d).map (·.isSome)\false;rw[e,c];rfl) h]
def Pk {ns:Zp}(X:K.In s.heap)(I:uC s.heap x dx C mA)
 (t:PySem.W.findIn K ↑C "__setattr__"=some (some (.builtin "object.__setattr__"))) (o:PySem.W.plainOver K C=true) (l:PySem.W.takerIn K C name\none) (q:PySem.W.hasDictIn K C=true)
 (p:PySem.Within mA ns) (n:⇑ns<=sizeLine)
 (h:∀e,uC e x dx C (λy=>if y=name then some v else mA y)->Heap.SameBut dx s.heap e->U () { s with heap:=e,toks:=s.toks+ 2 }):
 (prog<|>w) A (setAttr ↑x name v) U E s:=by
 let⟨H,J,G⟩:=I.look;rwa[PySem.W.set_plain X J t (PySem.W.osa_open (s:={ s with toks:=s.toks+ 1 }) (r:=none) X J o l λb=>?_)];let⟨F,z,k⟩:=PySem.W.any_some q;let u:s•x\⟨↑C,some dx,.plain,#[]⟩:=I.obj;rwa[aiK (aiU (aiK (aiK (wpAny_loadPart u (aiK (PySem.W.Looks.here (s:={ s with toks:=s.toks+ 1 }) (PySem.W.looks_clsIn X z) ?_))))))];rw[k];rwa[aiU (a:=some dx) (aiK (aiU (aiK ?_)))];rwa[wpAny_nsSet1 (s:={ s with toks:=s.toks+ 1 }) I.ns λe d c=>?_]
 let⟨D,B,m,j,g,i⟩:=d.count (PySem.Within.cons name v p);rwa[aiK (wpAny_lookBehind j ([g]▸pastItsLine_dict (ai0 i (by rw[ajf];omega))) ?_)];rwa[aiU (h _ ⟨(c.2 _ (ajR I.ne)).trans I.obj,d,I.ne⟩ c)]
def KW {R:Result->Zu->Prop}{a:List (Str×Zt)}(X:K.In s.heap)(b:PySem.W.makesIn K C=true)
 (d:PySem.W.findIn K ↑C "__init__"=some (some ↑f)) (c:PySem.W.typeIn K ↑f\(.type "function"))
 (h:codeAny (model prog w) (A.under (.builtin "type.__call__" ⟨↑C::N,a⟩)) (.call ↑f ⟨↑(↥s+ 1)::N,a⟩) (PySem.W.InitBack (↥s+ 1) R)
  { s with heap:=(s.heap.push PySem.W.emptyDict).push (PySem.W.instObj C ↥s) }):
 codeAny (model prog w) A (.call ↑C ⟨N,a⟩) R s:=by
 rwa[PySem.W.make_core (PySem.W.makes_of X b) (PySem.W.looks_findIn X d) (λself=>PySem.W.bind_fn X self c) (.inl rfl) h]
def HC {R:Result->Zu->Prop}(X:K.In s.heap)(a:PySem.W.makesIn K C=true)
 (c:PySem.W.findIn K ↑C "__init__"=some (some (.builtin "object.__init__")))
 (b:∀self,PySem.W.Looks (model prog w) s.heap (bindSpecial (.builtin "object.__init__") self) (.builtin "object.__init__",[self]))
 (h:codeAny (model prog w) (A.under (.builtin "type.__call__" ⟨[↑C],[]⟩)) (.call (.builtin "object.__init__") ⟨[↑(↥s+ 1)],[]⟩) (PySem.W.InitBack (↥s+ 1) R)
  { s with heap:=(s.heap.push PySem.W.emptyDict).push (PySem.W.instObj C ↥s) }):
 codeAny (model prog w) A (.call ↑C ⟨[],[]⟩) R s:=by
 rwa[PySem.W.make_core (PySem.W.makes_of X a) (PySem.W.looks_findIn X c) b (.inr ⟨22⟩) h]
end
noncomputable def bR (f:Str)(v:V):List (Str×V)->List (Str×V)
 |[]=>[(f,v)]
 |(g,x)::r=>if g=f then (g,v)::r else (g,x)::bR f v r
theorem oC (f g:Str)(v:V):∀fs:List (Str×V),(bR f v fs).lookup g=if g=f then some v else fs.lookup g
 |[]=>by
  show List.lookup g [(f,v)]=_
  cbv
 |(k,x)::r=>by
  let a:=oC f g v r;rw[show bR f v ((k,x)::r)=(if k=f then (k,v)::r else (k,x)::bR f v r) from rfl]
  cbv
theorem kZ (f:Str)(v:V):∀fs:List (Str×V),f∈(bR f v fs).map (·.1)/\∀g,g∈fs.map (·.1)->g∈(bR f v fs).map (·.1)
 |[]=>⟨by simp[bR],λg h=>by simp at h⟩
 |(k,x)::r=>by
  let⟨a,b⟩:=kZ f v r;rw[show bR f v ((k,x)::r)=(if k=f then (k,v)::r else (k,x)::bR f v r) from rfl]
  cbv
theorem tS (f:Str)(v:V):∀fs:List (Str×V),⇑(bR f v fs)<=⇑fs+ 1
 |[]=>by simp[bR]
 |(k,x)::r=>by
  let a:=tS f v r;rw[show bR f v ((k,x)::r)=(if k=f then (k,v)::r else (k,x)::bR f v r) from rfl]
  cbv
def eT.some_of {v:V}{o:Zl}(r:eT (some v) o):∃u,o\u/\RelV v u:=by
 cases o with
 |none=>exact(show False from r).elim
 |some u=>rwa[u,2,r]
def eT.none_of {o:Zl}(r:eT none o):o=none:=by
 cases o with
 |none=>rfl
 |some u=>exact(show False from r).elim
def yQ (r:RelV q u):PySem.W.handedIn u=true:=by
 cases q with
 |non=>cases (show u=Value.none from r);rfl
 |bl b=>cases (show u=Value.bool b from r);rfl
 |int i=>let⟨t,e⟩:=(show ∃t,u=Value.int i t from r);ext e;rfl
 |str x=>let⟨t,e⟩:=(show ∃t,u=Value.str x t from r);ext e;rfl
 |nB b=>let⟨t,e⟩:=(show ∃t,u=Value.bytes b t from r);ext e;rfl
 |Aw b=>let⟨t,e⟩:=(show ∃t,u=Value.float b t from r);ext e;rfl
 |ref a=>cases (show u=Value.ref a from r);rfl
 |ty n=>cases (show u=Value.type n from r);rfl
section
variable {P:Program}{w:World}{H:Hp}{h:Heap}{a C dx:Zs}{fs:List (Str×V)}
def sQ (c:dC P w H h)(e:H a\.ins C dx fs):∃b,uC h a dx C b/\(∀f,eT (fs.lookup f) (b f))/\PySem.Within b (fs.map (·.1))/\⇑fs<=1000/\H dx\(.own a):=by
 let⟨d,z,ne,g,b,n,r,q⟩:=(show b9 P w H h a (.ins C dx fs) from c a _ e);rwa[b,⟨g,n,ne⟩,r,q,z,d]
end
structure kc (K:Za1) (C:Zs):Prop where
 pg:PySem.W.plainGet K C Str.empty=true
 hd:PySem.W.hasDictIn K C=true
 po:PySem.W.plainOver K C=true
 sa:PySem.W.findIn K ↑C "__setattr__"=some (some (.builtin "object.__setattr__"))
def kc.get (c:kc K a)(f:Str):PySem.W.plainGet K a f=true:=c.pg
def lb (K:Za1)(C:Zs)(f:Str):Prop:=PySem.W.findIn K ↑C f\none
def lb.F2 (n:lb K a f):PySem.W.takerIn K a f\none:=by
 unfold PySem.W.takerIn;rw[show PySem.W.findIn K ↑a f=some none from n];rfl
structure Con (K:Za1) (C:Zs) (f:Str) (v:V) (u:Zt):Prop where
 at_:PySem.W.findIn K ↑C f\(some u)
 rel:RelV v u
 get:PySem.W.specialIn K u "__get__"=some none
 cp:PySem.W.copiedNames.contains f=false
structure Meth (K:Za1) (C:Zs) (m:Str) (f:Zs):Prop where
 at_:PySem.W.findIn K ↑C m\(some ↑f)
 fn:PySem.W.isFn K ↑f=true
 kp:PySem.W.keepIn K ↑f=true
section
variable {X:Cx}{pins:List (Zs×Obj)}{σ:St}{H:Hp}{s:Zu}{a C dx:Zs}{fs:List (Str×V)}{f:Str}{v:V}{A:Around}{E:Zt->Zu->Prop}
def F3 {b:Bool}(I:Inv X pins σ H s)(e:H a\.ins C dx fs)(c:kc X.K C)(n:lb X.K C f)(l:fs.lookup f\v)
 (h:∀u d,Inv X pins σ H d->RelV v u->Q u d):X⁻¹ A (getAttr ↑a f b) Q E s:=by
 let⟨j,O,r,_,_,_⟩:=sQ I.aP e;let⟨u,i,g⟩:=eT.some_of (v:=v) (o:=j f) (by rw[<-l];rwa[r f]);rwa[get_map I.dA O (c.get f) c.hd n i (yQ g) (h u _ (I.tok _) g)]
def vC {pl:Sem Bool}{Q:Zt×Zk->Zu->Prop}(I:Inv X pins σ H s)(e:H a\.ins C dx fs)(c:kc X.K C)(k:Meth X.K C x b)(l:fs.lookup x=none)
 (h:Q (↑b,[↑a]) s):X⁻¹ A (getMethod ↑a x pl) Q E s:=by
 let⟨g,O,r,_,_,_⟩:=sQ I.aP e;let d:g x=none:=eT.none_of (by cbv);rwa[KS I.dA O (c.get x) k.at_ k.fn d h]
def F4 (I:Inv X pins σ H s)(e:H a\.ins C dx fs)(c:kc X.K C)(n:lb X.K C f)(J:⇑fs<1000)(D:RelV q u)
 (h:∀j,Inv X pins σ (upd H a (.ins C dx (bR f q fs))) j->U () j):X⁻¹ A (setAttr ↑a f u) U E s:=by
 let⟨F,O,r,k,_,l⟩:=sQ I.aP e;let B:⇑(fs.map (·.1))<=sizeLine:=by rw[aiQ,sizeLine_eq];ext
 rwa[Pk I.dA O c.sa c.po n.F2 c.hd k B λw i G=>h _ ?_]
 let m:∃o,w.get? dx\o:=let ⟨o,_,_,y,_⟩:=i.ns;⟨o,y⟩
 rwa[I.write (x:=a) (e:=dx) ([e]▸True.intro) (.inr l) (λb d p z=>(G.2 b p).trans z) m ?_];rwa[⟨[ak O.ne]▸l,5,O.ne,i.obj,_,i.ns,λg=>?_,λg t=>?_⟩]
 ·have:=tS f q fs;ext
 ·show eT ((bR f q fs).lookup g) (if g=f then some u else F g);rw[oC];cases d:g=f
  ·rw[ajg d,ajg d];rwa[D]
  cbv
 ·cases d:g=f
  ·rw[d];rwa[(kZ f q fs).1]
  ·rwa[(kZ f q fs).2 g (k g λz=>t ?_)]
   cbv
def Inv.made (I:Inv X pins σ H s):Inv X pins σ (upd (upd H ↥s (.own (↥s+ 1))) (↥s+ 1) (.ins C ↥s []))
 { s with heap:=(s.heap.push PySem.W.emptyDict).push (PySem.W.instObj C ↥s) }:=by
 let c:(s.heap.push PySem.W.emptyDict).get? ↥s\PySem.W.emptyDict:=ai2 s.heap rfl
 let k:((s.heap.push PySem.W.emptyDict).push (PySem.W.instObj C ↥s)).get? (↥s+ 1)\(PySem.W.instObj C ↥s):=by
  have:=ai2 (s.heap.push PySem.W.emptyDict) (o:=PySem.W.instObj C ↥s) rfl
  rwa [akx]at this
 let d:(s.heap.push PySem.W.emptyDict).Ns ↥s (λ_=>none):=⟨PySem.W.emptyDict,#[],_,c,2,(λe g=>absurd g (by simp)),λ_=>rfl⟩;let j:=I.laid (a:=↥s) (o:=.own (↥s+ 1)) (h':=s.heap.push PySem.W.emptyDict) (t':=s.toks) (λb u q=>aiM _ q) (aiS _) ⟨_,c⟩;rwa[j.laid (a:=↥s+ 1) (o:=.ins C ↥s []) (t':=s.toks) (λb u q=>aiM _ q) (alF (akx _ _)) ?_];let ne:↥s≠↥s+ 1:=ajm (akc _);rwa[⟨by rw[ak ne,aj],ajj _,ne,k,λ_=>none,(Heap.Ns1.of_empty d).at λo q=>aiM _ q,λ_=>True.intro,λy h=>absurd rfl h⟩]
def EA {env:Env}{f:Str}{s:Zu}(c:attributeBase e f env (eval e env)=eval e env)
 (h:(P<|>w) A (eval e env) (λo b=>(P<|>w) A (getAttr o f true) Q E b) E s):(P<|>w) A (eval (.Attribute e f p) env) Q E s:=
 Attribute_any_ h (by rw[arm_eval_Attribute,c])
end
inductive Rt (K:Za1) (f:Str) (x:V) (H:Hp) (Q:VK):Prop
 |mk (a C dx:Zs) (fs:List (Str×V)) (v:V):x=↑a->H a\.ins C dx fs->kc K C->lb K C f->fs.lookup f\v->Q v H->Rt K f x H Q
def Ru (K:Za1)(b:TE)(f:Str):TE:=λ c H Q=>b c H λx a=>Rt K f x a Q
inductive Rw (K:Za1) (f:Str) (y x:V) (H:Hp) (N:Hp->Prop):Prop
 |mk (a C dx:Zs) (fs:List (Str×V)):x=↑a->H a\.ins C dx fs->kc K C->lb K C f->⇑fs<1000->N (upd H a (.ins C dx (bR f y fs)))->Rw K f y x H N
def aaU (K:Za1)(e b:TE)(f:Str):TS:=λD a H=>b a H λy d=>e a d λx c=>Rw K f y x c (D.nx a)
section
variable {X:Cx}{o e value:Expr}{f:Str}{pos pos':Pos}{ta tv:TE}
def aF (p:PE X e ta)(d:attributeBase e f X.env (eval e X.env)=eval e X.env):PE X (.Attribute e f pos) (Ru X.K ta f):=by
 intro b s m H Q I h;rwa[EA d (bp (p b s m H _ I h) λu z ζ=>?_)];let⟨x,j,g,k,a,C,A,fs,v,ex,t,c,n,l,q⟩:=ζ;subst ex;obtain rfl:u=Value.ref a:=k;rwa[F3 g t c n l λy w i r=>⟨v,j,i,r,q⟩]
def cq (z:PE X o ta)(w:PE X value tv)(r:swapsWith value (some (.Attribute o f pos')) pos.line X.env=pure false):PS X (.Assign [.Attribute o f pos'] value pos) (aaU X.K ta tv f):=by
 intro b s d H D I h;rwa[plainObj_wpAny_Assign_Attribute (bp (w b s d H _ I h) λu m ζ=>?_) r];let⟨y,k,g,t,q⟩:=ζ;rwa[bp (z b m d k _ g q) λp E ζ=>?_];let⟨x,F,j,v,a,C,J,fs,ex,A,c,n,l,B⟩:=ζ;subst ex;obtain rfl:p=Value.ref a:=v;rwa[F4 j A c n l t λG i=>⟨d,_,i,B⟩]
inductive aaW (x:V) (y:V) (H:Hp) (Q:VK):Prop
 |mk (i j:Int):x=.int i->y=.int j->Q (.int (i+ j)) H->aaW x y H Q
inductive aaX (x:V) (y:V) (H:Hp) (Q:VK):Prop
 |mk (i j:Int):x=.int i->y=.int j->Q (.int (i - j)) H->aaX x y H Q
end
section
variable {X:Cx}{pins:List (Zs×Obj)}{σ:St}{H:Hp}{s:Zu}{A:Around}{E:Zt->Zu->Prop}{Q:Zt->Zu->Prop}{c:Zt}{b:Bool}
inductive jV (K:Za1) (H:Hp):V->Zt->Prop where
 |non:jV K H .non (.type "NoneType")
 |bl (x:Bool):jV K H (.bl x) (.type "bool")
 |int (i:Int):jV K H (.int i) (.type "int")
 |str (x:Str):jV K H (.str x) (.type "str")
 |Aw (x:UInt64):jV K H (.Aw x) (.type "float")
 |lst {a:Zs} {xs:Zb} (e:H a\.lst xs):jV K H ↑a (.type "list")
 |cz {a:Zs} {o:Obj} {xs:Zb} (e:H a\.cz o (.lst xs)):jV K H ↑a (.type "list")
 |tup {a:Zs} {xs:Zb} (e:H a\.tup xs):jV K H ↑a (.type "tuple")
 |dK {a:Zs} {kvs:List (Key×V)} (e:H a\.dK kvs):jV K H ↑a (.type "dict")
 |dT {a:Zs} {kvs:List (Zd×V)} (e:H a\.dT kvs):jV K H ↑a (.type "dict")
 |ins {a C dx:Zs} {fs:List (Str×V)} (e:H a\.ins C dx fs) (cl:kc K C) (ha:PySem.W.findIn K ↑C "__class__"=some (some (.builtin "object.__class__")))
  (hn:PySem.W.specialIn K (.builtin "object.__class__") "__get__"=some (some (.builtin "getset_descriptor.__get__"))) (vD:PySem.W.takesIn K (.builtin "object.__class__")\true)
  (hm:PySem.W.mroIn K C (.type "object")\true):jV K H ↑a ↑C
def HD {x:V}{t:Zt}(I:Inv X pins σ H s)(d:RelV x u)(B:jV X.K H x t)(e:PySem.W.kitOne X.K t c\b)(h:∀r,Q (.bool b) { s with toks:=r }):
 X⁻¹ A (call (.builtin "isinstance") [u,c]) Q E s:=by
 cases B with
 |non=>cases (show u=Value.none from d);rwa[aj7 PySem.W.kitx_none I.dA True.intro e (λz=>nomatch z) h]
 |bl y=>cases (show u=Value.bool y from d);rwa[aj7 PySem.W.kitx_bool I.dA True.intro e (λz=>nomatch z) h]
 |int i=>let⟨t,q⟩:=(show ∃t,u=Value.int i t from d);ext q;rwa[aj7 PySem.W.kitx_int I.dA True.intro e (λz=>nomatch z) h]
 |str y=>let⟨t,q⟩:=(show ∃t,u=Value.str y t from d);ext q;rwa[aj7 PySem.W.kitx_str I.dA True.intro e (λz=>nomatch z) h]
 |Aw y=>let⟨t,q⟩:=(show ∃t,u=Value.float y t from d);ext q;rwa[aj7 PySem.W.kitx_float I.dA True.intro e (λz=>nomatch z) h]
 | @lst a k f=>
   cases (show u=Value.ref a from d);let⟨_,_,n,_,g⟩:=(show b9 X.prog X.w H s.heap a (.lst k) from I.aP a _ f);rwa[aj7 PySem.W.kitx_list I.dA ⟨_,g,2⟩ e (λz=>nomatch z) h]
 | @cz a v k f=>
   cases (show u=Value.ref a from d);let⟨_,_,_,n,_,g⟩:=(show b9 X.prog X.w H s.heap a (.cz v (.lst k)) from I.aP a _ f);rwa[aj7 PySem.W.kitx_list I.dA ⟨_,g,2⟩ e (λz=>nomatch z) h]
 | @tup a k f=>
   cases (show u=Value.ref a from d);let⟨_,_,_,p⟩:=(show b9 X.prog X.w H s.heap a (.tup k) from I.aP a _ f);let⟨o,g,l,_⟩:=p;rwa[aj7 PySem.W.kitx_tuple I.dA ⟨o,g,l⟩ e (λz=>nomatch z) h]
 | @dK a j f=>
   cases (show u=Value.ref a from d);let⟨_,_,M,_,p⟩:=(show b9 X.prog X.w H s.heap a (.dK j) from I.aP a _ f);let⟨o,w,F,g,l,_⟩:=p;rwa[aj7 PySem.W.kitx_dict I.dA ⟨o,g,l.1⟩ e (λz=>nomatch z) h]
 | @dT a j f=>
   cases (show u=Value.ref a from d);let⟨_,_,k,_,o,w,F,g,l,_⟩:=(show b9 X.prog X.w H s.heap a (.dT j) from I.aP a _ f);rwa[aj7 PySem.W.kitx_dict I.dA ⟨o,g,l.1⟩ e (λz=>nomatch z) h]
 | @ins a C R fs f cl L D m G=>
   cases (show u=Value.ref a from d);let⟨N,O,_⟩:=sQ I.aP f;let⟨P,J,_⟩:=O.look;rwa[aj7 (PySem.W.kitx_own (cl.get _) cl.hd L D m G) I.dA J e (λz=>nomatch z) h]
end
structure cL (k:Nat) (A:Around):Prop where
 hd:A.handled=none
 dp:A.depth+ 3* k+ 5<recursionLimit
 un:A.units+ 16* k+ 200<cLine
def cL.mono {k:Nat}(r:cL k A)(h:j<=k):cL j A:=⟨r.hd,by have:=r.dp;ext,by have:=r.un;ext⟩
def cL.Za5 {j k:Nat}{A:Around}(r:cL k A)(h:j<=k:=by decide):cL j A:=r.mono h
def cL.deeper {k:Nat}(r:cL (k+ 1) A)(env:Env):cL k (A.deeper env):=
 ⟨r.hd,by have:=r.dp;show A.depth+ 1+ 3* k+ 5<_;ext,by have:=r.un;show A.units+ 3+ 16* k+ 200<_;ext⟩
def cL.in1 {k:Nat}(r:cL (k+ 1) A):cL k A.in1:=
 ⟨r.hd,by have:=r.dp;show A.depth+ 3* k+ 5<_;ext,by have:=r.un;show A.units+ 1+ 16* k+ 200<_;ext⟩
def F5 {b:List (Str×Zt)}:(A.under (.builtin "type.__call__" ⟨↑a::N,b⟩)).depth=A.depth+ 1:=by
 first|rfl|simp[Around.under,Code.weight,Code.isCreation,Code.isGuard,Code.isCaller,Code.frames,Code.isFrame,guardIds]
def F6 {b:List (Str×Zt)}:(A.under (.builtin "type.__call__" ⟨↑a::N,b⟩)).units=A.units+ 1:=by
 first|rfl|simp[Around.under,Code.cUnits,Code.frames,Code.isFrame]
def cL.make {k:Nat}(r:cL (k+ 1) A)(C:Zs)(a:Zk)(b:List (Str×Zt)):cL k (A.under (.builtin "type.__call__" ⟨↑C::a,b⟩)):=
 ⟨r.hd,by have:=r.dp;rw[F5];ext,by have:=r.un;rw[F6];ext⟩
def cL.depth {k:Nat}(r:cL k A):A.depth<recursionLimit:=by have:=r.dp;ext
def cL.units {k:Nat}(r:cL k A):A.units+ 64<cLine:=by have:=r.un;ext
def jW:TA:=λ_ H Q=>Q [] H
def jg (e:TE)(tr:TA):TA:=λ a H Q=>e a H λx c=>tr a c λd b=>Q (x::d) b
section
variable {X:Cx}{e:Expr}{es:Zr}{te:TE}{t:TA}{pos:Pos}
def ah:PA X [] jW:=λ_ _ _ _ H Q I h=>akg ⟨[],H,I,.nil,h⟩
def ae (p:PE X e te)(j:PA X es t)(m:starEach (e::es) X.env=(false,eval e X.env)::starEach es X.env:=by rfl):PA X (e::es) (jg te t):=by
 intro pos a s b H Q I h;rw[m];rwa[ajL (bp (p a s b H _ I h) λu l ζ=>?_)];let⟨x,i,d,c,f⟩:=ζ;rwa[bp (j pos a l b i _ d f) λv r ζ=>?_];let⟨k,o,g,n,q⟩:=ζ;rwa[⟨x::k,o,g,.cons c n,q⟩]
inductive Rx (xs:Zb) (H:Hp) (Q:VK):Prop
 |mk:⇑xs<=sizeLine->(∀p,H p=none->Q ↑p (upd H p (.tup xs)))->Rx xs H Q
def aaY (t:TA):TE:=λ c H Q=>t c H λb a=>Rx b a Q
inductive Rz (xs:Zb) (H:Hp) (Q:VK):Prop
 |mk:⇑xs<=sizeLine->(∀p,H p=none->Q ↑p (upd H p (.lst xs)))->Rz xs H Q
def aaZ (t:TA):TE:=λ c H Q=>t c H λb a=>Rz b a Q
def bO {l}(h:PA X es t):PE X (.Tuple es l pos) (aaY t):=by
 intro a s j H Q I f;rwa[wpAny_Tuple_spliced (bp (h pos a s j H _ I f) λk s1 ζ=>?_)];let⟨i,d,c,r,z,q⟩:=ζ;rwa[⟨by rw[<-⇑r];rwa[z],5⟩];let g:d ↥s1=none:=c.aP.fresh (aiS _);rwa[⟨↑↥s1,upd d ↥s1 (.tup i),c.laid (t':=s1.toks) (λb u e=>aiM _ e) (aiS _) ?_,2,q _ g⟩];rwa[z,k,r,⟨_,ai2 _ rfl,212⟩]
def bT (h:PA X es t):PE X (.List es pos) (aaZ t):=by
 intro a s j H Q I f;rwa[wpAny_List_spliced (bp (h pos a s j H _ I f) λk s1 ζ=>?_)];let⟨i,d,c,r,z,q⟩:=ζ;rwa[⟨by rw[<-⇑r];rwa[z],5⟩];let g:d ↥s1=none:=c.aP.fresh (aiS _);rwa[⟨↑↥s1,upd d ↥s1 (.lst i),c.laid (t':=s1.toks) (λb u e=>aiM _ e) (aiS _) ?_,2,q _ g⟩];rwa[z,k,(0),r,ai2 _ rfl]
end
abbrev Sp:=Zb->Hp->VK->XK->Prop
abbrev lQ:=Zq->Hp->Zu->XK->Zt->Zu->Prop
structure mB (P:Program) (w:World) (K:Za1) (mg:Str->Zl) (base:Heap) (A:Around) (outer:Zq) (s:Zu) (H:Hp):Prop where
 frames:A.frames\outer
 mod:Mod K mg base
 bs:∀b o,base.get? b\o->s•b\o/\H b=none
 qV:base.objs.size<=↥s
 jn:s.heap.FunFrames base outer
 tO:∀b∈cS outer,H b=none
 aP:dC P w H s.heap
 bare:AllBare s.gens
def CE (a:Zq)(P:Program)(w:World)(H:Hp)(s:Zu)(Q:VK)(u:Zt)(b:Zu):Prop:=
 ∃v c,b.os=s.os/\AllBare b.gens/\Un (cS a) [] H c s.heap b.heap/\dC P w c b.heap/\RelV v u/\Q v c
def CR (c:lQ)(a:Zq)(P:Program)(w:World)(H:Hp)(s:Zu)(Q:VK)(E:XK)(r:Result)(b:Zu):Prop:=
 match r with
 |.ok (.ret u)=>CE a P w H s Q u b
 |.ok _=>False
 |.error e=>c a H s E e b
structure dy (P:Program) (w:World) (K:Za1) (mg:Str->Zl) (base:Heap) (CX:lQ) (k:Nat) (f:Zs) (fd:FuncData) (ps:Zp) (sp:Sp):Prop where
 len:∀vs H Q E,sp vs H Q E->⇑vs=⇑ps
 run:∀(A:Around) (outer:Zq) (s:Zu) (H:Hp) (args:Args) (us:Zk) (vs:Zb) (Q:VK) (E:XK),cL k A->mB P w K mg base A outer s H->BindsTo s fd args (ps.zip us)->Vals vs us->sp vs H Q E->
  codeAny (model P w) A (.call ↑f args) (CR CX outer P w H s Q E) s
def mB.make {mg:Str->Zl}{base:Heap}{outer:Zq}(e:mB P w K mg base A outer s H)(C:Zs)(a:Zk)(b:List (Str×Zt)):
 mB P w K mg base (A.under (.builtin "type.__call__" ⟨↑C::a,b⟩)) outer s H:=⟨by first|rwa[e.frames]|(simpa [Around.under,Code.envs,Code.isFrame,pushEnvs] using e.frames),e.mod,e.bs,e.qV,e.jn,e.tO,e.aP,e.bare⟩
def mB.in1 {mg:Str->Zl}{base:Heap}{outer:Zq}(e:mB P w K mg base A outer s H):
 mB P w K mg base A.in1 outer s H:=⟨e.frames,e.mod,e.bs,e.qV,e.jn,e.tO,e.aP,e.bare⟩
section
variable {X:Cx}{pins:List (Zs×Obj)}{σ:St}{H:Hp}{s s':Zu}
def Inv.AI (I:Inv X pins σ H s):mB X.prog X.w X.K X.mg X.base X.A X.stack s H:=
 ⟨I.ok.frames,I.ok.mod,I.bs,ai0 I.ok.qV I.sz,I.stack,I.oK,I.aP,I.bare⟩
def Inv.after {Q:VK}(I:Inv X pins σ H s)(h:CE X.stack X.prog X.w H s Q u s'):EP X pins σ Q u s':=by
 let⟨v,e,os,bare,un,aP,r,q⟩:=h;let⟨c,g,d,t,a⟩:=s';obtain rfl:a=s.os:=os;rwa[v,e,I.call (h':=c) (g':=g) (d':=d) (t':=t) (ch:=[]) un aP bare (λb z=>absurd z (by simp)),r,q]
end
def Nf (b:Sp)(a:Zb)(E:XK)(t:TA):TE:=λ e H Q=>t e H λc d=>b (c++a) d Q E
inductive RB (C:Zs) (m:Str) (sp:Sp) (dvs:Zb) (E:XK) (t:TA) (σ:St) (x:V) (H:Hp) (Q:VK):Prop
 |mk (a dx:Zs) (fs:List (Str×V)):x=↑a->H a\.ins C dx fs->fs.lookup m=none->t σ H (λvs H2=>sp (x::(vs++dvs)) H2 Q E)->RB C m sp dvs E t σ x H Q
def kJ (C:Zs)(m:Str)(c:Sp)(a:Zb)(E:XK)(e:TE)(t:TA):TE:=λ b H Q=>e b H λx d=>RB C m c a E t b x d Q
def Wj (C:Zs)(e:Sp)(c:Zb)(E:XK)(t:TA):TE:=λ g H Q=>t g H λf b=>∀x a,b x=none->b a=none->a≠x->
 e (↑x::(f++c)) (upd (upd b a (.own x)) x (.ins C a [])) (λv d=>v=.non/\Q ↑x d) E
def Binds (K:Za1)(fd:FuncData)(c:Zp)(b:Zk):Prop:=
 ∀(s:Zu) (a:Zk),K.In s.heap->⇑(a++b)=⇑c->BindsTo s fd ⟨a,[]⟩ (c.zip (a++b))
def Binds.all {fd:FuncData}(h:∀us:Zk,⇑us=⇑Z->bindArgs fd ⟨us,[]⟩=pure (Z.zip us)):Binds K fd Z []:=λs us _ a=>by
 rw[ajp]at a ⊢;rwa[.of_eq (h us a)]
def Passes (c:lQ)(X:Cx)(E:XK):Prop:=∀(a:List (Zs×Obj)) (d:St) (H:Hp) (s:Zu) (e:Zt) (b:Zu),Inv X a d H s->c X.stack H s E e b->X.xe e b
section
variable {X:Cx}{CX:lQ}{k:Nat}{f C:Zs}{fd:FuncData}{ps:Zp}{sp:Sp}{dvs:Zb}{ds:Zk}{E:XK}{x m:Str}{p pos apos:Pos}{e o:Expr}{es:Zr}{ta:TE}{t:TA}
theorem AJ {a:List (Zs×Obj)}{Q:VK}{us:Zk}{vs:Zb}(F:dy X.prog X.w X.K X.mg X.base CX k f fd ps sp)(l:cL k X.A)(i:Binds X.K fd ps ds)(d:Vals dvs ds)(q:Passes CX X E)
 (I:Inv X a D H s) (r:Vals vs us) (h:sp (vs++dvs) H Q E):X⁻¹ X.A (call ↑f us) (EP X a D Q) X.xe s:=by
 let c:Vals (vs++dvs) (us++ds):=r.append d;let j:⇑(us++ds)=⇑ps:=by rw[<-⇑c];rwa[F.len _ _ _ _ h]
 rwa[ald (ak7 (F.run X.A X.stack s H ⟨us,[]⟩ (us++ds) (vs++dvs) Q E l I.AI (i s us I.dA j) c h) λr g b=>?_)]
 cases r with
 |error e=>exact q a D H s e g I b
 |ok n=>
  cases n with
  |ret u=>exact I.after b
  |next=>exact False.elim b
  |brk=>exact False.elim b
  |cont=>exact False.elim b
def xO (F:dy X.prog X.w X.K X.mg X.base CX k f fd ps sp)(u:cL k X.A)(l:Gl X x)(y:X.mg x\↑f)(n:PySem.W.keepIn X.K ↑f=true)(j:Binds X.K fd ps ds)(i:Vals dvs ds)(w:Passes CX X E)
 (A:PA X (e::es) t) (c:(x==("__debug__":Str))=false:=by decide) (z:starEach (e::es) X.env=(false,eval e X.env)::starEach es X.env:=by rfl) (b:(backTo pos (starEach es X.env)).any (·.1)=false:=by rfl):
 PE X (.Call (.Name x p) (e::es) [] pos) (Nf sp dvs E t):=by
 intro a s v H Q I h;rwa[ajX (kj I l y ?_ c)];rwa[alg (h₀:=X.base) I.ok.mod.vn n (bp (A pos a s v H _ I h) λJ G ζ=>?_) z b];let⟨B,D,d,r,q⟩:=ζ;rwa[⟨d.dA,5⟩];rwa[AJ F u j i w d r q]
def kl {pl:Sem Bool}(O:PE X o ta)(c:kc X.K C)(hm:Meth X.K C m f)(F:dy X.prog X.w X.K X.mg X.base CX k f fd ps sp)(J:cL k X.A)(D:Binds X.K fd ps ds)(A:Vals dvs ds)(N:Passes CX X E)(P:PA X (e::es) t)
 (g:starEach (e::es) X.env=(false,eval e X.env)::starEach es X.env:=by rfl) (d:(backTo pos (starEach es X.env)).any (·.1)=false:=by rfl)
 (B:eval (.Call (.Attribute o m apos) (e::es) [] pos) X.env=(do
  let v <-eval o X.env
  standAt apos.atName
  let (f,first) <-holding [v] (getMethod v m pl)
  callWith pos f first (backTo pos (starEach (e::es) X.env)) (backToKw pos (keywordEach [] X.env))):=by rfl):
 PE X (.Call (.Attribute o m apos) (e::es) [] pos) (kJ C m sp dvs E ta t):=by
 intro b s w H Q I h;rwa[PySem.W.methodCall_KW (pl:=pl) (bp (O b s w H _ I h) λu L ζ=>?_) B];let⟨x,G,i,M,a,W,fs,ex,R,l,q⟩:=ζ;subst ex;obtain rfl:u=Value.ref a:=M;rwa[vC i R c hm l ?_];rwa[alg (first:=[↑a]) (h₀:=X.base) I.ok.mod.vn hm.kp (bp (P pos b L w G _ i q) λy T ζ=>?_) g d];let⟨j,U,n,r,S⟩:=ζ;rwa[⟨n.dA,5⟩];rwa[AJ (us:=↑a::y) (vs:=↑a::j) F J D A N n (.cons rfl r) S]
def KY {pl:Sem Bool}(z:PE X o ta)(c:kc X.K C)(hm:Meth X.K C m f)(F:dy X.prog X.w X.K X.mg X.base CX k f fd ps sp)(r:cL k X.A)(n:Binds X.K fd ps ds)(i:Vals dvs ds)(y:Passes CX X E)
 (j:eval (.Call (.Attribute o m apos) [] [] pos) X.env=(do
  let g <-eval o X.env
  standAt apos.atName
  let (f,first) <-holding [g] (getMethod g m pl)
  callWith pos f first (backTo pos (starEach [] X.env)) (backToKw pos (keywordEach [] X.env))):=by rfl):
 PE X (.Call (.Attribute o m apos) [] [] pos) (kJ C m sp dvs E ta jW):=by
 intro b s w H Q I h;rwa[PySem.W.methodCall_KW (pl:=pl) (bp (z b s w H _ I h) λu G ζ=>?_) j];let⟨x,D,d,v,a,L,fs,ex,A,l,q⟩:=ζ;subst ex;obtain rfl:u=Value.ref a:=v;rwa[vC d A c hm l ?_];rwa[PySem.W.callWith_K0 (first:=[↑a]) d.dA hm.kp (AJ (us:=[↑a]) (vs:=[↑a]) F r n i y d (.cons rfl .nil) q)]
structure Mk (K:Za1) (C f:Zs):Prop where
 makes:PySem.W.makesIn K C=true
 init:PySem.W.findIn K ↑C "__init__"=some (some ↑f)
 fn:PySem.W.isFn K ↑f=true
 kp:PySem.W.keepIn K ↑C=true
theorem KZ {a:List (Zs×Obj)}{Q:VK}(M:Mk X.K C f)(F:dy X.prog X.w X.K X.mg X.base CX k f fd ps sp)(B:cL (k+ 1) X.A)(n:Binds X.K fd ps ds)(j:Vals dvs ds)
 (J:Passes CX X E) (I:Inv X a D H s) (r:Vals L N)
 (h:∀x d,H x=none->H d=none->d≠x->sp (↑x::(L++dvs)) (upd (upd H d (.own x)) x (.ins C d [])) (λv O=>v=.non/\Q ↑x O) E):
 X⁻¹ X.A (call ↑C N) (EP X a D Q) X.xe s:=by
 let g:=h (↥s+ 1) ↥s (I.aP.fresh (al1 _)) (I.aP.fresh (aiS _)) (ajm (akc _));let c:=Inv.made (C:=C) I;let i:Vals (V.ref (↥s+ 1)::(L++dvs)) (Value.ref (↥s+ 1)::(N++ds)):=.cons rfl (r.append j)
 let A:⇑(Value.ref (↥s+ 1)::N++ds)=⇑ps:=by
  let e:=⇑i;rw[F.len _ _ _ _ g]at e;rwa[e.symm]
 refine ald (KW (f:=f) I.dA M.makes M.init (alE.mp M.fn) (ak7 (F.run _ X.stack _ _ ⟨Value.ref (↥s+ 1)::N,[]⟩ (Value.ref (↥s+ 1)::(N++ds)) _ _ E (B.make C N [])
  (c.AI.make C N []) (n _ (Value.ref (↥s+ 1)::N) c.dA A) i g) λr l b=>?_))
 cases r with
 |error e=>exact J a D _ _ e l c b
 |ok G=>
  cases G with
  |ret u=>
   let⟨v,P,w,z,q,y⟩:=c.after b;subst q;rwa[z,⟨V.ref (↥s+ 1),P,w,2,y⟩]
  |next=>exact False.elim b
  |brk=>exact False.elim b
  |cont=>exact False.elim b
def xP (M:Mk X.K C f)(F:dy X.prog X.w X.K X.mg X.base CX k f fd ps sp)(n:cL (k+ 1) X.A)(l:Gl X x)(w:X.mg x\↑C)(j:Binds X.K fd ps ds)(i:Vals dvs ds)(v:Passes CX X E)
 (z:PA X (e::es) t) (c:(x==("__debug__":Str))=false:=by decide) (y:starEach (e::es) X.env=(false,eval e X.env)::starEach es X.env:=by rfl) (b:(backTo pos (starEach es X.env)).any (·.1)=false:=by rfl):
 PE X (.Call (.Name x p) (e::es) [] pos) (Wj C sp dvs E t):=by
 intro a s u H Q I h;rwa[ajX (kj I l w ?_ c)];rwa[alg (h₀:=X.base) I.ok.mod.vn M.kp (bp (z pos a s u H _ I h) λG D ζ=>?_) y b];let⟨A,B,d,r,q⟩:=ζ;rwa[⟨d.dA,5⟩];rwa[KZ M F n j i v d r q]
end
def PK (X:Cx)(kws:List Keyword)(t:TA):Prop:=
 ∀(b:Pos) (a:List (Zs×Obj)) (s:Zu) (c:St) (H:Hp) (Q:Zb->Hp->Prop),Inv X a c H s->t c H Q->X⁻¹ X.A (evalAll ((backToKw b (keywordEach kws X.env)).map (·.2))) (AP X a c Q) X.xe s
section
variable {X:Cx}{fd:FuncData}{ps ks:Zp}{x:Str}{pos aa0:Pos}{e:Expr}{kws:List Keyword}{te:TE}{t:TA}{nm:Option Str}
def HF:PK X [] jW:=λ_ _ _ _ H Q I h=>wpAny_evalAll_nil ⟨[],H,I,.nil,h⟩
def EB (w:PE X e te)(l:PK X kws t):PK X (⟨nm,e,aa0⟩::kws) (jg te t):=by
 intro pos a s b H Q I h;rwa[wpAny_evalAll_cons (aiK (bp (w a s b H _ I h) λu q ζ=>?_))];let⟨x,j,d,c,g⟩:=ζ;rwa[aiK (alM (aiU ?_))];rwa[bp (l pos a q b j _ d g) λA z ζ=>?_];let⟨n,v,i,r,y⟩:=ζ;rwa[⟨x::n,v,i,.cons c r,y⟩]
structure acn (K:Za1) (fd:FuncData) (ps ks:Zp) (g:Zk->Zk->Zk) (gV:Zb->Zb->Zb):Prop where
 to:∀(s:Zu) (us ws:Zk),K.In s.heap->⇑(g us ws)=⇑ps->BindsTo s fd ⟨us,ks.zip ws⟩ (ps.zip (g us ws))
 rel:∀{vs:Zb} {us:Zk} {zs:Zb} {ws:Zk},Vals vs us->Vals zs ws->Vals (gV vs zs) (g us ws)
end
structure aS (N P:Zp) (sc:Scope):Prop where
 kind:sc.kind=.function
 co:sc.isCoroutine=false
 gen:sc.isGenerator=false
 nd:N.Nodup
 pre:N.take ⇑P=P
 par:∀x∈P,sc.names.lookup x=some .local\/sc.names.lookup x=some .cell
 RC:∀y∈sc.names,y.2≠.free
theorem yR {kindOf:Str->Option NameKind}:∀{binds:List (Str×Zt)} {m:Str->Zl},(∀v,(x,v)∉binds)->bindL kindOf binds m x=m x
 |[],_,_=>rfl
 |(n,v)::r,m,h=>by
  unfold bindL;rw[yR λw a=>h w (ajo _ a)];split
  ·cbv
  ·rfl
theorem yS {kindOf:Str->Option NameKind}:∀{binds:List (Str×Zt)} {m:Str->Zl},(∀v,(x,v)∉binds)->bindC kindOf binds m x=m x
 |[],_,_=>rfl
 |(n,v)::r,m,h=>by
  unfold bindC;rw[yS λw a=>h w (ajo _ a)];split
  ·rfl
  cbv
theorem yT {kindOf:Str->Option NameKind}{x:Str}{v:Zt}:∀{P:Zp} {a:Zk} {i:Nat} {m:Str->Zl},P.Nodup->P[i]?\x->a[i]?\v->kindOf x=some .local->
 bindL kindOf (P.zip a) m x=some v
 |[],_,_,_,_,h,_,_=>by simp at h
 |_::_,[],_,_,_,_,h,_=>by simp at h
 |p::P,w::a,0,m,d,c,b,e=>by
  simp at c b;subst c;subst b;show bindL kindOf ((p,w)::P.zip a) m p=_;unfold bindL;rw[yR λv f=>(ajr.mp d).1 (List.of_mem_zip f).1,ajg e];simp
 |p::P,w::a,i+ 1,m,d,c,b,e=>by
  unfold bindL;rwa[yT (i:=i) (ajr.mp d).2 (by simpa using c) (by simpa using b) e]
theorem yU {kindOf:Str->Option NameKind}{x:Str}{v:Zt}:∀{P:Zp} {a:Zk} {i:Nat} {m:Str->Zl},P.Nodup->P[i]?\x->a[i]?\v->kindOf x≠some .local->
 bindC kindOf (P.zip a) m x=some v
 |[],_,_,_,_,h,_,_=>by simp at h
 |_::_,[],_,_,_,_,h,_=>by simp at h
 |p::P,w::a,0,m,d,c,b,e=>by
  simp at c b;subst c;subst b;show bindC kindOf ((p,w)::P.zip a) m p=_;unfold bindC;rw[yS λv f=>(ajr.mp d).1 (List.of_mem_zip f).1,ajb e];simp
 |p::P,w::a,i+ 1,m,d,c,b,e=>by
  unfold bindC;rwa[yU (i:=i) (ajr.mp d).2 (by simpa using c) (by simpa using b) e]
noncomputable def start (N:Zp)(a:Zb):St:=a.map some++List.replicate (⇑N - ⇑a) none
def cM (c:lQ)(P:Program)(w:World)(K:Za1)(mg:Str->Zl)(base:Heap)(N:Zp)(qual:Str)(scope:Scope)(f:Zs)(b:Zt)(A:Around)(outer:Zq)(s:Zu)(H:Hp)(E:XK):Cx where
 prog:=P
 w:=w
 K:=K
 mg:=mg
 base:=base
 A:=A.deeper (envOfC qual scope ↥s f b)
 N:=N
 eK:=s
 uw:=H
 env:=envOfC qual scope ↥s f b
 outer:=outer
 stack:=envOfC qual scope ↥s f b::outer
 ex:=[]
 calm:=true
 fn:=λ_=>true
 pn:=[]
 xe:=λe d=>(P<|>w) (A.deeper (envOfC qual scope ↥s f b)) (leaving (envOfC qual scope ↥s f b) e) (λ_ a=>c outer H s E e a) (λg a=>c outer H s E g a) d
def AK {sc:Scope}(h:sc.names.lookup x=some .cell):∃c,(cellsFrom n sc.names []).lookup x\c:=by
 let q:=alV sc.names n [] (.inl h);rwa[akh.mp q]
def yV {O:lQ}{base:Heap}{N:Zp}{qual:Str}{scope:Scope}{f:Zq}{J:Zu}{E:XK}{F:Zk}
 (S:aS N Z scope) (Q:A.handled=none) (j:mB P w K M base A f s H) (X:⇑L=⇑Z) (r:Vals L F)
 (x:InCallC s ↥s (bindL (envOfC qual scope ↥s a v).kindOf (Z.zip F) λ_=>none) (cellsFrom (↥s+ 1) scope.names []) (bindC (envOfC qual scope ↥s a v).kindOf (Z.zip F) λ_=>none) J):
 Inv (cM O P w K M base N qual scope a v A f s H E) [] (start N L) H J:=by
 let R:⇑Z<=⇑N:=by have:=ajT List.length S.pre;rw[ajs]at this;ext
 let⟨C,W,rfl,G⟩:=x.done;let m:∀b:Zs,b∉(cM O P w K M base N qual scope a v A f s H E).ex:=λb z=>absurd (show b∈([]:Zn) from z) (by simp)
 erw[⟨j.mod,S.kind,22,aiS _,λy z c C l=>?_,λy t=>?_,λy c _ h=>?_,λ_=>Q,Around.frames_deeper j.frames,.inr ⟨22⟩,λb z=>absurd z (m b),j.bs,j.qV,λb _ _=>m b,λb z=>absurd z (m b),j.jn,j.tO⟩,2,j.bare,Un.kept G,⟨_,x.toInCall.ns,λi y g C l Y=>?_⟩,λy c h=>⟨_,x.cell y c h⟩,j.aP.fresh (aiS _),λy c h=>?_,λp o=>absurd (show p∈([]:List (Zs×Obj)) from o) (by simp),j.aP.kept G]
 ·rwa[name_of_addr x.apart (akJ C) (akJ l)]
 ·rcases t with t|t
  ·rwa[AK t]
  ·rwa[absurd rfl (S.RC _ (akJ t))]
 ·rwa[akz (x.above y c (akJ h))]
 ·let D:i<⇑L:=by
   unfold start at l;cases D:i<⇑L
   ·rwa[D]
   ·cbv
  let U:L[i]?\g:=by
   unfold start at l;rw[aiZ (by simpa using D),ai6]at l
   cases e:L[i]? with
   |none=>rw[e]at l;ext l
   |some d=>cbv
  let⟨u,I,T⟩:=r.get U
  let o:Z[i]?\y:=by
   rw[<-S.pre,ak1 ∅];rwa[C]
  let B:Z.Nodup:=by rw[<-S.pre];rwa[S.nd.sublist (List.take_sublist _ _)]
  erw[u,T];rcases S.par y (aiN o) with k|k
  ·rwa[.inl ⟨k,yT B o I k⟩]
  ·let⟨c,e⟩:=AK (n:=↥s+ 1) k;rwa[.inr ⟨.inl k,c,e,5⟩];let q:=x.cell y c e;rw[yU B o I (by show scope.names.lookup y≠_;cbv)]at q;rwa[q]
 ·rwa[j.aP.fresh (akz (x.above y c (akJ h)))]
 ·unfold start;show _=⇑N;rw[aiP,aiQ,List.length_replicate];ext
def Ao {B:lQ}{base:Heap}{k:Nat}{name qual:Str}{params:Arguments}{body:List Stmt}{scope:Scope}{dV kV doc pm d X Y:Zt}{W od:Zo}
 {O:Array Zl} {N z:Zp} {C:Sp} (lk:K.lookup a\⟨Y,od,.func (PySem.W.fnOf name qual params body scope dV kV doc pm W d X),O⟩) (L:PySem.W.codeIn K d qual=true) (S:aS N z scope)
 (len:∀f H Q E,C f H Q E->⇑f=⇑z)
 (j:∀(A:Around) (c:Zq) (s:Zu) (H:Hp) (f:Zb) (Q:VK) (E:XK),cL k (A.deeper (envOfC qual scope ↥s a d))->C f H Q E->
  ∃t,jz (cM B P w K M base N qual scope a d A c s H E) body t/\t { nx:=λ_ h=>Q .non h,rt:=Q } (start N f) H):
 dy P w K M base B (k+ 1) a (PySem.W.fnOf name qual params body scope dV kV doc pm W d X) z C:=by
 rwa[⟨len,λA c s H R us f Q E G m hb r p=>?_⟩];let hl:=len _ _ _ _ p;let T:K.In s.heap:=m.mod.vn.keeps λb o e=>(m.bs b o e).1
 let lim:s.heap.NoLimit:=m.mod.nolimit.keeps λb o e=>(m.bs b o e).1
 let i:∀y∈z.zip us,scope.names.lookup y.1=some .local\/(scope.names.lookup y.1=some .cell/\((cellsFrom (↥s+ 1) scope.names []).lookup y.1).isSome=true):=λζ hy=>by
  let⟨n,v⟩:=ζ
  rcases S.par n (List.of_mem_zip hy).1 with q|q
  ·rwa[.inl q]
  ·rwa[.inr ⟨q,alV _ _ _ (.inl q)⟩]
 rwa[codeAny_call_function G.depth (T^lk) rfl S.co S.gen rfl (PySem.W.codeRec_of T L) (hb _ _ _ _ ?_)];rwa[wpAny_newFunctionEnv_cells S.kind i λenv he U x=>?_]
 subst he;rwa[⟨lim.keeps x.toInCall.keep,codeAny_func ?_⟩];let⟨t,Z,hq⟩:=j A c s H f Q E (G.deeper _) p;let I:Inv (cM B P w K M base N qual scope a d A c s H E) [] (start N f) H U:=yV S G.hd m hl r x;rwa[ajZ (Z [] U (start N f) H _ I hq) (λfl D l=>?_) λe D l=>l]
 let fin:∀{g:St} {h:Hp} {v:V} {u:Zt},Inv (cM B P w K M base N qual scope a d A c s H E) [] g h D->RelV v u->Q v h->CE c P w H s Q u D:=
  λ{g h v u} J F q=>⟨v,h,J.os,J.bare,J.base,J.aP,F,q⟩
 cases fl with
 |ret u=>
  let⟨v,g,h,J,F,q⟩:=l;rwa[fin J F q]
 |next=>
  let⟨g,h,J,q⟩:=l;rwa[fin (v:=V.non) (u:=Value.none) J rfl q]
 |brk=>
  let⟨_,_,_,q⟩:=l;rwa[False.elim q]
 |cont=>
  let⟨_,_,_,q⟩:=l;rwa[False.elim q]
section
variable {X:Cx}{x:Str}{p pos:Pos}{e:Expr}{es:Zr}{t:TA}{id T:String}{r:Zb->Hp->VK->Prop}
def Xz (r:Zb->Hp->VK->Prop)(t:TA):TE:=λ c H Q=>t c H λa b=>r a b Q
def bq (l:iM X (.builtin id) r)(g:Gl X x)(q:X.mg x=none)(v:bootBuiltins x\.builtin id)(w:PA X (e::es) t)(o:x≠"__name__":=by decide)(c:(x==("__debug__":Str))=false:=by decide)
 (y:starEach (e::es) X.env=(false,eval e X.env)::starEach es X.env:=by rfl) (b:(backTo pos (starEach es X.env)).any (·.1)=false:=by rfl):PE X (.Call (.Name x p) (e::es) [] pos) (Xz r t):=by
 intro a s d H Q I h;rwa[ajX (gw I g q v ?_ o c)];rwa[PyProof.Rows.callWith_builtin1 (bp (w pos a s d H _ I h) λu n ζ=>?_) y b];let⟨j,m,i,f,k⟩:=ζ;rwa[l a n d m j u Q i f k]
def fK (l:iM X (.type T) r)(g:Gl X x)(q:X.mg x=none)(v:bootBuiltins x\.type T)(w:PA X (e::es) t)(o:x≠"__name__":=by decide)(c:(x==("__debug__":Str))=false:=by decide)
 (y:starEach (e::es) X.env=(false,eval e X.env)::starEach es X.env:=by rfl) (b:(backTo pos (starEach es X.env)).any (·.1)=false:=by rfl):PE X (.Call (.Name x p) (e::es) [] pos) (Xz r t):=by
 intro a s d H Q I h;rwa[ajX (gw I g q v ?_ o c)];rwa[ajH (bp (w pos a s d H _ I h) λu n ζ=>?_) y b];let⟨j,m,i,f,k⟩:=ζ;rwa[l a n d m j u Q i f k]
end
end L2
namespace HT
open PySem PyProof.Rows
noncomputable def lexLt:Zg->Zg->Bool
 |[],[]=>false
 |[],_::_=>true
 |_::_,[]=>false
 |x::a,y::ys=>if x=y then lexLt a ys else decide (x<y)
def vE (x y:Int)(a ys:Zg):lexLt (x::a) (y::ys)=if x=y then lexLt a ys else decide (x<y):=rfl
def zM:lexLt [] []=false:=rfl
section
variable {prog:Program}{w:World}{A:Around}{E:Zt->Zu->Prop}{s:Zu}
def Pl {t:Zs}{ws:Zk}(r:IsTup s.heap t N.toArray)(u:IsTup s.heap b ws.toArray)(m:N≠[])
 (v:ws=[]->Q ↑t s) (q:ws≠[]->Q ↑↥s { s with heap:=s.heap.push ("tuple">>>.seq (N++ws).toArray) })
 (x:⇑N+ ⇑ws<=sizeLine):(prog<|>w) A (binaryOp .Add ↑t ↑b) Q E s:=by
 let⟨⟨cls,l,data,j⟩,g,y,n,p⟩:=id r;let⟨⟨k,c,data2,d⟩,a,i,o,h⟩:=id u;subst y p i h;let e:N.toArray++ws.toArray=(N++ws).toArray:=by simp
 cases f:ws=[]
 ·exact concat_meets ⟨_,g,2⟩ ⟨_,a,2⟩ noFill_tuple_add seq_tuple_add alW alO (alG _ _)
   (tuple_addW1 t b N.toArray ws.toArray n o l c j d (by simpa using m) (by simp[f])) ⟨g,a,v f⟩
 ·refine concat_meets ⟨_,g,2⟩ ⟨_,a,2⟩ noFill_tuple_add seq_tuple_add alW alO (alG _ _)
   (tuple_addW2 t b N.toArray ws.toArray n o l c j d (by simpa using m) (by simpa using f) ∅) ⟨g,a,5⟩
  rw[e];rwa[q f]
noncomputable def cj (n d:Nat):Zj->Nat
 |none=>d
 |some v=>if v<0 then (v+ (n:Int)).toNat else min v.toNat n
def xQ (n d k:Nat):cj n d (some (k:Int))=min k n:=by
 show (if (k:Int)<0 then ((k:Int)+ (n:Int)).toNat else min (k:Int).toNat n)=min k n;rw[ajb ∅,ajq]
def EC (v:Int)(n d:Nat):(if v<0 then max (v+ (n:Int)) 0 else min v (n:Int))=((cj n d (some v):Nat):Int):=by
 show (if v<0 then max (v+ (n:Int)) 0 else min v (n:Int))=(((if v<0 then (v+ (n:Int)).toNat else min v.toNat n):Nat):Int);cases a:v<0
 ·cbv
 ·simp only[ajb a];ext
def F7 (lo a:Zj)(n:Nat):Builtin.Slice.sliceAdjust lo a 1 (n:Int)=(((cj n 0 lo:Nat):Int),((cj n n a:Nat):Int)):=by
 let b:¬((1:Int)<0):=∅
 unfold Builtin.Slice.sliceAdjust;rwa[Prod.ext ?_ ?_]
 ·cases lo with
  |none=>rfl
  |some v=>exact EC v n 0
 ·cases a with
  |none=>rfl
  |some v=>exact EC v n n
def F8 (i j:Nat):Builtin.Slice.slicePlaces (i:Int) (j:Int) 1=j - i:=by
 unfold Builtin.Slice.slicePlaces;let a:(1:Int) > 0:=∅
 split <;> ext
def vF {o:Zj}{Q:Zj->Zu->Prop}(p:IsPart v o)(h:Q o s):(prog<|>w) A (Builtin.Slice.slicePartIndex v) Q E s:=by
 cases p with
 |none=>exact slicePart_none h
 |int i t=>exact slicePart_int h
def mC {lo d:Zj}{Q:Int×Int×Nat->Zu->Prop}(g:s.heap.IsSliceOf a v u .none)(pl:IsPart v lo)(e:IsPart u d)
 (h:Q (((cj n 0 lo:Nat):Int),1,cj n n d - cj n 0 lo) s):(prog<|>w) A (Builtin.Slice.sliceApplied ↑a (pure (n:Int))) Q E s:=by
 let⟨os,b,f,c⟩:=id g;rwa[aiK (aiK (ajS b c (x:=v) rfl (aiK (ajS b c (x:=u) rfl (aiK (ajS b c (x:=.none) rfl (aiU ?_)))))))];rwa[aiK (slicePart_none ?_)];rwa[aiK (vF pl (aiK (vF e (aiK (aiU ?_)))))];show wpAny _ _ (match Builtin.Slice.sliceAdjust lo d 1 (n:Int) with|(lo,d)=>pure (lo,(1:Int),Builtin.Slice.slicePlaces lo d 1)) _ _ s;rw[F7 lo d n];show wpAny _ _ (pure (((cj n 0 lo:Nat):Int),(1:Int),Builtin.Slice.slicePlaces ((cj n 0 lo:Nat):Int) ((cj n n d:Nat):Int) 1)) _ _ s;rw[F8];rwa[aiU h]
def K0 (xs:Zm)(i k:Nat):((~~~k).filterMap λ(m:Nat)=>xs[((i:Int)+ (m:Int)* 1).toNat]?).toArray=((xs.toList.drop i).take k).toArray:=by
 let e:(λ(m:Nat)=>xs[((i:Int)+ (m:Int)* 1).toNat]?)=λm=>xs[i+ m]?:=by
  funext m
  have:((i:Int)+ (m:Int)* 1).toNat=i+ m:=∅
  rw[this]
 rw[e];have:=pick_run xs i k;rw[List.filterMap_map]at this;let a:((λx=>xs[x]?) ∘ λx=>i+ x)=λm=>xs[i+ m]?:=rfl
 cbv
def tD {t:Zs}{items:Zm}{lo c:Zj}(d:IsTup s.heap t items)(j:s.heap.IsSliceOf a v u .none)(pl:IsPart v lo)(o:IsPart u c)
 (n:¬(cj items.size 0 lo=0/\cj items.size items.size c=items.size))
 (h:Q ↑↥s { s with heap:=s.heap.push ("tuple">>>.seq ((items.toList.drop (cj items.size 0 lo)).take (cj items.size items.size c - cj items.size 0 lo)).toArray) })
 (l:items.size<=sizeLine):(prog<|>w) A (getItem ↑t ↑a) Q E s:=by
 let b:sizeOk (.seq ((items.toList.drop (cj items.size 0 lo)).take (cj items.size items.size c - cj items.size 0 lo)).toArray):=by
  show ((items.toList.drop (cj items.size 0 lo)).take (cj items.size items.size c - cj items.size 0 lo)).toArray.size<=sizeLine;rw[ai8,ajs,ajM,akI];ext
 let⟨os,g,f,k⟩:=id j;let i:s.TypeIs ↑a "slice":=⟨os,g,f⟩;unfold getItem
 try with_reducible rwa[ajP ?_]
 rwa[aiK (wpAny_sequenceKey d.typeIs ⋯ ?_)]
 refine aiK (aj3 (name:=Str.ofString "__getitem__") d.typeIs ajW
  (akb ajW d.typeIs entry_tuple_getitem ?_ (args_tuple_getitem _ _)))
 show wpAny _ _ (Builtin.Tuple.tupleItemsOf ↑t >>=_) _ _ s;rwa[aiK (tupleItemsOf_ d ?_)];rwa[aiK (ak8 i ?_)];rwa[aiK (mC j pl o ?_)]
 let e:¬((((cj items.size 0 lo:Nat):Int)==0 && (1:Int)==1 && (cj items.size items.size c - cj items.size 0 lo)==items.size)=true):=by
  intro q;rw[akC,akC]at q;let p:((cj items.size 0 lo:Nat):Int)=0:=eq_of_beq q.1.1;let r:cj items.size items.size c - cj items.size 0 lo=items.size:=eq_of_beq q.2;rwa[n ⟨33⟩]
 show wpAny _ _ (if (((cj items.size 0 lo:Nat):Int)==0 && (1:Int)==1 && (cj items.size items.size c - cj items.size 0 lo)==items.size)=true then _ else _) _ _ s;rw[ajb e,K0]
 first
  |rwa[aiK (m:=Builtin.Tuple.tupleExact _) (ajJ (aiU ⟨_,rfl,aiU h⟩) b)]
  |rwa[aiK (m:=Builtin.Tuple.tupleExact _) (ajJ (aiK (aiU (aiU ⟨_,rfl,aiU h⟩))) b)]
  |rwa[aiK (aiK (m:=Builtin.Tuple.tupleExact _) (ajJ (aiU (aiU ⟨_,rfl,aiU h⟩)) b))]
  |rwa[aiK (aiK (m:=Builtin.Tuple.tupleExact _) (ajJ (aiU ⟨_,rfl,aiU h⟩) b))]
end
end HT
namespace L2
open PySem PySem.Spec PyProof.Rows
abbrev TO:=St->Hp->(Zj->Hp->Prop)->Prop
def PO (X:Cx)(e:Option Expr)(t:TO):Prop:=
 ∀(a:List (Zs×Obj)) (s:Zu) (b:St) (H:Hp) (Q:Zj->Hp->Prop),Inv X a b H s->t b H Q->
  X⁻¹ X.A (evalPart e X.env) (λu d=>∃o c,Inv X a b c d/\IsPart u o/\Q o c) X.xe s
def Pn:TO:=λ_ H Q=>Q none H
def Wk (t:TE):TO:=λ b H Q=>t b H λx a=>∃i,x=.int i/\Q (some i) a
section
variable {X:Cx}{e:Expr}{te:TE}{lo hi:Option Expr}{tl th:TO}{pos p2:Pos}
def xR:PO X none Pn:=by
 intro a s b H Q I h;rwa[aiU ⟨none,H,I,.none,h⟩]
def oN (h:PE X e te):PO X (some e) (Wk te):=by
 intro a s j H Q I b;rwa[bp (h a s j H _ I b) λu k ζ=>?_];let⟨x,c,g,d,f⟩:=ζ
 let⟨i,rfl,q⟩:=f;let⟨t,rfl⟩:=d;rwa[some i,c,g,.int i t,q]
def Ng (X:Cx)(r:V->Zj->Zj->Hp->VK->Prop):Prop:=
 ∀(a:List (Zs×Obj)) (s:Zu) (f:St) (H:Hp) (x:V) (v d c:Zt) (lo hi:Zj) (b:Zs) (Q:VK),Inv X a f H s->RelV x v->s.heap.IsSliceOf b d c .none->IsPart d lo->IsPart c hi->r x lo hi H Q->
  ∃T id,typeLookup (.type T) "__getitem__"=pure (some (.builtin id))/\s.TypeIs v T/\X⁻¹ X.A (getItem v ↑b) (EP X a f Q) X.xe s
def tSl (r:V->Zj->Zj->Hp->VK->Prop)(te:TE)(tl th:TO):TE:=λ a H Q=>te a H λx c=>tl a c λl b=>th a b λu d=>r x l u d Q
def pV {r:V->Zj->Zj->Hp->VK->Prop}(C:Ng X r)(J:PE X e te)(B:PO X lo tl)(E:PO X hi th):PE X (.Subscript e (.Slice lo hi none p2) pos) (tSl r te tl th):=by
 intro a s c H Q I h;rwa[Subscript_ (bp (J a s c H _ I h) λv F ζ=>?_)];let⟨x,A,m,i,w⟩:=ζ;rwa[wpAny_Slice (bp (B a F c A _ m w) λf p ζ=>?_)];let⟨l,G,z,pl,L⟩:=ζ;rwa[bp (E a p c G _ z L) λd s3 ζ=>?_];let⟨u,g,o,D,y⟩:=ζ;rwa[aiU ?_];let j:Inv X a c g { s3 with heap:=s3.heap.push ("slice">>>.fields #[f,d,.none]) }:=o.kept (t':=s3.toks) λb N q=>aiM _ q
 let⟨T,id,t,k,n⟩:=C a { s3 with heap:=s3.heap.push ("slice">>>.fields #[f,d,.none]) } c g x v f d l u ↥s3 Q j i (Heap.IsSliceOf.new ..) pl D y;rwa[tail_any (ops:=[↑↥s3,v]) k t n (by with_unfolding_all rfl)]
def hY (xs:Zb)(lo hi:Zj):Zb:=(xs.drop (HT.cj ⇑xs 0 lo)).take (HT.cj ⇑xs ⇑xs hi - HT.cj ⇑xs 0 lo)
def tT (xs:Zb)(lo hi:Zj):⇑(hY xs lo hi)<=⇑xs:=by
 unfold hY;rw[ajs,ajM];ext
inductive RD (K:Za1) (x:V) (lo:Zj) (hi:Zj) (H:Hp) (Q:VK):Prop
 |mk (a:Zs) (xs:Zb):x=↑a->bB K H a xs->¬(HT.cj ⇑xs 0 lo=0/\HT.cj ⇑xs ⇑xs hi=⇑xs)->(∀p,H p=none->Q ↑p (upd H p (.tup (hY xs lo hi))))->RD K x lo hi H Q
def RG:Ng X (RD X.K):=by
 intro g s y H x v w n lo hi t Q I k l pl j h;let⟨a,xs,rfl,m,i,q⟩:=h;ext k;let⟨c,r,d,f⟩:=I.tuple m;let hlen:c.toArray.size=⇑xs:=by rwa[r.length.symm]
 erw["tuple",_,ajW.lookup,d.typeIs];rwa[HT.tD d l pl j ([hlen]▸i) ?_ ([hlen]▸f)];rw[hlen];rwa[⟨↑↥s,_,I.laid (t':=s.toks) (o:=.tup (hY xs lo hi)) (λb u q=>aiM _ q) (aiS _) ?_,2,q _ (I.aP.fresh (aiS _))⟩];rwa[ai0 (tT xs lo hi) f,_,(r.drop (HT.cj ⇑xs 0 lo)).take (HT.cj ⇑xs ⇑xs hi - HT.cj ⇑xs 0 lo),IsTup.new _ _]
inductive aa1 (K:Za1) (x:V) (y:V) (H:Hp) (Q:VK):Prop
 |mk (a b:Zs) (ns ms:Zg):x=↑a->y=↑b->bB K H a (ns.map V.int)->bB K H b (ms.map V.int)->Q (.bl (HT.lexLt ns ms)) H->aa1 K x y H Q
inductive Nh (K:Za1) (x:V) (y:V) (H:Hp) (Q:VK):Prop
 |mk (a b:Zs) (xs ys:Zb):x=↑a->y=↑b->bB K H a xs->bB K H b ys->xs≠[]->⇑xs+ ⇑ys<=sizeLine->(ys=[]->Q ↑a H)->(ys≠[]->∀p,H p=none->Q ↑p (upd H p (.tup (xs++ys))))->Nh K x y H Q
def Vals.sR (r:Vals L N):N=[]↔L=[]:=by
 cases r with
 |nil=>simp
 |cons _ _=>simp
def Pp:fB X (binaryOp .Add) (Nh X.K):=by
 intro g s E H x y v u Q I p r h;let⟨a,b,n,ys,rfl,rfl,A,j,t,f,l,B⟩:=h;ext p;ext r;let⟨k,d,m,_⟩:=I.tuple A;let⟨i,c,p2,_⟩:=I.tuple j;rwa[HT.Pl m p2 (λz=>t (d.sR.mp z)) (λz=>⟨↑a,H,I,2,l (c.sR.mp z)⟩) (λz=>?_) (by rw[<-⇑d,<-⇑c];rwa[f])];rwa[⟨↑↥s,_,I.laid (t':=s.toks) (o:=.tup (n++ys)) (λb D q=>aiM _ q) (aiS _) ?_,2,B (λw=>z (c.sR.mpr w)) _ (I.aP.fresh (aiS _))⟩];rwa[[aiP]▸f,_,d.append c,IsTup.new _ _]
end
noncomputable def tU (n:Nat)(i:Int):Zi:=if 0<=i then (if i<n then some i.toNat else none) else if -(n:Int)<=i then some (i+ n).toNat else none
def g6 {a:Type}(xs:List a)(i:Int):Option a:=(tU ⇑xs i).bind λj=>xs[j]?
def xS (h:tU n z\j):seqIndex? z n\j/\j<n/\-(n:Int)<=z/\z<n:=by
 unfold tU at h;cases b:0<=z
 ·rw[ajg b]at h;cases a:z<n
  ·rw[ajg a]at h;let e:z.toNat=j:=Za0 h;rwa[by rw[seqIndex_of b a,e],33,a]
  ·rw[ajb a]at h;ext h
 ·rw[ajb b]at h;cases a: -(n:Int)<=z
  ·rw[ajg a]at h;let e:(z+ n).toNat=j:=Za0 h;rwa[by rw[seqIndex_neg ∅ a,e],3,a,3]
  ·rw[ajb a]at h;ext h
def ED {a:Type}{xs:List a}{v:a}(h:g6 xs z\v):∃j,seqIndex? z ⇑xs\j/\xs[j]?\v/\j<⇑xs/\-(⇑xs:Int)<=z/\z<⇑xs:=by
 unfold g6 at h
 cases e:tU ⇑xs z with
 |none=>rw[e]at h;ext h
 |some j=>
  rw[e]at h;let⟨d,b,f,c⟩:=xS e;rwa[j,d,h,b,f,c]
def cw {a:Type}{xs:List a}{v:a}(h:xs[j]?\v):g6 xs (j:Int)\v:=by
 let b:j<⇑xs:=(aiO.mp h).1
 let e:tU ⇑xs (j:Int)\j:=by
  unfold tU;rw[ajg ∅,ajg ∅];simp
 unfold g6;rw[e];rwa[h]
def Pq (b:Expr):Prop:=∀o i,subscripted b false o i=operate [o,i] (getItem o i)
def HG (X:Cx)(r:R2):Prop:=
 ∀(value slice:Expr) (a:List (Zs×Obj)) (s:Zu) (b:St) (H:Hp) (x y:V) (v u:Zt) (Q:VK),Inv X a b H s->RelV x v->RelV y u->r x y H Q->
  subscripted slice false v u=operate [v,u] (getItem v u)->X⁻¹ X.A (subscriptTail value slice v u) (EP X a b Q) X.xe s
def RH (X:Cx)(id:String)(r:V->Zb->Hp->VK->Prop):Prop:=
 ∀(a:List (Zs×Obj)) (s:Zu) (d:St) (H:Hp) (x:V) (c:Zb) (v:Zt) (b:Zk) (Q:VK),Inv X a d H s->RelV x v->Vals c b->r x c H Q->
  X⁻¹ X.A (call (.builtin id) (v::b)) (EP X a d Q) X.xe s
section
variable {X:Cx}{a b:Expr}{ta tb:TE}{pos:Pos}
def aK {r:R2}(g:HG X r)(n:PE X a ta)(d:PE X b tb)(j:Pq b):PE X (.Subscript a b pos) (Nb r ta tb):=by
 intro c s l H Q I h;rwa[Subscript_ (KJ n d I h λv u e x y m f i k q=>g a b c e l m x y v u Q f i k q (j _ _))]
inductive K1 (K:Za1) (x:V) (y:V) (H:Hp) (Q:VK):Prop
 |mk (p:Zs) (xs:Zb) (i:Int) (v:V):x=↑p->y=.int i->aD K H p xs->g6 xs i\v->Q v H->K1 K x y H Q
inductive K2 (K:Za1) (x:V) (y:V) (H:Hp) (Q:VK):Prop
 |mk (p:Zs) (xs:Zb) (i:Int) (v:V):x=↑p->y=.int i->bB K H p xs->g6 xs i\v->Q v H->K2 K x y H Q
inductive aa2 (x:V) (y:V) (H:Hp) (Q:VK):Prop
 |mk (z:Str) (i:Int) (c:Nat):x=.str z->y=.int i->⇑z<=sizeLine->g6 z.cps.toList i\c->Q (.str ⟨#[c]⟩) H->aa2 x y H Q
def bL:HG X (K1 X.K):=by
 intro value slice c s n H x y v u Q I F G h m;let⟨p,M,i,z,rfl,rfl,B,J,q⟩:=h;ext F;let⟨t,rfl⟩:=G;let⟨f,r,pl,L⟩:=I.list B;let⟨j,d,A,N,C,D⟩:=ED J;let⟨w,l,e⟩:=r.get A;let E:=⇑r;let O:=qX;let fin:EP X c n Q w s:=⟨z,H,I,e,q⟩;cases k:0<=i
 ·let g:i.toNat=j:=by
   rw[seqIndex_of k D]at d;rwa[Za0 d]
  rwa[item_listR pl.isList k ∅ (by rw[g];simpa using l) fin m]
 ·let g:(i+ (f.toArray.size:Int)).toNat=j:=by
   rw[seqIndex_neg ∅ C]at d;rw[ai8,<-E];rwa[Za0 d]
  exact subscriptTail_builtinR (x:=w) pl.isList.typeIs slot_list_getitem.lookup
   (wpAny_getItem_list_neg (Q:=λr o=>r=w/\EP X c n Q r o) pl.isList ∅ (by rw[ai8] <;> omega) ∅ (by rw[g];simpa using l) ⟨2,fin⟩) m
def bf:HG X (K2 X.K):=by
 intro value slice c s e H x y v u Q I n A h o;let⟨p,J,i,z,rfl,rfl,k,B,q⟩:=h;ext n;let⟨t,rfl⟩:=A;let⟨l,r,pl,F⟩:=I.tuple k;let⟨j,D,g,L,C,E⟩:=ED B;let⟨w,m,d⟩:=r.get g;let G:=⇑r;let M:=qX;let fin:EP X c e Q w s:=⟨z,H,I,d,q⟩
 exact subscriptTail_builtinR (x:=w) pl.typeIs slot_tuple_getitem.lookup
  (getItem_tuple (j:=j) (Q:=λr f=>r=w/\EP X c e Q r f) pl ∅ ∅ (by cbv) (by simpa using m) ⟨2,fin⟩) o
def F9 (c:Zk)(n j:Nat)(u:Zt):Obj.mapSeq (·.setIfInBounds j u) ("list">>>.seq c.toArray n)=("list">>>.seq (c.set j u).toArray n):=by
 simp[Obj.mapSeq]
def Inv.lst {xs:Zb}(I:Inv X o D H s)(h:H c\.lst xs):
 ∃(d:Zk) (n:Nat),Vals xs d/\s•c\("list">>>.seq d.toArray n)/\⇑xs<=sizeLine:=by
 let⟨z,d,n,r,e⟩:=I.aP c _ h;rwa[d,n,r,e,z]
def Inv.RJ {ys:Zb}{d:Zk}{f:Obj->Obj}(I:Inv X o D H s)(h:H c\.lst L)
 (j:s•c\("list">>>.seq N.toArray n)) (g:f ("list">>>.seq N.toArray n)=("list">>>.seq d.toArray m)) (r:Vals ys d) (hz:⇑ys<=sizeLine) (t:Nat):
 Inv X o D (upd H c (.lst ys)) { s with heap:=s.heap.update c f,toks:=t }:=by
 let e:(s.heap.update c f).get? c\("list">>>.seq d.toArray m):=by
  rw[ajB f j (by rw[g] <;> rfl),g]
 rwa[I.write (x:=c) (e:=c) (by rw[h];trivial) (.inl rfl) (λb u i q=>(ajC^ajR i).trans q) ⟨_,e⟩ ?_];rwa[hz,d,m,r,e]
inductive Ni (o:V) (i:V) (v:V) (H:Hp) (Q:(Hp->Prop)):Prop
 |mk (p:Zs) (xs:Zb) (k:Int) (j:Nat):o=↑p->i=.int k->H p\.lst xs->tU ⇑xs k\j->Q (upd H p (.lst (xs.set j v)))->Ni o i v H Q
def set_list:Rg X Ni:=by
 intro d s D H o i v J M u Q I A E B h;let⟨p,xs,k,j,rfl,rfl,y,F,q⟩:=h;ext A;let⟨t,rfl⟩:=E;let⟨c,n,r,g,C⟩:=I.lst y;let⟨e,G,z,w⟩:=xS F;let l:=⇑r;let L:=qX
 let x:Inv X d D (upd H p (.lst (xs.set j v))) { s with heap:=s.heap.update p (Obj.mapSeq (·.setIfInBounds j u)) }:=
  I.RJ y g (F9 c n j u) (r.set B j) ([aji]▸C) s.toks
 cases m:0<=k
 ·let f:k.toNat=j:=by
   rw[seqIndex_of m w]at e;rwa[Za0 e]
  rwa[PySem.W.ki_setAt g m ∅ (by rw[ai8,<-l];rwa[w]) ([f]▸⟨_,x,q⟩)]
 ·let f:(k+ (c.toArray.size:Int)).toNat=j:=by
   rw[seqIndex_neg ∅ z]at e;rw[ai8,<-l];rwa[Za0 e]
  rwa[PySem.W.ki_setBack g ∅ (by rw[ai8,<-l];rwa[z]) ∅ ([f]▸⟨_,x,q⟩)]
def AO (lo c:Zj)(n:Nat):(sliceBounds lo c none n).1=((HT.cj n 0 lo:Nat):Int)/\(sliceBounds lo c none n).2.1=((HT.cj n n c:Nat):Int)/\(sliceBounds lo c none n).2.2=1:=by
 rwa[⟨552⟩]
 ·cases lo with
  |none=>simp[sliceBounds,HT.cj]
  |some i=>
   simp only[sliceBounds,HT.cj,Option.getD_none,show (1:Int) > 0 by decide,amh];cases h:i<0
   ·simp only[h,amh] <;> ext
   ·simp only[h,amb] <;> ext
 ·cases c with
  |none=>simp[sliceBounds,HT.cj]
  |some i=>
   simp only[sliceBounds,HT.cj,Option.getD_none,show (1:Int) > 0 by decide,amh];cases h:i<0
   ·simp only[h,amh] <;> ext
   ·simp only[h,amb] <;> ext
def zN (c:Zk)(lo d:Zj):slicePick c.toArray lo d none=((c.drop (HT.cj ⇑c 0 lo)).take (HT.cj ⇑c ⇑c d - HT.cj ⇑c 0 lo)).toArray:=by
 let⟨f,e,g⟩:=AO lo d c.toArray.size;unfold slicePick;rw[f,e,g];simp only[sliceRange_one,pick_run,ai8] <;> rfl
inductive RK (K:Za1) (x:V) (lo:Zj) (hi:Zj) (H:Hp) (Q:VK):Prop
 |mk (a:Zs) (xs:Zb):x=↑a->aD K H a xs->(∀p,H p=none->Q ↑p (upd H p (.lst (hY xs lo hi))))->RK K x lo hi H Q
def EE:Ng X (RK X.K):=by
 intro e s w H x v u m lo c p Q I j k pl i h;let⟨a,xs,rfl,l,q⟩:=h;ext j;let⟨f,r,d,g⟩:=I.list l;let hlen:=⇑r;erw["list",_,slot_list_getitem.lookup,d.isList.typeIs];rwa[wpAny_getItem_list_slice d.isList k pl i .none (by simp) ?_ (by rw[ai8] <;> omega)];rw[zN,<-hlen];rwa[⟨↑↥s,_,I.laid (t':=s.toks) (o:=.lst (hY xs lo c)) (λb t q=>aiM _ q) (aiS _) ?_,2,q _ (I.aP.fresh (aiS _))⟩];rwa[ai0 (tT xs lo c) g,_,(0),(r.drop (HT.cj ⇑xs 0 lo)).take (HT.cj ⇑xs ⇑xs c - HT.cj ⇑xs 0 lo),ai2 _ rfl]
noncomputable def Nj:V->Bool
 |.non=>true
 |.bl _=>true
 |.int _=>true
 |.str _=>true
 |_=>false
noncomputable def eqV:V->V->Bool
 |.non,.non=>true
 |.bl a,.bl b=>a==b
 |.bl a,.int b=>(if a then 1 else 0)==b
 |.int a,.bl b=>a==(if b then 1 else 0)
 |.int a,.int b=>a==b
 |.str a,.str b=>a==b
 |_,_=>false
def XA (x:V)(xs:Zb):Bool:=xs.any λy=>eqV y x
inductive rIn (K:Za1) (neg:Bool) (x:V) (y:V) (H:Hp) (Q:VK):Prop
 |mk (p:Zs) (xs:Zb):y=↑p->(aD K H p xs\/bB K H p xs)->Nj x=true->xs.all Nj=true->Q (.bl (if neg then !XA x xs else XA x xs)) H->rIn K neg x y H Q
inductive Ga (K:Za1) (xs:Zb) (H:Hp) (Q:VK):Prop
 |mk (p:Zs) (ys:Zb):xs=[↑p]->(aD K H p ys\/bB K H p ys)->Q (.int ⇑ys) H->Ga K xs H Q
def bh:iM X (.builtin "len") (Ga X.K):=by
 intro f s k H j m Q I r h;let⟨p,ys,rfl,c,q⟩:=h;let⟨u,rfl,i⟩:=vals1 r;ext i;let l:=qX;rcases c with c|c
 ·let⟨e,d,pl,g⟩:=I.list c;let hlen:=⇑d;rwa[Calls.call_len_list pl.isList (by simp only[ai8] <;> omega) ⟨.int ⇑ys,H,I.tok _,⟨s.toks+ 1,by cbv⟩,q⟩]
 ·let⟨e,d,pl,g⟩:=I.tuple c;let hlen:=⇑d;rwa[len_tuple pl (by simp only[ai8] <;> omega) ⟨.int ⇑ys,H,I.tok _,⟨s.toks+ 1,by cbv⟩,q⟩]
def AQ:iM X (.type "list") (λw H Q=>∃p ys,w=[↑p]/\(aD X.K H p ys\/bB X.K H p ys)/\∀l,H l=none->Q ↑l (upd H l (.lst ys))):=by
 intro k s z H w B Q I r h;let⟨p,ys,rfl,i,q⟩:=h;let⟨u,rfl,y⟩:=vals1 r;ext y
 let fin:∀(c:Zk),Vals ys c->⇑ys<=sizeLine->∀(d:Heap) (g:Nat),(∀b x,s•b\x->d.get? b\x)->
  d.get? ↥s=some { cls:=.type "list",dict:=none,data:=.seq c.toArray g,slots:=#[] }->EP X k z Q ↑↥s (s<*d):=λc f j d g kp e=>
  ⟨↑↥s,_,I.laid (t':=s.toks) kp (aiS _) (show b9 X.prog X.w _ d _ (.lst ys) from ⟨j,c,g,f,e⟩),2,q _ (I.aP.fresh (aiS _))⟩
 rcases i with i|i
 ·let⟨c,f,pl,j⟩:=I.list i;let hlen:=⇑f;let⟨o,t,v,n,m⟩:=pl.isList;rwa[call_list_seq p (.inl rfl) t v m (λd g kp e=>fin c f j d g kp e) (by simp only[ai8] <;> omega)]
 ·let⟨c,f,pl,j⟩:=I.tuple i;let hlen:=⇑f;let⟨o,t,v,n,m⟩:=pl;rwa[call_list_seq p (.inr rfl) t v m (λd g kp e=>fin c f j d g kp e) (by simp only[ai8] <;> omega)]
def qx:iM X (.type "tuple") (λm H Q=>∃p ys,m=[↑p]/\((aD X.K H p ys/\∀l,H l=none->Q ↑l (upd H l (.tup ys)))\/(bB X.K H p ys/\Q ↑p H))):=by
 intro c s n H m x Q I r h;let⟨p,ys,rfl,h⟩:=h;let⟨u,rfl,w⟩:=vals1 r;ext w;rcases h with ⟨i,q⟩|⟨i,q⟩
 ·let⟨d,g,pl,k⟩:=I.list i;let hlen:=⇑g;rwa[call_tuple_list pl.isList (λf kp=>?_) (by simp only[ai8] <;> omega)];let j:Inv X c n H (s<*f):=I.kept (t':=s.toks) kp
  let v:Inv X c n (upd H f.objs.size (.tup ys)) { s with heap:=f.push ("tuple">>>.seq d.toArray) }:=
   j.laid (t':=s.toks) (λb o e=>aiM _ e) (aiS _) (show b9 X.prog X.w _ _ _ (.tup ys) from ⟨k,d,g,IsTup.new _ _⟩)
  rwa[↑f.objs.size,_,v,2,q _ (j.aP.fresh (aiS _))]
 ·let⟨d,g,pl,k⟩:=I.tuple i;rwa[call_tuple_same pl ⟨↑p,H,I,2,q⟩]
def Nk (K:Za1)(T:String)(x:V)(H:Hp):Prop:=match x with
 |.str _=>T="str"
 |.int _=>T="int"
 |.ref p=>(T="list"/\∃d,aD K H p d)\/(T="tuple"/\∃o,K.lookup p\o/\o.cls=.type "tuple"/\o.dict=none)\/
  (T="dict"/\((∃c,H p\.dK c)\/∃c,H p\.dT c))\/(T="set"/\∃S n,H p\.set S n)
 |_=>False
def HJ {T:String}{x:V}(I:Inv X o D H s)(r:RelV x v)(g:Nk X.K T x H):
 s.TypeIs v T/\∀a,v=↑a->∃l,s•a\l/\l.dict=none:=by
 cases x with
 |str z=>
  let⟨t,rfl⟩:=r;cases (show T="str" from g);rwa[typeIs_str s z t,λ_ e=>nomatch e]
 |int i=>
  let⟨t,rfl⟩:=r;cases (show T="int" from g);rwa[typeIs_int s i t,λ_ e=>nomatch e]
 |ref p=>
  ext r;rcases g with ⟨rfl,w,m⟩|⟨rfl,d,f,u,h⟩|⟨rfl,f⟩|⟨rfl,S,n,f⟩
  ·let⟨q,_,pl,_⟩:=I.list m;rwa[⟨pl.isList.typeIs,λa e=>?_⟩];ext e;let⟨d,n,e,c,h,_⟩:=pl;rwa[d,e,h]
  ·rwa[⟨⟨d,I.dA p d f,u⟩,λa e=>?_⟩];ext e;rwa[d,I.dA _ d f,h]
  ·let z:∃d,s•p\d/\d.ExactDict:=by
    rcases f with ⟨j,f⟩|⟨j,f⟩
    ·let⟨_,_,_,_,d,_,_,e,ex,_⟩:=I.aP p _ f;rwa[d,e,ex]
    ·let⟨_,_,_,_,d,_,_,e,ex,_⟩:=I.aP p _ f;rwa[d,e,ex]
   let⟨d,e,ex⟩:=z;rwa[⟨⟨d,e,ex.1⟩,λa k=>?_⟩];ext k;rwa[d,e,ex.2.1]
  ·let⟨d,_,_,_,e,ex,_⟩:=I.aP p _ f;rwa[⟨⟨d,e,ex.1⟩,λa k=>?_⟩];ext k;rwa[d,e,ex.2.1]
 |_=>exact False.elim g
def aa3 (K:Za1)(T:String)(r:V->Zb->Hp->VK->Prop)(to:TE):TE:=λ d H Q=>to d H λx c=>Nk K T x c/\r x [] c Q
def tBM (K:Za1)(T:String)(r:V->Zb->Hp->VK->Prop)(to:TE)(t:TA):TE:=λ d H Q=>to d H λx c=>Nk K T x c/\t d c λf e=>r x f e Q
variable {o e:Expr}{es:Zr}{to:TE}{t:TA}{name:Str}{apos cP:Pos}{T id:String}{r:V->Zb->Hp->VK->Prop}
def HK (y:PlainAttrs T)(slot:Slot T name id)(f:typeOf (.builtin id)=pure (.type "method_descriptor"))(w:RH X id r)(n:PE X o to)
 (d:attributeBase o name X.env (eval o X.env)=eval o X.env:=by rfl) (hline:(apos.endLine==cP.line)=true:=by rfl):PE X (.Call (.Attribute o name apos) [] [] cP) (aa3 X.K T r to):=by
 intro c s j H Q I h;rwa[wpAny_Call_method0_late d hline (bp (n c s j H _ I h) λv q ζ=>?_)];let⟨x,p,i,g,u,l⟩:=ζ;let⟨m,k⟩:=HJ i g u;rwa[T,id,y,slot,f,m,k,ajU rfl (PySem.evalArgs_none (w c q j p x [] v [] Q i g .nil l))]
def cG (M:PlainAttrs T)(slot:Slot T name id)(i:typeOf (.builtin id)=pure (.type "method_descriptor"))(F:RH X id r)(z:PE X o to)(L:PA X (e::es) t)
 (f:attributeBase o name X.env (eval o X.env)=eval o X.env:=by rfl)
 (g:((backTo cP (starEach (e::es) X.env)).all (λx=>!x.1) && (backToKw cP (keywordEach [] X.env)).all (λx=>x.1.isSome)
  && decide (⇑(e::es)+ ⇑([]:List Keyword)+ (if ([]:List Keyword).isEmpty then 0 else 1)<30))=true:=by rfl)
 (hline:(apos.endLine==cP.line)=true:=by rfl) (C:starEach (e::es) X.env=(false,eval e X.env)::starEach es X.env:=by rfl) (d:(backTo cP (starEach es X.env)).any (·.1)=false:=by rfl):
 PE X (.Call (.Attribute o name apos) (e::es) [] cP) (tBM X.K T r to t):=by
 intro c s j H Q I h;rwa[wpAny_Call_method_late f g hline rfl (bp (z c s j H _ I h) λv B ζ=>?_)];let⟨x,A,l,k,D,u⟩:=ζ;let⟨w,n⟩:=HJ l k D;erw[T,id,M,slot,i,w,n];let m:=L cP c B j A _ l u;rw[C]at m ⊢;rwa[ajU (by show (false || (backTo cP (starEach es X.env)).any (·.1))=false;rw[d] <;> rfl) (ako ?_)];rwa[bp m λJ q ζ=>?_];let⟨p,G,y,E,N⟩:=ζ;rwa[F c q j G x p v J Q y k E N]
/- xs.append(e),list.index on a module's tuple .. are RH facts of 06m -/
end
def EF (X:Cx)(id:String)(r:V->Zb->Hp->VK->Prop):Prop:=
 ∀(a:List (Zs×Obj)) (s:Zu) (d:St) (H:Hp) (x:V) (c:Zb) (v:Zt) (b:Zk) (Q:VK),Inv X a d H s->RelV x v->Vals c b->r x c H Q->
  X⁻¹ X.A (call (.builtin id) (v::b)) (EP X a d Q) X.xe s
theorem Vals.one:∀{x:V} {a:Zk},Vals [x] a->∃u,a=[u]/\RelV x u
 |_,_,.cons r .nil=>⟨12,r⟩
theorem Vals.zero:∀{a:Zk},Vals [] a->a=[]
 |_,.nil=>rfl
def Vals.dropLast {xs:Zb}{us:Zk}(h:Vals xs us):Vals xs.dropLast us.dropLast:=by
 induction h with
 |nil=>exact .nil
 |cons r t a=>
  cases t with
  |nil=>exact .nil
  |cons q b=>exact .cons r a
theorem Vals.eraseIdx:∀{xs:Zb} {us:Zk} (i:Nat),Vals xs us->Vals (xs.eraseIdx i) (us.eraseIdx i)
 |_,_,_,.nil=>.nil
 |_,_,0,.cons _ t=>t
 |_,_,i+ 1,.cons r t=>.cons r (Vals.eraseIdx i t)
theorem Vals.rep (h:Vals L N):∀k:Nat,Vals (List.replicate k L).flatten (List.replicate k N).flatten
 |0=>.nil
 |k+ 1=>by
  rwa[Vals.append h (Vals.rep h k)]
theorem yW {a:Type}:∀(l:List a) (i:Nat),⇑(l.eraseIdx i)<=⇑l
 |[],_=>aiS _
 |_::_,0=>al1 _
 |_::r,i+ 1=>Nat.succ_le_succ (yW r i)
theorem foldl_rep (a:Zk):∀(k:Nat) (acc:Zk),
 List.foldl (λc d=>c++d) acc.toArray (List.replicate k a.toArray)=(acc++(List.replicate k a).flatten).toArray
 |0,acc=>by simp
 |k+ 1,acc=>by
  let e:acc.toArray++a.toArray=(acc++a).toArray:=by simp
  let b:(acc++a)++(List.replicate k a).flatten=acc++(List.replicate (k+ 1) a).flatten:=by
   rw[akK,alp,ajy]
  rw[<-b,<-foldl_rep a k (acc++a),<-e,akK,List.foldl_cons]
section
variable {X:Cx}{pins:List (Zs×Obj)}{σ:St}{H:Hp}{s:Zu}{l:Zs}{xs ys:Zb}
def Inv.AU {K3:Zk}{f:Zm->Zm}{t':Nat}(I:Inv X pins σ H s)(d:H l\.lst xs)
 (e:s•l\("list">>>.seq N.toArray n)) (a:f N.toArray=K3.toArray) (c:Vals ys K3) (hz:⇑ys<=sizeLine):
 Inv X pins σ (upd H l (.lst ys)) { s with heap:=s.heap.update l (Obj.mapSeq f),toks:=t' }:=by
 let q:=PySem.IsL.update e f;rw[a]at q;rwa[I.write (x:=l) (e:=l) ([d]▸trivial) (.inl rfl) (λi u h g=>(ajC s.heap (Obj.mapSeq f) (ajR h)).trans g) ⟨_,q⟩ ?_];rwa[hz,K3,_,c,q]
def Inv.aa4 {t':Nat}(I:Inv X pins σ H s)(a:Vals ys N)(hz:⇑ys<=sizeLine):
 Inv X pins σ (upd H ↥s (.lst ys)) { s with heap:=s.heap.push ("list">>>.seq N.toArray),toks:=t' }:=
 I.laid (λ_ _ q=>aiM _ q) (aiS _) ⟨hz,N,(0),a,ai2 _ rfl⟩
def Inv.fresh (I:Inv X pins σ H s):H ↥s=none:=I.aP.fresh (aiS _)
def Inv.pW (I:Inv X pins σ H s)(c:H l\.lst xs):⇑xs<=sizeLine/\∃(a:Zk) (n:Nat),Vals xs a/\⇑xs=⇑a/\s•l\("list">>>.seq a.toArray n):=by
 let⟨z,a,n,r,e⟩:=I.aP l _ c;rwa[z,a,n,r,⇑r,e]
def K4 (h:n<=sizeLine):Builtin.List.listTooLong n=false:=by
 rwa[ajx ∅]
end
section
variable {X:Cx}
inductive EG (x:V) (vs:Zb) (H:Hp) (Q:VK):Prop
 |mk (l:Zs) (xs:Zb) (y:V):x=↑l->vs=[y]->H l\.lst xs->⇑xs<sizeLine->Q .non (upd H l (.lst (xs++[y])))->EG x vs H Q
theorem bM:EF X "list.append" EG:=by
 intro d s p H x j v t Q I g f h;let⟨l,o,y,rfl,rfl,c,k,q⟩:=h;ext g;let⟨u,rfl,i⟩:=f.one;let⟨z,a,n,r,m,e⟩:=I.pW c;rwa[alH F.slot_list_append ⟨_,e,2⟩ F.entry_list_append (F.args_list_append_2 _ _) (PySem.list_append l a.toArray n u (by rw[ai8];omega)) ⟨e,5⟩];rwa[⟨.non,_,I.AU (K3:=a++[u]) c e (by simp) (r.append (.cons i .nil)) ?_,2,q⟩];rw[aiP,ajY];ext
inductive xT (x:V) (vs:Zb) (H:Hp) (Q:VK):Prop
 |mk (l b:Zs) (xs zs:Zb):x=↑l->vs=[↑b]->H l\.lst xs->H b\.lst zs->⇑xs+ ⇑zs<=sizeLine->Q .non (upd H l (.lst (xs++zs)))->xT x vs H Q
theorem yX:EF X "list.extend" xT:=by
 intro j s J H x C v L Q I p m h;let⟨l,b,G,B,rfl,rfl,i,y,D,q⟩:=h;ext p;let⟨u,rfl,w⟩:=m.one;ext w;let⟨z,c,n,r,E,e⟩:=I.pW i;let⟨z2,a,A,t,k,o⟩:=I.pW y;let f:c.toArray.size+ a.toArray.size<=sizeLine:=by rw[ai8,ai8];ext
 let d:¬(!c.toArray.isEmpty && Builtin.List.listTooLong (c.toArray.size+ a.toArray.size))=true:=by
  rw[K4 f,Bool.and_false];rwa[ajD]
 refine alH F.slot_list_extend ⟨_,e,2⟩ F.entry_list_extend (F.args_list_extend_2 _ _)
  (AutoSeq1.list_extend_list_list_0 l c.toArray n b a.toArray A d ∅ ∅) ⟨e,o,5⟩
 rwa[⟨.non,_,I.AU (K3:=c++a) i e (by simp) (r.append t) ?_,2,q⟩];rw[aiP];ext
inductive RL (x:V) (vs:Zb) (H:Hp) (Q:VK):Prop
 |mk (l:Zs) (xs:Zb) (y:V):x=↑l->vs=[]->H l\.lst xs->xs[⇑xs - 1]?\y->Q y (upd H l (.lst xs.dropLast))->RL x vs H Q
theorem HL:EF X "list.pop" RL:=by
 intro g s A H x t v B Q I o i h;let⟨l,w,y,rfl,rfl,f,k,q⟩:=h;ext o;let b:=i.zero;subst b;let⟨z,a,n,r,j,e⟩:=I.pW f;let⟨u,m,p⟩:=r.get k
 let c:a.toArray[a.toArray.size - 1]?\u:=by
  show a.toArray[⇑a - 1]?\u
  rw[<-aki,<-j];rwa[m]
 rwa[alH F.slot_list_pop ⟨_,e,2⟩ F.entry_list_pop (F.args_list_pop_1 _) (MeetsSeq.list_pop_last l a.toArray n u c (by rw[ai8];omega)) ⟨e,5⟩];rwa[⟨y,_,I.AU (K3:=a.dropLast) f e ?_ r.dropLast ?_,p,q⟩]
 ·cbv
 ·rw[List.length_dropLast];ext
inductive HM (x:V) (vs:Zb) (H:Hp) (Q:VK):Prop
 |mk (l:Zs) (xs:Zb) (i:Int) (k:Nat) (y:V):x=↑l->vs=[.int i]->H l\.lst xs-> -(2 ^ 63)<=i->i<2 ^ 63->seqIndex? i ⇑xs\k->xs[k]?\y->Q y (upd H l (.lst (xs.eraseIdx k)))->HM x vs H Q
theorem K5:EF X "list.pop" HM:=by
 intro f s J H x D v L Q I A m h;let⟨l,p,i,k,y,rfl,rfl,d,j,g,C,o,q⟩:=h;ext A;let⟨u,rfl,B⟩:=m.one;let⟨t,rfl⟩:=B;let⟨z,a,n,r,G,e⟩:=I.pW d;let⟨w,E,b⟩:=r.get o
 refine alH F.slot_list_pop ⟨_,e,2⟩ F.entry_list_pop (F.args_list_pop_2 _ _)
  (MeetsSeq.list_pop_at l a.toArray n i t k w (fitsIndex_both j g) (by cbv) (by cbv) (by rw[ai8];omega)) ⟨e,5⟩
 rwa[⟨y,_,I.AU (K3:=a.eraseIdx k) d e ?_ (r.eraseIdx k) ?_,b,q⟩]
 ·cbv
 ·have:=yW p k;ext
inductive RM (x:V) (vs:Zb) (H:Hp) (Q:VK):Prop
 |mk (l:Zs) (xs:Zb):x=↑l->vs=[]->H l\.lst xs->Q .non (upd H l (.lst []))->RM x vs H Q
inductive RN (x:V) (y:V) (H:Hp) (Q:VK):Prop
 |mk (l b:Zs) (xs zs:Zb):x=↑l->y=↑b->H l\.lst xs->H b\.lst zs->⇑xs+ ⇑zs<=sizeLine->(∀p,H p=none->Q ↑p (upd H p (.lst (xs++zs))))->RN x y H Q
def oO:fB X (binaryOp .Add) RN:=by
 intro d s D H x y v u Q I j k h;let⟨l,b,C,w,rfl,rfl,i,p,A,q⟩:=h;ext j;ext k;let⟨z,c,n,r,B,e⟩:=I.pW i;let⟨z2,a,E,m,f,g⟩:=I.pW p;rwa[PySem.P.add_list e g ?_ (by rw[ai8,ai8];omega)];let o:c.toArray++a.toArray=(c++a).toArray:=by simp
 rw[o];rwa[↑_,_,I.aa4 (t':=s.toks) (r.append m) (by rw[aiP];omega),2,q _ I.fresh]
inductive aa5 (x:V) (y:V) (H:Hp) (Q:VK):Prop
 |mk (l:Zs) (k:Int) (xs:Zb):x=↑l->y=.int k->H l\.lst xs-> -(2 ^ 63)<=k->k<2 ^ 63->⇑xs* k.toNat<=sizeLine->(∀p,H p=none->Q ↑p (upd H p (.lst (List.replicate k.toNat xs).flatten)))->aa5 x y H Q
def len_rep {a:Type}(xs:List a)(k:Nat):(List.replicate k xs).flatten.length=k* ⇑xs:=by
 induction k with
 |zero=>simp
 |succ k b=>cbv
end
end L2
namespace Att
open PySem PySem.W PySem.Calls PyProof.Rows
def vG {P:Params}:∀(ns:Zg) (c:Zk),WellAll P h c (ns.map WData.int)->IntsAre c ns:=by
 intro ns
 induction ns with
 |nil=>
  intro c w;ext w;rwa[.nil]
 |cons n ns d=>
  intro c w
  cases w with
  |cons a b=>
   ext a;rwa[.cons _ _ (d _ b)]
def HN {l:OpenLaw}(v:l.most\n){P:Params}{h:Heap}{b:List WData}{c:Zk}
 (e:l.row.toRowW.claim.pre b=true) (i:WellAll P h c b):
 ∃a m ns,c=[Value.ref a]/\b=[WData.list (ns.map WData.int)]/\h.get? a\("list">>>.seq m.toArray)/\IntsAre m ns/\⇑ns<=n:=by
 let k:WShape.hasAll [] b [.list .int]=true:=(pre_splitW e).1;let x:l.pre.holds [] { args:=b }=true:=(pre_splitW e).2;let⟨d,r,rfl,s,p⟩:=hasAllW_cons k;obtain rfl:=hasAllW_nil p;let⟨y,rfl,u⟩:=hasW_list s;let⟨ns,rfl⟩:=items_int u
 let hlen:⇑ns<=n:=by
  let g:(WTm.not (.lt (.lit (.int (n:Int))) (.len (.arg 0)))).holds [] { args:=[.list (ns.map .int)] }=true:=by
   let g:=(holds_andW x).1;rw[v]at g;rwa[g]
  let j:=condW_of g (w_not (w_lt w_lit (w_len_list (w_arg rfl))));rwa[Nat.le_of_not_lt λq=>?_]
  first
   |(rw[aje z]at j;rwa[absurd j (by decide)])
   |(simp at j;omega)
 cases i with
 |cons o w=>
  ext w
  cases o with
  |list t f=>rwa[11,ns,22,t,vG ns _ f,hlen]
def HP (l:OpenLaw)(a:List WData):l.row.toRowW.claim.post a (.bool true) a=true:=
 postW_of (r:=l.row.toRowW) (X:=(true==true))
  (show WShape.has [] (.bool true) .bool=true by first|rfl|decide|simp[WShape.has,WShape.arms,WShape.armsAll])
  (show (WTm.eq .res (.lit (.bool true))).value [] { args:=a,res:=some (.bool true),after:=a }=some (.bool (true==true)) from w_eq_bool (w_res rfl) w_lit) rfl
def DH {l:OpenLaw}{loose:Zp}{XP:(Str->Zl)->Heap->Prop}{z:World->Heap->Prop}{d:DefRec}
 (I:l.most\n) (q:d.params.defaults=[])
 (call:∀(w:World) (c b:Zu) (m s:Str->Zl) (h:Zs) (o:Obj) (pm k doc:Zt) (a:Zs) (e:Zk) (ns:Zg),
  Ground P loose [] XP w c m s b.heap->z w b.heap->
  b•h=some o->o.data=.func (docDef d.name d.params d.body d.scope pm k doc)->b.heap.CodeRec k d.name->m d.name\↑h->
  b•a=some ("list">>>.seq e.toArray)->IntsAre e ns->⇑ns<=n->b.gens=#[]->
  codeAny (model l.prog w) callerA (.call ↑h ⟨[↑a],[]⟩) (λr j=>r=.ok (.ret (.bool true))/\OldK b.heap j.heap/\j.os=b.os/\AllBare j.gens) b):
 WalkO P loose XP z l.row.toRowW d [] (λf e=>PySem.call f e):=by
 intro w c b m s G Y h o pm k doc dV kV F A u y t C v x as i hlay M p L;obtain rfl:dV=.none:=Dflts.none y q;obtain rfl:kV=.none:=Dflts.noKw y;let⟨a,e,ns,rfl,rfl,g,hints,hlen⟩:=HN I i p;rwa[enter_call (ak7 (call w c b m s h o pm k doc a e ns G Y F (fd_plain A) u t g hints hlen C) λr j D=>?_)];let⟨rfl,B,H,E⟩:=D;rwa[.inl ⟨.bool true,.bool true,[],2,λ_=>rfl,.bool true,HP l _,λ_=>⟨List.Pairwise.nil,λ_ J=>(nomatch J)⟩⟩,B,H,E]
end Att
namespace L2
open PySem PySem.Spec PyProof.Rows
theorem yZ:∀{a:Zk} {ns:Zg},IntsAre a ns->Vals (ns.map V.int) a
 |_,_,.nil=>.nil
 |_,_,.cons n t h=>.cons ⟨t,2⟩ (yZ h)
noncomputable def inClass (s:Stmt)(j:Nat):Stmt:=match s with
 |.ClassDef _ _ _ body _ _ _ _ _ _ _=>body.getD j (.Pass ⟨(0),(0),(0),(0)⟩)
 |_=>.Pass ⟨(0),(0),(0),(0)⟩
noncomputable def dN (s:Stmt):Arguments:=match s with
 |.FunctionDef _ a _ _ _ _ _ _ _ _=>a
 |_=>{ posonlyargs:=[],args:=[],vararg:=none,kwonlyargs:=[],kw_defaults:=[],kwarg:=none,defaults:=[] }
noncomputable def cQ (s:Stmt):List Stmt:=match s with
 |.FunctionDef _ _ b _ _ _ _ _ _ _=>b
 |_=>[]
noncomputable def az (s:Stmt):Scope:=match s with
 |.FunctionDef _ _ _ _ _ _ a _ _ _=>a
 |_=>{ kind:=.function,names:=[],isGenerator:=false,isCoroutine:=false }
abbrev XB:lQ:=λ_ _ _ _ _ _=>False
abbrev E0:XK:=λ_ _ _=>False
structure qY (K:Za1) (x qual:Str) (st:Stmt) (f:Zs) (fd:FuncData):Prop where
 ex:∃(oc:Zt) (od:Zo) (kV doc pm:Zt) (an:Zo) (cC ct:Zt) (AV:Array Zl),
  fd=PySem.W.fnOf x qual (dN st) (cQ st) (az st) .none kV doc pm an cC ct/\K.lookup f\⟨oc,od,.func fd,AV⟩/\PySem.W.codeIn K cC qual=true
 kp:PySem.W.keepIn K ↑f=true
section
variable {K:Za1}
theorem qY.binds {qual:Str}{st:Stmt}{fd:FuncData}{ps:Zp}(F:qY K x qual st a fd)
 (h:∀(kV doc pm:Zt) (c:Zo) (b ct:Zt) (us:Zk),⇑us=⇑ps->bindArgs (PySem.W.fnOf x qual (dN st) (cQ st) (az st) .none kV doc pm c b ct) ⟨us,[]⟩=pure (ps.zip us)):Binds K fd ps []:=by
 let⟨g,f,kV,doc,pm,c,b,ct,e,rfl,lk,d⟩:=F.ex;rwa[.all (h kV doc pm c b ct)]
def HQ {qual:Str}{st:Stmt}{f d:Zo}{b:Array Zl}{kV doc pm e:Zt}(l:K.lookup a\⟨v,f,.func (PySem.W.fnOf x qual (dN st) (cQ st) (az st) .none kV doc pm d u e),b⟩)
 (c:PySem.W.codeIn K u qual=true) (k:PySem.W.keepIn K ↑a=true):qY K x qual st a (PySem.W.fnOf x qual (dN st) (cQ st) (az st) .none kV doc pm d u e):=⟨⟨v,f,kV,doc,pm,d,u,e,b,2,l,c⟩,k⟩
end
def eV {k:Nat}(a:cL k A):A.units+ 1<cLine:=aiW (Nat.add_le_add_left (by decide:1<=64) _) a.units
section
variable {X:Cx}
def pv (i:Nat){x:Str}{a:Pos}(e:X.N[i]?\x:=by rfl)(d:Q8 X.env.scope x:=by trivial)(c:(x==("__debug__":Str))=false:=by decide)
 (b:(x==("__classdict__":Str))=false:=by decide):PE X (.Name x a) (jo i):=Q9 e d c b
end
def cU {A B:Prop}(h:B):if false=true then A else B:=by
 cbv
def eX {A B:Prop}(h:A):if true=true then A else B:=by
 cbv
def bK {c A B:Prop} [Decidable c](b:c->A)(a:¬c->B):if c then A else B:=by
 cbv
def ic {c A B:Prop} [Decidable c](a:c)(h:B):if (!decide c)=true then A else B:=by
 cbv
def av (H a:Hp):Prop:=∀b o,H b\o->a b\o
def av.refl (H:Hp):av H H:=λ_ _ h=>h
def av.trans (a:av H I)(b:av I J):av H J:=λc o h=>b c o (a c o h)
def av.free (e:av H I){l:Zs}(h:I l=Option.none):H l=Option.none:=by
 cases q:H l with
 |none=>rfl
 |some o=>
  rw[e l o q]at h;ext h
def av.seq (e:av H I)(h:aD K H a L):aD K I a L:=by
 rcases h with (h|⟨o,h⟩)|h
 ·rwa[.inl (.inl (e^h))]
 ·rwa[.inl (.inr ⟨o,e^h⟩)]
 ·rwa[.inr h]
end L2
namespace L2
open PySem PySem.Spec PyProof.Rows
noncomputable def dE (X:Cx)(a:Zp)(scope:Scope)(cl:List (Str×Zs))(C:Zs)(s:Zu)(H:Hp)(ex:Zn):Cx where
 prog:=X.prog
 w:=X.w
 K:=X.K
 mg:=X.mg
 base:=X.base
 A:=X.A
 N:=a
 eK:=s
 uw:=H
 env:=compEnvC scope cl C X.env
 outer:=X.stack
 stack:=X.stack
 ex:=ex
 fn:=λ_=>false
 calm:=X.calm
 pn:=[]
 xe:=λ_ _=>False
def qZ (d:TE)(g:St)(Q:VK)(J:It)(f:Hp):Prop:=∃W:Nat->Nat->Zb->Hp->Prop,(∃m,W 0 m [] f)/\∀i m ys a,W i m ys a->
 (J.stop i a/\⇑ys<=sizeLine/\∀D,a D=none->Q ↑D (upd a D (.lst ys)))\/
 (J.go i a/\⇑ys<sizeLine/\∀x c,J.tR i a x c->d (some x::g) c λy e=>∃b,b<m/\W (i+ 1) b (ys++[y]) e)
def Nm (b:TI)(d:St->St)(c:TE):TE:=λ a H Q=>b a H (qZ c (d a) Q)
structure gN (X:Cx) (x:Str) (fns:Zp) (ixs:Zh) (scope:Scope) (cl:List (Str×Zs)):Prop where
 aa6:closureFor scope X.env=pure cl
 sub:∀y c,cl.lookup y\c->X.env.cells.lookup y\c
 cell:∀y∈scope.names,y.2≠.cell
 kind:scope.kind=.function
 names:∀y∈scope.names,y.2=.local->scope.names.lookup y.1=some .local
 own:scope.names.lookup x=some .local
 has:∀y,((relabel scope X.env).names.lookup y=some .cell\/(relabel scope X.env).names.lookup y=some .free)->∃c,cl.lookup y\c
 nd:(x::fns).Nodup
 len:⇑ixs=⇑fns
 at_:∀(j:Nat) (y:Str),fns[j]?\y->∃i:Nat,ixs[j]?\i/\X.N[i]?\y/\(X.env.kindOf y=some .cell\/X.env.kindOf y=some .free)/\∃c,cl.lookup y\c/\((relabel scope X.env).names.lookup y=some .cell\/(relabel scope X.env).names.lookup y=some .free)
noncomputable def i7 (ixs:Zh):St->St:=λ a=>ixs.map λi=>(a[i]?).join
section
variable {X:Cx}{x:Str}{scope:Scope}
def tV (a:scope.names.lookup x=some .local):(relabel scope X.env).names.lookup x=some .local:=lookup_relabel_local a
end
def jB {J:It}{Q:VK}(xs:Zb)(g:V->V)(h:∀i:Nat,i<⇑xs->J.go i H)(p:∀(i:Nat) (x:V) (c:Hp),i<⇑xs->J.tR i H x c->c=H/\xs[i]?\x)
 (d:J.stop ⇑xs H) (j:⇑xs<=sizeLine) (s:∀(i:Nat) (x:V),xs[i]?\x->∀R:VK,R (g x) H->r (some x::D) H R) (n:∀a,H a=none->Q ↑a (upd H a (.lst (xs.map g)))):
 qZ r D Q J H:=by
 erw[λi m ys l=>m=⇑xs - i/\i<=⇑xs/\ys=(xs.take i).map g/\l=H,⟨⇑xs,by simp,ajj _,by simp,2⟩];rintro i m ys l ⟨rfl,t,rfl,rfl⟩;cases b:i<⇑xs
 ·rwa[.inr ⟨h i b,by rw[aiQ,ajs];ext,λx c f=>?_⟩];let⟨q,k⟩:=p i x c b f;subst q;rwa[s i x k _ ⟨⇑xs - (i+ 1),32,b,52⟩];rw[akG,k];simp
 ·let e:i=⇑xs:=∅
  subst e;rwa[.inl ⟨d,by rw[aiQ,ajs];ext,λa o=>?_⟩];rw[akq];rwa[n a o]
def RP {xs:Zb}(h:bB K H a xs):∀i,i<⇑xs->(Ht K a).go i H:=λi b=>⟨xs,xs[i],h,aiL b⟩
def Pu {xs:Zb}(h:bB K H a xs):∀i x b,i<⇑xs->(Ht K a).tR i H x b->b=H/\xs[i]?\x:=λi x b _ y=>⟨y.1,y.2 xs h⟩
def K6 {xs:Zb}(h:bB K H a xs):(Ht K a).stop ⇑xs H:=⟨xs,h,2⟩
def jX {xs:Zb}(h:aD K H a xs):∀i,i<⇑xs->(Hs K a).go i H:=λi b=>⟨xs,xs[i],h,aiL b⟩
def iN {xs:Zb}(h:aD K H a xs):∀i x b,i<⇑xs->(Hs K a).tR i H x b->b=H/\xs[i]?\x:=λi x b _ y=>⟨y.1,y.2 xs h⟩
def gS {xs:Zb}(h:aD K H a xs):(Hs K a).stop ⇑xs H:=⟨xs,h,2⟩
inductive RT (t:TS) (D:Ends) (σ:St) (H:Hp):Prop
 |mk (G:St->Hp->Prop):t { D with nx:=G } σ H->(∀ e8 H',G e8 H'->D.nx e8 H')->RT t D σ H
def bG {st:Stmt}{t:TS}(h:PS X st t):PS X st (RT t):=by
 intro a s j H D I ⟨G,e,d⟩;rwa[bp (h a s j H { D with nx:=G } I e) λf k q=>?_]
 cases f with
 |next=>let⟨b,c,i,g⟩:=q;rwa[b,c,i,d b c g]
 |_=>exact q
def tW {scope:Scope}{env:Env}{k:NameKind}(h:(relabel scope env).names.lookup x\k)(g:k=.cell\/k=.free)(i:∀z∈scope.names,z.2≠.cell):(x,NameKind.free)∈scope.names:=by
 let f:=akJ h;unfold relabel at f;let⟨⟨n,c⟩,d,e⟩:=ajz.mp f;dsimp only at e;cases hf:(c==NameKind.free && env.scope.kind==.function && env.kindOf n==some .cell)=true
 ·rw[ajg hf]at e;let a:n=x:=ajT Prod.fst e;rw[akC,akC]at hf;let b:c=.free:=eq_of_beq hf.1.1;rw[<-a,<-b];rwa[d]
 ·rw[ajb hf]at e;let a:n=x:=ajT Prod.fst e;let b:c=k:=ajT Prod.snd e;subst a b;rcases g with rfl|rfl
  ·rwa[absurd rfl (i _ d)]
  ·rwa[d]
theorem kg {env:Env}(a:env.scope.kind=.function){y:Str}(b:env.kindOf y=some .cell):∀{names:List (Str×NameKind)},names.lookup y=some .free->
 (names.map λ(n,k)=>if (k==NameKind.free && env.scope.kind==.function && env.kindOf n==some .cell) then (n,NameKind.cell) else (n,k)).lookup y=some .cell
 |[],h=>by simp at h
 |(n,k)::r,h=>by
  let c:=@kg env a y b r
  cbv
def Gb (X:Cx)(scope:Scope):Zp->Zh->List (Str×Zs)->Prop
 |y::fs,i::is,p::a=>p.1=y/\X.env.cells.lookup y\p.2/\X.N[i]?\y/\X.env.kindOf y=some .cell/\scope.names.lookup y=some .free/\Gb X scope fs is a
 |[],[],[]=>True
 |_,_,_=>False
def Gb.get {scope:Scope}{fns:Zp}{ixs:Zh}{cl:List (Str×Zs)}(h:Gb X scope fns ixs cl):⇑fns=⇑ixs/\(∀y c,cl.lookup y\c->X.env.cells.lookup y\c)/\∀(k:Nat) (y:Str),fns[k]?\y->∃i c,ixs[k]?\i/\X.N[i]?\y/\X.env.kindOf y=some .cell/\cl.lookup y\c/\scope.names.lookup y=some .free:=by
 induction fns generalizing ixs cl with
 |nil=>
  cases ixs with
  |nil=>
   cases cl with
   |nil=>simp
   |cons=>exact h.elim
  |cons=>exact h.elim
 |cons y fs t=>
  cases ixs with
  |nil=>exact h.elim
  |cons i is=>
   cases cl with
   |nil=>exact h.elim
   |cons p cl=>
    let⟨j,m,s,o,r,h⟩:=h;let⟨a,b,g⟩:=t h;rwa[⟨ajT _ a,λw d e=>?_,λk w e=>?_⟩]
    ·rw[amd]at e
     cases q:w==p.1 with
     |true=>
      rw[q]at e;rw[eq_of_beq q,j,m];rwa[e]
     |false=>
      rw[q]at e;rwa[b w d e]
    ·cases k with
     |zero=>
      obtain rfl:y=w:=Za0 e;rwa[i,p.2,2,s,o,by rw[amd,j,beq_self_eq_true],r]
     |succ k=>
      let⟨i,c,r1,r2,f,n,l⟩:=g k w e
      cases q:w==p.1 with
      |true=>rwa[i,p.2,r1,r2,f,by rw[amd,q],l]
      |false=>rwa[i,c,r1,r2,f,[amd,q]▸n,l]
def cR {fns:Zp}{ixs:Zh}{scope:Scope}(cl:List (Str×Zs))(d:closureFor scope X.env=pure cl)(y:Gb X scope fns ixs cl)(j:X.env.scope.kind=.function)(f:(∀z∈scope.names,z.2≠.cell)/\(∀z∈scope.names,z.2=.local->scope.names.lookup z.1=some .local)/\(∀z∈scope.names,z.2=.free->z.1∈fns)/\(x::fns).Nodup/\scope.names.lookup x=some .local/\scope.kind=.function:=by decide):gN X x fns ixs scope cl:=by
 let⟨a,b,g⟩:=y.get;let⟨f,w,u,m,v,p⟩:=f
 exact{ aa6:=d,sub:=b,cell:=f,kind:=p,names:=w,own:=v,nd:=m,len:=a.symm
        has:=λz h=>by
         have:=u (z,.free) (h.elim (λh=>tW h (.inl rfl) f) λh=>tW h (.inr rfl) f) rfl;let⟨k,e⟩:=List.mem_iff_getElem?.mp this;let⟨_,c,_,_,_,r,_⟩:=g k z e;rwa[c,r]
        at_:=λk z h=>by
         let⟨i,c,s,o,n,q,t⟩:=g k z h;rwa[⟨i,s,o,.inl n,c,q,.inl (kg j n t)⟩ ]}
namespace Rv
def HR:Slot "reversed" "__init__" "object.__init__":=
 .of (owner:="object") (n:="__init__") (by rw[typeLookup_type,builtinLookup_eq_fast];kernel_rfl) ⋯ ⋯ ⋯
  (by first|rwa[.inl (by decide)]|rwa[.inr (by decide)]) (by rw[isSubtype_type];kernel_rfl)
def called:TypeCalled "reversed" "reversed.__new__" "object.__init__":=
 ⟨44,⟨11,PySem.F.mro_reversed⟩,PySem.F.made_reversed,4,by rw[isSubtype_type];kernel_rfl,HR⟩
def ahw (h:Heap)(it t:Zs)(i:Int):Prop:=∃o,h.get? it\o/\o.cls=.type "reversed"/\o.data=.fields #[↑t,rawInt i]
end Rv
def aq (ns:Zg):Zb:=ns.map V.int
def bU (h:l[i]?\z):(aq l)[i]?\(V.int z):=by
 unfold aq;rw[ai6,h];rfl
def aI (ns:Zg):⇑(aq ns)=⇑ns:=aiQ ..
def cH (h:(aq l)[i]?\q):∃z,q=V.int z/\l[i]?\z:=by
 unfold aq at h;rw[ai6]at h
 cases e:l[i]? with
 |none=>rw[e]at h;ext h
 |some z=>rw[e]at h;rwa[z,(Za0 h).symm,2]
def ints_app (a b:Zg):aq (a++b)=aq a++aq b:=ajn ..
def all_eq (ns ms:Zg):((~~~(min ⇑ns ⇑ms)).all (λj=>decide (ns[j]?=ms[j]?)) && ⇑ns==⇑ms)=decide (ns=ms):=by
 rw[ajQ,akC,List.all_eq_true,ajt,alE];constructor
 ·rintro ⟨b,a⟩;rwa[aku λi=>?_]
  cbv
 cbv
section
variable {X:Cx}
inductive Wm (K:Za1) (x:V) (y:V) (H:Hp) (Q:VK):Prop
 |mk (a b:Zs) (ns ms:Zg):x=↑a->y=↑b->bB K H a (aq ns)->bB K H b (aq ms)->Q (.bl (decide (ns=ms))) H->Wm K x y H Q
inductive Nn (K:Za1) (x:V) (y:V) (H:Hp) (Q:VK):Prop
 |mk (a b:Zs) (ns ms:Zg):x=↑a->y=↑b->bB K H a (aq ns)->bB K H b (aq ms)->Q (.bl (!decide (ns=ms))) H->Nn K x y H Q
def sS {b:Zg}{a:Zk}(c:Vals (aq l) N)(g:Vals (aq b) a)(j:Nat)(n:j<N.toArray.size)(i:j<a.toArray.size):
 SeqAt.EqAt A s N.toArray[j] a.toArray[j] (decide (l[j]?=b[j]?)):=by
 let w:=⇑c;let x:=⇑g;rw[aI]at w x;let o:j<⇑N:=by simpa using n
 let k:j<⇑a:=by simpa using i
 let h:l[j]?=some l[j]:=aiL ∅
 let f:b[j]?=some b[j]:=aiL ∅
 let⟨u,p,t,rfl⟩:=c.get (bU h);let⟨v,r,d,rfl⟩:=g.get (bU f)
 let m:N.toArray[j]=Value.int l[j] t:=by
  rw[List.getElem_toArray];rwa[Za0 ((aiL o).symm.trans p)]
 let q:a.toArray[j]=Value.int b[j] d:=by
  rw[List.getElem_toArray];rwa[Za0 ((aiL k).symm.trans r)]
 rw[m,q,h,f];have:=SeqAt.EqAt.int_int (A:=A) (s:=s) l[j] t b[j] d
 let e:decide (some l[j]=some b[j])=(l[j]==b[j]):=by
  rw[ajQ,ajt,alE];rwa[Za0,ajT some]
 rw[e];rwa[this]
def Pw (z:X.A.units<cLine):fB X (compareOp .NotEq) (Nn X.K):=by
 intro k s D H x y v u Q I A B h;let⟨a,b,f,d,rfl,rfl,C,r,q⟩:=h;ext A;ext B;let⟨g,i,w,_⟩:=I.tuple C;let⟨c,l,p,_⟩:=I.tuple r;rwa[SeqAt.RcNeAt.tuples (e:=λj=>decide (f[j]?=d[j]?)) (show s.heap.IsTuple a g.toArray from w) (show s.heap.IsTuple b c.toArray from p) z (λj t o=>sS i l j t o) X.prog X.w X.xe _ ⟨.bl (!decide (f=d)),H,I,5,q⟩];let m:=⇑i;let n:=⇑l;rw[aI]at m n;show _=Value.bool (!decide (f=d));rw[<-all_eq,ai8,ai8,<-m,<-n]
inductive RV (K:Za1) (xs:Zb) (H:Hp) (Q:VK):Prop
 |mk (x:V) (T:String) (t:Zt) (b:Bool):xs=[x,.ty T]->jV K H x t->PySem.W.kitOne K t (.type T)\b->Q (.bl b) H->RV K xs H Q
def gT:iM X (.builtin "isinstance") (RV X.K):=by
 intro a s k H j l Q I r h;let⟨x,T,t,b,rfl,f,e,q⟩:=h;let⟨u,i,rfl,d,g⟩:=vals2 r;ext g;rwa[HD I d f e λc=>⟨.bl b,H,I.tok c,2,q⟩]
def iA (K:Za1)(T:String):PySem.W.kitOne K (.type T) (.type T)\true:=by
 unfold PySem.W.kitOne;rw[ajg (beq_self_eq_true _)]
def AW (K:Za1):PySem.W.kitOne K (.type "int") (.type "bool")\false:=by
 first|rfl|kernel_rfl|decide
end
def av.upd {o:HO}(h:H a=Option.none):av H (upd H a o):=λb u e=>by
 rw[ak (aw e h)];rwa[e]
section
variable {X:Cx}
inductive HS (x:V) (y:V) (H:Hp) (Q:VK):Prop
 |mk (a b:Zs) (xs ys:Zb):x=↑a->y=↑b->H a\.tup xs->H b\.tup ys->⇑xs+ ⇑ys<=sizeLine->(∀p H',av H H'->H' p\.tup (xs++ys)->Q ↑p H')->HS x y H Q
def K7 {t:Zs}{ws:Zk}(l:IsTup s.heap t ([]:Zk).toArray)(m:IsTup s.heap b ws.toArray)
 (h:Q ↑b s):(P<|>w) A (binaryOp .Add ↑t ↑b) Q E s:=by
 let⟨⟨cls,p,data,o⟩,j,k,n,g⟩:=id l;let⟨⟨i,e,data2,f⟩,d,c,q,a⟩:=id m;simp only at k g c a;subst k g c a
 exact concat_meets ⟨_,j,2⟩ ⟨_,d,2⟩ noFill_tuple_add seq_tuple_add alW alO (alG _ _)
  (tuple_addW0 t b ([]:Zk).toArray ws.toArray n q p e o f rfl) ⟨j,d,h⟩
def AX:fB X (binaryOp .Add) HS:=by
 intro c s z H x y v u Q I j k h;let⟨a,b,i,ys,rfl,rfl,g,d,r,q⟩:=h;cases l:i=[]
 ·subst l;ext j;ext k;let⟨f,o,w,_⟩:=I.tuple (bB.of g);let⟨m,A,n,_⟩:=I.tuple (bB.of d);let e:f=[]:=o.sR.mpr rfl;subst e;rwa[K7 w n ⟨↑b,H,I,2,q b H (av.refl H) d⟩]
 ·rwa[Pp c s z H ↑a ↑b v u Q I j k ⟨a,b,i,ys,22,bB.of g,bB.of d,l,r,λe=>?_,λ_ p t=>q p _ (av.upd t) aj⟩];subst e;rwa[q a H (av.refl H) ([ajp]▸g)]
inductive Np (x:V) (lo:Zj) (hi:Zj) (H:Hp) (Q:VK):Prop
 |mk (a:Zs) (xs:Zb):x=↑a->H a\.tup xs->(∀p H',av H H'->H' p\.tup (hY xs lo hi)->Q ↑p H')->Np x lo hi H Q
end
end L2
namespace HT
open PySem PyProof.Rows
section
variable {prog:Program}{w:World}{A:Around}{E:Zt->Zu->Prop}{s:Zu}
def qQ {t:Zs}{items:Zm}{lo i:Zj}(b:IsTup s.heap t items)(g:s.heap.IsSliceOf a v u .none)(pl:IsPart v lo)(l:IsPart u i)
 (hw:cj items.size 0 lo=0/\cj items.size items.size i=items.size) (h:Q ↑t s):(prog<|>w) A (getItem ↑t ↑a) Q E s:=by
 let⟨os,d,f,n⟩:=id g;let e:s.TypeIs ↑a "slice":=⟨os,d,f⟩;unfold getItem
 try with_reducible rwa[ajP ?_]
 first|rwa[aiK (aiU ?_)]|skip
 rwa[aiK (wpAny_sequenceKey b.typeIs (by decide) ?_)]
 refine aiK (aj3 (name:=Str.ofString "__getitem__") b.typeIs ajW
  (akb ajW b.typeIs entry_tuple_getitem ?_ (args_tuple_getitem _ _)))
 show wpAny _ _ (Builtin.Tuple.tupleItemsOf ↑t >>=_) _ _ s;rwa[aiK (tupleItemsOf_ b ?_)];rwa[aiK (ak8 e ?_)];rw[ajg ⋯];rwa[aiK (mC g pl l ?_)];rw[hw.1,hw.2];let c:((((0:Nat):Int)==0 && (1:Int)==1 && (items.size - 0)==items.size)=true):=by simp
 show wpAny _ _ (if (((0:Nat):Int)==0 && (1:Int)==1 && (items.size - 0)==items.size)=true then _ else _) _ _ s;rw[ajg c];let⟨o,j,k,_⟩:=id b;rwa[aiK (m:=Builtin.Tuple.tupleIsExact _) ?_];unfold Builtin.Tuple.tupleIsExact;rwa[aiK (ak8 b.typeIs (aiU ?_))];show wpAny _ _ (if (Value.type "tuple"==Value.type "tuple")=true then _ else _) _ _ s;rw[ajg ⋯];rwa[aiK (al0 (aiU ⟨12,aiU h⟩))]
end
def uD:fillsNumberSlot (.type "tuple") "mul"=pure false:=
 PySem.fillsNumberSlot_seq (id:="tuple.__mul__") (r:=some (.builtin "tuple.__rmul__")) PySem.F.slot_tuple_mul.lookup ⋯ PySem.F.slot_tuple_rmul.lookup ⋯
def AY:seqRepeat? (.type "tuple")=pure (some (.builtin "tuple.__mul__")):=by
 unfold seqRepeat?;rw[PySem.seqSlot_of (T:="tuple") (name:="__mul__") (id:="tuple.__mul__") PySem.F.slot_tuple_mul.lookup ⋯,PySem.seqSlot_of (T:="tuple") (name:="__rmul__") (id:="tuple.__rmul__") PySem.F.slot_tuple_rmul.lookup ⋯];rfl
def xU (a:Int)(t:Tok)(l:Zs)(items:Zm)(n:Nat)(e:Zo)(c:Array Zl):
 Meets (Builtin.«int.__rmul__» ⟨[.int a t,↑l],[]⟩) (λ_ R s=>s•l\{ cls:=.type "tuple",dict:=e,data:=.seq items n,slots:=c }/\R (.ok (.ret Value.notImplemented)) s):=
 .of_wp λb w A R s h=>by let⟨f,g,d,i,os⟩:=s;let⟨j,h⟩:=h;wp_walk;rwa[12,h]
def xV (l:Zs)(items:Zm)(n:Nat)(j:Zo)(c:Array Zl)(x:Int)(u:Tok)(b:¬(decide (x < -(2 ^ 63)) || decide (x>=2 ^ 63))=true)(m:(items.isEmpty || x==1)=true):
 Meets (Builtin.«tuple.__mul__» ⟨[↑l,.int x u],[]⟩) (λ_ R s=>s•l\{ cls:=.type "tuple",dict:=j,data:=.seq items n,slots:=c }/\R (.ok (.ret ↑l)) s):=
 .of_wp λa w A R s h=>by
  let⟨f,g,d,e,os⟩:=s;let⟨i,h⟩:=h;let k:(⟨f,g,d,e,os⟩:Zu).TypeIs ↑l "tuple":=⟨_,i,2⟩
  wp_walk
  rwa[wpAny_ite_false (ajx b) ?_]
  wp_walk
  rwa[12,h]
def xW (l:Zs)(items:Zm)(n:Nat)(j:Zo)(c:Array Zl)(x:Int)(u:Tok)(b:¬(decide (x < -(2 ^ 63)) || decide (x>=2 ^ 63))=true)(o:¬(items.isEmpty || x==1)=true)(m:(decide (x<=0) || items.isEmpty)=true):
 Meets (Builtin.«tuple.__mul__» ⟨[↑l,.int x u],[]⟩) (λ_ R s=>s•l\{ cls:=.type "tuple",dict:=j,data:=.seq items n,slots:=c }/\R (.ok (.ret ↑↥s)) { s with heap:=s.heap.push ("tuple">>>.seq #[]) }):=
 .of_wp λa w A R s h=>by
  let⟨f,g,d,e,os⟩:=s;let⟨i,h⟩:=h;let k:(⟨f,g,d,e,os⟩:Zu).TypeIs ↑l "tuple":=⟨_,i,2⟩
  wp_walk
  rwa[wpAny_ite_false (ajx b) ?_]
  wp_walk
  rwa[12,h]
def xX (l:Zs)(items:Zm)(n:Nat)(o:Zo)(f:Array Zl)(x:Int)(u:Tok)(e:¬(decide (x < -(2 ^ 63)) || decide (x>=2 ^ 63))=true)(v:¬(items.isEmpty || x==1)=true)(t:¬(decide (x<=0) || items.isEmpty)=true)
 (j:¬((items.size:Int)* x > (2 ^ 63 - 1) / 8)) (p:¬(Builtin.Tuple.tupleTooMany ((items.size:Int)* x))=true) (r:(List.foldl (λb a=>b++a) #[] (List.replicate x.toNat items)).size<=sizeLine):
 Meets (Builtin.«tuple.__mul__» ⟨[↑l,.int x u],[]⟩) (λ_ R s=>s•l\{ cls:=.type "tuple",dict:=o,data:=.seq items n,slots:=f }/\R (.ok (.ret ↑↥s)) { s with heap:=s.heap.push ("tuple">>>.seq (List.foldl (λb a=>b++a) #[] (List.replicate x.toNat items))) }):=
 .of_wp λc w A R s h=>by
  let⟨k,g,d,i,os⟩:=s;let⟨m,h⟩:=h;let q:(⟨k,g,d,i,os⟩:Zu).TypeIs ↑l "tuple":=⟨_,m,2⟩
  wp_walk
  rwa[wpAny_ite_false (ajx e) ?_]
  wp_walk
  rwa[wpAny_ite_false (ajx j) ?_]
  wp_walk
  rwa[12,h]
end HT
namespace L2
open PySem PySem.Spec PyProof.Rows
section
variable {X:Cx}{e:Expr}{lo hi:Option Expr}
def AZ:Ng X Np:=by
 intro b s o H x v n k lo hi l Q I i j pl g h;let⟨a,xs,rfl,d,q⟩:=h;cases hw:HT.cj ⇑xs 0 lo=0/\HT.cj ⇑xs ⇑xs hi=⇑xs
 ·ext i;let⟨c,r,f,t⟩:=I.tuple (bB.of d);let hlen:c.toArray.size=⇑xs:=by rw[ai8];rwa[r.length.symm]
  erw["tuple",_,ajW.lookup,f.typeIs];rwa[HT.qQ f j pl g ([hlen]▸hw) ⟨↑a,H,I,2,q a H (av.refl H) ?_⟩];unfold hY;rw[hw.1,hw.2,List.drop_zero,Nat.sub_zero,akq];rwa[d]
 ·rwa[RG b s o H ↑a v n k lo hi l Q I i j pl g ⟨a,xs,2,bB.of d,hw,λp m=>q p _ (av.upd m) aj⟩]
inductive Nq (x:V) (y:V) (H:Hp) (Q:VK):Prop
 |mk (a:Zs) (k:Int) (xs:Zb):x=↑a->y=.int k->H a\.tup xs-> -(2 ^ 63)<=k->k<2 ^ 63->⇑xs* k.toNat<=sizeLine->(∀p H',av H H'->H' p\.tup (List.replicate k.toNat xs).flatten->Q ↑p H')->Nq x y H Q
theorem EH:fB X (binaryOp .Mult) Nq:=by
 intro d s M H x y v u Q I W Z h;let⟨l,k,xs,rfl,rfl,L,h1,h2,J,q⟩:=h;ext W;let⟨t,rfl⟩:=Z;let⟨a,r,V,Y⟩:=I.tuple (bB.of L);let B:=⇑r;let⟨⟨cls,z,data,g⟩,j,hc,n,G⟩:=id V;simp only at hc G;subst hc G
 let A:¬(decide (k < -(2 ^ 63)) || decide (k>=2 ^ 63))=true:=by
  rw[alP,ajt,ajt];ext
 let D:∀{S:PySem.Spec},Meets (Builtin.«tuple.__mul__» ⟨[↑l,.int k t],[]⟩) (λP R c=>c•l\{ cls:=.type "tuple",dict:=z,data:=.seq a.toArray n,slots:=g }/\S P R c)->
  S X.A (wants (EP X d M Q) X.xe) s->X⁻¹ X.A (binaryOp .Mult ↑l (.int k t)) (EP X d M Q) X.xe s:=λ{S} m hS=>
  wpAny_binaryOp_repeat_ref (T:="tuple") (U:="int") ⋯ ⟨_,j,2⟩ (λc=>typeIs_int c k t) HT.uD F.fills_int_mul F.slot_int_rmul HT.AY F.slot_int_index.lookup
   (alH F.slot_int_rmul (typeIs_int s k t) F.entry_int_rmul (F.args_int_rmul_2 _ _) (HT.xU k t l a.toArray n z g)
    ⟨j,2,⟨_,j,2⟩,alH F.slot_tuple_mul ⟨_,j,2⟩ F.entry_tuple_mul (F.args_tuple_mul_2 _ _) m ⟨j,hS⟩⟩)
 cases hc:(a.toArray.isEmpty || k==1)=true
 ·rwa[D (S:=λ_ R c=>R (.ok (.ret ↑l)) c) (HT.xV l a.toArray n z g k t A hc) ⟨↑l,H,I,2,q l H (av.refl H) ?_⟩]
  let e:(List.replicate k.toNat xs).flatten=xs:=by
   rw[alP]at hc;rcases hc with hc|hc
   ·have:a=[]:=by simpa using hc
    have:xs=[]:=by
     let w:=B;rw[this]at w;rwa[akd w]
    subst this;simp
   ·have:k=1:=by simpa using hc
    subst this;simp
  rw[e];rwa[L]
 ·cases f:(decide (k<=0) || a.toArray.isEmpty)=true
  ·rwa[D (S:=λ_ R c=>R (.ok (.ret ↑↥c)) { c with heap:=c.heap.push ("tuple">>>.seq #[]) }) (HT.xW l a.toArray n z g k t A hc f) ?_];rwa[⟨↑↥s,_,I.laid (t':=s.toks) (o:=.tup []) (λb O q=>aiM _ q) (aiS _) ?_,2,q _ _ (av.upd (I.aP.fresh (aiS _))) ?_⟩]
   ·rwa[ajj _,[],.nil,IsTup.new _ _]
   ·let e:k.toNat=0:=by
     rw[alP,ajt]at f;rcases f with f|f
     ·ext
     ·rwa[absurd (by rw[alP];rwa[.inl f]) hc]
    rw[e,aj];rfl
  ·let hk:0<k:=by
    rw[alP,ajt]at f;ext
   let p:List.foldl (λE C=>E++C) #[] (List.replicate k.toNat a.toArray)=(List.replicate k.toNat a).flatten.toArray:=by
    have:=foldl_rep a k.toNat [];rw[ali]at this;rwa[this]
   let hlen:(List.replicate k.toNat a).flatten.length<=sizeLine:=by rw[len_rep,Nat.mul_comm,<-B];rwa[J]
   let i:((a.toArray.size:Int)* k)=((⇑xs* k.toNat:Nat):Int):=by
    rw[ai8,<-B,Int.natCast_mul,Int.toNat_of_nonneg ∅]
   let hline:(sizeLine:Nat)<=(2 ^ 63 - 1) / 8:=⋯
   refine D (S:=λ_ R c=>R (.ok (.ret ↑↥c)) { c with heap:=c.heap.push ("tuple">>>.seq (List.foldl (λE C=>E++C) #[] (List.replicate k.toNat a.toArray))) })
    (HT.xX l a.toArray n z g k t A hc f (by rw[i];omega) (by unfold Builtin.Tuple.tupleTooMany;rw[ajt,i];omega) ([p,ai8]▸hlen)) ?_
   rw[p];rwa[⟨↑↥s,_,I.laid (t':=s.toks) (o:=.tup (List.replicate k.toNat xs).flatten) (λb O q=>aiM _ q) (aiS _) ?_,2,q _ _ (av.upd (I.aP.fresh (aiS _))) aj⟩];rwa[[len_rep,Nat.mul_comm]▸J,_,r.rep k.toNat,IsTup.new _ _]
end
noncomputable def tx (l:Zh):Str:=⟨l.toArray⟩
def HV (l:Zh):⇑(tx l)=⇑l:=by
 show l.toArray.size=⇑l;simp
def HW {b:Zh}(h:tx B=tx b):B=b:=by
 have:=ajT (λs:Str=>s.cps.toList) h;rwa[this]
def EI (h:x.cps.toList=f.cps.toList):x=f:=by
 let⟨a⟩:=x;let⟨b⟩:=f;have:a=b:=Array.toList_inj.mp h;rw[this]
def Wn (x:Str):x=tx x.cps.toList:=EI rfl
def HX (a b:Zh):tx a++tx b=tx (a++b):=by
 rwa[EI ?_];show ((tx a).cps++(tx b).cps).toList=(a++b);rw[Array.toList_append];rfl
section
variable {X:Cx}{pos:Pos}
def dS {l:Zh}{j}(h:x=tx l):PE X (.Constant (.str x) j pos) (tC (.str (tx l))):=by
 rw[<-h];rwa[Rb]
noncomputable def A0 (n:Int):Zh:=(toString n:Str).cps.toList
def HY (h:n<10000000000):n.log2<1920:=by
 rcases Nat.eq_zero_or_pos n with e|e
 ·subst e;decide
 ·let a:HPow.hPow 2 n.log2<=n:=Nat.log2_self_le ∅;let b:(10000000000:Nat)<2 ^ 1920:=⋯
  rwa[(Nat.pow_lt_pow_iff_right (by decide:1<2)).mp (aiW a (alI h b))]
def K8 {n:Int}(a:0<=n)(h:n<10000000000):⇑(A0 n)<=10:=by
 have:=toString_length_le (v:=n) a (k:=10) ⋯ h;rwa[this]
end
structure Def (K:Za1) (mg:Str->Zl) (x:Str) (st:Stmt) (ps:Zp) (f:Zs) (fd:FuncData):Prop where
 F:qY K x x st f fd
 m:mg x\↑f
 b:Binds K fd ps []
inductive Wo (t:TE) (σ:St) (H:Hp) (Q:VK):Prop
 |mk (G:V->Hp->Prop):t σ H G->(∀v H',G v H'->Q v H')->Wo t σ H Q
def A1 (ns:Zg)(lo a:Zj):hY (aq ns) lo a=aq ((ns.drop (HT.cj ⇑ns 0 lo)).take (HT.cj ⇑ns ⇑ns a - HT.cj ⇑ns 0 lo)):=by
 unfold hY aq;rw[aiQ,List.map_take,List.map_drop]
def fV (r:Int){n:Nat}(h:0<n):∃j:Nat,r % (n:Int)=(j:Int)/\j<n:=by
 let b:=akl r (show (n:Int)≠0 by omega);let a:=aj5 r (show (0:Int)<(n:Int) by omega);rwa[(r % (n:Int)).toNat,33]
section
variable {κ:Type} [DecidableEq κ]
noncomputable def bA (a:List (κ×V))(k:κ):Zc:=(a.find? λb=>decide (b.1=k)).map (·.2)
noncomputable def putK (a:List (κ×V))(k:κ)(v:V):List (κ×V):=
 if (a.any λb=>decide (b.1=k))=true then a.map (λb=>if b.1=k then (b.1,v) else b) else a++[(k,v)]
noncomputable def fw (a:List (κ×V))(k:κ):List (κ×V):=a.filter λb=>decide (b.1≠k)
def da {p:κ×V}{r:List (κ×V)}{k:κ}(e:p.1=k):bA (p::r) k\p.2:=by simp[bA,alj,e]
def cW {p:κ×V}{r:List (κ×V)}{k:κ}(e:¬p.1=k):bA (p::r) k=bA r k:=by simp[bA,alj,e]
theorem mD (k:κ):∀a:List (κ×V),(a.any λb=>decide (b.1=k))=(bA a k).isSome
 |[]=>rfl
 |p::r=>by
  rw[List.any_cons];cases e:p.1=k
  ·simp only[da e,aje e,Bool.true_or,Option.isSome_some]
  ·rw[cW e,ajx e,Bool.false_or];rwa[mD k r]
theorem A2 (k j:κ)(y:V):∀a:List (κ×V),bA (a.map λb=>if b.1=k then (b.1,y) else b) j=(bA a j).map λx=>if j=k then y else x
 |[]=>rfl
 |p::r=>by
  let c:=A2 k j y r;rw[aj0];cases h:p.1=k
  ·rw[ajg h];cases e:p.1=j
   ·rw[da (p:=(p.1,y)) e,da e,Option.map_some,ajg (e.symm.trans h)]
   ·rw[cW (p:=(p.1,y)) e,cW e,c]
  ·rw[ajb h];cases e:p.1=j
   ·rw[da (p:=p) e,da e,Option.map_some,ajb (λz=>h (e.trans z))]
   ·rw[cW (p:=p) e,cW e,c]
theorem y1 (k j:κ)(y:V):∀a:List (κ×V),bA a k=none->bA (a++[(k,y)]) j=if j=k then some y else bA a j
 |[],_=>by
  cases e:k=j
  ·rw[ajg e.symm];rwa[da (p:=(k,y)) e]
  ·rw[ajb (λz=>e z.symm)];rwa[cW (p:=(k,y)) e]
 |p::r,b=>by
  rw[ake];let c:¬p.1=k:=λz=>by rw[da z]at b;ext b
  rw[cW c]at b;let d:=y1 k j y r b;cases e:p.1=j
  ·rw[da e,da e,ajb (λz=>c (e.trans z))]
  ·rw[cW e,cW e,d]
def jq (b:List (κ×V))(k j:κ)(y:V):bA (putK b k y) j=if j=k then some y else bA b j:=by
 unfold putK;cases a:(b.any λc=>decide (c.1=k))=true
 ·rw[ajg a,A2];rw[mD]at a;cases e:j=k
  ·let⟨x,d⟩:=akh.mp a
   cbv
  ·rw[ajb e]
   cases bA b j with
   |none=>rfl
   |some x=>cbv
 ·rw[ajb a];rwa[y1 k j y b ?_];rw[mD]at a
  cases q:bA b k with
  |none=>rfl
  |some x=>rw[q]at a;rwa[(a rfl).elim]
def dB (a:List (κ×V))(k:κ)(v:V):⇑(putK a k v)<=⇑a+ 1:=by
 unfold putK;split
 ·rw[aiQ];ext
 ·rw[aiP,ajf,akm];ext
def A3 {a:List (κ×V)}{k:κ}(v:V)(h:bA a k=none):putK a k v=a++[(k,v)]:=by
 unfold putK;rw[mD,h];rwa[ajb ⋯]
def eT.lg {o:Zc}{u:Zl}(r:eT o u):o.isSome=u.isSome:=by
 cases o with
 |none=>cases u with
  |none=>rfl
  |some _=>exact(show False from r).elim
 |some _=>cases u with
  |none=>exact(show False from r).elim
  |some _=>rfl
def eT.getD {o:Zc}{u:Zl}(r:eT o u)(rd:RelV q v):RelV (o.getD q) (u.getD v):=by
 cases o with
 |none=>cases u with
  |none=>exact rd
  |some _=>exact(show False from r).elim
 |some _=>cases u with
  |none=>exact(show False from r).elim
  |some _=>exact r
def KV.val {a:List (κ×V)}{f:List (κ×Zt)}(r:KV a f)(k:κ):eT (bA a k) (valueAt f k):=by
 induction r with
 |nil=>exact True.intro
 | @cons p q l c h t i=>
   let⟨g,j⟩:=h;cases e:p.1=k
   ·let d:q.1=k:=g.symm.trans e;let b:valueAt (q::c) k\q.2:=by simp[valueAt,alj,d]
    rw[da e,b];rwa[j]
   ·let d:¬q.1=k:=λz=>e (g.trans z)
    let b:valueAt (q::c) k=valueAt c k:=by simp[valueAt,alj,d]
    rw[cW e,b];rwa[i]
def KV.any {a:List (κ×V)}{c:List (κ×Zt)}(r:KV a c)(k:κ):(a.any λb=>decide (b.1=k))=c.any λb=>decide (b.1=k):=by
 induction r with
 |nil=>rfl
 |cons h t d=>rw[List.any_cons,List.any_cons,d,h.1]
def KV.repl {b:List (κ×V)}{c:List (κ×Zt)}(r:KV b c)(k:κ){y:V}{u:Zt}(g:RelV y u):
 KV (b.map λa=>if a.1=k then (a.1,y) else a) (c.map λa=>if a.1=k then (a.1,u) else a):=by
 induction r with
 |nil=>exact .nil
 | @cons p q e f h t d=>
   rw[aj0,aj0];rwa[.cons ?_ d]
   cbv
def KV.put {a:List (κ×V)}{b:List (κ×Zt)}(r:KV a b)(k:κ){y:V}{u:Zt}(c:RelV y u):KV (putK a k y) (stored b k u):=by
 unfold putK stored;rw[r.any k];cases e:(b.any λd=>decide (d.1=k))=true
 ·rw[ajg e,ajg e];rwa[r.repl k c]
 ·rw[ajb e,ajb e];rwa[Paired.snoc r ⟨2,c⟩]
def KV.drop {c:List (κ×V)}{d:List (κ×Zt)}(r:KV c d)(k:κ):KV (fw c k) (without d k):=by
 unfold fw without
 induction r with
 |nil=>exact .nil
 | @cons p q l m h t g=>
   let⟨f,i⟩:=h;rw[List.filter_cons,List.filter_cons];cases e:p.1=k
   ·cbv
   ·let j:¬q.1=k:=λz=>e (f.trans z)
    let a:decide (p.1≠k)=true:=by simp[e]
    let b:decide (q.1≠k)=true:=by simp[j]
    rw[ajg a,ajg b];rwa[.cons ⟨f,i⟩ g]
def KV.length {a:List (κ×V)}{b:List (κ×Zt)}(r:KV a b):⇑a=⇑b:=Paired.length r
def K9 (a:List (κ×V))(k:κ):⇑(fw a k)<=⇑a:=akS _ _
end
def jh {k:Key}(r:RelV (kV k) u):(bY P w).is k u=true:=by
 cases k with
 |inl i=>let⟨t,e⟩:=(show ∃t,u=Value.int i t from r);subst e;rwa[DF P w i t]
 |inr x=>let⟨t,e⟩:=(show ∃t,u=Value.str x t from r);subst e;rwa[DG P w x t]
theorem y3:∀{a:Zd} {b:Zk},Vals (a.map kV) b->ItemsAre (bY P w) a b
 |[],_,r=>by ext r;rwa[.nil]
 |k::a,_,r=>by
  cases r with
  |cons h t=>exact .cons (jh h) (y3 t)
abbrev KT (H:Hp):List (Zd×V)->List (Zd×Zs×Zt)->Prop:=Paired λp q=>p.1=q.1/\H q.2.1\.tup (p.1.map kV)/\RelV p.2 q.2.2
def KT.val {a:List (Zd×V)}{g:List (Zd×Zs×Zt)}(r:KT H a g)(k:Zd):eT (bA a k) ((atKey g k).map (·.2)):=by
 induction r with
 |nil=>exact True.intro
 | @cons p q l c h t i=>
   let⟨f,_,j⟩:=h;cases e:p.1=k
   ·let d:q.1=k:=f.symm.trans e;let b:atKey (q::c) k\q.2:=by simp[atKey,alj,d]
    rw[da e,b];rwa[j]
   ·let d:¬q.1=k:=λz=>e (f.trans z)
    let b:atKey (q::c) k=atKey c k:=by simp[atKey,alj,d]
    rw[cW e,b];rwa[i]
def KT.repl {a:List (Zd×V)}{xs:List (Zd×Zs×Zt)}(r:KT H a xs)(k:Zd){y:V}{u:Zt}(j:RelV y u):
 KT H (a.map λb=>if b.1=k then (b.1,y) else b) (xs.map (putAt k u)):=by
 induction r with
 |nil=>exact .nil
 | @cons p q d e h t c=>
   rw[aj0,aj0];rwa[.cons ?_ c];let⟨g,f,i⟩:=h;unfold putAt
   cbv
def KT.put {a:List (Zd×V)}{c:List (Zd×Zs×Zt)}(r:KT H a c)(k:Zd){b:Zs}{y:V}{u:Zt}(g:H b\.tup (k.map kV))(d:RelV y u):
 KT H (putK a k y) (storedH c k b u):=by
 let e:(a.any λf=>decide (f.1=k))=(atKey c k).isSome:=by
  rw[mD,(r.val k).lg,Option.isSome_map]
 unfold putK storedH;rw[e];cases q:(atKey c k).isSome=true
 ·rw[ajg q,ajg q];rwa[r.repl k d]
 ·rw[ajb q,ajb q];rwa[Paired.snoc r ⟨2,g,d⟩]
def KT.keeps {a:List (Zd×V)}{c:List (Zd×Zs×Zt)}(r:KT H a c)(d:∀b ys,H b\.tup ys->I b\.tup ys):KT I a c:=
 Paired.KC r λ_ _ z=>⟨z.1,d^z.2.1,z.2.2⟩
section
variable {P:Program}{w:World}{H:Hp}{h:Heap}{a:Zs}
def Nr {u:HO}(ok:dC P w H h)(e:Rd H a u):b9 P w H h a u:=e.ok ok
def nF {b:List (Key×V)}(ok:dC P w H h)(e:Rd H a (.dK b)):⇑b<=sizeLine/\(a==sysModules)=false/\∃c,KV b c/\h.DictOf (bY P w) a c:=
 show b9 P w H h a (.dK b) from Nr ok e
def sT {b:List (Key×V)}(ok:dC P w H h)(e:H a\.dK b):⇑b<=sizeLine/\(a==sysModules)=false/\∃c,KV b c/\h.DictOf (bY P w) a c:=nF ok (.inl e)
def lh {c:Zd}(ok:dC P w H h)(e:H a\.tup (c.map kV)):(tupleKind (bY P w)).is h c a:=by
 let⟨_,b,r,o,f,d,n,g⟩:=(show b9 P w H h a (.tup (c.map kV)) from ok a _ e);rwa[o,b.toArray,n,f,d,g,by simpa using y3 r]
def nH {b:List (Zd×V)}(ok:dC P w H h)(e:Rd H a (.dT b)):⇑b<=sizeLine/\(a==sysModules)=false/\
 ∃d,KT H b d/\h.DictOfH (tupleKind (bY P w)) a d:=by
 let⟨z,y,d,r,o,n,u,j,g,s,i,k⟩:=(show b9 P w H h a (.dT b) from Nr ok e);rwa[⟨z,y,d,r,o,n,u,j,g,s,i,λx c=>?_,k⟩]
 let all:∀{l:List (Zd×V)} {m:List (Zd×Zs×Zt)},KT H l m->∀x∈m,(tupleKind (bY P w)).is h x.1 x.2.1:=by
  intro l m q
  induction q with
  |nil=>intro x c;rwa[nomatch c]
  | @cons p q A B f t v=>
    intro x c;rcases ai3.mp c with e|c
    ·subst e;rwa[lh ok (by rw[<-f.1];rwa[f.2.1])]
    ·rwa[v x c]
 rwa[all r x c]
def Nt {b:List (Zd×V)}(ok:dC P w H h)(e:H a\.dT b):⇑b<=sizeLine/\(a==sysModules)=false/\
 ∃c,KT H b c/\h.DictOfH (tupleKind (bY P w)) a c:=nH ok (.inl e)
end
def dz (H:Hp)(a:Zs)(y:V)(r:Zc):Prop:=
 (∃c k,Rd H a (.dK c)/\y=kV k/\r=bA c k)\/∃c k b,Rd H a (.dT c)/\y=↑b/\H b\.tup (k.map kV)/\r=bA c k
def jY (H:Hp)(a:Zs)(y v:V)(d:Hp):Prop:=
 (∃c k,H a\.dK c/\y=kV k/\⇑c<sizeLine/\d=upd H a (.dK (putK c k v)))\/
 ∃c k b,H a\.dT c/\y=↑b/\H b\.tup (k.map kV)/\⇑c<sizeLine/\d=upd H a (.dT (putK c k v))
def dz.k {b:List (Key×V)}{k:Key}(e:H a\.dK b):dz H a (kV k) (bA b k):=.inl ⟨b,k,.inl e,22⟩
def dz.t {c:List (Zd×V)}{k:Zd}(e:H a\.dT c)(d:H b\.tup (k.map kV)):dz H a ↑b (bA c k):=.inr ⟨c,k,b,.inl e,2,d,2⟩
def jY.k {b:List (Key×V)}{k:Key}(e:H a\.dK b)(c:⇑b<sizeLine):jY H a (kV k) q (upd H a (.dK (putK b k q))):=.inl ⟨b,k,e,2,c,2⟩
def jY.t {c:List (Zd×V)}{k:Zd}(e:H a\.dT c)(f:H b\.tup (k.map kV))(d:⇑c<sizeLine):
 jY H a ↑b q (upd H a (.dT (putK c k q))):=.inr ⟨c,k,b,e,2,f,d,2⟩
section
variable {X:Cx}{pins:List (Zs×Obj)}{σ:St}{H:Hp}{s:Zu}{a:Zs}{y v:V}{u r:Zt}{o:Zc}{A:Around}{E:Zt->Zu->Prop}
def Inv.big (I:Inv X pins σ H s):sysModules<↥s:=by
 let h:mainGlobals<↥s:=(I.mod.glob.keeps I.bk).lt;rwa[alI ⋯ h]
def HZ (F:A.units+ 1<cLine)(I:Inv X pins σ H s)(g:dz H a y (some v))(t:RelV y u)(h:∀d q,Inv X pins σ H q->RelV v d->Q d q):
 X⁻¹ A (getItem ↑a u) Q E s:=by
 rcases g with ⟨f,k,e,n,l⟩|⟨f,k,b,e,n,B,l⟩
 ·subst n;let⟨z,w,x,rel,m⟩:=nF I.aP e;let⟨d,j,c⟩:=eT.some_of (v:=v) (o:=valueAt x k) ([l]▸rel.val k);rwa[wpAny_getItem_of (jh t) m.mapOf j (h d _ (I.tok _) c)]
 ·subst n;cases (show u=Value.ref b from t);let⟨z,w,D,rel,m⟩:=nH I.aP e;let⟨d,j,c⟩:=eT.some_of (v:=v) (o:=(atKey D k).map (·.2)) ([l]▸rel.val k);let⟨p,C,i⟩:=ajV.mp j;rwa[wpAny_getItem_heap (akB F) (lh I.aP B) m C ?_];rw[i];rwa[h d _ (I.tok _) c]
def aa7 (p:A.units+ 1<cLine)(I:Inv X pins σ H s)(g:dz H a y o)(m:RelV y u)(h:∀j,Inv X pins σ H j->Q (.bool o.isSome) j):
 X⁻¹ A (compareOp .In u ↑a) Q E s:=by
 rcases g with ⟨d,k,e,i,l⟩|⟨d,k,b,e,i,n,l⟩
 ·subst i;let⟨z,c,t,rel,f⟩:=nF I.aP e;rwa[wpAny_in_of (jh m) c f.mapOf ?_];rw[<-(rel.val k).lg,<-l];rwa[h _ (I.tok _)]
 ·subst i;cases (show u=Value.ref b from m);let⟨z,c,w,rel,f⟩:=nH I.aP e;rwa[wpAny_in_heap (akB p) (lh I.aP n) c f ?_];let q:=(rel.val k).lg;rw[Option.isSome_map]at q;rw[<-q,<-l];rwa[h _ (I.tok _)]
def Px (p:A.units+ 1<cLine)(I:Inv X pins σ H s)(g:dz H a y o)(m:RelV y u)(h:∀j,Inv X pins σ H j->Q (.bool (!o.isSome)) j):
 X⁻¹ A (compareOp .NotIn u ↑a) Q E s:=by
 rcases g with ⟨d,k,e,i,l⟩|⟨d,k,b,e,i,n,l⟩
 ·subst i;let⟨z,c,t,rel,f⟩:=nF I.aP e;rwa[wpAny_notIn_of (jh m) c f.mapOf ?_];rw[<-(rel.val k).lg,<-l];rwa[h _ (I.tok _)]
 ·subst i;cases (show u=Value.ref b from m);let⟨z,c,w,rel,f⟩:=nH I.aP e;rwa[wpAny_notIn_heap (akB p) (lh I.aP n) c f ?_];let q:=(rel.val k).lg;rw[Option.isSome_map]at q;rw[<-q,<-l];rwa[h _ (I.tok _)]
def km {t':Nat}{c:HO}(I:Inv X pins σ H s)(mu:tN (H a))(g:Heap.SameBut a s.heap h)(d:∃q,h.get? a\q)(new:b9 X.prog X.w (upd H a c) h a c):
 Inv X pins σ (upd H a c) { s with heap:=h,toks:=t' }:=
 I.write (x:=a) (e:=a) mu (.inl rfl) (λb q f z=>(g.2 b f).trans z) d new
def q9 {b:List (Key×V)}{c:List (Key×Zt)}(z:⇑b<=sizeLine)(d:(a==sysModules)=false)(rel:KV b c)(e:h.DictOf (bY P w) a c):
 b9 P w I h a (.dK b):=⟨z,d,c,rel,e⟩
def Ia (S:A.units+ 1<cLine)(d:Inv X pins σ H s)(g:jY H a y v I)(M:RelV y u)(L:RelV v r)(h:∀D,Inv X pins σ I D->U () D):
 X⁻¹ A (setItem ↑a u r) U E s:=by
 rcases g with ⟨f,k,e,C,l,n⟩|⟨f,k,b,e,C,J,l,n⟩
 ·subst C n;let⟨z,m,O,rel,B⟩:=sT d.aP e;let p:⇑O<=sizeLine:=by rw[<-⇑rel];rwa[z]
  let w:⇑(putK f k v)<=sizeLine:=by have:=dB f k v;ext
  rwa[wpAny_setItem_pairs (hsz:=p) (jh M) B λG i x=>h _ ?_]
  let Y:∃q,G.get? a\q:=let ⟨q,_,_,j,_⟩:=i;⟨q,j⟩
  rwa[km d ([e]▸True.intro) x Y (q9 w m (rel.put k L) i)]
 ·subst C n;cases (show u=Value.ref b from M);let⟨z,m,xs,rel,B⟩:=Nt d.aP e;let p:⇑xs<=sizeLine:=by rw[<-Paired.length rel];rwa[z]
  let w:⇑(putK f k v)<=sizeLine:=by have:=dB f k v;ext
  rwa[wpAny_setItem_heap (hsz:=p) (akB S) (lh d.aP J) B λG i x=>h _ ?_]
  let⟨q,R,W,j,N,T,P,_,Q⟩:=i;rwa[km d ([e]▸True.intro) x ⟨q,j⟩ ⟨w,m,_,(rel.put k J L).keeps λc ys F=>?_,q,R,W,j,N,T,P,Q⟩];rw[ak (cf F e (λz=>nomatch z))];rwa[F]
end
section
variable {X:Cx}{pins:List (Zs×Obj)}{σ:St}{H:Hp}{s:Zu}{a:Zs}{kvs:List (Key×V)}{k:Key}{u:Zt}{A:Around}{E:Zt->Zu->Prop}
def Nu {more:Zk}(I:Inv X pins σ H s)(e:H a\.dK kvs)(g:RelV (kV k) u)(l:bA kvs k\q)(p:more=[]\/∃x,more=[x])
 (h:∀c j,Inv X pins σ (upd H a (.dK (fw kvs k))) j->RelV q c->Q c j):X⁻¹ A (call (.builtin "dict.pop") (↑a::u::more)) Q E s:=by
 let⟨z,r,m,rel,n⟩:=sT I.aP e;let⟨c,y,f⟩:=eT.some_of (v:=q) (o:=valueAt m k) (by rw[<-l];rwa[rel.val k])
 let B:(keyPart u).isSome=true:=by
  cases k with
  |inl i=>let⟨t,b⟩:=(show ∃t,u=Value.int i t from g);subst b;rfl
  |inr x=>let⟨t,b⟩:=(show ∃t,u=Value.str x t from g);subst b;rfl
 let D:argsOk "dict.pop" ⟨↑a::u::more,[]⟩:=by
  rcases p with b|⟨x,b⟩
  ·subst b;rwa[PySem.F.args_dict_pop_2 _ _]
  ·subst b;rwa[PySem.F.args_dict_pop_3^_]
 refine ak9 alk n.typeIs PySem.F.entry_dict_pop D (meets_dict_pop_there (bY X.prog X.w) a (jh g) more p B)
  ⟨m,c,n,by rw[<-⇑rel];rwa[z],y,λv d C=>h c _ ?_ f⟩
 let F:∃b,v.get? a\b:=let ⟨b,_,_,w,_⟩:=d;⟨b,w⟩
 rwa[km I ([e]▸True.intro) C F (q9 (ai0 (K9 kvs k) z) r (rel.drop k) d)]
def RW (I:Inv X pins σ H s)(e:H a\.dK kvs)(b:RelV (kV k) u)(l:bA kvs k=none)(h:∀c,Inv X pins σ H c->Q v c):
 X⁻¹ A (call (.builtin "dict.pop") [↑a,u,v]) Q E s:=by
 let⟨z,g,d,rel,f⟩:=sT I.aP e;let m:valueAt d k=none:=eT.none_of (by rw[<-l];rwa[rel.val k])
 let j:(keyPart u).isSome=true:=by
  cases k with
  |inl i=>let⟨t,q⟩:=(show ∃t,u=Value.int i t from b);subst q;rfl
  |inr x=>let⟨t,q⟩:=(show ∃t,u=Value.str x t from b);subst q;rfl
 rwa[ak9 alk f.typeIs PySem.F.entry_dict_pop (PySem.F.args_dict_pop_3^_) (meets_dict_pop_default (bY X.prog X.w) a (jh b) g j v) ⟨d,f,m,h _ (I.tok _)⟩]
end
def RX (i:Expr):Prop:=∀b a,subscripted i false b a=operate [b,a] (getItem b a)
def Py {env:Env}{value slice:Expr}{T id:String}
 (j:typeLookup (.type T) "__getitem__"=pure (some (.builtin id))) (k:RX slice)
 (h:(P<|>w) A (eval value env) (λo d=>(P<|>w) A (eval slice env) (λi a=>a.TypeIs o T/\(P<|>w) A (getItem o i) Q E a) E d) E s):
 (P<|>w) A (eval (.Subscript value slice p) env) Q E s:=by
 rwa[Subscript_ (ajZ h (λo d e=>ajZ e (λi a b=>?_) λ_ _ x=>x) λ_ _ x=>x)];let⟨g,b⟩:=b;rwa[aiK ?_];rwa[aiK (wpAny_specialOf g j ?_)]
 let fin:(P<|>w) A (subscripted slice false o i) (λr c=>(P<|>w) A (letTemporaryGo value o r >>=λ_=>pure r) Q E c) E a:=by
  rw[k o i];rwa[wpAny_operating (ajZ b (λr c f=>aiK (wpAny_letTemporaryGo (aiU f))) λ_ _ x=>x)]
 first
  |rwa[aiU (aiK fin)]
  |rwa[aiK (aiU (aiK fin))]
  |rwa[aiK fin]
def DJ {c:Zc}(I:Inv X o D H s)(g:dz H a q c):s.TypeIs ↑a "dict":=by
 rcases g with ⟨d,k,e,_,_⟩|⟨d,k,b,e,_,_,_⟩
 ·let⟨_,_,h,_,f⟩:=nF I.aP e;rwa[f.typeIs]
 ·let⟨_,_,i,_,f⟩:=nH I.aP e;rwa[f.typeIs]
inductive RZ (x y:V) (H:Hp) (Q:VK):Prop
 |mk (a:Zs) (v:V):x=↑a->dz H a y (some v)->Q v H->RZ x y H Q
def Wq (td d:TE):TE:=λ a H Q=>td a H λx c=>d a c λy b=>RZ x y b Q
def aa8 (e td:TE):TE:=λ c H Q=>e c H λy d=>td c d λx b=>∃a o,x=↑a/\dz b a y o/\Q (.bl o.isSome) b
def Pz (e td:TE):TE:=λ c H Q=>e c H λy d=>td c d λx b=>∃a o,x=↑a/\dz b a y o/\Q (.bl (!o.isSome)) b
inductive R6 (x y v:V) (H:Hp) (N:Hp->Prop):Prop
 |mk (a:Zs) (H4:Hp):x=↑a->jY H a y v H4->N H4->R6 x y v H N
def Wr (td e b:TE):TS:=λD a H=>b a H λv d=>td a d λx c=>e a c λy f=>R6 x y v f (D.nx a)
section
variable {X:Cx}{o i value:Expr}{pos pos':Pos}{td ty tv:TE}
def EJ (p:X.A.units+ 1<cLine)(m:PE X o td)(z:PE X i ty)(t:RX i):PE X (.Subscript o i pos) (Wq td ty):=by
 intro b s f H Q I h;rwa[Py PySem.F.slot_dict_getitem.lookup t (bp (m b s f H _ I h) λu q ζ=>?_)];let⟨x,n,j,r,l⟩:=ζ;rwa[bp (z b q f n _ j l) λF D ζ=>?_];let⟨y,A,d,w,a,v,ex,g,B⟩:=ζ;subst ex;obtain rfl:u=Value.ref a:=r;rwa[DJ d g,HZ p d g w λC E k c=>⟨v,A,k,c,B⟩]
def vH (n:X.A.units+ 1<cLine)(v:PE X i ty)(l:PE X o td):PC X .In i o (aa8 ty td):=by
 intro b s c H Q I h;rwa[bp (v b s c H _ I h) λC p ζ=>?_];let⟨y,m,d,t,j⟩:=ζ;rwa[bp (l b p c m _ d j) λu A ζ=>?_];let⟨x,w,k,q,a,r,ex,g,z⟩:=ζ
 subst ex;obtain rfl:u=Value.ref a:=q;rwa[aa7 n k g t λB f=>⟨.bl r.isSome,w,f,2,z⟩]
def y4 (n:X.A.units+ 1<cLine)(v:PE X i ty)(l:PE X o td):PC X .NotIn i o (Pz ty td):=by
 intro b s c H Q I h;rwa[bp (v b s c H _ I h) λC p ζ=>?_];let⟨y,m,d,t,j⟩:=ζ;rwa[bp (l b p c m _ d j) λu A ζ=>?_];let⟨x,w,k,q,a,r,ex,g,z⟩:=ζ
 subst ex;obtain rfl:u=Value.ref a:=q;rwa[Px n k g t λB f=>⟨.bl (!r.isSome),w,f,2,z⟩]
def jC (z:X.A.units+ 1<cLine)(t:PE X o td)(F:PE X i ty)(J:PE X value tv)(C:swapsWith value (some (.Subscript o i pos')) pos.line X.env=pure false):
 PS X (.Assign [.Subscript o i pos'] value pos) (Wr td ty tv):=by
 intro b s c H D I h;rwa[wpAny_Assign_Subscript (bp (J b s c H _ I h) λr A ζ=>?_) C];let⟨v,w,f,q,m⟩:=ζ;rwa[bp (t b A c w _ f m) λu l ζ=>?_];let⟨x,G,p,B,L⟩:=ζ;rwa[bp (F b l c G _ p L) λP O ζ=>?_];let⟨y,N,j,E,a,k,ex,g,n⟩:=ζ;subst ex;obtain rfl:u=Value.ref a:=B;rwa[Ia z j g E q λM d=>⟨c,k,d,n⟩]
end
def A4 (h:Heap)(a:sysModules<h.objs.size):b9 P w H (h.push ("dict">>>.dict #[])) h.objs.size (.dK []):=
 ⟨ajj _,ajd.mpr (ajR (ajm a)),[],.nil,Heap.DictOf.new h⟩
def La (h:Heap)(a:sysModules<h.objs.size):b9 P w H (h.push ("dict">>>.dict #[])) h.objs.size (.dT []):=
 ⟨ajj _,ajd.mpr (ajR (ajm a)),[],.nil,_,#[],(0),ai2 _ rfl,⟨222⟩,22,aj8⟩
def R7:TE:=λ_ H Q=>∀p,H p=none->Q ↑p (upd H p (.dK []))
def R8:TE:=λ_ H Q=>∀p,H p=none->Q ↑p (upd H p (.dT []))
section
variable {X:Cx}{pos:Pos}
def fW:PE X (.Dict [] [] pos) R7:=λb s d H Q I h=>
 wpAny_Dict_empty ⟨↑↥s,_,I.laid (a:=↥s) (o:=.dK []) (t':=s.toks) (λ_ _ q=>aiM _ q) (aiS _) (A4 s.heap I.big),2,h _ (I.aP.fresh (aiS _))⟩
def pX:PE X (.Dict [] [] pos) R8:=λb s d H Q I h=>
 wpAny_Dict_empty ⟨↑↥s,_,I.laid (a:=↥s) (o:=.dT []) (t':=s.toks) (λ_ _ q=>aiM _ q) (aiS _) (La s.heap I.big),2,h _ (I.aP.fresh (aiS _))⟩
end
def A5:List (TE×TE)->St->Hp->(List (V×V)->Hp->Prop)->Prop
 |[],_,H,Q=>Q [] H
 |(e,b)::r,a,H,Q=>e a H λx f=>b a f λy c=>A5 r a c λd g=>Q ((x,y)::d) g
abbrev VV:List (V×V)->List (Zt×Zt)->Prop:=Paired λp q=>RelV p.1 q.1/\RelV p.2 q.2
def Nv (X:Cx)(c:Pos)(keys:List (Option Expr))(values:Zr)(b:List (TE×TE)):Prop:=
 ∀(a:List (Zs×Obj)) (s:Zu) (d:St) (H:Hp) (Q:List (V×V)->Hp->Prop),Inv X a d H s->A5 b d H Q->
  X⁻¹ X.A (evalPairs (pairTrees keys values X.env c)) (λg h=>∃e f,Inv X a d f h/\VV e g/\Q e f) X.xe s
def PB:Nv X p [] [] []:=λa s b H Q I h=>pairTrees_nil_walk ⟨[],H,I,.nil,h⟩
def Lb {k:Expr}{d:List (Option Expr)}{f:TE}{b:List (TE×TE)}(j:PE X k r)(E:PE X e f)(w:Nv X p d C b):
 Nv X p (some k::d) (e::C) ((r,f)::b):=λa s c H Q I h=>
 pairTrees_cons_walk (bp (j a s c H _ I h) λu z ⟨x,v,g,A,o⟩=>bp (E a z c v _ g o) λL m ⟨y,D,t,B,F⟩=>
  bp (w a m c D _ t F) λG J ζ=>by let⟨l,i,n,rel,q⟩:=ζ;rwa[⟨(x,y)::l,i,n,.cons ⟨A,B⟩ rel,q⟩])
def jb (a more:List (Key×V)):List (Key×V):=more.foldl (λacc b=>putK acc b.1 b.2) a
def KV.merge:∀{more:List (Key×V)} {rs:List (Key×Zt)} {a:List (Key×V)} {b:List (Key×Zt)},KV more rs->KV a b->KV (jb a more) (merged b rs):=by
 intro more rs a b r
 induction r generalizing a b with
 |nil=>intro q;rwa[q]
 | @cons p q f g h t c=>
   intro d
   let e:KV (putK a p.1 p.2) (stored b q.1 q.2):=by
    have:=d.put p.1 h.2;rw[<-h.1];rwa[this]
   rwa[c e]
theorem lH:∀(more a:List (Key×V)),⇑(jb a more)<=⇑a+ ⇑more
 |[],a=>by show ⇑a<=⇑a+ 0;ext
 |p::r,a=>by
  let b:=lH r (putK a p.1 p.2);let c:=dB a p.1 p.2;show ⇑(jb (putK a p.1 p.2) r)<=_;rw[ajf];ext
theorem vI {P:Program}{w:World}:∀{d:List (Key×V)} {g:List (Zt×Zt)},VV (d.map λf=>(kV f.1,f.2)) g->∃e,Carries (bY P w) g e/\KV d e
 |[],_,r=>by ext r;rwa[[],True.intro,.nil]
 |p::d,_,r=>by
  cases r with
  | @cons a b as bs h t=>
    let⟨e,c,q⟩:=vI (P:=P) (w:=w) t;let⟨j,i⟩:=b;rwa[(p.1,i)::e,⟨jh h.1,2,c⟩,.cons ⟨2,h.2⟩ q]
def Wt (b:List (TE×TE)):TE:=λ f H Q=>∀p,H p=none->A5 b f (upd H p (.dK [])) λe c=>c p\.dK []/\∃a:List (Key×V),e=a.map (λd=>(kV d.1,d.2))/\⇑a<=15/\Q ↑p (upd c p (.dK (jb [] a)))
def PD {keys:List (Option Expr)}{values:Zr}{d:List (TE×TE)}(h:Nv X p keys values d)(g:keys.all (·.isSome)=true)(B:⇑keys=⇑values)(n:keys≠[])
 (j:⇑keys<=15):PE X (.Dict keys values p) (Wt d):=by
 intro f s D H Q I q;let E:=I.aP.fresh (aiS ↥s);let r:=I.laid (a:=↥s) (o:=.dK []) (h':=s.heap.push ("dict">>>.dict #[])) (t':=s.toks) (λ_ _ q=>aiM _ q) (aiS _) (A4 s.heap I.big);rwa[wpAny_Dict_walk (knd:=bY X.prog X.w) g B n j (bp (h f _ D _ _ r (q _ E)) λS R ζ=>?_)];let⟨O,T,l,rel,e,b,G,lk,M⟩:=ζ;subst G;let⟨A,c,rk⟩:=vI (P:=X.prog) (w:=X.w) rel;let⟨z,m,J,v,F⟩:=sT l.aP e;ext v;rwa[⟨A,c,F,λk i C=>⟨↑↥s,152,M⟩⟩]
 let y:⇑(jb [] b)<=sizeLine:=by
  let x:=lH b [];rw[akm]at x;rw[sizeLine_eq];ext
 let L:∃q,k.get? ↥s\q:=let ⟨q,_,_,u,_⟩:=i;⟨q,u⟩
 rwa[km l ([e]▸True.intro) C L (q9 y m (rk.merge .nil) i)]
structure M1 (X:Cx) (o:Expr) (m:Str) (apos:Pos) (e:Expr) (cP:Pos):Prop where
 base:attributeBase o m X.env (eval o X.env)=eval o X.env
 few:((backTo cP (starEach [e] X.env)).all (λx=>!x.1) && (backToKw cP (keywordEach [] X.env)).all (λx=>x.1.isSome)
  && decide (⇑([e]:Zr)+ ⇑([]:List Keyword)+ (if ([]:List Keyword).isEmpty then 0 else 1)<30))=true
 line:(apos.endLine==cP.line)=true
 trees:backTo cP (starEach [e] X.env)=[(false,eval e X.env)]
structure M2 (X:Cx) (o:Expr) (m:Str) (apos:Pos) (e f:Expr) (cP:Pos):Prop where
 base:attributeBase o m X.env (eval o X.env)=eval o X.env
 few:((backTo cP (starEach [e,f] X.env)).all (λx=>!x.1) && (backToKw cP (keywordEach [] X.env)).all (λx=>x.1.isSome)
  && decide (⇑([e,f]:Zr)+ ⇑([]:List Keyword)+ (if ([]:List Keyword).isEmpty then 0 else 1)<30))=true
 line:(apos.endLine==cP.line)=true
 trees:backTo cP (starEach [e,f] X.env)=[(false,eval e X.env),(false,eval f X.env)]
def EK (H:Hp)(a:Zs):Prop:=(∃b,Rd H a (.dK b))\/∃b,Rd H a (.dT b)
def mE (I:Inv X o D H s)(d:EK H a):
 s.TypeIs ↑a "dict"/\(∀b,Value.ref a=↑b->∃c,s•b\c/\c.dict=none)/\(a==sysModules)=false:=by
 rcases d with ⟨h,e⟩|⟨h,e⟩
 ·let⟨_,g,k,_,f⟩:=nF I.aP e;rwa[⟨f.typeIs,λb q=>?_,g⟩];ext q;let⟨c,_,_,j,i,_⟩:=f;rwa[c,j,i.2.1]
 ·let⟨_,g,l,_,f⟩:=nH I.aP e;rwa[⟨f.typeIs,λb q=>?_,g⟩];ext q;let⟨c,_,_,j,i,_⟩:=f;rwa[c,j,i.2.1]
section
variable {X:Cx}{pins:List (Zs×Obj)}{σ:St}{H:Hp}{s:Zu}{a:Zs}{y d:V}{u r:Zt}{o:Zc}{A:Around}{E:Zt->Zu->Prop}
def Sb (v:A.units+ 1<cLine)(I:Inv X pins σ H s)(g:dz H a y o)(p:RelV y u)(h:∀n m,Inv X pins σ H m->RelV (o.getD .non) n->Q n m):
 X⁻¹ A (call (.builtin "dict.get") [↑a,u]) Q E s:=by
 rcases g with ⟨i,k,e,j,l⟩|⟨i,k,b,e,j,q,l⟩
 ·subst j;let⟨z,f,w,rel,c⟩:=nF I.aP e;rwa[ak9 akA c.typeIs ale (PySem.F.args_dict_get_2 _ _) (meets_dict_get (bY X.prog X.w) a (jh p) f) ⟨_,c.mapOf,h _ _ (I.tok _) ?_⟩];rw[l];rwa[(rel.val k).getD rfl]
 ·subst j;cases (show u=Value.ref b from p);let⟨z,f,t,rel,c⟩:=nH I.aP e;rwa[ak9 akA c.typeIs ale (PySem.F.args_dict_get_2 _ _) (meetsH_dict_get (tupleKind (bY X.prog X.w)) a b f) ⟨akB v,k,t,lh I.aP q,c,h _ _ (I.tok _) ?_⟩];rw[l];rwa[(rel.val k).getD rfl]
def Sd (v:A.units+ 1<cLine)(I:Inv X pins σ H s)(g:dz H a y o)(p:RelV y u)(rd:RelV d r)(h:∀n m,Inv X pins σ H m->RelV (o.getD d) n->Q n m):
 X⁻¹ A (call (.builtin "dict.get") [↑a,u,r]) Q E s:=by
 rcases g with ⟨i,k,e,j,l⟩|⟨i,k,b,e,j,q,l⟩
 ·subst j;let⟨z,f,w,rel,c⟩:=nF I.aP e;rwa[ak9 akA c.typeIs ale (PySem.F.args_dict_get_3^_) (meets_dict_get_default (bY X.prog X.w) a (jh p) f r) ⟨_,c.mapOf,h _ _ (I.tok _) ?_⟩];rw[l];rwa[(rel.val k).getD rd]
 ·subst j;cases (show u=Value.ref b from p);let⟨z,f,t,rel,c⟩:=nH I.aP e;rwa[ak9 akA c.typeIs ale (PySem.F.args_dict_get_3^_) (meetsH_dict_get_default (tupleKind (bY X.prog X.w)) a b f r) ⟨akB v,k,t,lh I.aP q,c,h _ _ (I.tok _) ?_⟩];rw[l];rwa[(rel.val k).getD rd]
end
inductive EL (x:V) (H:Hp) (G:Zs->Prop):Prop
 |mk (a:Zs):x=↑a->EK H a->G a->EL x H G
def Se (td e:TE):TE:=λ d H Q=>td d H λx c=>EL x c λa=>e d c λy b=>∃o,dz b a y o/\Q (o.getD .non) b
inductive Sf (ty tx:TE) (σ:St) (x:V) (H1:Hp) (Q:VK):Prop
 |mk (a:Zs):x=↑a->EK H1 a->(ty σ H1 λy H2=>tx σ H2 λz H3=>∃o,dz H3 a y o/\Q (o.getD z) H3)->Sf ty tx σ x H1 Q
def Sg (td c tx:TE):TE:=λ a H Q=>td a H λx b=>Sf c tx a x b Q
inductive Sh (a:Zs) (y:V) (H:Hp) (Q:VK):Prop
 |mk (kvs:List (Key×V)) (k:Key) (v:V):H a\.dK kvs->y=kV k->bA kvs k\v->Q v (upd H a (.dK (fw kvs k)))->Sh a y H Q
def Si (td e:TE):TE:=λ c H Q=>td c H λx b=>EL x b λa=>e c b λy d=>Sh a y d Q
inductive Lc (a:Zs) (y z:V) (H:Hp) (Q:VK):Prop
 |mk (kvs:List (Key×V)) (k:Key):H a\.dK kvs->y=kV k->(∀v,bA kvs k\v->Q v (upd H a (.dK (fw kvs k))))->(bA kvs k=none->Q z H)->Lc a y z H Q
def Sj (td e tx:TE):TE:=λ b H Q=>td b H λx c=>EL x c λa=>e b c λy d=>tx b d λz f=>Lc a y z f Q
section
variable {X:Cx}{o e f:Expr}{apos cP:Pos}{td ty tx:TE}
def A6 (v:X.A.units+ 1<cLine)(q:PE X o td)(C:PE X e ty)(m:M1 X o "get" apos e cP):PE X (.Call (.Attribute o "get" apos) [e] [] cP) (Se td ty):=by
 intro b s j H Q I h;rwa[ak2 m.base m.few m.line aj4 akA PySem.F.type_dict_get (bp (q b s j H _ I h) λu w ζ=>?_)];let⟨x,t,i,z,a,ex,d,n⟩:=ζ;subst ex;obtain rfl:u=Value.ref a:=z;let⟨r,k,_⟩:=mE i d;erw[r,k];rw[m.trees];rwa[ajU rfl (ako (ajL (bp (C b w j t _ i n) λL F ζ=>?_)))];let⟨y,B,p,A,G,g,D⟩:=ζ;rwa[akg ?_];rwa[Sb v p g A λE J l c=>⟨_,B,l,c,D⟩]
def mF (D:X.A.units+ 1<cLine)(A:PE X o td)(M:PE X e ty)(w:PE X f tx)(m:M2 X o "get" apos e f cP):PE X (.Call (.Attribute o "get" apos) [e,f] [] cP) (Sg td ty tx):=by
 intro b s i H Q I h;rwa[ak2 m.base m.few m.line aj4 akA PySem.F.type_dict_get (bp (A b s i H _ I h) λu E ζ=>?_)];let⟨x,C,j,F,a,ex,d,r⟩:=ζ;subst ex;obtain rfl:u=Value.ref a:=F;let⟨B,k,_⟩:=mE j d;erw[B,k];rw[m.trees]
 rwa[ajU rfl (ako (ajL (bp (M b E i C _ j r) λT q ζ=>?_)))];let⟨y,L,v,G,N⟩:=ζ;rwa[ ajL (bp (w b q i L _ v N) λU S ζ=>?_)];let⟨z,n,p,J,R,g,t⟩:=ζ;rwa[akg ?_]
 rwa[Sd D p g G J λP O l c=>⟨_,n,l,c,t⟩]
def Ld (t:PE X o td)(D:PE X e ty)(m:M1 X o "pop" apos e cP):PE X (.Call (.Attribute o "pop" apos) [e] [] cP) (Si td ty):=by
 intro b s i H Q I h;rwa[ak2 m.base m.few m.line aj4 alk PySem.F.type_dict_pop (bp (t b s i H _ I h) λu A ζ=>?_)];let⟨x,z,g,B,a,ex,d,q⟩:=ζ;subst ex;obtain rfl:u=Value.ref a:=B;let⟨w,j,_⟩:=mE g d;erw[w,j];rw[m.trees];rwa[ajU rfl (ako (ajL (bp (D b A i z _ g q) λO L ζ=>?_)))];let⟨y,M,r,C,n,k,v,F,E,l,G⟩:=ζ;rwa[akg ?_];subst E;rwa[Nu r F C l (.inl rfl) λJ N p c=>⟨v,_,p,c,G⟩]
def uE (G:PE X o td)(S:PE X e ty)(F:PE X f tx)(m:M2 X o "pop" apos e f cP):PE X (.Call (.Attribute o "pop" apos) [e,f] [] cP) (Sj td ty tx):=by
 intro b s j H Q I h;rwa[ak2 m.base m.few m.line aj4 alk PySem.F.type_dict_pop (bp (G b s j H _ I h) λu N ζ=>?_)];let⟨x,L,n,O,a,ex,d,C⟩:=ζ;subst ex;obtain rfl:u=Value.ref a:=O;let⟨J,t,_⟩:=mE n d;erw[J,t];rw[m.trees]
 rwa[ajU rfl (ako (ajL (bp (S b N j L _ n C) λZ B ζ=>?_)))];let⟨y,R,E,q,V⟩:=ζ;rwa[ ajL (bp (F b B j R _ E V) λU Y ζ=>?_)];let⟨z,A,p,P,c,k,r,T,D,M⟩:=ζ;rwa[akg ?_]
 subst T
 cases l:bA c k with
 |some v=>exact Nu p r q l (.inr ⟨U,2⟩) λW w g i=>⟨v,_,g,i,D v l⟩
 |none=>exact RW p r q l λw g=>⟨z,A,g,P,M l⟩
end
section
variable {X:Cx}{pins:List (Zs×Obj)}{σ:St}{H:Hp}{s:Zu}{h':Heap}
def Inv.A7 {fp:Zn}{o:HO}{t':Nat}(I:Inv X pins σ H s)(k:∀b u,b∉fp->s•b\u->h'.get? b\u)(f:∀b∈fp,pT X pins H b)
 (h:↥s<=a) (new:b9 X.prog X.w (upd H a o) h' a o):Inv X pins σ (upd H a o) { s with heap:=h',toks:=t' }:=by
 let g:=I.aP.fresh h;let i:∀b u,H b\u->b∉fp:=λb u e z=>by rw[(f b z).1]at e;ext e
 refine I.step (g':=s.gens) (d':=s.drawn) (ch:=fp) (λb d=>⟨(f b d).2.2.2.1,(f b d).2.1,(f b d).2.2.2.2.1,(f b d).2.2.2.2.2⟩) (λb o _ _ hc e _=>k b o hc e) (λb o _ _ hc e _=>⟨o.slots,k b o hc e⟩)
  (λb o _ e n=>[ak (ajm (ajk (ai9 e) h))]▸n) (λb o hc e=>⟨o,k b o hc e⟩) (λb l e=>[ak (aw e g)]▸e)
  (λb o u e=>[ak (aw e g)]▸e) (λb x e=>⟨#[],by rw[ak (aw e g),e];simp⟩) (λm t=>?_) (λb u e=>?_) I.bare
 ·let⟨o,p,w,j,r⟩:=t;rwa[o,p,w,k _ o (λz=>(f _ z).2.1 rfl) j,r]
 ·cases d:b=a
  ·subst d;rw[aj]at e;ext e;rwa[new]
  ·rw[ak d]at e;refine(I.aP b u e).fE (λc v hc q=>k c v ?_ q) (λc q=>[ak (aw q g)]▸q) λc l q=>by rw[ak (aw q g)];rwa[q]
   rcases hc with z|z
   ·rw[z];rwa[i b u e]
   ·rwa[i c _ z]
end
namespace En
section
variable {prog:Program}{w:World}{A:Around}{E:Zt->Zu->Prop}{s:Zu}
theorem Ib {it:Zs}{fp:Zn}{P:Nat->Zt->Prop}{St:Nat->Heap->Prop}{Q:Zl->Zu->Prop}(D:Draws prog w A.in1 it fp n P St)
 (he:IsEnum s.heap a it z v) (Ic:St i s.heap) (lS:i<n) (tX:a≠it) (XC:a∉fp)
 (hQ:∀x h' I,P i x->IsEnumOut h' a it (z+ 1) x ↥s->St (i+ 1) h'->h'.get? ↥s\("tuple">>>.seq #[.int z I,x])->
  (∀b o,b≠a->b≠it->s•b\o->h'.get? b\o)->Q (some ↑↥s) { s with heap:=h',toks:=I+ 1 }):
 (prog<|>w) A (pyNext ↑a) Q E s:=by
 let hT:s.TypeIs ↑a "enumerate":=⟨_,he,2⟩;unfold pyNext;rwa[aiK (wpAny_attempt (aj3 (name:=Str.ofString "__next__") hT F.slot_enumerate_next (akb F.slot_enumerate_next hT F.entry_enumerate_next ?_ (F.args_enumerate_next_1 _))))];let⟨U,g,d,ahl,os⟩:=s;show wpAny _ _ (field ↑a 2 >>=_) _ _ _;rwa[aiK (ajS he rfl (x:=↑it) rfl (aiK (D.item i _ _ _ lS Ic λx j I hPx N h=>?_)))];replace h:Heap.SameBut it U j:=h;let r:IsEnum j a it z v:=(h.2 a tX).trans he;show wpAny _ _ (field ↑a 3 >>=_) _ _ ⟨j,g,d,I,os⟩;rwa[aiK (ajS r rfl (x:=rawInt z) rfl ?_)];show wpAny _ _ (field ↑a 4 >>=_) _ _ ⟨j,g,d,I,os⟩;rwa[aiK (ajS r rfl (x:=.none) rfl ?_)];show wpAny _ _ (mkInt z >>=_) _ _ ⟨j,g,d,I,os⟩;rwa[aiK (wpAny_mkInt ?_)];show wpAny _ _ (setField ↑a 3 (rawInt (z+ 1)) >>=_) _ _ ⟨j,g,d,I+ 1,os⟩;rwa[aiK (aj1 r (by simp) λH t f=>?_)];replace f:Heap.SameBut a j H:=f;replace t:IsEnum H a it (z+ 1) v:=t;show wpAny _ _ (setField ↑a 4 .none >>=_) _ _ ⟨H,g,d,I+ 1,os⟩;rwa[aiK (aj1 t (by simp) λl u e=>?_)];replace e:Heap.SameBut a H l:=e;replace u:IsEnum l a it (z+ 1) v:=u;show wpAny _ _ (newTuple [.int z I,x] >>=_) _ _ ⟨l,g,d,I+ 1,os⟩;rwa[aiK (wpAny_newTuple ?_)];let B:IsEnum (l.push ("tuple">>>.seq #[.int z I,x])) a it (z+ 1) v:=aiM _ u;generalize C:l.push ("tuple">>>.seq #[.int z I,x])=G at B;let Z:l.objs.size=U.objs.size:=by rw[e.1,f.1,h.1]
 let X:a<U.objs.size:=ai9 he;let Wu:G.get? U.objs.size\("tuple">>>.seq #[.int z I,x]):=by rw[<-C,<-Z];rwa[ai2 _ rfl]
 let V:∀b o,b≠a->b≠it->U.get? b\o->G.get? b\o:=λb o c Y W=>by
  rw[<-C];rwa[aiM _ (e.extBut b o c (f.extBut b o c (h.extBut b o Y W)))]
 let T:St (i+ 1) G:=D.frame _ _ _ N λb W o y=>by
  let c:b≠a:=λq=>XC (q ▸ W)
  rw[<-C];rwa[aiM _ (e.extBut b o c (f.extBut b o c y))]
 show wpAny _ _ (Builtin.SmallTypes.ownedTupleIsFree ↑a >>=_) _ _ ⟨G,g,d,I+ 1,os⟩;rw[Z];clear C u e t f r h N Z l H j;rwa[aiK ?_];unfold Builtin.SmallTypes.ownedTupleIsFree;rwa[aiK (ajS B rfl (x:=.none) rfl (aiU ?_))];simp only[amh];rwa[aiK (al0 (aiK (ajS B rfl (x:=v) rfl (aiK (aj1 B (by simp) λO M m=>?_)))))];replace m:Heap.SameBut a G O:=m;replace M:IsEnum O a it (z+ 1) x:=M;show wpAny _ _ (Builtin.SmallTypes.ownedTupleHandOut ↑a ↑U.objs.size >>=_) _ _ ⟨O,g,d,I+ 1,os⟩;rwa[aiK ?_];unfold Builtin.SmallTypes.ownedTupleHandOut;rwa[aiK (aj1 M (by simp) λR L p=>?_)];replace p:Heap.SameBut a O R:=p;replace L:IsEnumOut R a it (z+ 1) x U.objs.size:=L;rwa[aj1 L (by simp) λS J k=>?_]
 replace k:Heap.SameBut a R S:=k;replace J:IsEnumOut S a it (z+ 1) x U.objs.size:=J;rwa[aiK (al3 (aiU ⟨12,aiU (hQ x S I hPx J ?_ ?_ ?_)⟩))]
 ·exact D.frame _ _ _ T λb W o y=>by
   let c:b≠a:=λq=>XC (q ▸ W)
   rwa[k.extBut b o c (p.extBut b o c (m.extBut b o c y))]
 ·rwa[k.extBut _ _ (aj2 X) (p.extBut _ _ (aj2 X) (m.extBut _ _ (aj2 X) Wu))]
 ·rwa[λb o c Y W=>k.extBut b o c (p.extBut b o c (m.extBut b o c (V b o c Y W)))]
def PF {T newId:String}{self a:Zt}{kw:List (Str×Zt)}(f:typeLookup (.type T) "__init__"=pure (some (.builtin "object.__init__")))(e:Bind.madeBy (.type T)=pure (some newId))(c:(some newId !=some "object.__new__")=true):
 Meets (Builtin.«object.__init__» ⟨[self,a],kw⟩) (λ_ R s=>s.TypeIs self T/\R (.ok (.ret .none)) s):=by
 rwa[Meets.of_wp λprog w A R s d=>?_]
 let⟨g,b⟩:=d
 repeat (any_goals (first|assumption|wp_step))
 rwa[12,b]
def Wv (a b:Zt):checkTypeCall "enumerate" ⟨[a],[("start",b)]⟩=pure ():=by kernel_rfl
def Ww (a b:Zt):checkBuiltinCall "enumerate.__new__" ⟨[.type "enumerate",a],[("start",b)]⟩=pure ():=by kernel_rfl
theorem Wx (a b c:Zt):argsOk "object.__init__" ⟨[a,b],[("start",c)]⟩:=by
 unfold argsOk;rw[signature?_of (id:="object.__init__") (n:=['_','_','t','i','n','i','_','_']) (o:=['t','c','e','j','b','o']) (by kernel_rfl) F.owner_object]
 kernel_rfl
end
end En
inductive Wy (t:TT) (σ:St) (H:Hp) (Q:(Bool->Hp->Prop)):Prop
 |mk (G:Bool->Hp->Prop):t σ H G->(∀c H',G c H'->Q c H')->Wy t σ H Q
def CXw (P:Program)(w:World):lQ:=λa H s E e c=>∃(x C:Zs) (B:Heap) (d:Hp) (f:Zt),e=↑x/\c.os=s.os/\AllBare c.gens/\Heap.FlyingW B a x ↑C f c.heap/\
 Un (cS a) [] H d s.heap c.heap/\dC P w d B/\(∀b o,s•b\o->H b=none->b∉cS a->B.get? b\o)/\(∀b o,s•b\o->b∉cS a->∃g,B.get? b\g)/\E ↑C none d
section
variable {X:Cx}{pos:Pos}
abbrev TJ:=St->Hp->Zh->VK->Prop
def PJ (X:Cx)(c:Zr)(t:TJ):Prop:=
 ∀(a:List (Zs×Obj)) (s:Zu) (b:St) (H:Hp) (acc:Zh) (Q:VK),Inv X a b H s->t b H acc Q->X⁻¹ X.A (joinParts (tx acc) (evalEach c X.env)) (EP X a b Q) X.xe s
def Sl:PJ X [] (λ b H acc Q=>⇑acc<=1000000/\Q (.str (tx acc)) H):=λa s b H acc Q I h=>
 joinParts_nil ⟨.str (tx acc),H,I.tok _,⟨12⟩,h.2⟩ ([HV]▸ai0 h.1 ⋯)
def ER {t:TJ}(n:PE X e r)(i:PJ X C t)(k:evalEach (e::C) X.env=eval e X.env::evalEach C X.env:=by rfl):
 PJ X (e::C) (λ c H acc Q=>r c H λv d=>∃l,v=.str (tx l)/\⇑acc+ ⇑l<=1000000/\t c d (acc++l) Q):=by
 intro b s c H acc Q I h;rw[k];rwa[joinParts_cons (bp (n b s c H _ I h) λv j ζ=>?_)];let⟨x,d,f,a,l,m,g,q⟩:=ζ;subst m;let⟨o,rfl⟩:=a;erw[5]
 ·rw[HX,HV,aiP];rwa[ai0 g ⋯]
 ·rw[HX];rwa[i b j c d (acc++l) Q f q]
def Ie {b:Expr}{t:TJ}(h:PJ X (e::b::C) t)(d:evalEach (e::b::C) X.env=eval e X.env::eval b X.env::evalEach C X.env):PE X (.JoinedStr (e::b::C) pos) (λ c H Q=>t c H [] Q):=by
 intro a s c H Q I q;rwa[JoinedStr_many ?_];have:=h a s c H [] Q I q;rw[d]at this;rwa[this]
def PH (j:PE X e r):PE X (.FormattedValue e (-1) none pos) (λ d H Q=>r d H λv c=>∃n:Int,v=.int n/\n.natAbs<10000000000/\Q (.str (tx (A0 n))) c):=by
 intro b s d H Q I h;rwa[FormattedValue_plain (bp (j b s d H _ I h) λv l ζ=>?_)];let⟨x,c,f,a,n,i,g,q⟩:=ζ;subst i;let⟨k,rfl⟩:=a;rwa[formatField_int_small (HY g) ?_];rwa[.str (tx (A0 n)),c,f.tok _,⟨_,by rw[Wn (toString n:Str)];rfl⟩,q]
abbrev A8:Zk:=[.type "ValueError",.type "Exception",.type "BaseException",.type "object"]
end
def b9.get {o:HO}(x:b9 P w H h a o):∃u,h.get? a\u:=by
 cases o with
 |lst c=>let⟨_,_,_,_,e⟩:=x;rwa[_,e]
 |tup c=>let⟨_,_,_,ob,e,_⟩:=x;rwa[_,e]
 |dK b=>let⟨_,_,_,_,o,_,_,e,_⟩:=x;rwa[_,e]
 |dT b=>let⟨_,_,_,_,o,_,_,e,_⟩:=x;rwa[_,e]
 |set S n=>let⟨o,_,_,_,e,_⟩:=x;rwa[_,e]
 |ins C dx fs=>let⟨_,_,_,e,_⟩:=x;rwa[_,e]
 |own y=>exact x
 |xd fs=>let⟨_,⟨_,_,_,e,_⟩,_⟩:=x;rwa[_,e]
 |fH lo i=>let⟨_,_,_,e⟩:=x;rwa[_,e]
 |cz ob u=>let⟨e,_⟩:=x;rwa[_,e]
 |fI d=>rwa[_,show h.get? a=some _ from x]
 |met f y=>rwa[_,show h.get? a=some _ from x]
 |ext g=>let⟨_,e,_⟩:=x;rwa[e]
def Ge (x C:Zs)(h:Heap):Prop:=∃a b,h.get? x\a/\a.cls=↑C/\a.data=.fields b
noncomputable def ExO (x C:Zs):HO:=.ext (Ge x C)
def Thr (X:Cx)(a:List (Zs×Obj))(g:St)(d:Hp)(x C:Zs)(s:Zu):Prop:=
 ∃(B:Heap) (c:Hp) (s1:Zu) (e:Zt),Inv X a g c s1/\s.os=s1.os/\AllBare s.gens/\Heap.FlyingW B X.stack x ↑C e s.heap/\Un (cS X.stack) [] c d s1.heap s.heap/\dC X.prog X.w d B/\
  (∀b o,s1•b\o->c b=none->b∉cS X.stack->B.get? b\o)/\(∀b o,s1•b\o->b∉cS X.stack->∃f,B.get? b\f)
section
variable {X:Cx}{pins:List (Zs×Obj)}{σ:St}{x:Zs}{s:Zu}
def Inv.Nw {s1:Zu}(I:Inv X pins σ H s1){b:Zs}(c:b∈cS X.stack):∃o,s1•b\o/\∀a,o.data≠.fields a:=by
 let⟨_,o,e,n⟩:=I.stack.mem c;rwa[o,e,n]
abbrev Cx.y6 (X:Cx) (x:Zs):Cx:={ X with A:=X.A.mark (some ↑x),calm:=false,xe:=λ_ _=>False }
def Inv.y6 (I:Inv X pins σ H s)(x:Zs):Inv (X.y6 x) pins σ H s:=
 ⟨⟨I.ok.mod,I.ok.kind,I.ok.glob,I.ok.blt,I.ok.above,I.ok.inj,I.ok.has,I.ok.Ax,(λz=>by ext z),I.ok.frames,I.ok.Eo,I.ok.M0,I.ok.bs,I.ok.qV,I.ok.ux,I.ok.xK,I.ok.jn,I.ok.tO⟩,I.os,I.bare,I.base,I.loc,I.cell,I.free,I.gR,I.pin,I.aP,I.len⟩
def Inv.Ap (ok:X.Ok)(I:Inv (X.y6 x) pins σ H s):Inv X pins σ H s:=⟨ok,I.os,I.bare,I.base,I.loc,I.cell,I.free,I.gR,I.pin,I.aP,I.len⟩
def sU {M:Model}(I:Inv X pins σ H s)(Z:X.N.Nodup)(L:X.N[i]?\f)(n:X.env.scope.names.lookup f=some .local)
 (h:∀G,Inv X pins (σ.set i none) H G->U () G):wpAny M A (do bindName X.env f .none;unbindBehindTheSuite X.env f p) U E s:=by
 let⟨m,V,T⟩:=id I.loc;let u:(X.env.scope.kind==.class || (X.env.scope.kind==.module && X.env.locals !=X.env.globals))=false:=by rw[I.ok.kind];rfl
 let t:i < ⇑σ:=by rw[I.len];rwa[(aiO.mp L).1]
 rwa[wpAny_nameGoes_keeps n V u λh' v D l=>?_]
 let g:∀b o,X.eK.heap.get? b\o->b≠X.env.locals:=λb o e=>ajm (ajk (ai9 e) I.ok.above)
 rwa[h _ ⟨I.ok,I.os,I.bare,⟨λb o e k B n=>(l.2 b (g b o e)).trans (I.base.keep b o e k B n),λb o e k B n=>?_,I.base.free,λb o e n=>?_,I.base.iq,I.base.gQ,I.base.iw⟩,⟨_,D,λj y O r w Y=>?_⟩,λy c e=>?_,I.free,I.gR,λa S=>?_,λb Q e=>?_,by simpa using I.len⟩]
 ·let⟨P,r⟩:=I.base.slot b o e k B n;rwa[P,(l.2 b (g b o e)).trans r]
 ·let⟨W,r⟩:=I.base.there b o e n;rwa[W,(l.2 b (g b o e)).trans r]
 ·cases F:j=i
  ·subst F;rw[ajv t]at w;ext w
  ·rw[ajO (ajR F)]at w;let⟨R,N,q⟩:=T j y O r w Y;erw[R,N];rcases q with ⟨k,e⟩|⟨k,c,e,z⟩
   ·rwa[.inl ⟨k,?_⟩];have:y≠f:=λe=>F (uy Z r (e ▸ L))
    simp[this,e]
   ·rwa[.inr ⟨k,c,e,z.sameBut l (I.lP y c e)⟩]
 ·let⟨J,z⟩:=I.cell y c e;rwa[J,z.sameBut l (I.lP y c e)]
 ·let⟨e,k,ne,nf,d⟩:=I.pin a S;rwa[(l.2 a.1 ne).trans e,k,ne,nf,d]
 ·rwa[(I.aP b Q e).fE (λc J hc q=>(l.2 c ?_).trans q) (λ_ q=>q) λ_ _ q=>q]
  rintro rfl;rcases hc with rfl|hc
  ·rw[I.free]at e;ext e
  ·rw[I.free]at hc;ext hc
end
abbrev XR:=Zs->St->Hp->Prop
def XP (X:Cx)(a:List (Zs×Obj))(R:XR)(e:Zt)(s:Zu):Prop:=∃x C b H,e=↑x/\Thr X a b H x C s/\R C b H
abbrev TH:=Ends->Zs->St->Hp->Prop
def Ge.Wz {M:Model}{x:Zs}(p:Ge x a h):PySem.W.Looks M h (typeOf ↑x) ↑a:=by
 let⟨o,_,c,b,_⟩:=p;rwa[b ▸ (PySem.W.Looks.ld c).andThen .now]
end L2
namespace L2
open PySem PySem.Spec PyProof.Rows PySem.Calls PySem.W Builtin Builtin.ObjectAttr Builtin.Getset_descriptor
structure aa9 (K:Za1) (C:Zs):Prop where
 ga:findIn K ↑C "__getattribute__"=some (some (.builtin "BaseException.__getattribute__"))
 gt:findIn K ↑C "__getattr__"=some none
 cl:isClsIn K C=true
 at_:findIn K ↑C "__class__"=some (some (.builtin "object.__class__"))
 gs:specialIn K (.builtin "object.__class__") "__get__"=some (some (.builtin "getset_descriptor.__get__"))
 tk:takesIn K (.builtin "object.__class__")\true
 mo:mroIn K C (.type "object")\true
 be:subIn K ↑C (.type "BaseException")\true
section
variable {A:Around}{E:Zt->Zu->Prop}{x C:Zs}
theorem Ig {M:Model}{g:Array GenState}{d:Drawn}{t:Nat}{os:OsState}(e:Looks M h (typeOf ↑x) ↑C)(b:Looks M h (isSubtype ↑C (.type "BaseException")) true)(f:U () ⟨h,g,d,t,os⟩):
 wpAny M A (checkBuiltinCall "BaseException.__getattribute__" ⟨[↑x,v],[]⟩) U E ⟨h,g,d,t,os⟩:=by
 let a:builtinKind "BaseException.__getattribute__"=some .slot:=⋯
 let hsplit:splitId "BaseException.__getattribute__"=some ("BaseException","__getattribute__"):=⋯
 let i:=F.args_bexc_ga ↑x v;let c:Looks M h (isInstance ↑x (.type "BaseException")) true:=e.andThen b;simp only[checkBuiltinCall,a,hsplit];rwa[aiK (c.at ?_)]
 repeat (any_goals (first|assumption|wp_step))
end
def vOf:V->Zl
 |.ref a=>some ↑a
 |.ty n=>some (.type n)
 |_=>none
end L2
namespace L2
open PySem PySem.Spec PyProof.Rows
section
variable {P:Program}{w:World}{K:Za1}{mg:Str->Zl}{base:Heap}
theorem qY.okN {h:lQ}{qual:Str}{st:Stmt}{fd:FuncData}{e:Zp}{k:Nat}{sp:Sp}(F:qY K x qual st a fd)(S:aS Z e (az st))(len:∀c H Q E,sp c H Q E->⇑c=⇑e)
 (d:∀(b:Zt) (A:Around) (outer:Zq) (s:Zu) (H:Hp) (c:Zb) (Q:VK) (E:XK),cL k (A.deeper (envOfC qual (az st) ↥s a b))->sp c H Q E->
  ∃t,jz (cM h P w K mg base Z qual (az st) a b A outer s H E).tQ (cQ st) t/\t { nx:=λ_ m=>Q .non m,rt:=Q } (start Z c) H):dy P w K mg base h (k+ 1) a fd e sp:=by
 let⟨o,q,kV,doc,pm,p,b,ct,n,rfl,lk,g⟩:=F.ex;rwa[Ao lk g S len λA outer s H c Q E l f=>?_]
 let⟨t,j,i⟩:=d b A outer s H c Q E l f;rwa[t,j.tQ,i]
end
def Le (k:TT)(g:TE)(e:St)(Q:VK)(J:It)(h:Hp):Prop:=∃W:Nat->Nat->Zb->Hp->Prop,(∃m,W 0 m [] h)/\∀i m ys a,W i m ys a->
 (J.stop i a/\⇑ys<=sizeLine/\∀D,a D=none->Q ↑D (upd a D (.lst ys)))\/
 (J.go i a/\⇑ys<sizeLine/\∀x f,J.tR i a x f->k (some x::e) f λb d=>match b with
  |true=>g (some x::e) d λy j=>∃c,c<m/\W (i+ 1) c (ys++[y]) j
  |false=>∃c,c<m/\W (i+ 1) c ys d)
def oQ (b:TI)(e:St->St)(d:TT)(c:TE):TE:=λ a H Q=>b a H (Le d c (e a) Q)
end L2
namespace L2
open PySem PySem.Spec PyProof.Rows
def Lf {x:Int}(b:0<=x)(a:x<=100000):¬(!Builtin.List.listFitsIndex x)=true:=by
 have:Builtin.List.listFitsIndex x=true:=by
  unfold Builtin.List.listFitsIndex;simp;ext
 cbv
noncomputable def Sn (x:Int)(a:Zt):Zm->Zm:=λxs=>have k:=if x<0 then (x+ ((xs.size:Nat):Int)).toNat else min x.toNat xs.size;(xs.extract 0 k).push a++xs.extract k
def Ih (l:Zs)(a:Zk)(n:Nat)(x:Int)(t:Tok)(b:Zt)(e:0<=x)(d:x<=100000)(c:a.toArray.size<=sizeLine):
 Meets (Builtin.«list.insert» ⟨[↑l,.int x t,b],[]⟩) (λ_ R s=>s•l\{ cls:=.type "list",dict:=none,data:=.seq a.toArray n,slots:=#[] }/\R (.ok (.ret Value.none)) { s with heap:=s.heap.update l (Obj.mapSeq (Sn x b)),toks:=s.toks }):=
 PySem.AutoListH.list_insert_list_int_val_1 l a.toArray n x t b (Lf e d) c
def PL {w':Zt}(b:i<=⇑N):Sn (i:Int) w' N.toArray=(N.take i++[w']++N.drop i).toArray:=by
 let a:(if (i:Int)<0 then ((i:Int)+ ((N.toArray.size:Nat):Int)).toNat else min (i:Int).toNat N.toArray.size)=i:=by
  rw[ajb ∅,ai8,ajq];ext
 show (N.toArray.extract 0 (if (i:Int)<0 then ((i:Int)+ ((N.toArray.size:Nat):Int)).toNat else min (i:Int).toNat N.toArray.size)).push w'++N.toArray.extract (if (i:Int)<0 then ((i:Int)+ ((N.toArray.size:Nat):Int)).toNat else min (i:Int).toNat N.toArray.size)=_;rw[a];apply Array.ext';simp[List.extract_eq_take_drop];rwa[akN ([ajM]▸aiS _)]
section
variable {X:Cx}
inductive EV (x:V) (vs:Zb) (H:Hp) (Q:VK):Prop
 |mk (l:Zs) (xs:Zb) (i:Nat) (y:V):x=↑l->vs=[.int i,y]->H l\.lst xs->⇑xs<sizeLine->i<=⇑xs->i<=100000->Q .non (upd H l (.lst (xs.take i++[y]++xs.drop i)))->EV x vs H Q
theorem xY:EF X "list.insert" EV:=by
 intro j s L H x D v N Q I w o h;let⟨l,xs,i,y,rfl,rfl,g,p,G,m,q⟩:=h;ext w;let⟨u,b,rfl,⟨t,rfl⟩,A⟩:=vals2 o;let⟨z,a,n,r,E,e⟩:=I.pW g;let rl:=⇑r
 let c:a.toArray.size<=sizeLine:=by
  rw[ai8,<-rl];rwa[akz p]
 let B:Vals (xs.take i++[y]++xs.drop i) (a.take i++[b]++a.drop i):=((r.take i).append (.cons A .nil)).append (r.drop i)
 let hlen:⇑(xs.take i++[y]++xs.drop i)<=sizeLine:=by
  simp only[aiP,ajs,ajM,ajf,akm];ext
 let J:=I.AU (t':=s.toks) g e (PL (w':=b) (show i<=⇑a by omega)) B hlen;let d:(0:Int)<=(i:Int):=Int.natCast_nonneg i;let f:(i:Int)<=100000:=∅
 change (i:Int)=k at d f J ⊢;let M:=Ih l a n k t b d f c;rwa[alH F.slot_list_insert ⟨_,e,2⟩ F.entry_list_insert (F.args_list_insert_3^_) M ⟨e,5⟩];rwa[.non,_,J,2,q]
end
end L2
namespace L2
open PySem PySem.Spec PyProof.Rows
def mG (h:n∈B):∃i:Nat,B[i]?\n/\∀j,j<i->B[j]?≠some n:=by
 induction B with
 |nil=>ext h
 |cons a B b=>
  cases e:a=n
  ·rwa[(0),by rw[e];rfl,λj c=>∅]
  ·let⟨i,f,d⟩:=b ((ai3.mp h).resolve_left (ajR e));rwa[⟨i+ 1,f,λj c=>?_⟩]
   cases j with
   |zero=>exact λz=>e (Za0 z)
   |succ j=>exact d j ∅
section
variable {X:Cx}
inductive Nx (x:V) (y:V) (H:Hp) (Q:VK):Prop
 |mk (a b:Zs) (ns ms:Zg):x=↑a->y=↑b->H a\.lst (aq ns)->H b\.lst (aq ms)->Q (.bl (decide (ns=ms))) H->Nx x y H Q
def PN (i:X.A.units<cLine):fB X (compareOp .Eq) Nx:=by
 intro k s D H x y v u Q I w A h;let⟨a,b,ns,ms,rfl,rfl,B,p,q⟩:=h;ext w;ext A;let⟨r,d,f,_⟩:=I.list (aD.of B);let⟨m,l,c,_⟩:=I.list (aD.of p);let n:=⇑d;let C:=⇑l;rw[aI]at n C;cases g:⇑ns=⇑ms
 ·rwa[SeqAt.eq_listAt (e:=λj=>decide (ns[j]?=ms[j]?)) f.isList c.isList (by cbv) i (λj t o=>sS d l j t o) ⟨.bl (decide (ns=ms)),H,I,5,q⟩];show _=Value.bool (decide (ns=ms))
  congr 1
  rw[<-all_eq,ai8,<-n];simp[g]
 ·let e:decide (ns=ms)=false:=ajx (λz=>g (by rw[z]));rw[e]at q;rwa[SeqAt.eq_list_lengthsAt f.isList c.isList ?_ i ⟨.bl false,H,I,2,q⟩]
  cbv
end
noncomputable def fH (lo:Int)(n:Nat):Zg:=(~~~n).map λi:Nat=>lo+ (i:Int)
def oR (lo:Int)(n:Nat):⇑(fH lo n)=n:=by unfold fH;cbv
def Sq {lo:Int}(h:i<n):(fH lo n)[i]?\(lo+ (i:Int)):=by
 unfold fH;rw[ai6,alC h];rfl
theorem A9:∀(zs:Zg) (us:Zk),⇑us=⇑zs->(∀(i:Nat) (z:Int) (u:Zt),zs[i]?\z->us[i]?\u->∃t,u=.int z t)->Vals (aq zs) us
 |[],[],_,_=>.nil
 |z::zs,u::us,a,h=>.cons (h 0 z u rfl rfl) (A9 zs us (by simpa using a) λi z u c b=>h (i+ 1) z u c b)
 |[],_::_,a,_=>by simp at a
 |_::_,[],a,_=>by simp at a
def Gh {lo:Int}{acc:Zm}(h:ItemsOf (λi v=>∃t,v=Value.int (lo + (i:Int)* 1) t) acc n):Vals (aq (fH lo n)) acc.toList:=by
 rwa[A9 _ _ ?_ λi z u a b=>?_]
 ·rw[oR,akI];rwa[h.1]
 ·let c:i<n:=by
   have:=(aiO.mp a).1;rw[oR]at this;rwa[this]
  rw[Sq c]at a;let⟨t,e⟩:=h.2 i u (by rw[<-aki];rwa[b]);rwa[t,by rw[e,<-Za0 a,Int.mul_one]]
section
variable {X:Cx}{a:Expr}{ta:TA}{p p2 pos xZ:Pos}
def abb (ta:TA):TE:=λ e H Q=>ta e H λd c=>∃j:Nat,d=[.int j]/\j<=10000/\∀l,c l=none->Q ↑l (upd c l (.lst (aq (fH 0 j))))
def list_range {Q:VK}{lo:Int}{t u v:Tok}(k:X.calm=true)(I:Inv X o D H s)(A:0<=lo)(m:lo<=10000)(B:0<=z)(y:z<=10000)
 (q:∀l,H l=none->Q ↑l (upd H l (.lst (aq (fH lo (z - lo).toNat))))):X⁻¹ X.A (call (.type "list") [↑↥s]) (EP X o D Q) X.xe { s with heap:=s.heap.push ("range">>>.fields #[.int lo t,.int z u,.int 1 v]),toks:=n }:=by
 let i:Inv X o D H { s with heap:=s.heap.push ("range">>>.fields #[.int lo t,.int z u,.int 1 v]),toks:=n }:=I.kept λb c e=>aiM _ e
 let g:Builtin.Range.rangeSize lo z 1=(((z - lo).toNat:Nat):Int):=by rw[rangeSize_one];split <;> ext
 rwa[call_list_range (n:=(z - lo).toNat) (I.ok.hd k) (IsRange.new ..) (small_one ∅ ∅ ∅ ∅) g ∅ λx h f j kp w hit=>?_]
 rwa[⟨↑_,_,i.laid (t':=h) (o:=.lst (aq (fH lo (z - lo).toNat))) kp (aiS _) ⟨5,f.toList,j,Gh hit,5⟩,2,q _ (i.aP.fresh (aiS _))⟩]
 ·rw[aI,oR];rwa[ai0 (show (z - lo).toNat<=10000 by omega) ⋯]
 ext
def qy (x:X.calm=true)(g:Gl X "list")(f:X.mg "list"=none)(k:Gl X "range")(v:X.mg "range"=none)(w:PA X [a] ta)(o:starEach [a] X.env=[(false,eval a X.env)]:=by rfl)
 (d:starEach [.Call (.Name "range" p) [a] [] pos] X.env=[(false,eval (.Call (.Name "range" p) [a] [] pos) X.env)]:=by rfl):PE X (.Call (.Name "list" p2) [.Call (.Name "range" p) [a] [] pos] [] xZ) (abb ta):=by
 intro c s u H Q I h;rwa[ajX (gw I g f boot_list ?_)];rwa[ajH ?_ d rfl];rw[d];show wpAny _ _ (spliced ((false,eval (.Call (.Name "range" p) [a] [] pos) X.env)::backTo xZ [])) _ _ s;rwa[ajL ?_];rwa[Call_ (gw I k v boot_range (ajH (bp (w pos c s u H _ I h) λB A ζ=>?_) o rfl))];let⟨y,z,l,i,m⟩:=ζ;let⟨j,e,C,q⟩:=m;subst e
 cases i with
 |cons r n=>
  ext n;let⟨t,rfl⟩:=r;rwa[call_range_1 (akg ?_)];rwa[list_range x l ∅ ∅ ∅ ∅ (by simpa using q)]
end
def dw (H:Hp)(rs:Zn)(rows:Za3):Prop:=⇑rs=⇑rows/\∀(i:Nat) (r:Zs) (a:Zg),rs[i]?\r->rows[i]?\a->H r\(.lst (aq a))
def TabAt (H:Hp)(a:Zs)(rows:Za3):Prop:=∃rs:Zn,H a\.lst (rs.map V.ref)/\dw H rs rows
def dw.same {rs:Zn}{rows:Za3}(h:dw H rs rows)(s:av H I):dw I rs rows:=⟨h.1,λi r ns b a=>s^h.2 i r ns b a⟩
def TabAt.same {rows:Za3}(h:TabAt H a rows)(s:av H I):TabAt I a rows:=by
 let⟨rs,c,b⟩:=h;rwa[rs,s^c,b.same s]
def rh {rs:Zn}:∀{a:Zk},Vals (rs.map V.ref) a->a=rs.map Value.ref:=by
 induction rs with
 |nil=>intro a r;ext r;rfl
 |cons c rs b=>
  intro a r
  cases r with
  |cons e d=>ext e;rw[b d];rfl
def x6 {a:Type} [DecidableEq a]{ns ms:List a}(h:⇑ns=⇑ms):(List.range ⇑ns).all (λj=>decide (ns[j]?=ms[j]?))=decide (ns=ms):=by
 rw[ajQ,List.all_eq_true,ajt];constructor
 ·intro b;rwa[aku λi=>?_]
  cbv
 cbv
section
variable {X:Cx}{pins:List (Zs×Obj)}{σ:St}{H:Hp}{s:Zu}{A:Around}
def PQ (I:Inv X pins σ H s){r q:Zs}{ns ms:Zg}(o:H r\.lst (aq ns))(l:H q\.lst (aq ms))(f:A.units<cLine):SeqAt.RcAt A s ↑r ↑q (decide (ns=ms)):=by
 let⟨m,b,c,_⟩:=I.list (aD.of o);let⟨h,g,a,_⟩:=I.list (aD.of l);let i:=⇑b;let p:=⇑g;rw[aI]at i p;cases d:⇑ns=⇑ms
 ·have:=SeqAt.RcAt.lists (A:=A) (e:=λj=>decide (ns[j]?=ms[j]?)) c.isList a.isList (by cbv) f (λj n k=>sS b g j n k);rw[ai8,<-i,x6 d]at this;ext
 ·let e:decide (ns=ms)=false:=ajx (λz=>d (by rw[z]));rw[e];rwa[SeqAt.RcAt.lists_lengths c.isList a.isList ?_ f]
  cbv
def PR (I:Inv X pins σ H s){r q:Zs}{f d:Zg}(g:H r\.lst (aq f))(c:H q\.lst (aq d))(h:A.units<cLine):SeqAt.EqAt A s ↑r ↑q (decide (f=d)):=by
 cases e:r=q
 ·subst e
  have:f=d:=by
   rw[g]at c;injection c with c
   injection c with c
   unfold aq at c;rwa[(List.map_inj_right (λa b z=>V.int.inj z)).mp c]
  rw[aje this];rwa[SeqAt.EqAt.same _]
 ·rwa[SeqAt.EqAt.of_refs e (PQ I g c h)]
def Gi (I:Inv X pins σ H s){rs a:Zn}{ns ms:Za3}(g:dw H rs ns)(e:dw H a ms)(n:A.units<cLine)(j:Nat)(m:j<(rs.map Value.ref).toArray.size)(i:j<(a.map Value.ref).toArray.size):
 SeqAt.EqAt A s (rs.map Value.ref).toArray[j] (a.map Value.ref).toArray[j] (decide (ns[j]?=ms[j]?)):=by
 let f:j<⇑rs:=by simpa using m
 let c:j<⇑a:=by simpa using i
 let b:j<⇑ns:=by rw[<-g.1];rwa[f]
 let d:j<⇑ms:=by rw[<-e.1];rwa[c]
 let h:(rs.map Value.ref).toArray[j]=↑rs[j]:=by simp
 let o:(a.map Value.ref).toArray[j]=↑a[j]:=by simp
 rw[h,o];let k:=g.2 j rs[j] ns[j] (aiL f) (aiL b);let l:=e.2 j a[j] ms[j] (aiL c) (aiL d);have:=PR (A:=A) I k l n;rw[aiL b,aiL d]
 let p:decide (some ns[j]=some ms[j])=decide (ns[j]=ms[j]):=by
  rw[ajQ,ajt,ajt];rwa[Za0,ajT some]
 rw[p];rwa[this]
end
section
variable {X:Cx}
inductive Ny (x:V) (y:V) (H:Hp) (Q:VK):Prop
 |mk (a b:Zs) (ns ms:Za3):x=↑a->y=↑b->TabAt H a ns->TabAt H b ms->Q (.bl (decide (ns=ms))) H->Ny x y H Q
def PV (w:X.A.units+ 1<cLine):fB X (compareOp .Eq) Ny:=by
 intro k s J H x y v u Q I A B h;let⟨a,b,ns,ms,rfl,rfl,⟨F,E,c⟩,⟨G,o,d⟩,q⟩:=h;ext A;ext B;let⟨p,n,i,_⟩:=I.list (aD.of E);let⟨l,C,g,_⟩:=I.list (aD.of o);let D:=rh n;let t:=rh C;subst D t;cases f:⇑ns=⇑ms
 ·rwa[SeqAt.eq_listAt (e:=λj=>decide (ns[j]?=ms[j]?)) i.isList g.isList (by simp[c.1,d.1,f]) ∅ (λj r m=>Gi I c d w j r m) ⟨.bl (decide (ns=ms)),H,I,5,q⟩];show _=Value.bool (decide (ns=ms));rw[ai8,aiQ,c.1,x6 f]
 ·let e:decide (ns=ms)=false:=ajx (λz=>f (by rw[z]));rw[e]at q;rwa[SeqAt.eq_list_lengthsAt i.isList g.isList ?_ ∅ ⟨.bl false,H,I,2,q⟩];simp[c.1,d.1,f]
inductive WB (x:V) (y:V) (H:Hp) (Q:VK):Prop
 |mk (a b:Zs) (ns ms:Za3):x=↑a->y=↑b->TabAt H a ns->TabAt H b ms->Q (.bl (!decide (ns=ms))) H->WB x y H Q
inductive Nz (x:V) (y:V) (H:Hp) (Q:VK):Prop
 |mk (a b:Zs) (ns ms:Zg):x=↑a->y=↑b->H a\.lst (aq ns)->H b\.lst (aq ms)->Q (.bl (!decide (ns=ms))) H->Nz x y H Q
def EW (i:X.A.units<cLine):fB X (compareOp .NotEq) Nz:=by
 intro k s D H x y v u Q I w A h;let⟨a,b,ns,ms,rfl,rfl,B,p,q⟩:=h;ext w;ext A;let⟨r,d,f,_⟩:=I.list (aD.of B);let⟨m,l,c,_⟩:=I.list (aD.of p);let n:=⇑d;let C:=⇑l;rw[aI]at n C;cases g:⇑ns=⇑ms
 ·rwa[SeqAt.RcNeAt.lists (e:=λj=>decide (ns[j]?=ms[j]?)) f.isList c.isList (by cbv) i (λj t o=>sS d l j t o) X.prog X.w X.xe _ ⟨.bl (!decide (ns=ms)),H,I,5,q⟩];show _=Value.bool (!decide (ns=ms));rw[ai8,<-n,x6 g]
 ·let e:decide (ns=ms)=false:=ajx (λz=>g (by rw[z]));rw[e]at q;rwa[SeqAt.RcNeAt.lists_lengths f.isList c.isList ?_ i X.prog X.w X.xe _ ⟨.bl true,H,I,2,q⟩]
  cbv
inductive NC (xs:Zb) (H:Hp) (Q:VK):Prop
 |mk (b:Bool):xs=[.bl b]->Q (.int (if b=true then 1 else 0)) H->NC xs H Q
def Ii:iM X (.type "int") NC:=by
 intro a s f H e d Q I r h;let⟨b,rfl,q⟩:=h;let⟨u,rfl,c⟩:=vals1 r;ext c;rwa[call_int_bool ⟨.int _,H,I.tok _,⟨12⟩,q⟩]
def Ba (h:X.K=K):HG X (K1 K):=by subst h;rwa[bL]
def oS (h:X.K=K):HG X (K2 K):=by subst h;rwa[bf]
def zO (h:X.K=K):iM X (.builtin "len") (Ga K):=by subst h;rwa[bh]
end
def b6 (H:Hp)(a:Zn)(ws:Za3):Prop:=⇑a=⇑ws/\∀(i:Nat) (p:Zs) (w:Zg),a[i]?\p->ws[i]?\w->H p\(.tup (aq w))
def bW (H:Hp)(a:Zs)(c:Za3):Prop:=∃b:Zn,H a\.lst (b.map V.ref)/\b6 H b c
def b6.keep {ws:Za3}(h:b6 H F ws)(s:∀p a,H p\.tup a->I p\.tup a):b6 I F ws:=⟨h.1,λi p w c b=>s^h.2 i p w c b⟩
def b6.same {ws:Za3}(h:b6 H F ws)(s:av H I):b6 I F ws:=h.keep λp a e=>s^e
def bW.same {ws:Za3}(h:bW H a ws)(s:av H I):bW I a ws:=by
 let⟨b,d,c⟩:=h;rwa[b,s^d,c.same s]
def b6.snoc {ps:Zn}{ws:Za3}(h:b6 H ps ws)(e:H a\.tup (aq l)):b6 H (ps++[a]) (ws++[l]):=by
 rwa[⟨by rw[aiP,aiP,h.1];rfl,λi q u c b=>?_⟩];cases d:i<⇑ps
 ·rw[aiZ d]at c;rw[aiZ (by rw[<-h.1];rwa[d])]at b;rwa[h.2 i q u c b]
 ·rw[ai1 ∅]at c;rw[ai1 (by rw[<-h.1];omega)]at b;rw[aiR.mp (aiN c),aiR.mp (aiN b)];rwa[e]
inductive WC (x:V) (y:V) (H:Hp) (Q:VK):Prop
 |mk (a b:Zs) (ns ms:Za3):x=↑a->y=↑b->bW H a ns->bW H b ms->Q (.bl (decide (ns=ms))) H->WC x y H Q
theorem ri:∀{a:Zg} {b:Zk},Vals (aq a) b->IntsAre b a
 |[],_,h=>by ext h;rwa[.nil]
 |n::a,_,h=>by
  cases h with
  |cons d c=>
   let⟨t,rfl⟩:=d;rwa[.cons n t (ri c)]
def PX (ns:Zg)(k:Int):(ns.any λx=>x==k)=decide (k∈ns):=by
 rw[ajQ,ame,ajt];constructor
 ·rintro ⟨x,a,e⟩;rw[<-eq_of_beq e];rwa[a]
 ·intro h;rwa[k,h,beq_self_eq_true k]
section
variable {X:Cx}
inductive WG (x:V) (y:V) (H:Hp) (Q:VK):Prop
 |mk (k:Int) (a:Zs) (ns:Zg):x=.int k->y=↑a->H a\.lst (aq ns)->Q (.bl (decide (k∈ns))) H->WG x y H Q
inductive Bb (x:V) (y:V) (H:Hp) (Q:VK):Prop
 |mk (k:Int) (a:Zs) (ns:Zg):x=.int k->y=↑a->H a\.lst (aq ns)->Q (.bl (!decide (k∈ns))) H->Bb x y H Q
def Gj:fB X (compareOp .NotIn) Bb:=by
 intro b s i H x y v u Q I d e h;let⟨k,a,g,rfl,rfl,f,q⟩:=h;let⟨t,rfl⟩:=d;ext e;let⟨c,r,p,_⟩:=I.list (aD.of f);rwa[notin_list_ints p.isList (ri r) ?_];rw[PX];rwa[.bl _,H,I,2,q]
noncomputable def isInt (k:Int):Zt->Bool
 |.int z _=>z==k
 |_=>false
inductive EX (x:V) (vs:Zb) (H:Hp) (Q:VK):Prop
 |mk (a:Zs) (ns:Zg) (k:Int):x=↑a->vs=[.int k]->H a\.lst (aq ns)->k∈ns->(∀i:Nat,ns[i]?\k->(∀j,j<i->ns[j]?≠some k)->Q (.int i) H)->EX x vs H Q
def Ij (h:z∈l):∃i:Nat,l[i]?\z/\∀j,j<i->l[j]?≠some z:=by
 induction l with
 |nil=>ext h
 |cons a l c=>
  cases e:a=z
  ·rwa[(0),by rw[e];rfl,λj d=>∅]
  ·let⟨i,g,f⟩:=c ((ai3.mp h).resolve_left (ajR e));rwa[⟨i+ 1,g,λj d=>?_⟩]
   cases j with
   |zero=>exact λb=>e (Za0 b)
   |succ j=>exact f j ∅
theorem qz:EF X "list.index" EX:=by
 intro B s R H x O v S Q I L C h;let⟨a,ns,k,rfl,rfl,J,d,q⟩:=h;ext L;let⟨u,rfl,M⟩:=C.one;let⟨t,rfl⟩:=M;let⟨z,b,n,r,E,e⟩:=I.pW J;rw[aI]at z E;let⟨i,o,A⟩:=Ij d;let P:i<⇑ns:=(aiO.mp o).1
 let at_:∀(m:Nat) (d:m<b.toArray.size),isInt k b.toArray[m]=decide (ns[m]?\k):=λm d=>by
  let c:m<⇑b:=by simpa using d
  let g:ns[m]?\(ns[m]'∅):=aiL ∅
  let⟨w,p,f,rfl⟩:=r.get (bU g)
  let l:b.toArray[m]=Value.int (ns[m]'∅) f:=by
   rw[List.getElem_toArray];rwa[Za0 ((aiL c).symm.trans p)]
  rw[l,g];show (ns[m]'∅==k)=_;rw[ajQ,alE,ajt];rwa[λz=>by rw[z],λz=>Za0 z]
 let D:(sizeLine:Nat)<2 ^ 62:=⋯
 refine alH F.slot_list_index ⟨_,e,2⟩ F.entry_list_index (F.args_list_index_2 _ _)
  (SeqAt.list_indexAt a b.toArray n none #[] (.int k t) (isInt k) i (by rw[ai8];omega) ∅ ([at_]▸aje o) (λm d j=>[at_]▸ajx (A m j))) ⟨e,λy G=>?_,5⟩
 ·let⟨m,d,N⟩:=akD.mp (Array.mem_toList_iff.mpr G);let c:m<⇑b:=by simpa using d
  let g:ns[m]?\(ns[m]'∅):=aiL ∅
  let⟨w,p,f,rfl⟩:=r.get (bU g)
  let l:y=Value.int (ns[m]'∅) f:=by
   rw[<-N];rwa[Za0 ((aiL c).symm.trans p)]
  rw[l];rwa[SeqAt.EqAt.int_int _ f k t]
 ·rwa[.int i,H,I.tok _,⟨12⟩,q i o A]
end
def EY (Q:Hp->Zb->Prop)(f:Nat->Int):It:=
 ⟨(Es Q).go,λi H x a=>∃p v,H p=none/\(∀ys,Q H ys->ys[i]?\v)/\x=↑p/\a=upd H p (.tup [.int (f i),v]),(Es Q).stop⟩
abbrev abd (K:Za1) (a:Zs):It:=EY (λH=>aD K H a) Nat.cast
theorem PY {elts:Zr}{x1:Nat}{tp:Pos}{Q:Hp->Zb->Prop}{f:Nat->Int}{it:Zs}{tn:Nat->Heap->Prop}(S:Hu K Q b it tn)(hei:a≠it)(Z:∀i,f (i+ 1)=f i+ 1):
 Turn P w K (.Tuple elts x1 tp) (EY Q f) [a,it] a (λi h=>(∃d,IsEnum h a it (f i) d)/\tn i h) where
 mem:=by simp
 obj:=λi h st c g=>by
  let⟨⟨d,j⟩,st⟩:=st;let⟨o,n,vs,_,_,_,_⟩:=S.ob i h st
  cbv
 keep:=λi h L st k=>by
  let⟨⟨d,j⟩,hl⟩:=st;rwa[⟨d,k a (by simp) _ j⟩,S.kp _ _ _ hl λo a=>k it (by simp) o a]
 item:=by
  intro X hP W O hc i r s σ H E I t st G;subst hP W;let⟨⟨d,j⟩,l⟩:=st;let⟨xs,x,M,v⟩:=G;let⟨inj,m,oa,St,T,ha,C,D,_,R,h2⟩:=S.dr O hc I M l;let⟨u,hu,ru⟩:=T.get v;let hea:a≠b:=vt j ha (ajR C);let N:a<↥s:=ai9 j;let ND:i<⇑m:=(aiO.mp hu).1;rwa[En.Ib D j R (by simp;omega) hei (by cbv) λy L tk Y ho B p hk=>?_]
  obtain rfl:u=y:=by
   simp at Y
   cbv
  rwa[⟨12,wpAny_letOwnedTupleGo_enum ho λJ U e=>?_⟩]
  rwa[⟨↑↥s,_,I.A7 (fp:=[a,it]) (a:=↥s) (o:=.tup [.int (f i),x]) (h':=J) (t':=tk+ 1) (λc ob g q=>?_) t (aiS _) ⟨Za4 2,[.int (f i) tk,u],.cons ⟨12⟩ (.cons ru .nil),_,(e.2 _ (aj2 N)).trans p,212⟩,2,⟨_,x,I.aP.fresh (aiS _),λys hy=>[inj ys hy]▸v,22⟩,⟨⟨u,[Z]▸U⟩,h2^(D.frame _ _ _ B λc g o q=>(e.2 c (by cbv)).trans q)⟩,λc g=>?_⟩]
  ·simp at g;rwa[(e.2 c g.1).trans (hk c ob g.1 g.2 q)]
  ·let⟨o2,_,_,h3,_⟩:=S.ob^l;have:=ai9 h3;rw[ak (by cbv)];rwa[(t c g).1]
 done:=by
  intro X hP W O hc i r s σ H E I t st G;subst hP W;let⟨⟨d,j⟩,l⟩:=st;let⟨xs,M,v⟩:=G;let⟨_,m,_,_,T,_,_,D,_,R,_⟩:=S.dr O hc I M l;rwa[wpAny_pyNext_enum_endD D j (by rw[ai8,<-⇑T,v];rwa[R]) λL eb=>⟨2,I.mv (fp:=[a,it]) (t':=s.toks) (λc o g q=>eb c o (λz=>g (by simp[z])) q) t⟩]
 self:=λA i s Q E st h=>by
  let⟨⟨d,j⟩,_⟩:=st;let p:s.TypeIs ↑a "enumerate":=⟨_,j,2⟩;rwa[wpAny_pyIter_slot p F.slot_enumerate_iter (akb F.slot_enumerate_iter p F.entry_enumerate_iter (aiU ⟨12,"enumerate",_,p,F.slot_enumerate_next.lookup,h⟩) (F.args_enumerate_iter_1 _))]
section
variable {X:Cx}
def x8 {R:It->Hp->Prop}{elts:Zr}{Q:Hp->Zb->Prop}{f:Nat->Int}{e:Nat->Heap->Prop}(I:Inv X o D H s)(S:Hu X.K Q a ↥s e)(k:∀i,f (i+ 1)=f i+ 1)
 (g:IsEnum h (↥s+ 1) ↥s (f 0) v) (d:e 0 h) (j:∀b c,s•b\c->h.get? b\c) (q:R (EY Q f) H):X⁻¹ X.A (pyIter ↑(↥s+ 1)) (M7 X o D (.Tuple elts n p) R) X.xe (s<*h):=by
 let T:=PY (P:=X.prog) (w:=X.w) (elts:=elts) (x1:=n) (tp:=p) S (Nat.succ_ne_self _) k;rwa[T.self _ 0 _ _ _ ⟨⟨_,g⟩,d⟩ ⟨1111,H,2,I.kept (t':=s.toks) j,T,⟨⟨_,g⟩,d⟩,λb m=>?_,q⟩];have:↥s<=b:=by cbv
 rwa[I.FX this (I.aP.fresh this)]
def Sr (K:Za1)(e:TA):TI:=λ f H R=>e f H λc b=>∃a,c=[↑a]/\(∃d,aD K b a d)/\R (abd K a) b
def Lg {elts:Zr}{b d:Pos}(k:Gl X "enumerate")(x:X.mg "enumerate"=none)(y:PE X e r)(i:starEach [e] X.env=[(false,eval e X.env)]):
 PI X (.Tuple elts n p) (.Call (.Name "enumerate" b) [e] [] d) (Sr X.K (jg r jW)):=by
 intro a s w H R I h;rwa[Call_ (gw I k x boot_enumerate (ajH (bp ((ae y ah i) d a s w H _ I h) λJ G ζ=>?_) i rfl))];let⟨B,E,g,j,l,c,⟨F,o⟩,q⟩:=ζ;subst c;let⟨u,rfl,z⟩:=vals1 j;ext z;let⟨t,C,pl,D⟩:=g.list o;rwa[call_enumerate_list pl.isList λA f hit v m=>x8 g (uA l _) (λ_=>rfl) f hit m q]
end
def Bc {g:TG}{e:TS}{Q:Hp->Zb->Prop}{f:Nat->Int}{xs:Zb}(a:Nat->St->Hp->Prop)(j:a 0 D H)(b:∀i D H,i<=⇑xs->a i D H->Q H xs)
 (l:∀i v D H p,xs[i]?\v->H p=none->a i D H->g ↑p D (upd H p (.tup [.int (f i),v])) λ d m=>e { G with nx:=a (i+ 1),ct:=a (i+ 1),bk:=G.nx } d m) (h:∀ D H,a ⇑xs D H->G.nx D H):pU (EY Q f) g e G D H:=
 sP j (λi D H c p=>⟨⟨xs,xs[i],b i D H (akz c) p,aiL c⟩,λx o y=>by
  let⟨r,v,k,n,rfl,rfl⟩:=y;rwa[l i v D H r (n xs (b i D _ (akz c) p)) k p]⟩) λ D H p=>⟨⟨xs,b _ D H (aiS _) p,2⟩,h D H p⟩
namespace En
open AutoSeq1 (wpAny_loadPart')
def Gk (l:Zs)(items:Zm)(n:Nat)(dct:Zo)(m:Array Zl)(k:Int)(u:Tok)(q:0<=k)(j:k<1000):
 Meets (Builtin.«enumerate.__new__» ⟨[.type "enumerate",↑l],[("start",.int k u)]⟩) (λ_ R s=>s•l\{ cls:=.type "list",dict:=dct,data:=.seq items n,slots:=m }/\
  R (.ok (.ret (↑(s.heap.push ("list_iterator">>>.fields #[↑l,.int 0 0])).objs.size)))
    { s with heap:=(s.heap.push ("list_iterator">>>.fields #[↑l,.int 0 0])).push ("enumerate">>>.fields #[.none,.bool false,↑↥s,rawInt k,.none,.none]) }):=
 .of_wp λf w A R s h=>by
  let⟨p,g,d,o,os⟩:=s;let⟨a,h⟩:=h;let i:=sub_enumerate;let r:=AutoSeq1.idx_int;let b:Heap.IsList (Shared.heap ⟨p,g,d,o,os⟩) l items:=⟨_,a,2,n,2⟩
  let e:(!Builtin.SmallTypes.fitsIndex k)=false:=by
   unfold Builtin.SmallTypes.fitsIndex;simp;ext
  wp_walk using ak3 a
  rwa[wpAny_stack_any λst=>aiU ?_]
  split
  ·rename_i c _ _ _ _ _;cases (c==Value.type "enumerate")
   ·wp_walk using ak3 a,ak0 b
    rwa[12,h]
   ·wp_walk using ak3 a,ak0 b
    rwa[12,h]
  ·wp_walk using ak3 a,ak0 b
   rwa[12,h]
section
variable {prog:Program}{w:World}{A:Around}{E:Zt->Zu->Prop}{s:Zu}
theorem DK {items:Zm}{k:Int}{u:Tok}(V:s.heap.IsList a items)(O:0<=k)(x:k<1000)
 (h:∀t,IsEnum t (↥s+ 1) ↥s k .none->t.IsListIter ↥s a 0->(∀b o,s•b\o->t.get? b\o)->Q ↑(↥s+ 1) (s<*t)):
 (prog<|>w) A (call (.type "enumerate") [↑a] [("start",.int k u)]) Q E s:=by
 let⟨⟨c0,dct,W,P⟩,X,l,n,v⟩:=V;replace l:c0=.type "list":=l;replace v:W=.seq items n:=v;subst l v;let i:=F.called_enumerate;let⟨c,tl,N⟩:=i.mro;let B:=i.made;let L:=i.sub;let U:=Wv ↑a (.int k u);let z:=Ww ↑a (.int k u);rwa[ald (codeAny_of_tree ?_)];show wpAny _ _ (callAny (.type "enumerate") _) _ _ _;rwa[aiU ⟨Code.quiet_builtin _ ⋯,alQ F.entry_type_call ?_⟩];rw[Around.under_plain (weight_type_call_type "enumerate" [↑a] [("start",.int k u)]) (units_type_call_type "enumerate" [↑a] [("start",.int k u)])];let h1:=i.notType;let h2:=i.canCreate
 repeat (any_goals (first|assumption|wp_step))
 rwa[ak7 (akp i.plain F.entry_enumerate_new (wpAny_of_eq z (Gk a items n dct P k u O x prog w A.in1 (wants (λobj f=>f.TypeIs obj "enumerate"/\Q obj f) E) s ⟨X,5⟩))) λr f D=>?_]
 ·let J:(s.heap.push ("list_iterator">>>.fields #[↑a,.int 0 0])).objs.size=↥s+ 1:=akx ..;show _/\_;rw[J]
  let M:IsEnum ((s.heap.push ("list_iterator">>>.fields #[↑a,.int 0 0])).push ("enumerate">>>.fields #[.none,.bool false,↑↥s,rawInt k,.none,.none])) (↥s+ 1) ↥s k .none:=by
   let q:=ai2 (s.heap.push ("list_iterator">>>.fields #[↑a,.int 0 0])) (o:=("enumerate">>>.fields #[.none,.bool false,↑↥s,rawInt k,.none,.none])) rfl;rw[J]at q;rwa[q]
  rwa[⟨_,M,2⟩,h _ M ⟨_,aiM _ (ai2 _ rfl),22⟩ λb o y=>aiM _ (aiM _ y)]
 cases r with
 |error e=>exact D
 |ok Y=>
  cases Y with
  |ret obj=>
   let⟨I,H⟩:=D;let Z:=i.init.lookup;let S:=i.init.bind obj;let G:=Wx obj ↑a (.int k u);let C:(λ(_:Around) (R:Result->Zu->Prop) (s:Zu)=>s.TypeIs obj "enumerate"/\R (.ok (.ret .none)) s) A.in1 (wants (λr j=>r=.none/\Q obj j) E) f:=⟨I,2,H⟩;let gi:=PF (T:="enumerate") (self:=obj) (a:=↑a) (kw:=[("start",.int k u)]) i.init.lookup i.made ⋯
   repeat (any_goals (first|assumption|wp_step))
   rwa[ak7 (akp i.init.plain F.entry_object_init (i.init.check _ _ _ _ _ _ _ _ I G (gi prog w A.in1 _ f C))) λp j g=>?_]
   cases p with
   |error e=>exact g
   |ok m=>
    cases m with
    |ret r=>
     let⟨rfl,H⟩:=g
     repeat (any_goals (first|assumption|wp_step))
    |_=>exact g.elim
  |_=>exact D.elim
end
end En
abbrev NF (K:Za1) (a:Zs) (n:Int):It:=EY (λH=>aD K H a) λi=>n+ i
def eM (h:Heap)(d:Zs)(b:Array DictEntry)(a:Nat):Prop:=∃o,h.get? d\o/\o.ExactDict/\o.data=.dict b a
namespace Dk
section
variable {prog:Program}{w:World}{A:Around}{E:Zt->Zu->Prop}{s:Zu}{d:Zs}{es:Array DictEntry}{ep:Nat}
def typ (b:eM s.heap d es ep):s.TypeIs ↑d "dict":=let ⟨o,a,c,_⟩:=b;⟨o,a,c.1⟩
theorem iter (f:(d==sysModules)=false)(c:eM s.heap d es ep)
 (g:Q ↑↥s { s with heap:=s.heap.push ("dict_keyiterator">>>.fields #[↑d,.int 0 0,.int es.size 0,.int ep 0]) }):(prog<|>w) A (pyIter ↑d) Q E s:=by
 let b:=typ c;let⟨o,e,h,a⟩:=c;rwa[wpAny_pyIter_slot b F.slot_dict_iter (akb F.slot_dict_iter b F.entry_dict_iter ?_ (F.args_dict_iter_1 _))];unfold Builtin.«dict.__iter__»;rwa[aiK ?_];unfold Builtin.Dict.dictSlotNone;rwa[aiK (alm b ?_)];show wpAny _ _ (pure (Value.ref d)) _ _ s;rwa[aiU ?_];show wpAny _ _ (Builtin.Dict.showsAll d >>=_) _ _ s;unfold Builtin.Dict.showsAll;rw[ajb ([f]▸ajD)];rwa[aiK (aiU (aiK (alq e a (aiK (wpAny_dictEpoch e a ?_)))))];rwa[aiK (ajJ (aiU ⟨12,"dict_keyiterator",_,⟨_,ai2 _ rfl,2⟩,alh.lookup,by simpa [rawInt] using g⟩))]
theorem next {it:Zs}{Q:Zl->Zu->Prop}(n:A.handled=none)(hit:s.heap.IsKeyIter it d i es.size ep)(p:eM s.heap d es ep)(l:∀en g,es[i]?\en->g.IsKeyIter it d (i+ 1) es.size ep->Heap.SameBut it s.heap g->Q (some en.key) (s<*g))
 (r:∀g,es[i]?=none->Heap.ExtBut it s.heap g->Q none (s<*g)):(prog<|>w) A (pyNext ↑it) Q E s:=by
 let⟨o,h,t,c⟩:=id hit;let⟨u,f,q,e⟩:=id p;unfold pyNext;rwa[aiK (wpAny_attempt (aj3 (name:=Str.ofString "__next__") hit.typeIs alh (akb alh hit.typeIs F.entry_dict_keyiterator_next ?_ (F.args_dict_keyiterator_next_1 _))))];rwa[aiK (aiU (aiK (aiK ?_)))]
 first|rwa[aiK (wpAny_typeNameOfWhole_keyiter hit.typeIs (aiU ?_))]|rwa[aiK (wpAny_typeNameOf_keyiter hit.typeIs (aiU ?_))]
 rwa[aiK (wpAny_fieldsOf h c ?_)];let own:Builtin.Dict_items.ownsTuple "dict_keyiterator"=false:=⋯
 simp only[own,alR,amb];show wpAny _ _ (if (Value.ref d==Value.none)=true then _ else _) _ _ s;rw[ajb (show ¬((Value.ref d==Value.none)=true) from ajD)];rwa[aiK (aiU (aiK (alq f e ?_)))];rw[ajb (by simp)];rwa[aiK (aiU (aiK (wpAny_dictEpoch f e ?_)))];rw[ajb (by simp)];rwa[aiU ?_];rcases j:es[i]? with _|en <;> simp only[show ¬((i:Int)<0) from by ext,amb,ajq,j]
 all_goals
  rwa[aiK ?_]
  first|rwa[aiK (wpAny_typeNameOfWhole_keyiter hit.typeIs (aiU ?_))]|rwa[aiK (wpAny_typeNameOf_keyiter hit.typeIs (aiU ?_))]
 ·show wpAny _ _ (setField ↑it 0 .none >>=_) _ _ s;rwa[aiK (akT h c (by simp) ?_)];show wpAny _ _ (newExc (.type "StopIteration") [] >>=_) _ _ _;rwa[aiK ?_];simp only[newExc,newTuple];rwa[aiK (ajJ ?_ (by size_fits))];rwa[aiK (m:=firstArgMember _ _) (wpAny_of_eq (a:=Value.none) (by first|rfl|(simp only[firstArgMember];rfl)) ?_)];rwa[ajJ ?_ (by size_fits)];simp only[raiseNew];rwa[aiK (wpAny_handled ?_)];rw[show A.in1.handled=none from n];rwa[aiK (aiU (wpAny_throw ?_))];rwa[aiK (wpAny_isInstance (T:="StopIteration") (b:=true) ⟨_,ai2 _ rfl,2⟩ isSubtype_stop ?_)];rwa[aiU (r _ j (((akf ..).extBut.push _).push _))]
 ·rwa[aiK (wpAny_isOneOf_keyiter hit.typeIs ?_)];show wpAny _ _ (setField ↑it 1 (rawInt ((i:Int)+ 1)) >>=_) _ _ s;rwa[aiK (akT h c (by simp) ?_)]
  let k:(s.heap.update it (Obj.mapFields (·.setIfInBounds 1 (rawInt ((i:Int)+ 1))))).IsKeyIter it d (i+ 1) es.size ep:=
   ⟨_,ajB _ h (akR (akk c _)),(Obj.cls_mapFields ..).trans t,by rw[akk c];simp[rawInt]⟩
  rwa[aiK (ajP ?_)];rwa[aiK (wpAny_isOneOf_keyiter (s:={ s with heap:=s.heap.update it (Obj.mapFields (·.setIfInBounds 1 (rawInt ((i:Int)+ 1)))) }) k.typeIs ?_)];show wpAny _ _ (pure (DictEntry.key _)) _ _ _;rwa[aiU (aiU ⟨12,aiU (l _ _ j k (akf ..))⟩)]
def eM.at (x:eM h d es ep)(e:∀o,h.get? d\o->g.get? d\o):eM g d es ep:=let ⟨o,a,r⟩:=x;⟨o,e _ a,r⟩
def walks (m:A.handled=none)(I:Zs)(k:d≠I):Walks prog w A I [I,d] [I] es.size (λi v=>∃c,es[i]?\c/\v=c.key) (λi h=>h.IsKeyIter I d i es.size ep/\eM h d es ep) where
 sub:=λb j=>by cbv
 frame:=λ_ _ _ st l=>⟨st.1.at λo e=>l I (by simp) o e,eM.at st.2 λo e=>l d (by simp) o e⟩
 item:=λi s Q E q st a=>next m st.1 st.2 (λc g e n f=>a _ g s.toks ⟨c,e,2⟩ ⟨n,eM.at st.2 λo e=>f.extBut _ _ k e⟩ λb o j e=>f.extBut b o (λh=>j (by simp[h])) e) λg e=>by simp[q]at e
 done:=λs Q E st a=>next m st.1 st.2 (λc g e=>by simp at e) λp _ f=>a p s.toks λb o j e=>f b o (λh=>j (by simp[h])) e
 self:=λ_ _ _ _ st a=>wpAny_pyIter_keyiter st.1 a
theorem hint {Q:Bool->Zu->Prop}(e:eM s.heap d es ep)(h:Q false s):(prog<|>w) A (Builtin.List.listLengthHint ↑d) Q E s:=by
 unfold Builtin.List.listLengthHint;rwa[aiK (wpAny_specialOf (typ e) F.slot_dict_len.lookup ?_)];generalize c:("dict.__len__":String)=f
 wp_delta
 rw[show splitId f=some ("dict","__len__") from by subst c;decide];subst c;rwa[aiK (wpAny_isInstance (T:="dict") (b:=true) (typ e) (by rw[isSubtype_type];kernel_rfl) ?_)];rwa[alS (λa=>absurd a ⋯) (λ_=>?_)];rwa[alS (λ_=>?_) (λa=>absurd ⋯ a)];rwa[aiK (ak8 (T:="dict") (typ e) (aiU h))]
theorem extend {R:Result->Zu->Prop}(V:A.handled=none)(N:(d==sysModules)=false)(x:eM s.heap d es ep)(hlen:es.size<=sizeLine)(S:Zs)(res:Zt)(m:Nat)(M:s•S\("list">>>.seq #[] m))
 (Y:∀g1 P c l,(∀b o,b≠S->s•b\o->g1.get? b\o)->g1.get? S\{ cls:=.type "list",dict:=none,data:=.seq c l,slots:=#[] }->
  ItemsOf (λi v=>∃L,es[i]?\L/\v=L.key) c es.size->R (.ok (.ret res)) { s with heap:=g1,toks:=P }):
 (prog<|>w) A.in1 (Builtin.List.listExtendWith ↑S ↑d res)
  (λfin g=>match fin with|.done f=>R (.ok f) g|.again l=>l.quiet=true/\codeAny (model prog w) A l R g) (λe g=>R (.error e) g) s:=by
 let k:S≠d:=λe=>by
  let⟨o,J,hc,I⟩:=x
  cbv
 let G:d<↥s:=by let⟨o,J,_⟩:=x;rwa[ai9 J]
 let y:S≠↥s:=ajm (ai9 M);let H:d≠↥s:=ajm G;unfold Builtin.List.listExtendWith;rwa[aiK (ak8 (T:="dict") (typ x) ?_)];let Q:Builtin.List.listSameRef ↑S ↑d=false:=by simp[Builtin.List.listSameRef,k]
 let O:(Value.type "dict"==Value.type "list")=false:=⋯
 let X:(Value.type "dict"==Value.type "tuple")=false:=⋯
 simp only[Q,O,X,Bool.or_false,alR,amb];rwa[aiK (iter N x ?_)];let h:eM (s.heap.push ("dict_keyiterator">>>.fields #[↑d,.int 0 0,.int es.size 0,.int ep 0])) d es ep:=eM.at x λo e=>aiM _ e
 rwa[aiK (ajP (hint (s:={ s with heap:=s.heap.push ("dict_keyiterator">>>.fields #[↑d,.int 0 0,.int es.size 0,.int ep 0]) }) h ?_))];let j:=aiM ("dict_keyiterator">>>.fields #[↑d,.int 0 0,.int es.size 0,.int ep 0]) M;let q:(s.heap.push ("dict_keyiterator">>>.fields #[↑d,.int 0 0,.int es.size 0,.int ep 0])).IsKeyIter ↥s d 0 es.size ep:=⟨_,ai2 _ rfl,22⟩;let kp:∀b o,s•b\o->(s.heap.push ("dict_keyiterator">>>.fields #[↑d,.int 0 0,.int es.size 0,.int ep 0])).get? b\o:=λb o e=>aiM _ e
 change s.heap.push ("dict_keyiterator">>>.fields #[↑d,.int 0 0,.int es.size 0,.int ep 0])=u at j q kp h ⊢;rwa[alS (λ_=>?_) (λz=>absurd ⋯ z)];rwa[aiK (al0 ?_)];rwa[aiK ?_];show wpAny _ _ (updateSeq S (·.push .none) >>=λ_=>updateSeq S (·.pop)) _ _ _;rwa[aiK (aln j rfl ?_)];let r:=ajB (Obj.mapSeq (·.push Value.none)) j rfl;rwa[aln (hz:=by seq_fits) r rfl ?_];let D:=ajB (Obj.mapSeq (·.pop)) r rfl;let oT:∀b o,b≠S->u.get? b\o->((u.update S (Obj.mapSeq (·.push Value.none))).update S (Obj.mapSeq (·.pop))).get? b\o:=λb o n e=>(ajC^ajR n).trans ((ajC^ajR n).trans e)
 let W:=(walks (prog:=prog) (w:=w) (A:=A.in1) (d:=d) (es:=es) (ep:=ep) V ↥s H).toS
 let B:S∉[↥s,d]:=λa=>by
  rcases ai3.mp a with e|a
  ·rwa[y e]
  ·rwa[k (aiR.mp a)]
 rwa[aiU ⟨ala F.plain_extend_loop _,?_⟩];rwa[codeAny_extend_loopS W hlen S B res es.size 0 _ #[] _ rfl (ajj _) ⟨q.at λo e=>oT _ o (ajR y) e,eM.at h λo e=>oT _ o (ajR k) e⟩ D (ItemsOf.nil _) λg c l p C t=>?_]
 rw[Moved.eq_with p];rwa[Y g.heap g.toks c l (λb o n e=>p.heap b o (λa=>?_) (oT b o n (kp b o e))) C t];rcases ai3.mp a with U|a
 ·rwa[n U]
 ·rwa[absurd (ai9 e) (by rw[aiR.mp a];rwa[aka _])]
def y7 {Q:Fin->Zu->Prop}(g:s•a\("list">>>.seq #[]))
 (h:∀f c,f.get? a\("list">>>.seq #[] c)->(∀b o,b≠a->s•b\o->f.get? b\o)->(prog<|>w) A (Builtin.List.listExtendWith ↑a v .none) Q E (s<*f)):(prog<|>w) A (Builtin.«list.__init__» ⟨[↑a,v],[]⟩) Q E s:=by
 show wpAny _ _ (do let old <-Builtin.List.listItems ↑a;Builtin.List.listUpdate ↑a (λ_=>#[]);letGo old.toList.reverse;Builtin.List.listExtendWith ↑a v .none) _ _ s;rwa[aiK ?_];unfold Builtin.List.listItems;rwa[aiK (alw g rfl (aiU ?_))];show wpAny _ _ (updateSeq a (λ_=>#[]) >>=λ_=>letGo (#[]:Zm).toList.reverse >>=λ_=>Builtin.List.listExtendWith ↑a v .none) _ _ s;rwa[aiK (aln g rfl (aiK (al3 (h _ _ (ajB (Obj.mapSeq (λ_=>(#[]:Zm))) g rfl) λb o i e=>(ajC^ajR i).trans e))))]
def init {R:Result->Zu->Prop}(z:A.handled=none)(u:(d==sysModules)=false)(t:eM s.heap d es ep)(hlen:es.size<=sizeLine)(S:Zs)(B:s•S\("list">>>.seq #[]))
 (C:∀g1 k a g,(∀b o,b≠S->s•b\o->g1.get? b\o)->g1.get? S\{ cls:=.type "list",dict:=none,data:=.seq a g,slots:=#[] }->
  ItemsOf (λi v=>∃r,es[i]?\r/\v=r.key) a es.size->R (.ok (.ret .none)) { s with heap:=g1,toks:=k }):
 (prog<|>w) A.in1 (Builtin.«list.__init__» ⟨[↑S,↑d],[]⟩)
  (λfin j=>match fin with|.done f=>R (.ok f) j|.again g=>g.quiet=true/\codeAny (model prog w) A g R j) (λe j=>R (.error e) j) s:=by
 let n:d≠S:=λe=>by
  let⟨o,D,F,p⟩:=t
  cbv
 rwa[y7 B λy c l oT=>extend (s:=(s<*y)) z u (eM.at t λo e=>oT _ o n e) hlen S .none _ l λg1 k a g x m h=>C g1 k a g (λb o q e=>x b o q (oT b o q e)) m h]
theorem Ik (t:A.handled=none)(p:(d==sysModules)=false)(u:eM s.heap d es ep)(hlen:es.size<=sizeLine)
 (q:∀g1 j a h,(∀b o,s•b\o->g1.get? b\o)->g1.get? ↥s\{ cls:=.type "list",dict:=none,data:=.seq a h,slots:=#[] }->ItemsOf (λi v=>∃l,es[i]?\l/\v=l.key) a es.size->Q ↑↥s { s with heap:=g1,toks:=j }):
 (prog<|>w) A (call (.type "list") [↑d]) Q E s:=by
 rwa[callType_codes (Q₁:=λobj c=>obj=↑↥s/\c={ s with heap:=s.heap.push ("list">>>.seq #[]) }) F.called_list (F.typeCall_list_1 _) F.entry_list_init (code_list_new _ ⟨22⟩) λobj c f=>?_]
 let⟨rfl,rfl⟩:=f;let n:(s.heap.push ("list">>>.seq #[])).get? ↥s\("list">>>.seq #[]):=ai2 _ rfl;rwa[⟨⟨_,n,2⟩,F.args_list_init_2 _ _,init (A:=A.in1) (s:={ s with heap:=s.heap.push ("list">>>.seq #[]) }) t p (eM.at u λo e=>aiM _ e) hlen _ n λg1 j a h r k g=>?_⟩];rwa[2,q g1 j a h (λb o e=>r b o (ajm (ai9 e)) (aiM _ e)) k g]
end
end Dk
structure MDef (K:Za1) (C:Zs) (x q:Str) (st:Stmt) (ps:Zp) (f:Zs) (fd:FuncData):Prop where
 F:qY K x q st f fd
 m:Meth K C x f
 b:Binds K fd ps []
open PySem.W (KasT kas_rev kas_asc kas_desc kas_tail3 kas_descPart kas_count kas_place kas_bin kas_sort kas_ask kas_ask_eq kas_runs kas_st kas_range kas_item kas_item_eq)
namespace Srt
def Gd {b:Type}(P:Nat->Nat->Prop)(f:Nat->Nat->Bool):KasT b->(b->Prop)->Prop
 |.ret a,Q=>Q a
 |.ask i j k,Q=>P i j/\Gd P f (k (f i j)) Q
section
variable {n:Nat}{key:Nat->Int}
structure Pr (n:Nat) (p:Array Nat):Prop where
 sz:p.size=n
 lt:∀i,i<n->p.getD i 0<n
 inj:∀i j,i<n->j<n->p.getD i 0=p.getD j 0->i=j
def Up (key:Nat->Int)(p:Array Nat)(m:Nat):Prop:=∀i j,i<j->j<m->key (p.getD i 0)<key (p.getD j 0)
def Dn (key:Nat->Int)(p:Array Nat)(m:Nat):Prop:=∀i j,i<j->j<m->key (p.getD j 0)<key (p.getD i 0)
def Ok (n:Nat)(key:Nat->Int)(i j:Nat):Prop:=i<n/\j<n/\key i≠key j
def Inj (n:Nat)(key:Nat->Int):Prop:=∀i j,i<n->j<n->key i=key j->i=j
abbrev ask (key:Nat->Int) (i j:Nat):Bool:=decide (key i<key j)
end
end Srt
end L2
namespace L2
open PySem PySem.Spec PyProof.Rows
def Il:typeLookup (.type "list") "keys"=pure none:=by rw[typeLookup_type,builtinLookup_eq_fast];kernel_rfl
theorem Lh {m:Zm}{k:Nat}{Q:Zl->Zu->Prop}
 (n:s•a\("list">>>.seq m k)) (p:A.handled=none)
 (h:∀i j,(∀b o,s•b\o->i.get? b\o)->Q none { s with heap:=i,toks:=j }):
 (P<|>w) A (getAttr? ↑a "keys") Q E s:=by
 let⟨q,g,d,j,os⟩:=s;let l:∀f,(⟨q,g,d,f,os⟩:Zu).TypeIs ↑a "list":=λ_=>⟨_,n,2⟩
 let t:=sub_AttributeError;let z:=F.slot_list_getattribute.lookup;let x:=F.slot_list_getattribute.bind ↑a;let v:=am_list_getattr_none;unfold getAttr? getAttrBy? getAttrBy
 repeat (any_goals (first|assumption|rwa[l _]|((with_reducible show wpAny _ _ (call (Value.builtin "list.__getattribute__") _ _) _ _ _);rwa[alH F.slot_list_getattribute (l _) am_entry_list_getattribute (F.args_list_getattribute_2 _ _) (meets_getattribute_miss_list a m k #[] "keys" _ Il (by decide) (by decide)) ⟨n,p,λi f e c=>?_⟩])|wp_step))
 let⟨r,u,y⟩:=c.there;show wpAny _ _ (getattributeRaised _ _ _ _ _ _ _) _ _ _;unfold getattributeRaised
 repeat (any_goals (first|assumption|wp_step))
 rwa[h^c.keeps]
def oU:entryFor table "dict.update.loop"=some Builtin.«dict.update.loop»:=entryFor_of_fast (by kernel_rfl)
def iO:plainId "dict.update.loop"=true:=⋯
section
variable {prog:Program} {w:World} {K:Type} [DecidableEq K] {knd:KeyKind prog w K} {A:Around} {E:Zt->Zu->Prop}
def Gm {R:Result->Zu->Prop}{it l:Zs}{its:Zk}{rs:List (K×Zt)}(hh:A.in1.handled=none)(N:l≠it)(t:d≠it)(O:d≠l)(hlen:⇑its=⇑rs)(hsz:⇑rs<=sizeLine):
 ∀(k i:Nat) (s:Zu),⇑its - i=k->i<=⇑its->s.heap.IsListIter it l i->s.heap.IsList l its.toArray->s.heap.DictOf knd d (merged [] (rs.take i))->
 (∀(j:Nat) (u:Zt) (m:K×Zt),its[j]?\u->rs[j]?\m->∃p a,u=↑p/\p≠d/\p≠it/\knd.is m.1 a=true/\IsTup s.heap p #[a,m.2])->
 (∀h J,h.DictOf knd d (merged [] rs)->(∀b o,b≠d->b≠it->s•b\o->h.get? b\o)->R (.ok (.ret .none)) { s with heap:=h,toks:=J })->
 codeAny (model prog w) A (.builtin "dict.update.loop" ⟨[↑d,↑it,rawInt (i:Int),.none],[]⟩) R s:=by
 let W:=Walks.list (prog:=prog) (w:=w) (A:=A.in1) hh it l N its.toArray;let c:∀b:Zs,b≠it->b∉[it]:=λb f z=>f (aiR.mp z)
 intro k
 induction k with
 |zero=>
  intro i s hk L hit hl H Y hR;let ei:i=⇑its:=∅
  rwa[alQ oU ?_];rw[alv iO _];show wpAny _ A.in1 (pyNext ↑it >>=_) _ _ s;rwa[aiK (W.done s _ _ ⟨by cbv,hl⟩ λh J kp=>?_)];show wpAny _ A.in1 (Builtin.Dict.addKeywords d [] >>=_) _ _ _;rwa[aiK (aiU (aiU ?_))];rw[akN ∅]at H;let⟨od,x1,x2,D,q⟩:=id H;rwa[hR h J ⟨od,x1,x2,kp _ _ (c _ t) D,q⟩ λb o _ f e=>kp b o (c _ f) e]
 |succ k ih=>
  intro i s hk L hit hl H Y hR;let lS:i<⇑its:=∅
  rwa[alQ oU ?_];rw[alv iO _];show wpAny _ A.in1 (pyNext ↑it >>=_) _ _ s;rwa[aiK (W.item i s _ _ ∅ ⟨hit,hl⟩ λv h J hP P kp=>?_)];let⟨B,Q⟩:=P;let Z:its[i]?\v:=by simpa using hP
  let x:rs[i]?\(rs[i]'∅):=aiL ∅
  change rs[i]'∅=m at x;let⟨p,a,rfl,pd,pi,C,o,ho,hc,n,y⟩:=Y i v m Z x;let F:=kp _ _ (c _ pi) ho;let V:rs.take (i+ 1)=rs.take i++[m]:=by rw[akG,x];rfl
  let M:h.DictOf knd d (merged [] (rs.take i)):=by
   let⟨od,x1,x2,D,q⟩:=id H;rwa[od,x1,x2,kp _ _ (c _ t) D,q]
  let Ss:=merged_length_le ([]:List (K×Zt)) (rs.take i)
  let G:⇑(merged [] (rs.take i))<=sizeLine:=by
   rw[ajs,akm]at Ss;ext
  show wpAny _ A.in1 (holding [Value.ref p] _ >>=_) _ _ _;rwa[aiK (ajP ?_)];rwa[aiK (amc ?_)];show wpAny _ A.in1 (typeOf (Value.ref p) >>=_) _ _ _;rwa[aiK (ak8 (T:="tuple") ⟨o,F,hc⟩ ?_)];rw[ajg ⋯];rwa[aiK (alw F y ?_)];rwa[aiU ?_];show wpAny _ A.in1 (holding [a,m.2] (dictSet d a m.2)) _ _ _;rwa[ajP (wpAny_dictSet_pairs C M (λg S sb=>?_) G)];let I:∀b o,b≠d->h.get? b\o->g.get? b\o:=λb o f e=>(sb.2 b f).trans e
  rwa[aiU ⟨ala iO _,5⟩];let r:rawInt ((i:Int)+ 1)=rawInt (((i+ 1:Nat)):Int):=rfl;rw[r];rwa[ih (i+ 1) _ ∅ ∅ (B.at λo e=>I _ _ (ajR t) e) (Q.at λo e=>I _ _ (ajR O) e) ?_ ?_ ?_]
  ·rw[V,merged,alr];rwa[S]
  ·intro j u kv2 D q;let⟨p,a,rfl,a1,a2,a3,o,b1,b2⟩:=Y j u kv2 D q;rwa[p,a,2,a1,a2,a3,o,I _ _ a1 (kp _ _ (c _ a2) b1),b2]
  ·intro q U Io X;rwa[hR q U Io λb o f L e=>X b o f L (I _ _ f (kp _ _ (c _ L) e))]
theorem ya {rs:List (K×Zt)}(J:A.handled=none)(hlen:⇑N=⇑rs)(B:⇑rs<=sizeLine)
 (I:s•a\("list">>>.seq N.toArray n))
 (S:∀(j:Nat) (u:Zt) (r:K×Zt),N[j]?\u->rs[j]?\r->∃p d,u=↑p/\knd.is r.1 d=true/\IsTup s.heap p #[d,r.2])
 (P:∀m H,m.DictOf knd ↥s (merged [] rs)->(∀b o,s•b\o->m.get? b\o)->Q ↑↥s { s with heap:=m,toks:=H }):
 (prog<|>w) A (call (.type "dict") [↑a]) Q E s:=by
 rwa[callType_codes (Q₁:=λobj f=>obj=↑↥s/\f={ s with heap:=s.heap.push ("dict">>>.dict #[]) }) F.kt_called_dict (F.kt_typeCall_dict_1 _) F.entry_dict_init (kt_code_dict_new _ ⟨22⟩) ?_];rintro obj f ⟨rfl,rfl⟩;let c:(s.heap.push ("dict">>>.dict #[])).DictOf knd ↥s []:=Heap.DictOf.new s.heap;let h:(s.heap.push ("dict">>>.dict #[])).get? a\("list">>>.seq N.toArray n):=aiM _ I;let t:=ai9 I;erw[c.typeIs,F.args_dict_init_2 _ _];unfold Builtin.«dict.__init__»;rwa[aiK ?_];unfold Builtin.Dict.selfAndRest;rwa[aiK (alm c.typeIs ?_)];show wpAny _ _ (pure (↥s,[Value.ref a])) _ _ _;rwa[aiU ?_];show wpAny _ _ (Builtin.Dict.updateFrom "dict.__init__" ↥s ↑a [] .none) _ _ _;unfold Builtin.Dict.updateFrom;rwa[aiK (ak8 (T:="list") ⟨_,h,2⟩ ?_)];rw[ajg ⋯];rwa[aiK (Lh h J λg H kp=>?_)];rw[ajg ⋯];rwa[aiK (al0 ?_)];let i:=kp^h;rwa[aiK (ak0 (items:=N.toArray) ⟨_,i,2,n,2⟩ ?_)]
 let k:↥s<g.objs.size:=by
  let⟨O,_,_,q,_⟩:=id c;rwa[ai9 (kp^q)]
 let z:=ai9 i;let M:∀b o,s•b\o->(g.push ("list_iterator">>>.fields #[↑a,.int 0 0])).get? b\o:=λb o e=>aiM _ (kp^aiM _ e)
 rwa[aiU ⟨ala iO _,Gm (knd:=knd) (A:=A.in1) (rs:=rs) (its:=N) (l:=a) (it:=g.objs.size) J (ajm z) (ajm k) (aj2 t) hlen B ⇑N 0 _ rfl (ajj _) ?_ ⟨_,aiM _ i,2,n,2⟩ ?_ ?_ ?_⟩]
 ·rwa[_,ai2 _ rfl,22]
 ·let⟨O,W,V,q,v⟩:=id c;rwa[O,W,V,aiM _ (kp^q),v]
 ·intro j u r q v;let⟨p,d,rfl,R,o,D,U⟩:=S j u r q v;let l:=ai9 D;rwa[p,d,2,ajm l,ajm (alI l k),R,o,M^D,U]
 ·intro m x C y;rwa[⟨2,P m x C λb o e=>?_⟩];let G:=ai9 e;rwa[y b o (ajm G) (ajm (alI G k)) (M^e)]
end
section
variable {X:Cx}
inductive Ip (xs:Zb) (H:Hp) (Q:VK):Prop
 |mk (l:Zs) (ps:Zn) (kvs:List (Key×V)):xs=[↑l]->H l\.lst (ps.map V.ref)->⇑ps=⇑kvs->(∀(i:Nat) (p:Zs) (kv:Key×V),ps[i]?\p->kvs[i]?\kv->H p\.tup [kV kv.1,kv.2])->(∀d,H d=none->Q ↑d (upd H d (.dK (jb [] kvs))))->Ip xs H Q
def Li (ok:dC P w H h):∀(c:Zn) (a:List (Key×V)),⇑c=⇑a->(∀(i:Nat) (p:Zs) (b:Key×V),c[i]?\p->a[i]?\b->H p\.tup [kV b.1,b.2])->
 ∃k:List (Key×Zt),KV a k/\∀(j:Nat) (p:Zs) (b:Key×Zt),c[j]?\p->k[j]?\b->∃e,(bY P w).is b.1 e=true/\IsTup h p #[e,b.2]:=by
 intro c
 induction c with
 |nil=>exact λa l _=>by cases a with|nil=>exact⟨[],.nil,λj p b d=>by simp at d⟩|cons=>ext l
 |cons p c y=>
  intro a l n
  cases a with
  |nil=>ext l
  |cons b a=>
   let⟨k,o,x⟩:=y a (by simpa using l) λi q b d g=>n (i+ 1) q b (by simpa using d) (by simpa using g)
   obtain⟨-,s,t,r⟩:=ok p _ (n 0 p b rfl rfl);let⟨u,v,rfl,z,m⟩:=vals2 t;rwa[⟨(b.1,v)::k,.cons ⟨2,m⟩ o,λj q f d g=>?_⟩]
   cases j with
   |zero=>
    obtain rfl:p=q:=by simpa using d
    obtain rfl:(b.1,v)=f:=by simpa using g
    rwa[u,jh z,r]
   |succ j=>exact x j q f (by simpa using d) (by simpa using g)
def vK (M:X.calm=true):iM X (.type "dict") Ip:=by
 intro m s P H O R Q I r h;let⟨l,k,a,rfl,C,hlen,B,q⟩:=h;let⟨u,rfl,D⟩:=vals1 r;ext D;let⟨A,y,c,z,v⟩:=I.aP l _ C;obtain rfl:=rh z;let⟨rs,i,G⟩:=Li I.aP k a hlen B;let t:⇑a=⇑rs:=⇑i;rw[aiQ]at A;rwa[ya (knd:=bY X.prog X.w) (rs:=rs) (I.ok.hd M) (by cbv) ∅ v (λj u E b o=>?_) λg w F kp=>?_]
 ·rw[ai6]at b
  cases e:k[j]? with
  |none=>rw[e]at b;ext b
  |some p=>
   rw[e]at b;let⟨d,n,J⟩:=G j p E e o;rwa[p,d,(Za0 b).symm,n,J]
 ·let L:KV (jb [] a) (merged [] rs):=KV.merge i .nil;let f:=lH a [];rw[akm]at f;rwa[↑↥s,_,I.laid (t':=w) kp (aiS _) (q9 ∅ (ajd.mpr (ajR (ajm I.big))) L F),2,q _ (I.aP.fresh (aiS _))]
end
section
variable {X:Cx}{pins:List (Zs×Obj)}{σ:St}{H:Hp}{s:Zu}{d:Zs}{u:HO}{o:Obj}
def Inv.freeze (I:Inv X pins σ H s)(e:H d\u)(mu:tN (some u))(g:s•d\o):Inv X pins σ (upd H d (.cz o u)) s:=by
 let a:tN (H d):=by rw[e];rwa[mu]
 let b:∀c y,H c\.own y->c≠d:=λc y r z=>by subst z;rw[r]at a;rwa[a]
 let jm:∀c f,H c\.tup f->c≠d:=λc f r z=>by subst z;rw[r]at a;rwa[a]
 let new:b9 X.prog X.w (upd H d (.cz o u)) s.heap d u:=(I.aP d u e).fE (λc v _ r=>r) (λc r=>[ak (b^r)]▸r) λc f r=>by rw[ak (jm^r)];rwa[r]
 rwa[km (t':=s.toks) I a (Heap.SameBut.refl _ _) ⟨o,g⟩ ⟨g,new⟩]
def Inv.Gn (I:Inv X pins σ H s)(e:H d\.cz o u)(mu:tN (some u))(k:∀o u,X.uw d≠some (.cz o u)):Inv X pins σ (upd H d u) s:=by
 let i:∀b,H b=none->b≠d:=λb n z=>by cbv
 let g:∀c y,H c\.own y->c≠d:=λc y r z=>by cbv
 let jm:∀c h,H c\.tup h->c≠d:=λc h r z=>by cbv
 rwa[⟨I.ok,I.os,I.bare,⟨I.base.keep,I.base.slot,λb ob q n w=>?_,I.base.there,λb h q=>?_,λb ob v q=>?_,λb l q=>?_⟩,I.loc,I.cell,5,λx c q=>?_,λp t=>?_,λb v q=>?_,I.len⟩]
 ·let f:=I.base.free b ob q n w;rw[ak (i b f)];rwa[f]
 ·let f:=I.base.iq b h q;rw[ak (jm^f)];rwa[f]
 ·let f:=I.base.gQ b ob v q;rw[ak (λz=>k ob v (by rw[<-z];rwa[q]))];rwa[f]
 ·let⟨m,f⟩:=I.base.iw b l q;erw[m];rw[ak (λz=>by cbv)];rwa[f]
 ·rw[ak (i _ I.free)];rwa[I.free]
 ·let f:=I.gR x c q;rw[ak (i _ f)];rwa[f]
 ·let⟨a,b,c⟩:=I.pin p t;rwa[⟨a,5,c⟩];rw[ak (i _ b)];rwa[b]
 ·let st:∀b v,b9 X.prog X.w H s.heap b v->b9 X.prog X.w (upd H d u) s.heap b v:=λb v q=>q.fE (λc v _ r=>r) (λc r=>[ak (g^r)]▸r) λc h r=>by rw[ak (jm^r)];rwa[r]
  cases j:b=d
  ·subst j;rw[aj]at q;obtain rfl:=Za0 q;rwa[st^(I.aP^e).2]
  ·rw[ak j]at q;rwa[st^I.aP b v q]
def Inv.Lj (I:Inv X pins σ H s)(e:H d\u)(mu:tN (some u)):∀o u,X.uw d≠some (.cz o u):=λo v q=>by
 rw[I.base.gQ d o v q]at e;ext e;rwa[mu]
def WH (t:TS):TS:=λD σ H=>∃(d:Zs) (u:HO),H d\u/\tN (some u)/\
 t { nx:=λ b a=>∃o,a d\.cz o u/\D.nx b (upd a d u),rt:=λv a=>∃o,a d\.cz o u/\D.rt v (upd a d u),
     bk:=λ b a=>∃o,a d\.cz o u/\D.bk b (upd a d u),ct:=λ b a=>∃o,a d\.cz o u/\D.ct b (upd a d u) } σ H
def sV {st:Stmt}{t:TS}(h:PS X st t):PS X st (WH t):=by
 intro pins s σ H D I q;let⟨d,u,e,mu,q⟩:=q;let i:=I.Lj e mu;rwa[bp (h pins s σ H _ I q) λf l p=>?_]
 cases f with
 |next=>let⟨a,j,b,o,c,g⟩:=p;rwa[a,_,b.Gn c mu i,g]
 |brk=>let⟨a,j,b,o,c,g⟩:=p;rwa[a,_,b.Gn c mu i,g]
 |cont=>let⟨a,j,b,o,c,g⟩:=p;rwa[a,_,b.Gn c mu i,g]
 |ret v=>let⟨k,a,j,b,r,o,c,g⟩:=p;rwa[k,a,_,b.Gn c mu i,r,g]
end
def Iq (d:Zs)(o:Obj)(u:HO)(n:Nat)(Y:Nat->Hp->V->Hp->Prop):It:=⟨λi H=>i<n/\H d\.cz o u,Y,λi H=>i=n/\H d\.cz o u⟩
abbrev Sv (d:Zs) (o:Obj) (kvs:List (Zd×V)):It:=Iq d o (.dT kvs) ⇑kvs λi H x H'=>H'=H/\∃p kv,kvs[i]?\kv/\x=↑p/\H p\(.tup (kv.1.map kV))
abbrev Sw (d:Zs) (o:Obj) (kvs:List (Key×V)):It:=Iq d o (.dK kvs) ⇑kvs λi H x H'=>H'=H/\∃kv,kvs[i]?\kv/\x=kV kv.1
theorem y8 {c b:Type}{R:c->b->Prop}:∀{e:List c} {ys:List b},Paired R e ys->∀{i:Nat} {x:c} {y:b},e[i]?\x->ys[i]?\y->R x y
 |[],_,h,i,x,y,a,_=>by simp at a
 |k::f,_,h,i,x,y,a,d=>by
  cases h with
  |cons g j=>
   cases i with
   |zero=>rw[<-Za0 a,<-Za0 d];rwa[g]
   |succ i=>exact y8 j a d
def Ir {it:Zs}{o:Obj}{u:HO}{b:Array DictEntry}{Y:Nat->Hp->V->Hp->Prop}
 (A:∀(X:Cx) (H:Hp) (h:Heap),dC X.prog X.w H h->H d\.cz o u->eM h d b m/\b.size=n/\∀i f,b[i]?\f->∃x,RelV x f.key/\Y i H x H):Turn P w K e (Iq d o u n Y) [it] it (λi h=>h.IsKeyIter it d i b.size m):=
 Hv (λi h ζ=>by let⟨o,a,c,d⟩:=ζ;rwa[⟨o,11,a,c,d,4⟩]) (λi h D st k=>st.at k) (λX l J H s i E C I st q=>by
  let⟨r,rfl,y⟩:=A X H s.heap I.aP (q.elim (·.2) (·.2));let⟨G,j,t,_⟩:=id r;let⟨F,p,z,_⟩:=id st
  rwa[1111,Dk.walks (I.ok.hd C) it (vt j p (by rw[t.1,z];decide)),⟨st,r⟩,λ_ _ h=>h.1,λg=>⟨g.1,λv B=>by
   let⟨f,j,rfl⟩:=B;rwa[y i f j]⟩,λg=>g.1]) λ_ _ _ _ _ st h=>wpAny_pyIter_keyiter st h
def Bd {o:Obj}{a:List (Zd×V)}{b:Array DictEntry}(I:dC P w H h)(u:H d\.cz o (.dT a))(q:o.data=.dict b n):
 eM h d b n/\b.size=⇑a/\∀(i:Nat) (f:DictEntry),b[i]?\f->∃g p v,a[i]?\g/\f.key=↑p/\H p\.tup (g.1.map kV)/\f.val=v/\RelV g.2 v:=by
 obtain⟨c,-,C,ys,j,G,E,B,m,x,s,l,F⟩:=I d _ u;rw[c]at m;obtain rfl:=Za0 m;rw[q]at s;injection s with D y
 subst D y;let A:⇑a=⇑ys:=Paired.length j;let z:b.size=⇑ys:=size_of_entries l;rwa[⟨⟨_,c,x,q⟩,z.trans A.symm,λi f e=>?_⟩];let t:i<⇑a:=by cbv
 let r:ys[i]?\(ys[i]'∅):=aiL ∅
 rw[entry_at l,r]at e;obtain rfl:=Za0 e;let k:=y8 j (aiL t) r;rwa[111,aiL t,2,k.2.1,2,k.2.2]
section
variable {X:Cx}{tg:Expr}
def iDT (tl:TE):TI:=λ c H R=>tl c H λx b=>∃d a,x=↑d/\b d\.dT a/\∀o,R (Sv d o a) (upd b d (.cz o (.dT a)))
def NK {tl:TE}(A:PE X e tl):PI X tg e (iDT tl):=by
 intro g s E H R I h;rwa[bp (A g s E H _ I h) λu N ζ=>?_];let⟨x,L,l,B,d,t,ex,k,q⟩:=ζ
 subst ex;ext B;obtain⟨-,j,ys,F,o,M,O,m,w,n,G,J⟩:=l.aP d _ k
 exact Dk.iter j ⟨o,m,w,n⟩ (vu (l.freeze k True.intro m) (Ir λX H h I f=>by
  let⟨r,z,y⟩:=Bd I f n;rwa[⟨r,z,λi C f=>?_⟩];let⟨D,p,v,a,b,c,_⟩:=y i C f;rwa[↑p,b,2,p,D,a,2,c]) ⟨_,ai2 _ rfl,22⟩ (q o))
def PZ {k:Key}(h:(bY P w).is k v=true):RelV (kV k) v:=by
 cases k with
 |inl i=>
  let a:Value.isInt i v=true:=h
  cases v with
  |int j t=>simp[Value.isInt]at a;subst a;rwa[12]
  |_=>simp[Value.isInt]at a
 |inr x=>
  let a:Value.isStrOf x v=true:=h
  cases v with
  |str j t=>simp[Value.isStrOf]at a;subst a;rwa[12]
  |_=>simp[Value.isStrOf]at a
end
section
variable {g:TG}{tb:TS}{D:Ends}{σ:St}{H:Hp}{d:Zs}{o:Obj}
def Gp {u:HO}{Y:Nat->Hp->V->Hp->Prop}{a:Nat->St->Hp->Prop}(k:a 0 σ H)(e:∀i σ H,i<=n->a i σ H->H d\.cz o u)
 (l:∀i σ H x b,a i σ H->Y i H x b->g x σ b λ c j=>tb { D with nx:=a (i+ 1),ct:=a (i+ 1),bk:=D.nx } c j) (h:∀ σ H,a n σ H->D.nx σ H):pU (Iq d o u n Y) g tb D σ H:=
 sP k (λi σ H f p=>⟨⟨f,e i σ H (akz f) p⟩,λx b=>l i σ H x b p⟩) λ σ H p=>⟨⟨2,e n σ H (aiS _) p⟩,h σ H p⟩
def Iu {kvs:List (Zd×V)}(a:Nat->St->Hp->Prop)(m:a 0 σ H)(h:∀i σ H,i<=⇑kvs->a i σ H->H d\.cz o (.dT kvs))
 (n:∀i b σ H p,kvs[i]?\b->H p\.tup (b.1.map kV)->a i σ H->g ↑p σ H λ c f=>tb { D with nx:=a (i+ 1),ct:=a (i+ 1),bk:=D.nx } c f) (e:∀ σ H,a ⇑kvs σ H->D.nx σ H):pU (Sv d o kvs) g tb D σ H:=
 Gp m h (λi σ H x q p y=>by
  let⟨rfl,k,b,l,rfl,j⟩:=y;rwa[n i b σ _ k l j p]) e
end
inductive Dt where
 |i (n:Int)|s (l:Zh)|n|b (k:Bool)|t (xs:List Dt)|l (xs:List Dt)
inductive bS (H:Hp):Nat->V->Dt->Prop where
 |i {k:Nat} {n:Int}:bS H k (.int n) (.i n)
 |s {k:Nat} {l:Zh}:bS H k (.str (tx l)) (.s l)
 |n {k:Nat}:bS H k .non .n
 |b {k:Nat} {c:Bool}:bS H k (.bl c) (.b c)
 |t {k:Nat} {a:Zs} {vs:Zb} {ds:List Dt}:H a\.tup vs->⇑vs=⇑ds->(∀(j:Nat) (v:V) (d:Dt),vs[j]?\v->ds[j]?\d->bS H k v d)->bS H (k+ 1) ↑a (.t ds)
 |l {k:Nat} {a:Zs} {vs:Zb} {ds:List Dt}:H a\.lst vs->⇑vs=⇑ds->(∀(j:Nat) (v:V) (d:Dt),vs[j]?\v->ds[j]?\d->bS H k v d)->bS H (k+ 1) ↑a (.l ds)
def bS.keep (j:∀a e,H a\.tup e->I a\.tup e)(g:∀a e,H a\.lst e->I a\.lst e){k:Nat}{v:V}{d:Dt}(h:bS H k v d):bS I k v d:=by
 induction h with
 |i=>exact .i
 |s=>exact .s
 |n=>exact .n
 |b=>exact .b
 |t a b c f=>exact .t (j^a) b f
 |l a b c f=>exact .l (g^a) b f
def bS.same (s:av H I){k:Nat}{v:V}{d:Dt}(h:bS H k v d):bS I k v d:=h.keep (λ_ _ e=>s^e) (λ_ _ e=>s^e)
def bS.up {k:Nat}{d:Dt}(h:bS H k q d):bS H (k+ 1) q d:=by
 induction h with
 |i=>exact .i
 |s=>exact .s
 |n=>exact .n
 |b=>exact .b
 |t a b c e=>exact .t a b e
 |l a b c e=>exact .l a b e
def bS.le {k:Nat}{d:Dt}(h:bS H k q d)(a:k<=m):bS H m q d:=by
 let⟨j,rfl⟩:=Nat.exists_eq_add_of_le a;clear a
 induction j with
 |zero=>exact h
 |succ j b=>exact b.up
inductive WL (x:V) (y:V) (H:Hp) (Q:VK):Prop
 |mk (d:Dt) (a b:Zs):x=↑a->y=↑b->bS H 8 x d->bS H 8 y d->Q (.bl true) H->WL x y H Q
inductive WM (x:V) (y:V) (H:Hp) (Q:VK):Prop
 |mk (d:Dt) (a b:Zs):x=↑a->y=↑b->bS H 8 x d->bS H 8 y d->Q (.bl false) H->WM x y H Q
noncomputable def nI (l:Zh):Zg:=l.map λn:Nat=>(n:Int)
def bP (l:Zh):⇑(nI l)=⇑l:=aiQ ..
def eD (h:B[i]?\n):(nI B)[i]?\(n:Int):=by unfold nI;rw[ai6,h];rfl
def g9 (a b:Zh):nI (a++b)=nI a++nI b:=ajn ..
def Sx (l:Zh)(i n:Nat):(nI l).set i (n:Int)=nI (l.set i n):=by unfold nI;rw[List.map_set]
structure RS where
 L:Nat
 q:Nat
 rows:List Dt
 ways:List (List (Int×Nat))
 gaps:Za3
 aY:Zh
 called:List Zh
 bu:Zh
def wK (l:List (Int×Nat)):List (Key×V):=l.map λp=>(Sum.inl p.1,V.int p.2)
noncomputable def gK (l:Zg):List (Key×V):=l.map λs=>(Sum.inl s,V.bl true)
noncomputable def fF (l:List (Int×Nat))(s:Int):Zi:=(l.find? λp=>decide (p.1=s)).map (·.2)
noncomputable def jZ (l:List (Int×Nat))(s:Int)(r:Nat):List (Int×Nat):=if (l.any λp=>decide (p.1=s))=true then l.map λp=>if p.1=s then (p.1,r) else p else l++[(s,r)]
def Be (l:List (Int×Nat)):⇑(wK l)=⇑l:=aiQ ..
def Sy (l:Zg):⇑(gK l)=⇑l:=aiQ ..
def Sz (a b:Int):decide ((Sum.inl a:Key)=Sum.inl b)=decide (a=b):=by
 rw[ajQ,ajt,ajt];rwa[Sum.inl.inj,ajT Sum.inl]
theorem lj (s:Int):∀l:List (Int×Nat),bA (wK l) (Sum.inl s)=(fF l s).map λr:Nat=>V.int (r:Int)
 |[]=>rfl
 |p::l=>by
  let b:=lj s l;cases h:p.1=s
  ·let e:bA (wK (p::l)) (Sum.inl s)\(V.int p.2):=da (p:=(Sum.inl p.1,V.int p.2)) (by rw[h]);let a:fF (p::l) s\p.2:=by unfold fF;rw[alX (by cbv)];rfl
   rw[e,a];rfl
  ·let e:bA (wK (p::l)) (Sum.inl s)=bA (wK l) (Sum.inl s):=cW (p:=(Sum.inl p.1,V.int p.2)) (λz=>h (Sum.inl.inj z));let a:fF (p::l) s=fF l s:=by unfold fF;rw[alf (by simpa using h)]
   rw[e,a,b]
def Bf (l:List (Int×Nat))(s:Int)(r:Nat):putK (wK l) (Sum.inl s) (.int r)=wK (jZ l s r):=by
 unfold putK jZ
 let a:((wK l).any λb=>decide (b.1=Sum.inl s))=l.any λp=>decide (p.1=s):=by
  unfold wK;rw[List.any_map]
  congr 1
  funext p
  rwa[Sz _ _]
 rw[a];split
 ·unfold wK;rw[ajw,ajw];rwa[ajN λp _=>?_]
  cbv
 ·unfold wK;rw[ajn];rfl
def Lk (l:List (Int×Nat))(s t:Int)(r:Nat):fF (jZ l s r) t=if t=s then some r else fF l t:=by
 let c:=lj t (jZ l s r);rw[<-Bf,jq,lj]at c
 let inj:∀a b:Zi,(a.map λr:Nat=>V.int (r:Int))=(b.map λr:Nat=>V.int (r:Int))->a=b:=λa b h=>by
  cases a <;> cases b <;> simp at h ⊢
  ext
 apply inj;rw[<-c];cases e:t=s
 ·rw[ajg e,ajg (by rw[e])];rfl
 ·rw[ajb e,ajb (λz=>e (Sum.inl.inj z))]
def Ln (l:List (Int×Nat))(s:Int)(r:Nat):⇑(jZ l s r)<=⇑l+ 1:=by
 unfold jZ;split
 ·rw[aiQ];ext
 ·rw[aiP];rwa[aiS _]
def P0 (l:Zg)(s:Int):fw (gK l) (Sum.inl s)=gK (l.filter λx=>decide (x≠s)):=by
 unfold fw gK;rw[List.filter_map]
 congr 1
 rwa[al6 λx _=>?_]
 cbv
theorem Iv (s:Int):∀l:Zg,bA (gK l) (Sum.inl s)=if s∈l then some (V.bl true) else none
 |[]=>rfl
 |x::l=>by
  cases h:x=s
  ·rw[ajg (by cbv)];rwa[da (p:=(Sum.inl x,V.bl true)) (by rw[h])]
  ·let e:bA (gK (x::l)) (Sum.inl s)=bA (gK l) (Sum.inl s):=cW (p:=(Sum.inl x,V.bl true)) (λz=>h (Sum.inl.inj z));rw[e,Iv s l]
   cbv
theorem y9:∀(more acc:List (Key×V)),((acc++more).map (·.1)).Nodup->jb acc more=acc++more
 |[],acc,_=>(ajp _).symm
 |p::more,acc,h=>by
  let b:bA acc p.1=none:=by
   unfold bA;rw[List.find?_eq_none.mpr ?_];rfl;intro q a;rw[ajt];intro e;rw[ajn,ajF]at h;rwa[h.2.2 q.1 (akL a) p.1 (akL ai7) e]
  show jb (putK acc p.1 p.2) more=_;rw[A3 _ b,y9 more (acc++[(p.1,p.2)]) ([ajy]▸h),ajy];rfl
structure RA where
 dx:Zs
 aR:Zs
 aW:Zs
 aG:Zs
 aE:Zs
 aC:Zs
 aN:Zs
 rs:Zn
 ws:Zn
 gs:Zn
 cs:Zn
noncomputable def fX (L made:Int)(a:RA):List (Str×V):=[("letters",.int L),("made",.int made),("rows",↑a.aR),("ways",↑a.aW),("gaps",↑a.aG),("elders",↑a.aE),("called",↑a.aC),("went",↑a.aN)]
def Iw (L m n:Int)(a:RA):bR "made" (.int n) (fX L m a)=fX L n a:=by
 let h:¬(("letters":Str)="made"):=⋯
 unfold fX;simp only[bR,ajb h,amh]
def vL (L m:Int)(a:RA):(fX L m a).lookup ("letters":Str)\(.int L):=by kernel_rfl
def sW (L m:Int)(a:RA):(fX L m a).lookup ("made":Str)\(.int m):=by kernel_rfl
def sX (L m:Int)(a:RA):(fX L m a).lookup ("rows":Str)\↑a.aR:=by kernel_rfl
def iP (L m:Int)(a:RA):(fX L m a).lookup ("ways":Str)\↑a.aW:=by kernel_rfl
def sY (L m:Int)(a:RA):(fX L m a).lookup ("gaps":Str)\↑a.aG:=by kernel_rfl
def jD (L m:Int)(a:RA):(fX L m a).lookup ("elders":Str)\↑a.aE:=by kernel_rfl
def nJ (L m:Int)(a:RA):(fX L m a).lookup ("called":Str)\↑a.aC:=by kernel_rfl
def sZ (L m:Int)(a:RA):(fX L m a).lookup ("went":Str)\↑a.aN:=by kernel_rfl
def cV (L m:Int)(a:RA){x:Str}(h:x∉(["letters","made","rows","ways","gaps","elders","called","went"]:Zp)):(fX L m a).lookup x=none:=by
 simp only[ai3,ajA,akO,not_or]at h;let⟨f,d,i,e,g,b,j,c⟩:=h;unfold fX;simp only[List.lookup,ajd.mpr f,ajd.mpr d,ajd.mpr i,ajd.mpr e,ajd.mpr g,ajd.mpr b,ajd.mpr j,ajd.mpr c]
theorem dU:∀{fs:List (Str×V)},fs.lookup f=none->bR f q fs=fs++[(f,q)]
 |[],_=>rfl
 |(g,x)::r,h=>by
  cases e:g=f
  ·cbv
  ·let a:(f==g)=false:=ajd.mpr (ajR e);simp only[List.lookup,a]at h;show (if g=f then _ else _)=_;rw[ajb e,dU h];rfl
inductive mH:Dt->Prop where
 |i {n:Int}:mH (.i n)
 |s {l:Zh}:mH (.s l)
 |t {ds:List Dt}:⇑ds<=100000->(∀d∈ds,mH d)->mH (.t ds)
def bS.gk (q:∀a g,H a\.tup g->I a\.tup g){k:Nat}{v:V}{d:Dt}(h:bS H k v d)(m:mH d):bS I k v d:=by
 induction h with
 |i=>exact .i
 |s=>exact .s
 |n=>exact .n
 |b=>exact .b
 |t a b c e=>
  cases m with
  |t _ o=>exact .t (q^a) b λj v d p f=>e j v d p f (o d (aiN f))
 |l a b c e=>ext m
def Each {a:Type}(R:Zs->a->Prop)(b:Zn)(xs:List a):Prop:=⇑b=⇑xs/\∀(i:Nat) (p:Zs) (x:a),b[i]?\p->xs[i]?\x->R p x
def Each.imp {e:Type}{R c:Zs->e->Prop}{a:List e}(h:Each R F a)(f:∀p x,p∈F->x∈a->R p x->c p x):Each c F a:=
 ⟨h.1,λi p x d b=>f p x (aiN d) (aiN b) (h.2 i p x d b)⟩
def Each.snoc {d:Type}{R:Zs->d->Prop}{ps:Zn}{xs:List d}{x:d}(h:Each R ps xs)(f:R a x):Each R (ps++[a]) (xs++[x]):=by
 rwa[⟨by rw[aiP,aiP,h.1];rfl,λi q y c b=>?_⟩];cases e:i<⇑ps
 ·rw[aiZ e]at c;rw[aiZ (by rw[<-h.1];rwa[e])]at b;rwa[h.2 i q y c b]
 ·rw[ai1 ∅]at c;rw[ai1 (by rw[<-h.1];omega)]at b;rw[aiR.mp (aiN c),aiR.mp (aiN b)];rwa[f]
def Each.at {a:Type}{R:Zs->a->Prop}{b:List a}(h:Each R F b){i:Nat}{x:a}(d:b[i]?\x):∃p,F[i]?\p/\R p x:=by
 let c:i<⇑F:=by rw[h.1];rwa[(aiO.mp d).1]
 rwa[_,aiL c,h.2 i _ x (aiL c) d]
def Each.mem {b:Type}{R:Zs->b->Prop}{xs:List b}(h:Each R F xs){p:Zs}(d:p∈F):∃x,x∈xs/\R p x:=by
 let⟨i,c⟩:=ajG d;let a:i<⇑xs:=by rw[<-h.1];rwa[(aiO.mp c).1]
 rwa[_,aiN (aiL a),h.2 i p _ c (aiL a)]
theorem Each.set {g:Type}{R k:Zs->g->Prop}{xs:List g}{x:g}(h:Each R F xs)(d:F[i]?\a)(m:k a x)(n:F.Nodup)(f:∀q y,q∈F->q≠a->R q y->k q y):Each k F (xs.set i x):=by
 rwa[⟨[aji]▸h.1,λj q y b c=>?_⟩];cases e:i=j
 ·subst e;rw[d]at b;obtain rfl:=Za0 b;let l:i<⇑xs:=by rw[<-h.1];rwa[(aiO.mp d).1]
  rw[ajv l]at c;obtain rfl:=Za0 c;rwa[m]
 ·rw[ajO e]at c;rwa[f q y (aiN b) (λz=>?_) (h.2 j q y b c)];subst z;rwa[e ((al7 (aiO.mp d).1 n).mp (d.trans b.symm))]
noncomputable def RA.lists (a:RA):Zn:=a.aR::a.aW::a.aG::a.aE::a.aC::a.aN::a.cs
noncomputable def RA.eY (a:RA):Zn:=a.ws++a.gs
def RA.own (a:RA)(r b:Zs):Prop:=b=r\/b∈a.lists\/b∈a.eY
structure ay (C:Zs) (H:Hp) (r:Zs) (S:RS) (a:RA):Prop where
 ins:H r\(.ins C a.dx (fX S.L S.q a))
 hR:H a.aR\(.lst (a.rs.map V.ref))
 hW:H a.aW\(.lst (a.ws.map V.ref))
 hG:H a.aG\(.lst (a.gs.map V.ref))
 hE:H a.aE\(.lst (aq (nI S.aY)))
 hC:H a.aC\(.lst (a.cs.map V.ref))
 hN:H a.aN\(.lst (aq (nI S.bu)))
 rR:Each (λp d=>bS H 4 ↑p d) a.rs S.rows
 rW:Each (λp l=>H p\.dK (wK l)) a.ws S.ways
 rG:Each (λp l=>H p\.dK (gK l)) a.gs S.gaps
 rC:Each (λp l=>H p\.lst (aq (nI l))) a.cs S.called
 flat:∀d∈S.rows,mH d
 iX:a.lists.Nodup
 mI:a.eY.Nodup
section
variable {C:Zs}{H H':Hp}{r:Zs}{S:RS}{a:RA}
def ay.keep (h:ay C H r S a)(k:∀b o,a.own r b->H b\o->H' b\o)(j:∀b g,H b\.tup g->H' b\.tup g):ay C H' r S a:=by
 let c:∀b o,b∈a.lists->H b\o->H' b\o:=λb o f=>k b o (.inr (.inl f))
 let i:∀b o,b∈a.eY->H b\o->H' b\o:=λb o f=>k b o (.inr (.inr f))
 rwa[k _ _ (.inl rfl) h.ins,c _ _ (by simp[RA.lists]) h.hR,c _ _ (by simp[RA.lists]) h.hW,c _ _ (by simp[RA.lists]) h.hG,c _ _ (by simp[RA.lists]) h.hE,c _ _ (by simp[RA.lists]) h.hC,c _ _ (by simp[RA.lists]) h.hN,h.rR.imp λp x _ l e=>e.gk j (h.flat x l),h.rW.imp λp x d _ e=>i _ _ (ajh _ d) e,h.rG.imp λp x d _ e=>i _ _ (aiV _ d) e,h.rC.imp λp x d _ e=>c _ _ (by simp[RA.lists,d]) e,h.flat,h.iX,h.mI]
def ay.same (h:ay C H r S a)(s:av H H'):ay C H' r S a:=h.keep (λ_ _ _ e=>s^e) (λ_ _ e=>s^e)
def ay.there (h:ay C H r S a){b:Zs}(c:a.own r b):∃o,H b\o:=by
 rcases c with rfl|c|c
 ·rwa[⟨_,h.ins⟩]
 ·unfold RA.lists at c;simp only[ai3]at c;rcases c with rfl|rfl|rfl|rfl|rfl|rfl|c
  ·rwa[⟨_,h.hR⟩]
  ·rwa[⟨_,h.hW⟩]
  ·rwa[⟨_,h.hG⟩]
  ·rwa[⟨_,h.hE⟩]
  ·rwa[⟨_,h.hC⟩]
  ·rwa[⟨_,h.hN⟩]
  ·let⟨x,_,e⟩:=h.rC.mem c;rwa[_,e]
 ·rcases aiY.mp c with c|c
  ·let⟨x,_,e⟩:=h.rW.mem c;rwa[_,e]
  ·let⟨x,_,e⟩:=h.rG.mem c;rwa[_,e]
def ay.tf (h:ay C H r S a){b:Zs}{f:Zb}(e:H b\.tup f):¬a.own r b:=λc=>by
 rcases c with rfl|c|c
 ·rw[h.ins]at e;ext e
 ·unfold RA.lists at c;simp only[ai3]at c;rcases c with rfl|rfl|rfl|rfl|rfl|rfl|c
  ·rw[h.hR]at e;ext e
  ·rw[h.hW]at e;ext e
  ·rw[h.hG]at e;ext e
  ·rw[h.hE]at e;ext e
  ·rw[h.hC]at e;ext e
  ·rw[h.hN]at e;ext e
  ·let⟨x,_,d⟩:=h.rC.mem c;cbv
 ·rcases aiY.mp c with c|c
  ·let⟨x,_,d⟩:=h.rW.mem c;cbv
  ·let⟨x,_,d⟩:=h.rG.mem c;cbv
end
end L2
variable {S T:L2.RS}{O:L2.RA}
namespace L2
open PySem PySem.Spec PyProof.Rows
section
variable {C:Zs}{H:Hp}{r:Zs}{S:RS}{a:RA}
def gn:a.aR∈a.lists:=by simp[RA.lists]
def gq:a.aW∈a.lists:=by simp[RA.lists]
def ji:a.aG∈a.lists:=by simp[RA.lists]
def gU:a.aE∈a.lists:=by simp[RA.lists]
def iQ:a.aC∈a.lists:=by simp[RA.lists]
def ie:a.aN∈a.lists:=by simp[RA.lists]
def gx (h:b∈a.cs):b∈a.lists:=by simp[RA.lists,h]
def dF (h:b∈a.ws):b∈a.eY:=ajh _ h
def gy (h:b∈a.gs):b∈a.eY:=aiV _ h
def ay.NM (h:ay C H r S a){b:Zs}(c:b∈a.lists):∃d,H b\(.lst d):=by
 unfold RA.lists at c;simp only[ai3]at c;rcases c with rfl|rfl|rfl|rfl|rfl|rfl|c
 ·rwa[⟨_,h.hR⟩]
 ·rwa[⟨_,h.hW⟩]
 ·rwa[⟨_,h.hG⟩]
 ·rwa[⟨_,h.hE⟩]
 ·rwa[⟨_,h.hC⟩]
 ·rwa[⟨_,h.hN⟩]
 ·let⟨x,_,e⟩:=h.rC.mem c;rwa[_,e]
def ay.qA (h:ay C H r S a){b:Zs}(c:b∈a.eY):∃d,H b\(.dK d):=by
 rcases aiY.mp c with c|c
 ·let⟨x,_,e⟩:=h.rW.mem c;rwa[_,e]
 ·let⟨x,_,e⟩:=h.rG.mem c;rwa[_,e]
def ay.rl (h:ay C H r S a){b:Zs}(c:b∈a.lists):r≠b:=by let⟨d,e⟩:=h.NM c;rwa[cf h.ins e (by cbv)]
def ay.rd (h:ay C H r S a){b:Zs}(c:b∈a.eY):r≠b:=by let⟨d,e⟩:=h.qA c;rwa[cf h.ins e (by cbv)]
def ay.ld (h:ay C H r S a){b c:Zs}(d:b∈a.lists)(hc:c∈a.eY):b≠c:=by
 let⟨f,e⟩:=h.NM d;let⟨ys,g⟩:=h.qA hc
 cbv
def ay.tl (h:ay C H r S a){b c:Zs}{d:Zb}(e:H b\.tup d)(hc:c∈a.lists):b≠c:=λz=>h.tf e (.inr (.inl ([z]▸hc)))
def ay.td (h:ay C H r S a){b c:Zs}{d:Zb}(e:H b\.tup d)(hc:c∈a.eY):b≠c:=λz=>h.tf e (.inr (.inr ([z]▸hc)))
def ay.tr (h:ay C H r S a){b:Zs}{c:Zb}(d:H b\.tup c):b≠r:=λz=>h.tf d (.inl z)
def ay.P1 (h:ay C H r S a)(n:Nat):ay C (upd H r (.ins C a.dx (fX S.L n a))) r { S with q:=n } a:=by
 let c:∀b o,b∈a.lists->H b\o->upd H r (.ins C a.dx (fX S.L n a)) b\o:=λb o f e=>by rw[ak (h.rl f).symm];rwa[e]
 let g:∀b o,b∈a.eY->H b\o->upd H r (.ins C a.dx (fX S.L n a)) b\o:=λb o f e=>by rw[ak (h.rd f).symm];rwa[e]
 rwa[aj,c _ _ gn h.hR,c _ _ gq h.hW,c _ _ ji h.hG,c _ _ gU h.hE,c _ _ iQ h.hC,c _ _ ie h.hN,h.rR.imp λp x _ j e=>e.gk (λb k i=>[ak (h.tr i)]▸i) (h.flat x j),h.rW.imp λp x d _ e=>g _ _ (dF d) e,h.rG.imp λp x d _ e=>g _ _ (gy d) e,h.rC.imp λp x d _ e=>c _ _ (gx d) e,h.flat,h.iX,h.mI]
def ay.jE (h:ay C H r S a){q:Zs}{o:HO}(c:q∈a.lists):upd H q o r\.ins C a.dx (fX S.L S.q a)/\(∀b x,b∈a.lists->b≠q->H b\x->upd H q o b\x)/\(∀b x,b∈a.eY->H b\x->upd H q o b\x)/\∀b d,H b\.tup d->upd H q o b\(.tup d):=
 ⟨[ak (h.rl c)]▸h.ins,λb x _ n e=>[ak n]▸e,λb x f e=>[ak (h.ld c f).symm]▸e,λb d e=>[ak (h.tl e c)]▸e⟩
def vM (b:a.lists.Nodup):(a.aR≠a.aW/\a.aR≠a.aG/\a.aR≠a.aE/\a.aR≠a.aC/\a.aR≠a.aN)/\(a.aW≠a.aG/\a.aW≠a.aE/\a.aW≠a.aC/\a.aW≠a.aN)/\(a.aG≠a.aE/\a.aG≠a.aC/\a.aG≠a.aN)/\(a.aE≠a.aC/\a.aE≠a.aN)/\a.aC≠a.aN/\∀p∈a.cs,p≠a.aR/\p≠a.aW/\p≠a.aG/\p≠a.aE/\p≠a.aC/\p≠a.aN:=by
 unfold RA.lists at b
 cbv
def ay.Bg (h:ay C H r S a){p:Zs}{d:Dt}(j:bS H 4 ↑p d)(hd:mH d):ay C (upd H a.aR (.lst (a.rs.map V.ref++[↑p]))) r { S with rows:=S.rows++[d] } { a with rs:=a.rs++[p] }:=by
 let⟨m,c,i,g⟩:=h.jE (o:=.lst (a.rs.map V.ref++[↑p])) (gn (a:=a));obtain⟨⟨n1,n2,n,s,k⟩,-,-,-,-,l⟩:=vM h.iX
 rwa[⟨m,5,c _ _ gq n1.symm h.hW,c _ _ ji n2.symm h.hG,c _ _ gU n.symm h.hE,c _ _ iQ s.symm h.hC,c _ _ ie k.symm h.hN,(h.rR.imp λq x _ f e=>e.gk g (h.flat x f)).snoc (j.gk g hd),h.rW.imp λq x b _ e=>i _ _ (dF b) e,h.rG.imp λq x b _ e=>i _ _ (gy b) e,h.rC.imp λq x b _ e=>c _ _ (gx b) (l q b).1 e,λx f=>?_,h.iX,h.mI⟩]
 ·rw[aj,ajn];rfl
 ·rcases aiY.mp f with f|f
  ·rwa[h.flat x f]
  cbv
def ay.SD (h:ay C H r S a){p:Zs}{l:List (Int×Nat)}(g:H p\.dK (wK l))(t:p∉a.eY):ay C (upd H a.aW (.lst (a.ws.map V.ref++[↑p]))) r { S with ways:=S.ways++[l] } { a with ws:=a.ws++[p] }:=by
 let⟨j,c,f,n⟩:=h.jE (o:=.lst (a.ws.map V.ref++[↑p])) (gq (a:=a));obtain⟨⟨n1,-⟩,⟨n2,k,m,i⟩,-,-,-,u⟩:=vM h.iX;let d:upd H a.aW (.lst (a.ws.map V.ref++[↑p])) p\(.dK (wK l)):=by rw[ak (cf g h.hW (by intro z;cases z))];rwa[g]
 erw[j,c _ _ gn n1 h.hR,5,c _ _ ji n2.symm h.hG,c _ _ gU k.symm h.hE,c _ _ iQ m.symm h.hC,c _ _ ie i.symm h.hN,h.rR.imp λq x _ s e=>e.gk n (h.flat x s),(h.rW.imp λq x b _ e=>f _ _ (dF b) e).snoc d,h.rG.imp λq x b _ e=>f _ _ (gy b) e,h.rC.imp λq x b _ e=>c _ _ (gx b) (u q b).2.1 e,h.flat,h.iX]
 ·show upd H a.aW _ a.aW\.lst ((a.ws++[p]).map V.ref);rw[aj,ajn];rfl
 ·show (a.ws++[p]++a.gs).Nodup;rw[ajy];rwa[(List.perm_middle.nodup_iff).mpr (ajr.mpr ⟨t,h.mI⟩)]
def ay.SF (h:ay C H r S a){p:Zs}{l:Zg}(i:H p\.dK (gK l))(u:p∉a.eY):ay C (upd H a.aG (.lst (a.gs.map V.ref++[↑p]))) r { S with gaps:=S.gaps++[l] } { a with gs:=a.gs++[p] }:=by
 let⟨k,c,g,s⟩:=h.jE (o:=.lst (a.gs.map V.ref++[↑p])) (ji (a:=a));obtain⟨⟨-,n1,-⟩,⟨n2,-⟩,⟨m,n,j⟩,-,-,v⟩:=vM h.iX;let d:upd H a.aG (.lst (a.gs.map V.ref++[↑p])) p\(.dK (gK l)):=by rw[ak (cf i h.hG (by cbv))];rwa[i]
 erw[k,c _ _ gn n1 h.hR,c _ _ gq n2 h.hW,5,c _ _ gU m.symm h.hE,c _ _ iQ n.symm h.hC,c _ _ ie j.symm h.hN,h.rR.imp λq x _ f e=>e.gk s (h.flat x f),h.rW.imp λq x b _ e=>g _ _ (dF b) e,(h.rG.imp λq x b _ e=>g _ _ (gy b) e).snoc d,h.rC.imp λq x b _ e=>c _ _ (gx b) (v q b).2.2.1 e,h.flat,h.iX]
 ·rw[aj,ajn];rfl
 ·show (a.ws++(a.gs++[p])).Nodup;rw[<-ajy];rwa[ajF.mpr ⟨h.mI,by simp,λx f y t z=>?_⟩];rw[aiR.mp t]at z;rwa[u (z ▸ f)]
def ay.za (h:ay C H r S a)(d:Zh):ay C (upd H a.aE (.lst (aq (nI d)))) r { S with aY:=d } a:=by
 let⟨k,c,f,g⟩:=h.jE (o:=.lst (aq (nI d))) (gU (a:=a));obtain⟨⟨-,-,n1,-⟩,⟨-,n2,-⟩,⟨l,-⟩,⟨n,i⟩,-,j⟩:=vM h.iX
 rwa[k,c _ _ gn n1 h.hR,c _ _ gq n2 h.hW,c _ _ ji l h.hG,aj,c _ _ iQ n.symm h.hC,c _ _ ie i.symm h.hN,h.rR.imp λq x _ m e=>e.gk g (h.flat x m),h.rW.imp λq x b _ e=>f _ _ (dF b) e,h.rG.imp λq x b _ e=>f _ _ (gy b) e,h.rC.imp λq x b _ e=>c _ _ (gx b) (j q b).2.2.2.1 e,h.flat,h.iX,h.mI]
def ay.P8 (h:ay C H r S a)(d:Zh):ay C (upd H a.aN (.lst (aq (nI d)))) r { S with bu:=d } a:=by
 let⟨k,c,f,g⟩:=h.jE (o:=.lst (aq (nI d))) (ie (a:=a));obtain⟨⟨-,-,-,-,n1⟩,⟨-,-,-,n2⟩,⟨-,-,l⟩,⟨-,n⟩,i,j⟩:=vM h.iX
 rwa[k,c _ _ gn n1 h.hR,c _ _ gq n2 h.hW,c _ _ ji l h.hG,c _ _ gU n h.hE,c _ _ iQ i h.hC,aj,h.rR.imp λq x _ m e=>e.gk g (h.flat x m),h.rW.imp λq x b _ e=>f _ _ (dF b) e,h.rG.imp λq x b _ e=>f _ _ (gy b) e,h.rC.imp λq x b _ e=>c _ _ (gx b) (j q b).2.2.2.2.2 e,h.flat,h.iX,h.mI]
def ay.Iy (h:ay C H r S a){p:Zs}{l:Zh}(u:H p\.lst (aq (nI l)))(j:p∉a.lists):ay C (upd H a.aC (.lst (a.cs.map V.ref++[↑p]))) r { S with called:=S.called++[l] } { a with cs:=a.cs++[p] }:=by
 let⟨m,c,i,t⟩:=h.jE (o:=.lst (a.cs.map V.ref++[↑p])) (iQ (a:=a));obtain⟨⟨-,-,-,n1,-⟩,⟨-,-,n2,-⟩,⟨-,n,-⟩,⟨s,-⟩,k,w⟩:=vM h.iX;let f:p≠a.aC:=λz=>j ([z]▸iQ)
 let d:upd H a.aC (.lst (a.cs.map V.ref++[↑p])) p\(.lst (aq (nI l))):=by rw[ak f];rwa[u]
 rwa[⟨m,c _ _ gn n1 h.hR,c _ _ gq n2 h.hW,c _ _ ji n h.hG,c _ _ gU s h.hE,5,c _ _ ie k.symm h.hN,h.rR.imp λq x _ g e=>e.gk t (h.flat x g),h.rW.imp λq x b _ e=>i _ _ (dF b) e,h.rG.imp λq x b _ e=>i _ _ (gy b) e,(h.rC.imp λq x b _ e=>c _ _ (gx b) (w q b).2.2.2.2.1 e).snoc d,h.flat,5,h.mI⟩]
 ·show upd H a.aC _ a.aC\.lst ((a.cs++[p]).map V.ref);rw[aj,ajn];rfl
 ·show (a.lists++[p]).Nodup;rwa[ajF.mpr ⟨h.iX,by simp,λx g y v z=>?_⟩];rw[aiR.mp v]at z;rwa[j (z ▸ g)]
def ay.Iz (h:ay C H r S a){i:Nat}{p:Zs}(g:a.cs[i]?\p)(l:Zh):ay C (upd H p (.lst (aq (nI l)))) r { S with called:=S.called.set i l } a:=by
 let j:=aiN g;let⟨m,b,f,u⟩:=h.jE (o:=.lst (aq (nI l))) (gx j);obtain⟨-,-,-,-,-,z⟩:=vM h.iX;let⟨n1,n2,s,t,k,v⟩:=z p j
 let d:a.cs.Nodup:=by
  have:=h.iX;unfold RA.lists at this;simp only[ajr]at this;rwa[this.2.2.2.2.2.2]
 rwa[m,b _ _ gn n1.symm h.hR,b _ _ gq n2.symm h.hW,b _ _ ji s.symm h.hG,b _ _ gU t.symm h.hE,b _ _ iQ k.symm h.hC,b _ _ ie v.symm h.hN,h.rR.imp λq x _ w e=>e.gk u (h.flat x w),h.rW.imp λq x c _ e=>f _ _ (dF c) e,h.rG.imp λq x c _ e=>f _ _ (gy c) e,h.rC.set g aj d λq y c n e=>b _ _ (gx c) n e,h.flat,h.iX,h.mI]
def ay.EZ (h:ay C H r S a){q:Zs}{o:HO}(c:q∈a.eY):upd H q o r\.ins C a.dx (fX S.L S.q a)/\(∀b x,b∈a.eY->b≠q->H b\x->upd H q o b\x)/\(∀b x,b∈a.lists->H b\x->upd H q o b\x)/\∀b d,H b\.tup d->upd H q o b\(.tup d):=
 ⟨[ak (h.rd c)]▸h.ins,λb x _ n e=>[ak n]▸e,λb x f e=>[ak (h.ld f c)]▸e,λb d e=>[ak (h.td e c)]▸e⟩
def ay.Bh (h:ay C H r S a){i:Nat}{p:Zs}(f:a.ws[i]?\p)(l:List (Int×Nat)):ay C (upd H p (.dK (wK l))) r { S with ways:=S.ways.set i l } a:=by
 let g:=aiN f;let⟨j,d,b,k⟩:=h.EZ (o:=.dK (wK l)) (dF g);let nd:=ajF.mp h.mI
 rwa[j,b _ _ gn h.hR,b _ _ gq h.hW,b _ _ ji h.hG,b _ _ gU h.hE,b _ _ iQ h.hC,b _ _ ie h.hN,h.rR.imp λq x _ m e=>e.gk k (h.flat x m),h.rW.set f aj nd.1 λq y c n e=>d _ _ (dF c) n e,h.rG.imp λq x c _ e=>d _ _ (gy c) (λz=>nd.2.2 p g q c z.symm) e,h.rC.imp λq x c _ e=>b _ _ (gx c) e,h.flat,h.iX,h.mI]
def ay.SG (h:ay C H r S a){i:Nat}{p:Zs}(f:a.gs[i]?\p)(l:Zg):ay C (upd H p (.dK (gK l))) r { S with gaps:=S.gaps.set i l } a:=by
 let g:=aiN f;let⟨j,d,b,k⟩:=h.EZ (o:=.dK (gK l)) (gy g);let nd:=ajF.mp h.mI
 rwa[j,b _ _ gn h.hR,b _ _ gq h.hW,b _ _ ji h.hG,b _ _ gU h.hE,b _ _ iQ h.hC,b _ _ ie h.hN,h.rR.imp λq x _ m e=>e.gk k (h.flat x m),h.rW.imp λq x c _ e=>d _ _ (dF c) (λz=>nd.2.2 q c p g z) e,h.rG.set f aj nd.2.1 λq y c n e=>d _ _ (gy c) n e,h.rC.imp λq x c _ e=>b _ _ (gx c) e,h.flat,h.iX,h.mI]
end
noncomputable def RS.ko (S:RS)(i:Nat)(l:List (Int×Nat)):RS:={ S with ways:=S.ways.set i l }
noncomputable def RS.setG (S:RS)(i:Nat)(l:Zg):RS:={ S with gaps:=S.gaps.set i l }
noncomputable def RS.way (S:RS)(c:Nat):List (Int×Nat):=S.ways.getD c []
def RS.gap (S:RS)(c:Nat):Zg:=S.gaps.getD c []
def RS.by (S:RS)(c:Nat)(z:Int):Zi:=fF (S.way c) z
def RS.cD (S:RS)(c:Nat)(z:Int)(d:Nat):RS:=S.ko c (jZ (S.way c) z d)
def RS.lY (S:RS)(c:Nat)(z:Int):RS:=S.setG c ((S.gap c).filter λx=>decide (x≠z))
def RS.keep (S:RS)(c:Nat)(z:Int)(d:Nat):RS:=(((S.cD c z d).cD d (-z) c).lY c z).lY d (-z)
noncomputable def lu (c:Nat)(z:Int)(n:Nat):Dt:=.t [.s [110,101,119],.i c,.i z,.i n]
def RS.grown (S:RS)(c:Nat)(z:Int)(gaps:Zg):RS:={ S with q:=S.q+ 1,rows:=S.rows++[lu c z S.q],ways:=S.ways++[[]],gaps:=S.gaps++[gaps],aY:=S.aY++[S.q],called:=S.called++[[S.q]] }
def RS.make (S:RS)(c:Nat)(z:Int)(gaps:Zg):RS:=(S.grown c z gaps).keep c z S.q
noncomputable def RS.new (L:Nat)(gaps:Zg):RS:=⟨L,(1),[],[[]],[gaps],[0],[[0]],[]⟩
structure RS.Wf (S:RS):Prop where
 w:⇑S.ways=S.q
 g:⇑S.gaps=S.q
 e:⇑S.aY=S.q
 c:⇑S.called=S.q
section
variable {X:Cx}{e:Expr}{f:Str}{ta:TE}{pos:Pos}
def P9 (a:X.K=K)(b:PE X e ta)(c:attributeBase e f X.env (eval e X.env)=eval e X.env):PE X (.Attribute e f pos) (Ru K ta f):=by
 subst a;rwa[aF b c]
end
def nK {J:It}{Q:VK}(n:Nat)(u:Nat->V)(R:Hp->V->Nat->Prop)(G:∀q b v i,av q b->R q v i->R b v i)(p:n<=sizeLine)
 (l:∀(i:Nat) b,av H b->i<n->J.go i b) (C:∀(i:Nat) (x:V) (b d:Hp),av H b->i<n->J.tR i b x d->d=b/\x=u i) (g:∀b,av H b->J.stop n b)
 (E:∀(i:Nat) (b:Hp) (y:VK),i<n->av H b->(∀v d,av b d->R d v i->y v d)->r (some (u i)::D) b y)
 (z:∀a b ys,av H b->b a=none->⇑ys=n->(∀(i:Nat) (v:V),ys[i]?\v->R b v i)->Q ↑a (upd b a (.lst ys))):qZ r D Q J H:=by
 erw[λi m ys b=>m=n - i/\i<=n/\⇑ys=i/\av H b/\∀(j:Nat) (v:V),ys[j]?\v->R b v j,⟨n,by simp,ajj _,2,λ_ _ e=>e,λj v h=>by simp at h⟩];rintro i m ys b ⟨rfl,M,s,s2,t⟩;cases c:i<n
 ·rwa[.inr ⟨l i b s2 c,3,λx d k=>?_⟩];let⟨rfl,rfl⟩:=C i x b d s2 c k;rwa[E i _ _ c s2 λv L o F=>⟨n - (i+ 1),32,c,by rw[aiP,s];rfl,s2.trans o,λj w f=>?_⟩]
  cases I:j<⇑ys
  ·rw[aiZ I]at f;rwa[G _ _ _ _ o (t j w f)]
  ·rw[ai1 ∅]at f
   let B:j - ⇑ys=0:=by
    have:=(aiO.mp f).1;rw[ajY]at this;ext
   rw[B]at f;have:j=i:=∅
   subst this;rw[<-Za0 f];rwa[F]
 ·let e:i=n:=∅
  subst e;rwa[.inl ⟨g b s2,3,λa A=>z a b ys s2 A s t⟩]
theorem ti {P:Nat->Zs->Prop}:∀(ys:Zb) (k:Nat),(∀(i:Nat) (v:V),ys[i]?\v->∃p,v=↑p/\P (k+ i) p)->∃a:Zn,ys=a.map V.ref/\∀(i:Nat) (p:Zs),a[i]?\p->P (k+ i) p
 |[],_,_=>⟨[],2,λi p h=>by simp at h⟩
 |v::ys,k,h=>by
  let⟨p,rfl,f⟩:=h 0 v rfl
  let⟨a,rfl,b⟩:=ti (P:=P) ys (k+ 1) λi w c=>by
   let⟨q,e,d⟩:=h (i+ 1) w (by simpa using c)
   cbv
  rwa[⟨p::a,2,λi q d=>?_⟩]
  cases i with
  |zero=>cbv
  |succ i=>
   cbv
theorem jF {f:Str}{v:V}{n:Nat}:∀{fs:List (Str×V)},⇑fs<=n->⇑(bR f v fs)<=n+ 1
 |[],h=>by show 1<=n+ 1;ext
 |(g,x)::r,h=>by
  show ⇑(if g=f then (g,v)::r else (g,x)::bR f v r)<=n+ 1;rw[ajf]at h;split
  ·rw[ajf];ext
  ·have:=jF (f:=f) (v:=v) (n:=n - 1) (fs:=r) ∅;rw[ajf];ext
def zP (K:Za1):PySem.W.kitOne K (.type "int") (.type "tuple")\false:=by first|rfl|kernel_rfl
def Bi (K:Za1):PySem.W.kitOne K (.type "int") (.type "list")\false:=by first|rfl|kernel_rfl
def Bj (K:Za1):PySem.W.kitOne K (.type "int") (.type "dict")\false:=by first|rfl|kernel_rfl
def zQ (K:Za1):PySem.W.kitOne K (.type "str") (.type "tuple")\false:=by first|rfl|kernel_rfl
def Bk (K:Za1):PySem.W.kitOne K (.type "str") (.type "list")\false:=by first|rfl|kernel_rfl
def Bl (K:Za1):PySem.W.kitOne K (.type "str") (.type "dict")\false:=by first|rfl|kernel_rfl
theorem rj:∀{d:List DictEntry} {f:List (Key×Zt)} {c:List (Key×V)},Pairs (bY P w) d f->KV c f->Vals (c.map λi=>kV i.1) (d.map (·.key))
 |[],_,_,.nil,r=>by ext r;rwa[.nil]
 |e::d,_,_,.cons g j h,r=>by
  cases r with
  |cons a b=>
   rw[aj0,aj0];rwa[.cons ?_ (rj h b)];rw[a.1];rwa[PZ g]
theorem pairs_len:∀{b:List DictEntry} {a:List (Key×Zt)},Pairs (bY P w) b a->⇑b=⇑a
 |_,_,.nil=>rfl
 |_,_,.cons _ _ h=>by rw[ajf,ajf,pairs_len h]
section
variable {X:Cx}
inductive IA (xs:Zb) (H:Hp) (Q:VK):Prop
 |mk (d:Zs) (kvs:List (Key×V)):xs=[↑d]->H d\.dK kvs->(∀l,H l=none->Q ↑l (upd H l (.lst (kvs.map λkv=>kV kv.1))))->IA xs H Q
def j0 (O:X.calm=true):iM X (.type "list") IA:=by
 intro w s U H S Y Q I r h;let⟨d,c,rfl,x,q⟩:=h;let⟨u,rfl,G⟩:=vals1 r;ext G;let⟨C,n,A,rel,o,g,W,E,k,e,R,t,V⟩:=sT I.aP x;let hlen:⇑c=⇑A:=⇑rel;let m:=pairs_len t;let D:g.size=⇑c:=by rw[<-akI,m,hlen]
 rwa[Dk.Ik (I.ok.hd O) n ⟨o,E,k,e⟩ ∅ λF z a y l f b=>?_]
 let N:a.toList=g.toList.map (·.key):=by
  rwa[aku λi=>?_]
  rw[aki,ai6,aki]
  cases j:a[i]? with
  |none=>
   let L:g.size<=i:=by
    let p:a.size<=i:=Array.getElem?_eq_none_iff.mp j;rw[b.1]at p;rwa[p]
   rw[Array.getElem?_eq_none L];rfl
  |some v=>
   let⟨T,M,rfl⟩:=b.2 i v j;rw[M];rfl
 let B:a=(g.toList.map (·.key)).toArray:=by rw[<-N]
 rw[B]at f;let j:=rj t rel;rwa[↑↥s,_,I.laid (t':=z) l (aiS _) (show b9 X.prog X.w _ F _ (.lst (c.map λJ=>kV J.1)) from ⟨[aiQ]▸C,_,y,j,f⟩),2,q _ (I.aP.fresh (aiS _))]
end
section
variable {C:Zs}{H:Hp}{r:Zs}{S:RS}{a:RA}
theorem ay.SJ (h:ay C H r S a){i:Nat}(v:i<⇑a.ws){q:Zs}{l:List (Int×Nat)}(d:H q\.dK (wK l))(w:q∉a.eY):ay C (upd H a.aW (.lst ((a.ws.map V.ref).set i ↑q))) r { S with ways:=S.ways.set i l } { a with ws:=a.ws.set i q }:=by
 let⟨D,g,n,G⟩:=h.jE (o:=.lst ((a.ws.map V.ref).set i ↑q)) (gq (a:=a));obtain⟨⟨n1,-⟩,⟨n2,E,F,B⟩,-,-,-,Q⟩:=vM h.iX;let k:upd H a.aW (.lst ((a.ws.map V.ref).set i ↑q)) q\(.dK (wK l)):=by rw[ak (cf d h.hW (by intro z;cases z))];rwa[d]
 let nd:=ajF.mp h.mI
 erw[D,g _ _ gn n1 h.hR,5,g _ _ ji n2.symm h.hG,g _ _ gU E.symm h.hE,g _ _ iQ F.symm h.hC,g _ _ ie B.symm h.hN,h.rR.imp λq x _ f e=>e.gk G (h.flat x f),5,h.rG.imp λq x d _ e=>n _ _ (gy d) e,h.rC.imp λq x d _ e=>g _ _ (gx d) (Q q d).2.1 e,h.flat,h.iX]
 ·show upd H a.aW _ a.aW\.lst ((a.ws.set i q).map V.ref);rw[aj,List.map_set]
 ·rwa[⟨by show ⇑(a.ws.set i q)=⇑(S.ways.set i l);rw[aji,aji];rwa[h.rW.1],λj p x O L=>?_⟩];let b:(a.ws.set i q)[j]?\p:=O
  let c:(S.ways.set i l)[j]?\x:=L
  cases z:i=j
  ·subst z;rw[ajv v]at b;rw[ajv (by rw[<-h.rW.1];rwa[v])]at c;obtain rfl:=Za0 b;obtain rfl:=Za0 c;rwa[k]
  ·rw[ajO z]at b c;rwa[n _ _ (dF (aiN b)) (h.rW.2 j p x b c)]
 ·show (a.ws.set i q++a.gs).Nodup;let M:q∉a.ws:=λz=>w (ajh _ z)
  let s:q∉a.gs:=λz=>w (aiV _ z)
  rwa[ajF.mpr ⟨5,nd.2.1,λx f y u z=>?_⟩]
  ·have:∀(l:Zn) (i:Nat),l.Nodup->q∉l->(l.set i q).Nodup:=by
    intro l
    induction l with
    |nil=>intro i _ _;simp
    |cons x l P=>
     intro i I m;let⟨N,t⟩:=ajr.mp I;let J:q≠x:=λz=>m ([z]▸ai7)
     let A:q∉l:=λz=>m (ajo _ z)
     cases i with
     |zero=>exact ajr.mpr ⟨A,t⟩
     |succ i=>
      rwa[ajr.mpr ⟨λz=>?_,P i t A⟩];rcases akU z with z|z
      ·rwa[N z]
      ·rwa[J z.symm]
   rwa[this a.ws i nd.1 M]
  ·rcases akU f with f|f
   ·rwa[nd.2.2 x f y u z]
   ·rw[<-f,z]at s;rwa[s u]
end
def Qa (l:List (Int×Nat))(s:Int):fw (wK l) (Sum.inl s)=wK (l.filter λp=>decide (p.1≠s)):=by
 unfold fw wK;rw[List.filter_map]
 congr 1
 rwa[al6 λx _=>?_]
 cbv
def IB (l:List (Int×Nat))(s t:Int):fF (l.filter λp=>decide (p.1≠s)) t=if t=s then none else fF l t:=by
 induction l with
 |nil=>split <;> rfl
 |cons p l a=>
  let b:∀(q:Int×Nat) (m:List (Int×Nat)),fF (q::m) t=if q.1=t then some q.2 else fF m t:=λq m=>by
   unfold fF
   cbv
  cbv
abbrev Way:=Nat×Int×Nat
abbrev Ze:=List Way
def RS.ax (S:RS)(c:Nat):Nat:=S.aY.getD c 0
def RS.cE (S:RS)(c:Nat):Zh:=S.called.getD c []
noncomputable def gA (c:Nat)(z:Int)(x y:Nat):Dt:=.t [.s [109,101,101,116],.i c,.i z,.i x,.i y]
def RS.joined (S:RS)(c:Nat)(z:Int)(x y:Nat):RS:=
 { S with rows:=S.rows++[gA c z x y],bu:=S.bu++[y],aY:=(S.cE y).foldl (λa n=>a.set n x) S.aY,called:=S.called.set x (S.cE x++S.cE y) }
def RS.oV (S:RS)(c:Nat)(z:Int):RS:=S.ko c ((S.way c).filter λp=>decide (p.1≠z))
def jG (c:Nat)(st:RS×Ze)(p:Int×Nat):RS×Ze:=(if p.2≠c then st.1.oV p.2 (-p.1) else st.1,st.2++[(c,p.1,p.2)])
def RS.oW (S:RS)(c:Nat)(a:Ze):RS×Ze:=(S.way c).foldl (jG c) (S.ko c [],a)
def RS.meet (S:RS)(c:Nat)(z:Int)(x y:Nat)(a:Ze):RS×Ze:=(S.joined c z (min x y) (max x y)).oW (max x y) a
def RS.takeIn (S:RS)(a:Ze)(w:Way):RS×Ze:=
 if (S.by (S.ax w.1) w.2.1).getD (S.ax w.2.2)≠S.ax w.2.2 then S.meet (S.ax w.1) w.2.1 ((S.by (S.ax w.1) w.2.1).getD (S.ax w.2.2)) (S.ax w.2.2) a
 else if (S.by (S.ax w.2.2) (-w.2.1)).getD (S.ax w.1)≠S.ax w.1 then S.meet (S.ax w.2.2) (-w.2.1) ((S.by (S.ax w.2.2) (-w.2.1)).getD (S.ax w.1)) (S.ax w.1) a
 else (S.keep (S.ax w.1) w.2.1 (S.ax w.2.2),a)
structure Gq (S:RS) (c:Nat):Prop where
 nd:((S.way c).map (·.1)).Nodup
 lt:∀q∈S.way c,q.2<S.q
 bk:∀q∈S.way c,q.2≠c->(S.by q.2 (-q.1)).isSome=true
def jr {l:List (Int×Nat)}(a:n<⇑S.ways):(S.ko n l).way m=if m=n then l else S.way m:=by
 unfold RS.ko RS.way;show (S.ways.set n l).getD m []=_;rw[aiT,aiT];cases h:n=m
 ·subst h;rw[ajv a,ajg rfl];rfl
 ·rw[ajO h,ajb (ajR h)]
def jH (a:n<⇑S.ways):(S.cD n z i).by m y=if m=n/\y=z then some i else S.by m y:=by
 unfold RS.cD RS.by;rw[jr a];cases h:m=n
 ·subst h;rw[ajg rfl,Lk]
  cbv
 cbv
def Gr (a:n<⇑S.ways):(S.oV n z).by m y=if m=n/\y=z then none else S.by m y:=by
 unfold RS.oV RS.by;rw[jr a];cases h:m=n
 ·subst h;rw[ajg rfl,IB]
  cbv
 ·rw[ajb h,ajb (λq=>h q.1)]
def Qb {l:List (Int×Nat)}(a:n<⇑S.ways):(S.ko n l).by m z=if m=n then fF l z else S.by m z:=by
 unfold RS.by;rw[jr a];split <;> rfl
def dc (c:Nat)(S:RS)(a:Ze)(b:List (Int×Nat)):RS×Ze:=b.foldl (jG c) (S.ko c [],a)
def iB (c:Nat)(S:RS)(a:Ze)(b:List (Int×Nat))(p:Int×Nat):dc c S a (b++[p])=jG c (dc c S a b) p:=by unfold dc;cbv
def snoc_ind {b:Type}{P:List b->Prop}(f:P [])(d:∀l x,P l->P (l++[x])):∀l,P l:=λl=>by
 have:∀n (l:List b),⇑l=n->P l:=by
  intro n
  induction n with
  |zero=>cbv
  |succ n c=>
   intro l e;let a:l≠[]:=λz=>by rw[z]at e;ext e
   rw[<-akE a];rwa[d^(c _ (by rw[List.length_dropLast];omega))]
 rwa[this _ l rfl]
def zb (c:Nat)(S:RS)(a:Ze):∀b:List (Int×Nat),(dc c S a b).2=a++b.map λp=>(c,p.1,p.2):=by
 rwa[snoc_ind (by simp[dc]) λb p d=>?_]
 rw[iB];show (dc c S a b).2++_=_
 cbv
def gO (c:Nat)(S:RS)(a:Ze):∀b:List (Int×Nat),(dc c S a b).1.ways.length=⇑S.ways/\(dc c S a b).1={ S with ways:=(dc c S a b).1.ways }:=by
 rwa[snoc_ind ⟨by simp[dc,RS.ko],2⟩ λb p d=>?_]
 rw[iB];unfold jG;cases h:p.2≠c
 ·simp only[h,amh,ak4,ne_eq];erw[5]
  ·show ⇑(List.set^_)=_;rw[aji];rwa[d.1]
  ·unfold RS.oV RS.ko;rw[d.2]
 ·simp only[h,amb];rwa[d]
def yb {c:Ze}(m:n<⇑S.ways):∀f:List (Int×Nat),(∀q∈f,q.2<⇑S.ways)->∀d z,(dc n S c f).1.by d z=if d=n\/∃q∈f,q.2=d/\z= -q.1 then none else S.by d z:=by
 rwa[snoc_ind (λ_ d z=>?_) λf p l i d z=>?_]
 ·show (S.ko n []).by d z=_;rw[Qb m];cases h:d=n
  ·rw[ajg h,ajg (.inl h)];rfl
  ·rw[ajb h,ajb (by rintro (q|⟨q,a,_⟩);rwa[h q];ext a)]
 ·let g:=l (λq a=>i q (ajh _ a)) d z;let j:=i p (aiV _ ai7);rw[iB];unfold jG;cases h:p.2≠n
  ·simp only[h,amh,ak4,ne_eq];rw[Gr ([(gO n S c f).1]▸j),g];cases e:d=p.2/\z= -p.1
   ·rw[ajg e,ajg (.inr ⟨p,aiV _ ai7,e.1.symm,e.2⟩)]
   ·rw[ajb e];cases b:d=n\/∃q∈f,q.2=d/\z= -q.1
    ·rw[ajg b,ajg (b.imp id λζ=>by let⟨q,a,r⟩:=ζ;rwa[⟨q,ajh _ a,r⟩])]
    ·rw[ajb b,ajb];rintro (q|⟨q,a,r⟩)
     ·rwa[b (.inl q)]
     ·rcases aiY.mp a with a|a
      ·rwa[b (.inr ⟨q,a,r⟩)]
      ·rw[aiR.mp a]at r;rwa[e ⟨r.1.symm,r.2⟩]
  ·simp only[h,amb];rw[g];let k:p.2=n:=als.mp h;cases b:d=n\/∃q∈f,q.2=d/\z= -q.1
   ·rw[ajg b,ajg (b.imp id λζ=>by let⟨q,a,r⟩:=ζ;rwa[⟨q,ajh _ a,r⟩])]
   ·rw[ajb b,ajb];rintro (q|⟨q,a,r⟩)
    ·rwa[b (.inl q)]
    ·rcases aiY.mp a with a|a
     ·rwa[b (.inr ⟨q,a,r⟩)]
     ·rw[aiR.mp a]at r;rwa[b (.inl (r.1.symm.trans k))]
inductive Cg (R:Za2):Nat->Nat->Prop where
 |refl (a:Nat):Cg R a a
 |symm {a b:Nat}:Cg R a b->Cg R b a
 |trans {a b c:Nat}:Cg R a b->Cg R b c->Cg R a c
 |step {a a' b b':Nat} {z:Int}:R a z b->R a' z b'->Cg R a a'->Cg R b b'
def Cg.mono {e:Za2}(h:∀a z b,R a z b->e a z b){a b:Nat}(c:Cg R a b):Cg e a b:=by
 induction c with
 |refl=>exact .refl _
 |symm _ d=>exact .symm d
 |trans _ _ f g=>exact .trans f g
 |step r1 r2 _ d=>exact .step (h _ _ _ r1) (h _ _ _ r2) d
def Im (S:RS)(R:Za2)(c:Nat)(z:Int)(d:Nat):Prop:=∃a b,R a z b/\S.ax a=c/\S.ax b=d
def zc (S:RS)(a:Ze)(c:Nat)(z:Int)(d:Nat):Prop:=S.by c z=some d\/∃w∈a,(S.ax w.1=c/\w.2.1=z/\S.ax w.2.2=d)\/(S.ax w.1=d/\w.2.1= -z/\S.ax w.2.2=c)
structure Good (S:RS) (pend:Ze) (R:Za2):Prop where
 wf:S.Wf
 el:∀c,c<S.q->S.ax c<=c/\S.ax (S.ax c)=S.ax c
 ca:∀e,e<S.q->S.ax e=e->∀c,c∈S.cE e↔c<S.q/\S.ax c=e
 cb:∀e c,c∈S.cE e->c<S.q
 cn:∀e,(S.cE e).Nodup
 kn:∀c,((S.way c).map (·.1)).Nodup
 st:∀c z d,S.by c z=some d->c<S.q/\d<S.q/\S.ax c=c/\S.ax d=d
 sy:∀c z d,S.by c z=some d->S.by d (-z)=some c
 pl:∀w∈pend,w.1<S.q/\w.2.2<S.q
 rl:∀c z d,R c z d->c<S.q/\d<S.q/\R d (-z) c
 cv:∀c z d,R c z d->zc S pend (S.ax c) z (S.ax d)
 so:∀c z d,S.by c z=some d->Im S R c z d
 sp:∀w∈pend,Im S R (S.ax w.1) w.2.1 (S.ax w.2.2)
 cg:∀c,c<S.q->Cg R c (S.ax c)
section
variable {S:RS}{pend:Ze}{R:Za2}
def Good.lt (h:Good S pend R){c:Nat}(hc:c<S.q):S.ax c<S.q:=aiW (h.el c hc).1 hc
def Im.back (h:Good S pend R){c d:Nat}{z:Int}(i:Im S R c z d):Im S R d (-z) c:=by
 let⟨b,e,r,a,f⟩:=i;rwa[e,b,(h.rl _ _ _ r).2.2,f,a]
def Good.must (h:Good S pend R){c x y:Nat}{z:Int}(i:Im S R c z x)(j:Im S R c z y):Cg R x y:=by
 let⟨p,n,r1,e,l⟩:=i;let⟨m,o,r2,f1,d⟩:=j;let⟨g,l2,_⟩:=h.rl _ _ _ r1;let⟨k,f,_⟩:=h.rl _ _ _ r2;let a1:=h.cg _ g;let a2:=h.cg _ l2;let a:=h.cg _ k;let b:=h.cg _ f;rw[e]at a1;rw[l]at a2;rw[f1]at a;rw[d]at b;rwa[a2.symm.trans ((Cg.step r1 r2 (a1.trans a.symm)).trans b)]
def Good.keep (h:Good S pend R){c d:Nat}{z:Int}(hc:c<S.q)(hd:d<S.q)(B:S.ax c=c)(ed:S.ax d=d)(i:Im S R c z d)(I:S.by c z=none\/S.by c z=some d)(G:S.by d (-z)=none\/S.by d (-z)=some c){f:Ze}(v:∀w∈f,w∈pend)
 (A:∀w∈pend,w∉f->S.ax w.1=c/\w.2.1=z/\S.ax w.2.2=d):Good (S.keep c z d) f R:=by
 let o:c<⇑S.ways:=by rw[h.wf.w];rwa[hc]
 let n:d<⇑S.ways:=by rw[h.wf.w];rwa[hd]
 let k:∀a s,(S.keep c z d).by a s=if a=d/\s= -z then some c else if a=c/\s=z then some d else S.by a s:=λa s=>by
  show ((S.cD c z d).cD d (-z) c).by a s=_;rw[jH (by show d<⇑(S.ways.set c _);rw[aji];rwa[n]),jH o]
 let old:∀a s b,S.by a s=some b->(S.keep c z d).by a s=some b:=λa s b e=>by
  rw[k];cases g:a=d/\s= -z
  ·rw[ajg g];let⟨rfl,rfl⟩:=g;rcases G with q|q <;> rw[q]at e <;> ext e
   rfl
  ·rw[ajb g];cases j:a=c/\s=z
   ·rw[ajg j];let⟨rfl,rfl⟩:=j;rcases I with q|q <;> rw[q]at e <;> ext e
    rfl
   ·rw[ajb j];rwa[e]
 let el:∀a,(S.keep c z d).ax a=S.ax a:=λa=>rfl
 let new:∀a s b,(S.keep c z d).by a s=some b->(a=d/\s= -z/\b=c)\/(a=c/\s=z/\b=d)\/S.by a s=some b:=λa s b e=>by
  rw[k]at e;cases g:a=d/\s= -z
  ·rw[ajg g]at e;rwa[.inl ⟨g.1,g.2,(Za0 e).symm⟩]
  ·rw[ajb g]at e;cases j:a=c/\s=z
   ·rw[ajg j]at e;rwa[.inr (.inl ⟨j.1,j.2,(Za0 e).symm⟩)]
   ·rw[ajb j]at e;rwa[.inr (.inr e)]
 let m:(S.keep c z d).by d (-z)=some c:=by rw[k,ajg ⟨22⟩]
 let put2:(S.keep c z d).by c z=some d:=by
  rw[k];cases g:c=d/\z= -z
  ·rw[ajg g,g.1]
  ·rw[ajb g,ajg ⟨22⟩]
 let t:∀(l:List (Int×Nat)) (s:Int) (r:Nat),(l.map (·.1)).Nodup->((jZ l s r).map (·.1)).Nodup:=λl s r C=>by
  unfold jZ;split
  ·rw[ajw]
   have:((λx:Int×Nat=>x.1) ∘ λp:Int×Nat=>if p.1=s then (p.1,r) else p)=λx=>x.1:=by
    funext p
    show (if p.1=s then (p.1,r) else p).1=p.1;split <;> rfl
   rw[this];rwa[C]
  ·rename_i q;rw[ajn];rwa[ajF.mpr ⟨C,by simp,λa L b H e=>q ?_⟩];let⟨p,v,rfl⟩:=ajz.mp L;have:b=s:=by simpa using H
   rwa[ame.mpr ⟨p,v,aje (e.trans this)⟩]
 rwa[⟨⟨55,h.wf.e,h.wf.c⟩,h.el,h.ca,h.cb,h.cn,λa=>?_,λa s b e=>?_,λa s b e=>?_,λw u=>h.pl w (v w u),h.rl,λa s b r=>?_,λa s b e=>?_,λw u=>h.sp w (v w u),h.cg⟩]
 ·show ⇑((List.set^_).set _ _)=S.q;rw[aji,aji];rwa[h.wf.w]
 ·show ⇑((List.set^_).set _ _)=S.q;rw[aji,aji];rwa[h.wf.g]
 ·show ((((S.cD c z d).cD d (-z) c).way a).map (·.1)).Nodup;unfold RS.cD;rw[jr (by show d<⇑(S.ways.set c _);rw[aji];rwa[n])]
  let k1:∀a,(((S.ko c (jZ (S.way c) z d)).way a).map (·.1)).Nodup:=λa=>by
   rw[jr o];split
   ·rwa[t _ _ _ (h.kn c)]
   ·rwa[h.kn a]
  split
  ·rwa[t _ _ _ (k1 d)]
  ·rwa[k1 a]
 ·rcases new a s b e with ⟨rfl,rfl,rfl⟩|⟨rfl,rfl,rfl⟩|e
  ·rwa[⟨hd,hc,ed,B⟩]
  ·rwa[⟨hc,hd,B,ed⟩]
  ·rwa[h.st a s b e]
 ·rcases new a s b e with ⟨rfl,rfl,rfl⟩|⟨rfl,rfl,rfl⟩|e
  ·rw[akv];rwa[put2]
  ·rwa[m]
  ·rwa[old _ _ _ (h.sy _ _ _ e)]
 ·rcases h.cv a s b r with q|⟨w,u,q⟩
  ·rwa[.inl (old _ _ _ q)]
  ·cases E:w∈f
   ·rwa[.inr ⟨w,E,q⟩]
   ·let⟨f1,D,F⟩:=A w u E;rwa[.inl ?_];show (S.keep c z d).by (S.ax a) s=some (S.ax b);rcases q with ⟨g,j,y⟩|⟨g,j,y⟩
    ·rw[<-g,<-j,<-y,f1,D,F];rwa[put2]
    ·let J:s= -z:=by rw[<-D,j,akv]
     rw[<-g,<-y,f1,F,J];rwa[m]
 ·rcases new a s b e with ⟨rfl,rfl,rfl⟩|⟨rfl,rfl,rfl⟩|e
  ·rwa[Im.back h i]
  ·rwa[i]
  ·rwa[h.so a s b e]
end
theorem Bm (x:Nat):∀(l b:Zh) (a:Nat),(∀n∈l,n<⇑b)->(l.foldl (λb n=>b.set n x) b).getD a 0=if a∈l then x else b.getD a 0
 |[],b,a,_=>by simp
 |n::l,b,a,h=>by
  rw[List.foldl_cons,Bm x l (b.set n x) a (λm c=>[aji]▸h m (ajo _ c))]
  cbv
theorem zf (x:Nat):∀(l a:Zh),⇑(l.foldl (λa n=>a.set n x) a)=⇑a
 |[],_=>rfl
 |n::l,a=>by rw[List.foldl_cons,zf x l,aji]
def rn {l:List (Int×Nat)}(h:fF l z\n):(z,n)∈l:=by
 let⟨q,a,rfl⟩:=ajV.mp h
 cbv
def jI {l:List (Int×Nat)}(a:(l.map (·.1)).Nodup){q:Int×Nat}(h:q∈l):fF l q.1\q.2:=by
 induction l with
 |nil=>ext h
 |cons p l b=>
  unfold fF;rw[aj0,ajr]at a;cases e:p.1=q.1
  ·rw[alX (by rwa[aje e])];rcases ai3.mp h with rfl|h
   ·rfl
   ·rwa[absurd (by rw[e];rwa[akL h]) a.1]
  ·rw[alf (by simpa using e)];rcases ai3.mp h with rfl|h
   ·rwa[absurd rfl e]
   ·rwa[b a.2 h]
theorem lZ:∀(n:Nat) (l:Zh),l.Nodup->(∀x∈l,x<n)->⇑l<=n
 |0,[],_,_=>aiS _
 |0,a::l,_,h=>absurd (h a (ai7 ..)) ∅
 |n+ 1,l,b,h=>by
  cases c:n∈l
  ·have:=lZ n (l.erase n) (b.erase n) (λx d=>by
    cbv)
   rw[ak5 c]at this;ext
  ·have:=lZ n l b (λx d=>by
    cbv)
   ext
theorem ro:∀(k l:Zg),l.Nodup->(∀x∈l,x∈k)->⇑l<=⇑k
 |[],[],_,_=>aiS _
 |[],a::l,_,h=>by have:=h a ai7;cbv
 |y::k,l,b,h=>by
  cases c:y∈l
  ·have:=ro k (l.erase y) (b.erase y) (λx d=>by
    cbv)
   rw[ak5 c]at this;rw[ajf];ext
  ·have:=ro k l b (λx d=>by
    cbv)
   rw[ajf];ext
def Qc {pend:Ze}(i:n<⇑S.ways)(e:∀a,((S.way a).map (·.1)).Nodup):∀c:List (Int×Nat),(∀q∈c,q.2<⇑S.ways)->∀a,(((dc n S pend c).1.way a).map (·.1)).Nodup:=by
 rwa[snoc_ind (λ_ a=>?_) λc p g d a=>?_]
 ·show (((S.ko n []).way a).map (·.1)).Nodup;rw[jr i];split
  ·rwa[aj8]
  ·rwa[e a]
 ·let b:=g (λq f=>d q (ajh _ f));rw[iB];unfold jG;cases h:p.2≠n
  ·simp only[h,amh,ak4,ne_eq];unfold RS.oV;rw[jr ([(gO n S pend c).1]▸d p (aiV _ ai7))];split
   ·rwa[List.Nodup.sublist (List.Sublist.map _ akM) (b p.2)]
   ·rwa[b a]
  ·simp only[h,amb];rwa[b a]
section
variable {S:RS}{pend:Ze}{R:Za2}
def zc.back (h:Good S pend R){b:RS}{a:Ze}(sy:∀c z d,b.by c z=some d->b.by d (-z)=some c){c d:Nat}{z:Int}(i:zc b a c z d):zc b a d (-z) c:=by
 rcases i with q|⟨w,j,q⟩
 ·rwa[.inl (sy _ _ _ q)]
 ·rwa[.inr ⟨w,j,?_⟩];rcases q with ⟨e,g,f⟩|⟨e,g,f⟩
  ·rwa[.inr ⟨e,by rw[g,akv],f⟩]
  ·rwa[.inl ⟨e,g,f⟩]
def Good.meet (h:Good S pend R){c x y:Nat}{z:Int}(Y:S.by c z=some x)(hy:y<S.q)(ey:S.ax y=y)(hxy:x≠y)(iy:Im S R c z y){d:Ze}(hp:∀w∈d,w∈pend)
 (hcv:∀w∈pend,w∉d->(S.ax w.1=c/\w.2.1=z/\S.ax w.2.2=y)\/(S.ax w.1=y/\w.2.1= -z/\S.ax w.2.2=c)):
 Good (S.meet c z x y d).1 (S.meet c z x y d).2 R/\(∀a,(S.meet c z x y d).1.ax a=if S.ax a=max x y then min x y else S.ax a)/\(S.meet c z x y d).2=d++(S.way (max x y)).map (λp=>(max x y,p.1,p.2)):=by
 let⟨hc,hxm,ec,ex⟩:=h.st _ _ _ Y;let A:Cg R x y:=h.must (h.so _ _ _ Y) iy;let Q:min x y<S.q:=∅
 let F:max x y<S.q:=∅
 let J:min x y<max x y:=∅
 let T:S.ax (min x y)=min x y:=by rcases alJ x y with q|q;rw[ak6 ∅];rwa[ex];rw[alz ∅];rwa[ey]
 let N:S.ax (max x y)=max x y:=by rcases alJ x y with q|q;rw[alA ∅];rwa[ey];rw[alT ∅];rwa[ex]
 let L:x=min x y\/x=max x y:=∅
 let H:y=min x y\/y=max x y:=∅
 let j:Cg R (max x y) (min x y):=by
  rcases alJ x y with q|q
  ·rw[alA (by omega),ak6 (by omega)];rwa[A.symm]
  ·rw[alT ∅,alz ∅];rwa[A]
 unfold RS.meet;change max x y=v at F J N L H j ⊢;change min x y=u at Q J T L H j ⊢;let I:v<⇑S.ways:=by rw[h.wf.w];rwa[F]
 let O:∀q∈S.way v,q.2<⇑S.ways:=λq E=>by
  rw[h.wf.w];rwa[(h.st v q.1 q.2 (jI (h.kn v) E)).2.1]
 let hP:((S.joined c z u v).oW v d)=dc v (S.joined c z u v) d (S.way v):=rfl;rw[hP];let rest:=gO v (S.joined c z u v) d (S.way v);let byJ:∀a s,(S.joined c z u v).by a s=S.by a s:=λa s=>rfl
 let SK:∀a s,(dc v (S.joined c z u v) d (S.way v)).1.by a s=if a=v\/S.by a s=some v then none else S.by a s:=λa s=>by
  rw[yb (S:=S.joined c z u v) I _ O,byJ]
  have:(a=v\/∃q∈S.way v,q.2=a/\s= -q.1)↔(a=v\/S.by a s=some v):=by
   rwa[or_congr Iff.rfl ⟨5,λe=>?_⟩]
   ·rintro ⟨q,E,rfl,rfl⟩;rwa[h.sy _ _ _ (jI (h.kn v) E)]
   ·have:=rn (h.sy _ _ _ e);rwa[_,this,2,(akv s).symm]
  simp only[this]
 let o:(dc v (S.joined c z u v) d (S.way v)).2=d++(S.way v).map λp=>(v,p.1,p.2):=zb _ _ _ _
 let G:=Qc (S:=S.joined c z u v) (pend:=d) I h.kn (S.way v) O
 let heq:∀a,(dc v (S.joined c z u v) d (S.way v)).1.ax a=if S.ax a=v then u else S.ax a:=λa=>by
  rw[rest.2];show ((S.cE v).foldl (λD n=>D.set n u) S.aY).getD a 0=_;rw[Bm u _ _ _ (λn hn=>[h.wf.e]▸h.cb v n hn)];cases i:a<S.q
  ·have:=h.ca v F N a;cases e:S.ax a=v
   ·cbv
   ·rw[ajb (λq=>e (this.mp q).2),ajb e];rfl
  ·let P:S.ax a=0:=by unfold RS.ax;rw[aiT,aju (by rw[h.wf.e];omega)];rfl
   rw[ajb (λq=>i (h.cb v a q)),ajb ∅];rfl
 let k:∀e,(dc v (S.joined c z u v) d (S.way v)).1.cE e=if e=u then S.cE u++S.cE v else S.cE e:=λe=>by
  rw[rest.2];show (S.called.set u (S.cE u++S.cE v)).getD e []=_;rw[aiT];cases q:e=u
  ·subst q;rw[ajv ([h.wf.c]▸Q),ajg rfl];rfl
  ·rw[ajO (ajR q),ajb q];unfold RS.cE;cbv
 let f:(dc v (S.joined c z u v) d (S.way v)).1.q=S.q:=by rw[rest.2];rfl
 let M:(dc v (S.joined c z u v) d (S.way v)).1.Wf:=by
  erw[[rest.1,f]▸h.wf.w,55]
  ·rw[rest.2];rwa[h.wf.g]
  ·rw[rest.2];show ⇑((S.cE v).foldl (λD n=>D.set n u) S.aY)=S.q;rw[zf];rwa[h.wf.e]
  ·rw[rest.2];show ⇑(S.called.set u (S.cE u++S.cE v))=S.q;rw[aji];rwa[h.wf.c]
 change (dc v (S.joined c z u v) d (S.way v)).2=P2 at o ⊢;change (dc v (S.joined c z u v) d (S.way v)).1=g at rest SK G heq k f M ⊢;rwa[⟨5,heq,o⟩]
 let bo:∀a s b,g.by a s=some b↔S.by a s=some b/\a≠v/\b≠v:=λa s b=>by
  cbv
 let nv2:∀a,g.ax (S.ax a)=g.ax a:=λa=>by
  rw[heq,heq];cases i:a<S.q
  ·rw[(h.el a i).2]
  ·let P:∀a,¬a<S.q->S.ax a=0:=λa i=>by unfold RS.ax;rw[aiT,aju (by rw[h.wf.e];omega)];rfl
   rw[P a i];have:S.ax 0=0:=by have:=(h.el 0 ∅).1;ext
   rw[this]
 let l:∀{a b},S.ax a=S.ax b->g.ax a=g.ax b:=λ{a b} e=>by cbv
 let C:∀a s b,g.by a s=some b->g.by b (-s)=some a:=λa s b e=>by
  rw[bo]at e ⊢;rwa[h.sy _ _ _ e.1,e.2.2,e.2.1]
 let std:∀{a},S.ax a=a->g.ax a=if a=v then u else a:=λ{a} e=>by rw[heq,e]
 let kept:∀p s q,S.by p s=some q->zc g P2 (g.ax p) s (g.ax q):=λp s q e=>by
  let⟨lp,lq,ep,eq⟩:=h.st _ _ _ e;cases h1:p=v
  ·rwa[.inr ⟨(v,s,q),5,.inl ⟨by rw[h1],22⟩⟩];rw[o];rw[h1]at e;rwa[aiV _ (ajz.mpr ⟨(s,q),rn e,2⟩)]
  ·cases h2:q=v
   ·rwa[.inr ⟨(v,-s,p),5,.inr ⟨by rw[h2],22⟩⟩];rw[o];let e':=h.sy _ _ _ e;rw[h2]at e';rwa[aiV _ (ajz.mpr ⟨(-s,p),rn e',2⟩)]
   ·rwa[.inl ?_]
    cbv
 let eu2:g.ax u=u:=by rw[std T,ajb ∅]
 let V:g.ax v=u:=by rw[std N,ajg rfl]
 let exy:g.ax x=g.ax y:=by
  let t:g.ax x=u:=by cbv
  let m:g.ax y=u:=by cbv
  rw[t,m]
 let imq:∀{a b s},Im S R (S.ax a) s (S.ax b)->Im g R (g.ax a) s (g.ax b):=λ{a b s} ζ=>by let⟨a',b',r,e1,e2⟩:=ζ;rwa[⟨a',b',r,l e1,l e2⟩]
 rwa[⟨M,λa i=>?_,λe he ee a=>?_,λe a i=>?_,λe=>?_,G,λa s b e=>?_,C,λw hw=>?_,λa s b r=>?_,λa s b r=>?_,λa s b e=>?_,λw hw=>?_,λa i=>?_⟩]
 ·rw[f]at i;let⟨U,l2⟩:=h.el a i;rw[heq]
  cbv
 ·rw[f]at he ⊢;rw[k];let nev:e≠v:=λz=>by rw[z,V]at ee;ext
  cases q:e=u
  ·subst q;rw[ajg rfl,aiY,h.ca _ Q T,h.ca v F N,heq]
   cbv
  ·rw[ajb q]
   let P:S.ax e=e:=by
    rw[heq]at ee;cases B:S.ax e=v
    ·cbv
    ·cbv
   rw[h.ca e he P,heq]
   cbv
 ·rw[f];rw[k]at i;split at i
  ·rcases aiY.mp i with i|i
   ·rwa[h.cb^i]
   ·rwa[h.cb^i]
  ·rwa[h.cb^i]
 ·rw[k];split
  ·rwa[ajF.mpr ⟨h.cn _,h.cn _,λa i b hb e=>?_⟩];let t:=((h.ca _ Q T a).mp i).2;let m:=((h.ca v F N b).mp hb).2;rw[e,m]at t;ext
  ·rwa[h.cn _]
 ·rw[bo]at e;let⟨U,l2,W,X⟩:=h.st _ _ _ e.1;rwa[[f]▸U,[f]▸l2,by rw[std W,ajb e.2.1],by rw[std X,ajb e.2.2]]
 ·rw[f];rw[o]at hw;rcases aiY.mp hw with hw|hw
  ·rwa[h.pl w (hp w hw)]
  ·let⟨q,E,rfl⟩:=ajz.mp hw;rwa[F,(h.st v q.1 q.2 (jI (h.kn v) E)).2.1]
 ·rw[f];rwa[h.rl a s b r]
 ·rcases h.cv a s b r with q|⟨w,hw,q⟩
  ·cbv
  ·cases hm:w∈d
   ·rwa[.inr ⟨w,by cbv,?_⟩];rcases q with ⟨t,m,B⟩|⟨t,m,B⟩
    ·rwa[.inl ⟨l t,m,l B⟩]
    ·rwa[.inr ⟨l t,m,l B⟩]
   ·let base:zc g P2 (g.ax c) z (g.ax y):=by rw[<-exy];rwa[kept _ _ _ Y]
    let one:∀{p q:Nat},S.ax p=c->S.ax q=y->g.ax p=g.ax c/\g.ax q=g.ax y:=λ{p q} e1 e2=>⟨by cbv,by cbv⟩
    rcases hcv w hw hm with ⟨f1,Z,f3⟩|⟨f1,Z,f3⟩
    ·rcases q with ⟨t,m,B⟩|⟨t,m,B⟩
     ·cbv
     ·let⟨g1,g2⟩:=one (t.symm.trans f1) (B.symm.trans f3);let D:s= -z:=by rw[<-Z,m,akv]
      rw[g1,g2,D];rwa[zc.back h C base]
    ·rcases q with ⟨t,m,B⟩|⟨t,m,B⟩
     ·let⟨g1,g2⟩:=one (B.symm.trans f3) (t.symm.trans f1);let D:s= -z:=by rw[<-m,Z]
      rw[g1,g2,D];rwa[zc.back h C base]
     cbv
 ·rw[bo]at e;let⟨U,l2,W,X⟩:=h.st _ _ _ e.1;have:=h.so _ _ _ e.1
  cbv
 ·rw[o]at hw;rcases aiY.mp hw with hw|hw
  ·rwa[imq (h.sp w (hp w hw))]
  ·let⟨q,E,rfl⟩:=ajz.mp hw;let e:=jI (h.kn v) E;let⟨U,l2,W,X⟩:=h.st v q.1 q.2 e;have:=h.so _ _ _ e
   cbv
 ·rw[f]at i;rw[heq];split
  ·rename_i q;have:=h.cg a i;rw[q]at this;rwa[this.trans j]
  ·rwa[h.cg a i]
end
def RS.stand (S:RS):Nat:=(~~~S.q).countP λc=>decide (S.ax c=c)
theorem l0 {p p':Nat->Bool}{v:Nat}(h:∀a,p' a=(p a && decide (a≠v)))(b:p v=true):∀n,(~~~n).countP p'+ (if v<n then 1 else 0)=(~~~n).countP p
 |0=>rfl
 |n+ 1=>by
  let c:=l0 h b n;rw[aj9,List.countP_append,List.countP_append,<-c];rw[List.countP_singleton,List.countP_singleton,h n];cases e:n=v
  ·subst e;rw[b,ajb (aka n),ajg (akc n)];simp
  ·have:decide (n≠v)=true:=aje e;rw[this,Bool.and_true];let d:(v<n+ 1)=(v<n):=propext ⟨λ_=>∅,λ_=>∅⟩;simp only[d];ext
def mu (k:Nat)(S:RS)(pend:Ze):Nat:=S.stand* (k+ 1)+ ⇑pend
section
variable {S:RS}{pend:Ze}{R:Za2}{w:Way}{ks:Zg}
def Good.IC (h:Good S pend R)(e:∀c z d,R c z d->z∈ks)(c:Nat):⇑(S.way c)<=⇑ks:=by
 have:=ro ks ((S.way c).map (·.1)) (h.kn c) (λx g=>by
  let⟨q,f,rfl⟩:=ajz.mp g;let⟨a,b,r,_⟩:=h.so c q.1 q.2 (jI (h.kn c) f);rwa[e _ _ _ r])
 rw[aiQ]at this;rwa[this]
def Good.SM (h:Good S pend R)(c:Nat):⇑(S.cE c)<=S.q:=lZ _ _ (h.cn c) λx a=>h.cb c x a
def Good.take (h:Good S (pend++[w]) R)(L:∀c z d,R c z d->z∈ks):Good (S.takeIn pend w).1 (S.takeIn pend w).2 R/\mu ⇑ks (S.takeIn pend w).1 (S.takeIn pend w).2<mu ⇑ks S (pend++[w])/\(S.takeIn pend w).1.q=S.q/\(S.takeIn pend w).1.L=S.L/\
 ((S.takeIn pend w).1.stand=S.stand/\(S.takeIn pend w).1.rows=S.rows/\(S.takeIn pend w).1.bu=S.bu\/(S.takeIn pend w).1.stand+ 1=S.stand/\∃c z x y,S.by c z=some x/\Im S R c z y/\y<S.q/\S.ax y=y/\x≠y/\(S.takeIn pend w).1.rows=S.rows++[gA c z (min x y) (max x y)]/\(S.takeIn pend w).1.bu=S.bu++[max x y]/\∀a,(S.takeIn pend w).1.ax a=if S.ax a=max x y then min x y else S.ax a):=by
 let hw:=h.pl w (aiV _ ai7);let k:=h.sp w (aiV _ ai7);let hc:=h.lt hw.1;let hd:=h.lt hw.2;let l:=(h.el _ hw.1).2;let ed:=(h.el _ hw.2).2;let F:∀x∈pend,x∈pend++[w]:=λx i=>ajh _ i
 let last:∀x∈pend++[w],x∉pend->x=w:=λx i nx=>by
  cbv
 let met:∀{c x y:Nat} {z:Int},S.by c z=some x->y<S.q->S.ax y=y->x≠y->Im S R c z y->((S.ax w.1=c/\w.2.1=z/\S.ax w.2.2=y)\/(S.ax w.1=y/\w.2.1= -z/\S.ax w.2.2=c))->
  Good (S.meet c z x y pend).1 (S.meet c z x y pend).2 R/\mu ⇑ks (S.meet c z x y pend).1 (S.meet c z x y pend).2<mu ⇑ks S (pend++[w])/\(S.meet c z x y pend).1.q=S.q/\(S.meet c z x y pend).1.L=S.L/\(S.meet c z x y pend).1.stand+ 1=S.stand/\(S.meet c z x y pend).1.rows=S.rows++[gA c z (min x y) (max x y)]/\(S.meet c z x y pend).1.bu=S.bu++[max x y]/\∀a,(S.meet c z x y pend).1.ax a=if S.ax a=max x y then min x y else S.ax a:=by
  intro c x y z i O D s P B;let⟨g,G,M⟩:=h.meet i O D s P F (λx i nx=>[last x i nx]▸B);let⟨hc,U,l,ex⟩:=h.st _ _ _ i;let rest:=(gO (max x y) (S.joined c z (min x y) (max x y)) pend ((S.joined c z (min x y) (max x y)).way (max x y))).2
  let J:(S.meet c z x y pend).1.q=S.q:=by
   show (dc (max x y) (S.joined c z (min x y) (max x y)) pend ((S.joined c z (min x y) (max x y)).way (max x y))).1.q=_;rw[rest];rfl
  let N:(S.meet c z x y pend).1.L=S.L:=by
   show (dc (max x y) (S.joined c z (min x y) (max x y)) pend ((S.joined c z (min x y) (max x y)).way (max x y))).1.L=_;rw[rest];rfl
  let Q:(S.meet c z x y pend).1.rows=S.rows++[gA c z (min x y) (max x y)]:=by
   show (dc (max x y) (S.joined c z (min x y) (max x y)) pend ((S.joined c z (min x y) (max x y)).way (max x y))).1.rows=_;rw[rest];rfl
  let T:(S.meet c z x y pend).1.bu=S.bu++[max x y]:=by
   show (dc (max x y) (S.joined c z (min x y) (max x y)) pend ((S.joined c z (min x y) (max x y)).way (max x y))).1.bu=_;rw[rest];rfl
  let E:S.ax (max x y)=max x y:=by rcases alJ x y with q|q;rw[alA ∅];rwa[D];rw[alT ∅];rwa[ex]
  let I:(S.meet c z x y pend).1.stand+ 1=S.stand:=by
   unfold RS.stand;rw[J]
   have:=l0 (p:=λc=>decide (S.ax c=c)) (p':=λa=>decide ((S.meet c z x y pend).1.ax a=a)) (v:=max x y) (λa=>by
    rw[G,ajQ,akC,ajt,ajt,ajt];cases q:S.ax a=max x y
    ·rw[ajg q];constructor
     ·intro e;let j:S.ax (min x y)=min x y:=by rcases alJ x y with q|q;rw[ak6 ∅];rwa[ex];rw[alz ∅];rwa[D]
      rw[e]at j;ext
     ·rintro ⟨V,j⟩;rwa[absurd (V.symm.trans q) j]
    ·rw[ajb q];rwa[λe=>⟨e,λj=>q ([j]▸E)⟩,λe=>e.1]) (aje E) S.q
   rw[ajg ∅]at this;rwa[this]
  let W:=h.IC L (max x y);rwa[⟨g,5,J,N,I,Q,T,G⟩];unfold mu;rw[M,<-I,aiP,aiP,aiQ,al8,Nat.one_mul];ext
 unfold RS.takeIn;cases f:(S.by (S.ax w.1) w.2.1).getD (S.ax w.2.2)≠S.ax w.2.2
 ·rw[ajg f]
  cases e:S.by (S.ax w.1) w.2.1 with
  |none=>rw[e]at f;rwa[absurd rfl f]
  |some x=>
   rw[e]at f;let⟨A,C,o,t,r,u,n,m⟩:=met e hd ed f k (.inl ⟨222⟩);rwa[A,C,o,t,.inr ⟨r,11,x,_,e,k,hd,ed,f,u,n,m⟩]
 ·rw[ajb f];cases b:(S.by (S.ax w.2.2) (-w.2.1)).getD (S.ax w.1)≠S.ax w.1
  ·rw[ajg b]
   cases e:S.by (S.ax w.2.2) (-w.2.1) with
   |none=>rw[e]at b;rwa[absurd rfl b]
   |some x=>
    rw[e]at b;let H:=Im.back h k;let⟨A,C,o,t,r,u,n,m⟩:=met e hc l b H (.inr ⟨2,(akv _).symm,2⟩);rwa[A,C,o,t,.inr ⟨r,11,x,_,e,H,hc,l,b,u,n,m⟩]
  ·rw[ajb b]
   let k1:S.by (S.ax w.1) w.2.1=none\/S.by (S.ax w.1) w.2.1=some (S.ax w.2.2):=by
    cases e:S.by (S.ax w.1) w.2.1 with
    |none=>exact .inl rfl
    |some x=>rw[e]at f;rwa[.inr (ajT some (als.mp f))]
   let k2:S.by (S.ax w.2.2) (-w.2.1)=none\/S.by (S.ax w.2.2) (-w.2.1)=some (S.ax w.1):=by
    cases e:S.by (S.ax w.2.2) (-w.2.1) with
    |none=>exact .inl rfl
    |some x=>rw[e]at b;rwa[.inr (ajT some (als.mp b))]
   rwa[⟨h.keep hc hd l ed k k1 k2 F (λx i nx=>[last x i nx]▸⟨222⟩),522,.inl ⟨222⟩⟩];show S.stand* _+ ⇑pend<S.stand* _+ ⇑(pend++[w]);rw[aiP];have:⇑([w]:Ze)=1:=rfl;ext
def Good.fin (h:Good S [] R){a b:Nat}(i:a<S.q)(k:b<S.q):S.ax a=S.ax b↔Cg R a b:=by
 let det:∀{a d b g:Nat} {z:Int},R a z b->R d z g->S.ax a=S.ax d->S.ax b=S.ax g:=λ{a d b g z} r1 r2 e=>by
  rcases h.cv _ _ _ r1 with p|⟨w,m,_⟩
  ·rcases h.cv _ _ _ r2 with q|⟨w,m,_⟩
   ·cbv
   cbv
  cbv
 constructor
 ·intro e;let j:=h.cg a i;let n:=h.cg b k;rw[e]at j;rwa[j.trans n.symm]
 ·intro c;clear i k
  induction c with
  |refl=>rfl
  |symm _ f=>exact f.symm
  |trans _ _ l o=>exact l.trans o
  |step r1 r2 _ f=>exact det r1 r2 f
def Good.mJ (h:Good S [] R){c d:Nat}{z:Int}:S.by c z=some d↔Im S R c z d:=by
 constructor
 ·rwa[h.so c z d]
 ·rintro ⟨b,e,r,rfl,rfl⟩;rcases h.cv _ _ _ r with q|⟨w,a,_⟩
  ·rwa[q]
  cbv
end
noncomputable def eP (R:Za2)(c:Nat)(z:Int)(d:Nat):Za2:=λa s b=>R a s b\/(a=c/\s=z/\b=d)\/(a=d/\s= -z/\b=c)
def jt:∀a s b,R a s b->eP R n z m a s b:=λ_ _ _ r=>.inl r
def pY:eP R n z m n z m:=.inr (.inl ⟨222⟩)
def Bn (L:Nat)(g:Zg):Good (RS.new L g) [] (λ_ _ _=>False) where
 wf:=⟨2222⟩
 el:=λc a=>by
  have:c=0:=by have:c<1:=a;ext
  subst this;rwa[aiS _,2]
 ca:=λe f _ c=>by
  have:e=0:=by have:e<1:=f;ext
  subst this;show c∈[0]↔c<1/\(RS.new L g).ax c=0
  cbv
 cb:=λe c a=>by
  have:(RS.new L g).cE e=[0]\/(RS.new L g).cE e=[]:=by
   rcases e with _|e
   ·rwa[.inl rfl]
   ·rwa[.inr rfl]
  show c<1
  cbv
 cn:=λe=>by
  rcases e with _|e
  ·show [0].Nodup;simp
  ·rwa[aj8]
 kn:=λc=>by
  rcases c with _|c <;> rwa[aj8]
 st:=λc z d h=>by
  have:(RS.new L g).by c z=none:=by rcases c with _|c <;> rfl
  cbv
 sy:=λc z d h=>by
  have:(RS.new L g).by c z=none:=by rcases c with _|c <;> rfl
  cbv
 pl:=λw b=>by ext b
 rl:=λ_ _ _ h=>h.elim
 cv:=λ_ _ _ h=>h.elim
 so:=λc z d h=>by
  have:(RS.new L g).by c z=none:=by rcases c with _|c <;> rfl
  cbv
 sp:=λw b=>by ext b
 cg:=λc a=>by
  have:c=0:=by have:c<1:=a;ext
  subst this;rwa[.refl _]
section
variable {S:RS}{R:Za2}
def Good.lay (h:Good S [] R){c d:Nat}(z:Int)(hc:c<S.q)(hd:d<S.q)(rows:List Dt):Good { S with rows:=rows } [(c,z,d)] (eP R c z d) where
 wf:=⟨h.wf.w,h.wf.g,h.wf.e,h.wf.c⟩
 el:=h.el
 ca:=h.ca
 cb:=h.cb
 cn:=h.cn
 kn:=h.kn
 st:=h.st
 sy:=h.sy
 pl:=λw f=>by rw[aiR.mp f];rwa[hc,hd]
 rl:=by
  rintro a s b (r|⟨rfl,rfl,rfl⟩|⟨rfl,rfl,rfl⟩)
  ·let⟨i,o,j⟩:=h.rl _ _ _ r;rwa[i,o,.inl j]
  ·rwa[hc,hd,.inr (.inr ⟨222⟩)]
  ·rwa[hd,hc,.inr (.inl ⟨2,akv _,2⟩)]
 cv:=by
  rintro a s b (r|⟨rfl,rfl,rfl⟩|⟨rfl,rfl,rfl⟩)
  ·rcases h.cv _ _ _ r with q|⟨w,f,_⟩
   ·rwa[.inl q]
   ·ext f
  ·rwa[.inr ⟨_,ai7,.inl ⟨rfl,rfl,rfl⟩⟩]
  ·rwa[.inr ⟨_,ai7,.inr ⟨rfl,(akv _).symm,rfl⟩⟩]
 so:=λa s b e=>by
  let⟨g,l,r,m,k⟩:=h.so a s b e;rwa[g,l,.inl r,m,k]
 sp:=λw f=>by
  rw[aiR.mp f];rwa[c,d,pY,22]
 cg:=λa n=>(h.cg a n).mono jt
def fL (hw:S.Wf)(c:Nat)(z:Int)(g:Zg)(a:Nat):(S.grown c z g).ax a=if a=S.q then S.q else S.ax a:=by
 unfold RS.ax;show (S.aY++[S.q]).getD a 0=_;rw[aiT];cases e:a=S.q
 ·rw[ajg e,e,ai1 ([hw.e]▸aiS _),hw.e,akH];rfl
 ·rw[ajb e,aiT];cases q:a<S.q
  ·rw[aiZ ([hw.e]▸q)]
  ·rw[aju (by rw[aiP,hw.e];show S.q+ 1<=a;omega),aju (by rw[hw.e];omega)]
def rq (hw:S.Wf)(c:Nat)(z:Int)(g:Zg)(a:Nat):(S.grown c z g).cE a=if a=S.q then [S.q] else S.cE a:=by
 unfold RS.cE;show (S.called++[[S.q]]).getD a []=_;rw[aiT];cases e:a=S.q
 ·rw[ajg e,e,ai1 ([hw.c]▸aiS _),hw.c,akH];rfl
 ·rw[ajb e,aiT];cases q:a<S.q
  ·rw[aiZ ([hw.c]▸q)]
  ·rw[aju (by rw[aiP,hw.c];show S.q+ 1<=a;omega),aju (by rw[hw.c];omega)]
def nL (d:S.Wf)(c:Nat)(z:Int)(g:Zg)(a:Nat):(S.grown c z g).way a=S.way a:=by
 unfold RS.way;show (S.ways++[[]]).getD a []=_;rw[aiT,aiT];cases q:a<⇑S.ways
 ·rw[aiZ q]
 ·rw[ai1 ∅,aju (l:=S.ways) ∅];cases b:a - ⇑S.ways=0
  ·rw[b];rfl
  ·cbv
def Good.make (h:Good S [] R){c:Nat}{z:Int}(hc:c<S.q)(x:S.ax c=c)(C:S.by c z=none)(g:Zg):Good (S.make c z g) [] (eP R c z S.q):=by
 let hw:=h.wf;let d:∀a,a<S.q->(S.grown c z g).ax a=S.ax a:=λa m=>by rw[fL hw,ajb ∅]
 let f:(S.grown c z g).ax S.q=S.q:=by rw[fL hw,ajg rfl]
 let j:∀a s,(S.grown c z g).by a s=S.by a s:=λa s=>by unfold RS.by;rw[nL hw]
 let G:Good (S.grown c z g) [(c,z,S.q)] (eP R c z S.q):=by
  rwa[⟨⟨5555⟩,λa m=>?_,λe D ee a=>?_,λe a m=>?_,λe=>?_,λa=>?_,λa s b e=>?_,λa s b e=>?_,λw hw=>?_,55,λa s b e=>?_,λw hw=>?_,λa m=>?_⟩]
  ·show ⇑(S.ways++[[]])=S.q+ 1;rw[aiP,hw.w];rfl
  ·show ⇑(S.gaps++[_])=S.q+ 1;rw[aiP,hw.g];rfl
  ·show ⇑(S.aY++[_])=S.q+ 1;rw[aiP,hw.e];rfl
  ·show ⇑(S.called++[_])=S.q+ 1;rw[aiP,hw.c];rfl
  ·let t:a<S.q+ 1:=m;cases e:a=S.q
   ·rw[e,f];rwa[aiS _,f]
   ·let o:a<S.q:=∅
    rw[d a o];let⟨l,k⟩:=h.el a o;rwa[l,[d _ ∅]▸k]
  ·let A:e<S.q+ 1:=D;show _↔a<S.q+ 1/\_;rw[rq hw,fL hw];cases q:e=S.q
   ·subst q;rw[ajg rfl,aiR];constructor
    ·rintro rfl;rwa[3,by cbv]
    ·rintro ⟨l,k⟩;cases n:a=S.q
     ·rwa[n]
     ·rw[ajb n]at k;have:=(h.el a ∅).1;ext
   ·let o:e<S.q:=∅
    rw[d e o]at ee;rw[ajb q,h.ca e o ee a]
    cbv
  ·show a<S.q+ 1;rw[rq hw]at m;split at m
   ·rw[aiR.mp m];ext
   ·rwa[akj (h.cb e a m)]
  ·rw[rq hw];split
   ·simp
   ·rwa[h.cn e]
  ·rw[nL hw];rwa[h.kn a]
  ·rw[j]at e;let⟨l,k,n,B⟩:=h.st a s b e;rwa[akj l,akj k,[d a l]▸n,[d b k]▸B]
  ·rw[j]at e ⊢;rwa[h.sy a s b e]
  ·rw[aiR.mp hw];rwa[akj hc,akc _]
  ·rintro a s b (r|⟨rfl,rfl,rfl⟩|⟨rfl,rfl,rfl⟩)
   ·let⟨l,k,n⟩:=h.rl _ _ _ r;rwa[akj l,akj k,.inl n]
   ·rwa[akj hc,akc _,.inr (.inr ⟨222⟩)]
   ·rwa[akc _,akj hc,.inr (.inl ⟨2,akv _,2⟩)]
  ·rintro a s b (r|⟨rfl,rfl,rfl⟩|⟨rfl,rfl,rfl⟩)
   ·let⟨l,k,_⟩:=h.rl _ _ _ r;rcases h.cv _ _ _ r with q|⟨w,hw,_⟩
    ·rwa[.inl (by rw[d a l,d b k,j];rwa[q])]
    ·ext hw
   ·rwa[.inr ⟨_,ai7,.inl ⟨rfl,rfl,rfl⟩⟩]
   ·rwa[.inr ⟨_,ai7,.inr ⟨rfl,(akv _).symm,rfl⟩⟩]
  ·rw[j]at e;let⟨u,v,r,p,y⟩:=h.so a s b e;let⟨l,k,_⟩:=h.rl _ _ _ r;rwa[u,v,.inl r,[d u l]▸p,[d v k]▸y]
  ·rw[aiR.mp hw];rwa[c,S.q,pY,22]
  ·let t:a<S.q+ 1:=m;cases e:a=S.q
   ·rw[e,f];rwa[.refl _]
   ·rw[d a ∅];rwa[(h.cg a ∅).mono jt]
 let p:(S.grown c z g).ax c=c:=by rw[d c hc];rwa[x]
 let i:=G.sp _ ai7;rw[show (c,z,S.q).1=c from rfl,show (c,z,S.q).2.2=S.q from rfl,p,f]at i;rwa[G.keep (akj hc) (akc _) p f i (.inl ([j]▸C)) (.inl ?_) (λw hw=>by ext hw) (λw hw _=>[aiR.mp hw]▸⟨p,2,f⟩)];rw[j]
 cases e:S.by S.q (-z) with
 |none=>rfl
 |some b=>have:=(h.st _ _ _ e).1;ext
end
def abe (n:Nat)(s:Int):Za2:=λa z b=>(z=s/\b=a+ 1/\b<n)\/(z= -s/\a=b+ 1/\a<n)
inductive WN (x:V) (y:V) (H:Hp) (Q:VK):Prop
 |mk (a b:Zs) (xs:Zb) (t:Str):x=↑a->y=↑b->H a\.tup xs->H b\.tup [.str t]->(xs=[]\/(∃n,xs=[.int n])\/∃t',xs=[.str t'])->Q (.bl (decide (xs=[V.str t]))) H->WN x y H Q
end L2
namespace L2
def mK {p:Prop}(h:let q:Prop:=p;q):p:=h
def iC {a z:TS}(h:let b:TS:=z;aU a b G D H):(aU a z) G D H:=h
def Lp {a z:TS}(h:let b:Ends:=G;let c:TS:=z;aU a c b D H):(aU a z) G D H:=h
def eQ {a b z:TS}(h:let c:TS:=z;let d:TS:=aU b c;aU a d G D H):(aU a (aU b z)) G D H:=h
def ju {a b c z:TS}(h:let f:TS:=z;let e:TS:=aU c f;let d:TS:=aU b e;aU a d G D H):(aU a (aU b (aU c z))) G D H:=h
def uF {b c d a z:TS}(h:let g:TS:=z;let i:TS:=aU a g;let f:TS:=aU d i;let e:TS:=aU c f;aU b e G D H):(aU b (aU c (aU d (aU a z)))) G D H:=h
noncomputable def kr {b c d a e z:TS}(h:let g:TS:=z;let j:TS:=aU e g;let k:TS:=aU a j;let i:TS:=aU d k;let f:TS:=aU c i;aU b f G D H):(aU b (aU c (aU d (aU a (aU e z))))) G D H:=h
def pZ {b c d a e f z:TS}(h:let m:TS:=z;let i:TS:=aU f m;let l:TS:=aU e i;let j:TS:=aU a l;let k:TS:=aU d j;let g:TS:=aU c k;aU b g G D H):(aU b (aU c (aU d (aU a (aU e (aU f z)))))) G D H:=h
def uG {f g b d c e a z:TS}(h:let i:TS:=z;let o:TS:=aU a i;let l:TS:=aU e o;let k:TS:=aU c l;let n:TS:=aU d k;let j:TS:=aU b n;let m:TS:=aU g j;aU f m G D H):(aU f (aU g (aU b (aU d (aU c (aU e (aU a z))))))) G D H:=h
def Bo {g i c e d f b a z:TS}(h:let q:TS:=z;let j:TS:=aU a q;let p:TS:=aU b j;let m:TS:=aU f p;let l:TS:=aU d m;let n:TS:=aU e l;let k:TS:=aU c n;let o:TS:=aU i k;aU g o G D H):(aU g (aU i (aU c (aU e (aU d (aU f (aU b (aU a z)))))))) G D H:=h
def Lq {i j c e d g b a f z:TS}(h:let q:TS:=z;let s:TS:=aU f q;let k:TS:=aU a s;let r:TS:=aU b k;let n:TS:=aU g r;let m:TS:=aU d n;let o:TS:=aU e m;let l:TS:=aU c o;let p:TS:=aU j l;aU i p G D H):(aU i (aU j (aU c (aU e (aU d (aU g (aU b (aU a (aU f z))))))))) G D H:=h
def IE {q r l n m p k j o a b c d z:TS}(h:let g:TS:=z;let i:TS:=aU d g;let e:TS:=aU c i;let f:TS:=aU b e;let y:TS:=aU a f;let B:TS:=aU o y;let s:TS:=aU j B;let A:TS:=aU k s;let v:TS:=aU p A;let u:TS:=aU m v;let w:TS:=aU n u;let t:TS:=aU l w;let x:TS:=aU r t;aU q x G D H):(aU q (aU r (aU l (aU n (aU m (aU p (aU k (aU j (aU o (aU a (aU b (aU c (aU d z))))))))))))) G D H:=h
def Bp {z:TS}(h:let a:Ends:=G;z a D H):z G D H:=h
theorem args_is1 {b:Type}:∀{us:List b},⇑us=1->∃a,us=[a]
 |[a],_=>⟨a,2⟩
theorem args_is2 {c:Type}:∀{us:List c},⇑us=2->∃a b,us=[a,b]
 |[a,b],_=>⟨a,b,2⟩
theorem args_is3 {d:Type}:∀{us:List d},⇑us=3->∃a c b,us=[a,c,b]
 |[a,c,b],_=>⟨a,c,b,2⟩
theorem args_is4 {e:Type}:∀{us:List e},⇑us=4->∃a b d c,us=[a,b,d,c]
 |[a,b,d,c],_=>⟨a,b,d,c,2⟩
theorem args_is5 {f:Type}:∀{us:List f},⇑us=5->∃a c e d b,us=[a,c,e,d,b]
 |[a,c,e,d,b],_=>⟨a,c,e,d,b,2⟩
theorem args_is6 {g:Type}:∀{us:List g},⇑us=6->∃a c e d b f,us=[a,c,e,d,b,f]
 |[a,c,e,d,b,f],_=>⟨a,c,e,d,b,f,2⟩
structure eZ (S:RS) (R:Za2) (ks:Zg):Prop where
 sub:∀c,c<S.q->(S.gap c).Sublist ks
 im:∀c,c<S.q->S.ax c=c->∀z∈ks,z∉S.gap c->∃d,Im S R c z d
 by_:∀c z d,S.by c z=some d->z∉S.gap c
section
variable {S:RS}{pend:Ze}{R:Za2}{ks:Zg}
def jJ {x:Nat}(a:n<⇑S.gaps):(S.lY n z).gap x=if x=n then (S.gap n).filter (λy=>decide (y≠z)) else S.gap x:=by
 unfold RS.lY RS.setG RS.gap;show (S.gaps.set n _).getD x []=_;rw[aiT];cases h:x=n
 ·subst h;rw[ajg rfl,ajv a];rfl
 ·rw[ajb h,ajO (λe=>h e.symm),aiT]
def zg:(S.lY n z).gaps.length=⇑S.gaps:=by
 rwa[aji ..]
def p1 {x:Nat}(b:n<⇑S.gaps)(c:m<⇑S.gaps):y∈(S.keep n z m).gap x↔y∈S.gap x/\¬(x=n/\y=z)/\¬(x=m/\y= -z):=by
 unfold RS.keep;let a:∀x,((S.cD n z m).cD m (-z) n).gap x=S.gap x:=λx=>rfl
 rw[jJ ([zg]▸c),jJ (by rwa[b]),jJ (by rwa[b]),a,a,a]
 cbv
def rA {x:Nat}(d:n<⇑S.gaps)(e:m<⇑S.gaps):((S.keep n z m).gap x).Sublist (S.gap x):=by
 unfold RS.keep;let b:∀x,((S.cD n z m).cD m (-z) n).gap x=S.gap x:=λx=>rfl
 rw[jJ ([zg]▸e),jJ (by rwa[d]),jJ (by rwa[d]),b,b,b];cases c:x=m
 ·subst c;rw[ajg rfl];cases a:x=n
  ·subst a;rw[ajg rfl];rwa[List.Sublist.trans akM akM]
  ·rw[ajb a];rwa[akM]
 ·rw[ajb c];cases a:x=n
  ·subst a;rw[ajg rfl];rwa[akM]
  ·rw[ajb a];rwa[List.Sublist.refl _]
def E3 {x:Nat}(b:n<⇑S.ways)(a:m<⇑S.ways):(S.keep n z m).by x y=if x=m/\y= -z then some n else if x=n/\y=z then some m else S.by x y:=by
 show (((S.cD n z m).cD m (-z) n)).by x y=_;rw[jH (by unfold RS.cD RS.ko;rw[aji];rwa[a]),jH b]
def eZ.keep (h:eZ S R ks)(g:Good S pend R){c d:Nat}{z:Int}(hc:c<S.q)(hd:d<S.q)(i:Im S R c z d):eZ (S.keep c z d) R ks:=by
 let j:c<⇑S.gaps:=by rw[g.wf.g];rwa[hc]
 let b:d<⇑S.gaps:=by rw[g.wf.g];rwa[hd]
 rwa[⟨λx k=>(rA j b).trans (h.sub x k),λx k ex y o m=>?_,λx y e l=>?_⟩]
 ·rw[p1 j b]at m;cases f:x=c/\y=z
  ·rw[f.1,f.2];rwa[d,i]
  ·cases a:x=d/\y= -z
   ·rw[a.1,a.2];rwa[c,i.back g]
   ·rwa[h.im x k ex y o λq=>m ⟨q,f,a⟩]
 ·rw[E3 ([g.wf.w]▸hc) ([g.wf.w]▸hd)]at l;rw[p1 j b];rintro ⟨q,n,p⟩;rw[ajb p,ajb n]at l;rwa[h.by_ x y e l q]
def Ls {x:Nat}:(S.meet n z x m pend).1.gaps=S.gaps:=by
 have:=(gO (max x m) (S.joined n z (min x m) (max x m)) pend ((S.joined n z (min x m) (max x m)).way (max x m))).2;have:=ajT RS.gaps this;rwa[this]
def eZ.meet (h:eZ S R ks)(g:Good S pend R){c x y:Nat}{z:Int}(C:S.by c z=some x)(H:y<S.q)(I:S.ax y=y)(m:x≠y){d:Ze}
 (made:(S.meet c z x y d).1.q=S.q) (ax:∀a,(S.meet c z x y d).1.ax a=if S.ax a=max x y then min x y else S.ax a):eZ (S.meet c z x y d).1 R ks:=by
 let k:∀a,(S.meet c z x y d).1.gap a=S.gap a:=λa=>by unfold RS.gap;rw[Ls]
 let⟨_,D,_,ex⟩:=g.st _ _ _ C;let l:max x y<S.q:=by rcases alK x y with q|q <;> ext
 let t:min x y<max x y:=by rcases Nat.lt_or_gt_of_ne m with q|q <;> ext
 let fE:∀a,a<S.q->(S.meet c z x y d).1.ax a=a->S.ax a=a/\a≠max x y:=λa i e=>by
  rw[ax]at e;let F:=(g.el a i).1;cases q:S.ax a=max x y
  ·rw[ajg q]at e;ext
  ·rw[ajb q]at e;rwa[e,λz=>q (by rw[e,z])]
 rwa[⟨λa i=>[k]▸h.sub a (by rw[<-made];rwa[i]),λa i G s B o=>?_,λa s b u=>?_⟩]
 ·rw[k]at o;let⟨E,w⟩:=fE a (by rw[<-made];rwa[i]) G;let⟨b,p,A,r,n,J⟩:=h.im a (by rw[<-made];rwa[i]) E s B o;rwa[_,p,A,r,[ax,ajb ([n]▸w)]▸n,2]
 ·rw[k]
  let j:∀q∈(S.joined c z (min x y) (max x y)).way (max x y),q.2<(S.joined c z (min x y) (max x y)).ways.length:=λq v=>by
   show q.2<⇑S.ways;rw[g.wf.w];rwa[(g.st _ _ _ (jI (g.kn (max x y)) v)).2.1]
  let f:(dc (max x y) (S.joined c z (min x y) (max x y)) d ((S.joined c z (min x y) (max x y)).way (max x y))).1.by a s=some b:=u;rw[yb (by show max x y<⇑S.ways;rw[g.wf.w];rwa[l]) _ j]at f;split at f
  ·ext f
  ·rwa[h.by_ a s b f]
def zh {x:Nat}:(S.meet n z x m pend).1.q=S.q:=by
 have:=(gO (max x m) (S.joined n z (min x m) (max x m)) pend ((S.joined n z (min x m) (max x m)).way (max x m))).2;have:=ajT RS.q this;rwa[this]
def eZ.take {w:Way}(hG:eZ S R ks)(h:Good S (pend++[w]) R):eZ (S.takeIn pend w).1 R ks:=by
 let hw:=h.pl w (aiV _ ai7);let d:=h.sp w (aiV _ ai7);let hc:=h.lt hw.1;let hd:=h.lt hw.2;let i:=(h.el _ hw.1).2;let ed:=(h.el _ hw.2).2;let g:∀x∈pend,x∈pend++[w]:=λx b=>ajh _ b
 let last:∀x∈pend++[w],x∉pend->x=w:=λx b nx=>by
  cbv
 unfold RS.takeIn;cases c:(S.by (S.ax w.1) w.2.1).getD (S.ax w.2.2)≠S.ax w.2.2
 ·rw[ajg c]
  cases e:S.by (S.ax w.1) w.2.1 with
  |none=>cbv
  |some x=>
   rw[e]at c;let⟨_,f,_⟩:=h.meet e hd ed c d g (λx b nx=>[last x b nx]▸.inl ⟨222⟩);rwa[hG.meet h e hd ed c zh f]
 ·rw[ajb c];cases a:(S.by (S.ax w.2.2) (-w.2.1)).getD (S.ax w.1)≠S.ax w.1
  ·rw[ajg a]
   cases e:S.by (S.ax w.2.2) (-w.2.1) with
   |none=>rw[e]at a;rwa[absurd rfl a]
   |some x=>
    rw[e]at a;let⟨_,f,_⟩:=h.meet e hc i a (d.back h) g (λx b nx=>[last x b nx]▸.inr ⟨2,(akv _).symm,2⟩);rwa[hG.meet h e hc i a zh f]
  ·rw[ajb a];rwa[hG.keep h hc hd d]
def eZ.more {e:Za2}(h:eZ S R ks)(g:∀a z b,R a z b->e a z b):eZ S e ks:=⟨h.sub,λc hc i z hz m=>by
 let⟨d,j,k,r,f,l⟩:=h.im c hc i z hz m;rwa[d,j,k,g _ _ _ r,f,l],h.by_⟩
def eZ.rows (h:eZ S R ks)(rows:List Dt):eZ { S with rows:=rows } R ks:=⟨h.sub,h.im,h.by_⟩
def Qd (L:Nat)(g:Zg):eZ (RS.new L g) (λ_ _ _=>False) g:=by
 rwa[⟨λc a=>?_,λc a _ z f b=>?_,λc z d e=>?_⟩]
 ·let a:c<1:=a;rw[show c=0 by ext];rwa[List.Sublist.refl _]
 ·let a:c<1:=a;rw[show c=0 by ext]at b;rwa[absurd f b]
 ·have:(RS.new L g).by c z=none:=by rcases c with _|c <;> rfl
  cbv
def eZ.make (h:eZ S R ks)(g:Good S [] R){c:Nat}{z:Int}(hc:c<S.q)(B:S.ax c=c)(L:S.by c z=none):eZ (S.make c z ks) (eP R c z S.q) ks:=by
 let u:∀x,(S.grown c z ks).gap x=if x=S.q then ks else S.gap x:=λx=>by
  unfold RS.gap;show (S.gaps++[ks]).getD x []=_;rw[aiT,aiT];cases i:x=S.q
  ·subst i;rw[ajg rfl,ai1 ([g.wf.g]▸aiS _),g.wf.g,akH];rfl
  ·rw[ajb i];cases F:x<⇑S.gaps
   ·rw[aiZ F]
   ·have:=g.wf.g;rw[ai1 ∅,aju (by rw[ajY];omega),aju ∅]
 let E:∀x y,(S.grown c z ks).by x y=S.by x y:=λx y=>by unfold RS.by;rw[nL g.wf]
 let j:c<(S.grown c z ks).gaps.length:=by show c<⇑(S.gaps++[ks]);rw[aiP,g.wf.g];ext
 let l:S.q<(S.grown c z ks).gaps.length:=by show S.q<⇑(S.gaps++[ks]);rw[aiP,g.wf.g,ajY];ext
 let p:c<(S.grown c z ks).ways.length:=by show c<⇑(S.ways++[[]]);rw[aiP,g.wf.w];ext
 let v:S.q<(S.grown c z ks).ways.length:=by show S.q<⇑(S.ways++[[]]);rw[aiP,g.wf.w,ajY];ext
 let ee:∀x,(S.make c z ks).ax x=if x=S.q then S.q else S.ax x:=λx=>fL g.wf c z ks x
 let m:∀a s b,S.by a s=some b->a≠S.q:=λa s b e q=>by have:=(g.st _ _ _ e).1;ext
 rwa[⟨λx i=>?_,λx i ex y w f=>?_,λx y e n=>?_⟩]
 ·rwa[(rA j l).trans ?_];rw[u];cases q:x=S.q
  ·cbv
  ·rw[ajb q];let i:x<S.q+ 1:=i;rwa[h.sub x ∅]
 ·let f:y∉((S.grown c z ks).keep c z S.q).gap x:=f;rw[p1 j l,u]at f;cases t:x=c/\y=z
  ·erw[S.q,c,S.q,[t.2]▸pY,5]
   ·cbv
   cbv
  ·cases o:x=S.q/\y= -z
   ·erw[c,S.q,c,[o.2]▸.inr (.inr ⟨222⟩),5]
    ·rw[ee,ajg rfl,o.1]
    ·rw[ee,ajb ∅];rwa[B]
   ·cases q:x=S.q
    ·rw[ajg q]at f;rwa[absurd ⟨w,t,o⟩ f]
    ·rw[ajb q]at f;let i:x<S.q+ 1:=i;rw[ee,ajb q]at ex;let⟨d,A,G,r,H,D⟩:=h.im x ∅ ex y w λk=>f ⟨k,t,o⟩
     let J:=g.rl _ _ _ r;rwa[d,A,G,.inl r,[ee,ajb ∅]▸H,[ee,ajb ∅]▸D]
 ·let n:((S.grown c z ks).keep c z S.q).by x y=some e:=n;rw[E3 p v,E]at n;show y∉((S.grown c z ks).keep c z S.q).gap x;rw[p1 j l,u];rintro ⟨q,C,I⟩;rw[ajb I,ajb C]at n;rw[ajb (m _ _ _ n)]at q;rwa[h.by_ x y e n q]
def eZ.fin (h:eZ S R ks)(g:Good S [] R)(nd:ks.Nodup){c:Nat}(hc:c<S.q)(f:S.ax c=c):S.gap c=ks.filter λz=>(S.by c z).isNone:=by
 let sl:∀{l k:Zg},l.Sublist k->k.Nodup->l=k.filter λz=>decide (z∈l):=λ{l k} s=>by
  induction s with
  |slnil=>intro _;rfl
  |cons a s b=>
   cbv
  |cons_cons a s b=>
   intro m;let j:=ajr.mp m;rw[alU (by simp)]
   congr 1
   conv=>lhs;rw[b j.2]
   rwa[al6 λz hz=>?_]
   cbv
 rw[sl (h.sub c hc) nd];rwa[al6 λz hz=>?_]
 cases e:S.by c z with
 |some d=>
  have:=h.by_ c z d e;simp[this]
 |none=>
  cases q:z∈S.gap c
  ·simp[q]
  ·let⟨d,i⟩:=h.im c hc f z hz q;have:=g.mJ.mpr i
   cbv
end
end L2
namespace L2
open PySem PySem.Spec PyProof.Rows
structure Fly (B:Heap) (l:Zq) (x:Zs) (cls a0:Zt) (h:Heap):Prop where
 stays:B.StaysIn h
 new:B.get? x=none
 ahx:h.FunFrames B l
 tr:∃fl,h.TracedAtW B x cls a0 fl
section
variable {X:Cx}{tg:Expr}
def iDK (tl:TE):TI:=λ c H R=>tl c H λx b=>∃d a,x=↑d/\b d\.dK a/\∀o,R (Sw d o a) (upd b d (.cz o (.dK a)))
def WO {tl:TE}(B:PE X e tl):PI X tg e (iDK tl):=by
 intro f s F H R I h;rwa[bp (B f s F H _ I h) λu Q ζ=>?_];let⟨x,P,w,E,d,b,ex,v,q⟩:=ζ
 subst ex;ext E;obtain⟨-,g,y,rel,o,D,T,c,m,t,z,p,J⟩:=w.aP d _ v;rwa[Dk.iter g ⟨o,c,m,t⟩ (vu (w.freeze v True.intro c) (Ir λX H h I a=>?_) ⟨_,ai2 _ rfl,22⟩ (q o))];obtain⟨j,-,g,y,rel,O,M,C,c,m,k,z,p,J⟩:=I d _ a;rw[j]at c;obtain rfl:=Za0 c;rw[t]at k;injection k with L A
 subst L A;let n:⇑b=⇑y:=KV.length rel;let r:D.size=⇑b:=by rw[<-akI,pairs_len p,n]
 rwa[⟨⟨_,j,m,t⟩,r,λi S a=>?_⟩];let G:i<⇑b:=by cbv
 let⟨N,l,rk⟩:=(rj p rel).get (i:=i) (x:=kV b[i].1) (by cbv);rw[ai6,aki,a]at l;obtain rfl:=Za0 l;rwa[_,rk,21,aiL G,2]
end
def SN {g:TG}{e:TS}{o:Obj}{kvs:List (Key×V)}(a:Nat->St->Hp->Prop)(h:a 0 D H)(k:∀i D H,i<=⇑kvs->a i D H->H d\.cz o (.dK kvs))
 (l:∀i b D H,kvs[i]?\b->a i D H->g (kV b.1) D H λ c m=>e { G with nx:=a (i+ 1),ct:=a (i+ 1),bk:=G.nx } c m) (f:∀ D H,a ⇑kvs D H->G.nx D H):pU (Sw d o kvs) g e G D H:=
 Gp h k (λi D H x n p y=>by
  let⟨rfl,b,j,rfl⟩:=y;rwa[l i b D _ j p]) f
inductive XE (a:Zs) (y z:V) (H:Hp) (Q:VK):Prop
 |mk (kvs:List (Key×V)) (k:Key):H a\.dK kvs->y=kV k->⇑kvs<sizeLine->(∀v,bA kvs k\v->Q v H)->(bA kvs k=none->Q z (upd H a (.dK (putK kvs k z))))->XE a y z H Q
def WQ (td e tx:TE):TE:=λ b H Q=>td b H λx c=>EL x c λa=>e b c λy d=>tx b d λz f=>XE a y z f Q
section
variable {X:Cx}{o e f:Expr}{apos cP:Pos}{td ty tx:TE}
def nM (T:PE X o td)(t:PE X e ty)(S:PE X f tx)(m:M2 X o "setdefault" apos e f cP):PE X (.Call (.Attribute o "setdefault" apos) [e,f] [] cP) (WQ td ty tx):=by
 intro c s p H Q I h;rwa[ak2 m.base m.few m.line aj4 akF PySem.F.type_dict_setdefault (bp (T c s p H _ I h) λu Z ζ=>?_)];let⟨x,V,A,rx,a,ex,d,N⟩:=ζ;subst ex;obtain rfl:u=Value.ref a:=rx;let⟨U,F,_⟩:=mE A d;erw[U,F];rw[m.trees]
 rwa[ajU rfl (ako (ajL (bp (t c Z p V _ A N) λiv M ζ=>?_)))];let⟨y,H2,P,ry,q2⟩:=ζ;rwa[ ajL (bp (S c M p H2 _ P q2) λfv s3 ζ=>?_)];let⟨z,J,n,C,g,k,E,ey,G,O,W⟩:=ζ;rwa[akg ?_]
 subst ey;let⟨R,w,B,rel,D⟩:=sT n.aP E;let b:=rel.val k;let j:⇑B<=sizeLine:=by rw[<-⇑rel];rwa[R]
 rwa[ak9 akF D.typeIs PySem.F.entry_dict_setdefault (PySem.F.args_dict_setdefault_3^_) (kt_meets_setdefault (bY X.prog X.w) a (jh ry) w fv) ⟨B,D,j,λv hv=>?_,λhn g1 i sb=>?_⟩]
 ·rw[hv]at b
  cases l:bA g k with
  |none=>rw[l]at b;rwa[b.elim]
  |some r=>
   rw[l]at b;rwa[r,J,n.tok _,b,O r l]
 ·rw[hn]at b
  cases l:bA g k with
  |some r=>rw[l]at b;rwa[b.elim]
  |none=>
   let Y:⇑(putK g k z)<=sizeLine:=by have:=dB g k z;ext
   let t:∃q,g1.get? a\q:=let ⟨q,_,_,L,_⟩:=i;⟨q,L⟩
   rwa[z,_,km n ([E]▸True.intro) sb t (q9 Y w (rel.put k C) i),C,W l]
end
namespace Di
section
variable {prog:Program}{w:World}{A:Around}{E:Zt->Zu->Prop}{s:Zu}{d:Zs}{es:Array DictEntry}{ep:Nat}
def meets (d:Zs)(a:(d==sysModules)=false):MeetsIn prog w (Builtin.«dict.items» ⟨[↑d],[]⟩) (λ_ R s=>(∃es ep,eM s.heap d es ep)/\R (.ok (.ret ↑↥s)) { s with heap:=s.heap.push ("dict_items">>>.fields #[↑d]) }):=
 .of_wp λA R s ζ=>by
  let⟨⟨es,ep,b⟩,h⟩:=ζ
  rwa[aiK ?_];rwa[aiK (alm (Dk.typ b) ?_)];rwa[aiU ?_];unfold Builtin.Dict.showsAll;rw[ajb (by rw[a];decide)];rwa[aiK (aiU (aiK (ajJ (aiU ⟨12,h⟩))))]
theorem iter (c:s.heap.IsItemsView a d)(h:eM s.heap d es ep)
 (j:Q ↑↥s { s with heap:=s.heap.push ("dict_itemiterator">>>.fields #[.none,.bool false,↑d,.int 0 0,.int es.size 0,.int ep 0,.none,.none]) }):(prog<|>w) A (pyIter ↑a) Q E s:=by
 let⟨k,f,i,e⟩:=id c;let⟨o,g,l,b⟩:=id h;rwa[wpAny_pyIter_slot c.typeIs F.slot_dict_items_iter (akb F.slot_dict_items_iter c.typeIs F.entry_dict_items_iter ?_ (F.args_dict_items_iter_1 _))];rwa[aiK (aiU (aiK ?_))];rwa[aiK (ajS f e (x:=↑d) rfl (aiU (aiK ?_)))];rwa[aiK (alq g b (aiK (wpAny_dictEpoch g b ?_)))];let own:Builtin.Dict_items.ownsTuple "dict_itemiterator"=true:=⋯
 simp only[own,amh];rwa[ajJ (aiU ⟨12,"dict_itemiterator",_,⟨_,ai2 _ rfl,2⟩,alb.lookup,5⟩) (by simp only[sizeOk,Builtin.Dict_items.ownedTupleFields,ai8,aiP,ajf,akm,sizeLine_eq];omega)];simpa [rawInt,Builtin.Dict_items.ownedTupleFields] using j
theorem next {it:Zs}{ok:Zt}{Q:Zl->Zu->Prop}(L:A.handled=none)(hit:IsItemIter s.heap it d i es.size ep ok v)(M:eM s.heap d es ep)
 (I:∀en g,es[i]?\en->IsItemIterOut g it d (i+ 1) es.size ep en.key en.val ↥s->g.get? ↥s\("tuple">>>.seq #[en.key,en.val])->
  (∀b o,b≠it->s•b\o->g.get? b\o)->Q (some ↑↥s) (s<*g)) (S:∀g,es[i]?=none->Heap.ExtBut it s.heap g->Q none (s<*g)):(prog<|>w) A (pyNext ↑it) Q E s:=by
 let⟨h,t,r,q,os⟩:=s;let⟨W,p,P,j⟩:=id M;let f:Shared.TypeIs ⟨h,t,r,q,os⟩ ↑it "dict_itemiterator":=⟨_,hit,2⟩;rwa[aiK (wpAny_attempt (aj3 (name:=Str.ofString "__next__") f alb (akb alb f F.entry_dict_itemiterator_next ?_ (F.args_dict_itemiterator_next_1 _))))];rwa[aiK (aiU (aiK (aiK ?_)))]
 first|(rwa[aiK (wpAny_typeNameOfWhole_itemiter f (aiU ?_))];skip)|(rwa[aiK (wpAny_typeNameOf_itemiter f (aiU ?_))];skip)
 rwa[aiK (wpAny_fieldsOf hit rfl ?_)];let own:Builtin.Dict_items.ownsTuple "dict_itemiterator"=true:=⋯
 show wpAny _ _ (if (Value.ref d==Value.none)=true then _ else _) _ _ _;rw[ajb (show ¬((Value.ref d==Value.none)=true) by cbv)];rwa[aiK (aiU (aiK (alq p j ?_)))];rw[ajb (by simp)];rwa[aiK (aiU (aiK (wpAny_dictEpoch p j ?_)))];rw[ajb (by simp)];rwa[aiU ?_];rcases u:es[i]? with _|en <;> simp only[show ¬((i:Int)<0) by ext,amb,ajq,u]
 all_goals
  rwa[aiK ?_]
  first|(rwa[aiK (wpAny_typeNameOfWhole_itemiter f (aiU ?_))];skip)|(rwa[aiK (wpAny_typeNameOf_itemiter f (aiU ?_))];skip)
 ·show wpAny _ _ (setField ↑it 2 .none >>=_) _ _ _;rwa[aiK (akT hit rfl (by simp) ?_)];rwa[aiK ?_];rwa[aiK (m:=firstArgMember _ _) (wpAny_of_eq (a:=Value.none) (by first|rfl|(simp only[firstArgMember];rfl)) ?_)];rwa[ajJ ?_ (by size_fits)];rwa[aiK (wpAny_handled ?_)];rw[show A.in1.handled=none from L];rwa[aiK (aiU (wpAny_throw ?_))];rwa[aiK (wpAny_isInstance (T:="StopIteration") (b:=true) ⟨_,ai2 _ rfl,2⟩ isSubtype_stop ?_)];rwa[aiU (S _ u (((akf ..).extBut.push _).push _))]
 ·rwa[aiK (wpAny_isOneOf_itemiter f ?_)];show wpAny _ _ (setField ↑it 3 (rawInt ((i:Int)+ 1)) >>=_) _ _ ⟨h,t,r,q,os⟩
  rwa[aiK (aj1 hit (by simp) λg1 B s1=>?_)];let k:Shared.TypeIs ⟨g1,t,r,q,os⟩ ↑it "dict_itemiterator":=⟨_,B,2⟩;rwa[aiK (ajP (aiK (wpAny_isOneOf_itemiter k (aiK (wpAny_isOneOf_itemiter k ?_)))))];rwa[aiK (wpAny_newTuple ?_)];let l:IsItemIter (g1.push ("tuple">>>.seq #[en.key,en.val])) it d (i+ 1) es.size ep ok v:=aiM _ B;generalize n:g1.push ("tuple">>>.seq #[en.key,en.val])=g2 at l;let z1:g1.objs.size=h.objs.size:=s1.1;let C:it<h.objs.size:=ai9 hit;let D:g2.get? h.objs.size\("tuple">>>.seq #[en.key,en.val]):=by rw[<-n,<-z1];rwa[ai2 _ rfl]
  let N:∀b o,b≠it->h.get? b\o->g2.get? b\o:=λb o c e=>by rw[<-n];rwa[aiM _ (s1.extBut b o c e)]
  show wpAny _ _ (Builtin.Dict_items.ownedTupleIsFree ↑it >>=_) _ _ ⟨g2,t,r,q,os⟩;rw[z1];rwa[aiK ?_];rwa[aiK (ajS l rfl (x:=.none) rfl (aiU ?_))];rwa[aiK (ajS l rfl (x:=ok) rfl (aiK (ajS l rfl (x:=v) rfl ?_)))];rwa[aiK (aj1 l (by simp) λX O s3=>?_)];rwa[aiK (aj1 O (by simp) λU R s4=>?_)];rwa[aiK (aj1 R (by simp) λV G s5=>?_)];rwa[aiK (aj1 G (by simp) λy J H=>?_)];let z:∀b o,b≠it->g2.get? b\o->y.get? b\o:=λb o c e=>H.extBut b o c (s5.extBut b o c (s4.extBut b o c (s3.extBut b o c e)))
  rwa[aiK (al3 (aiU (aiU ⟨12,aiU (I en y u J (z _ _ (aj2 C) D) λb o c e=>z b o c (N b o c e))⟩)))]
end
end Di
abbrev Lv (d:Zs) (o:Obj) (kvs:List (Zd×V)):It:=Iq d o (.dT kvs) ⇑kvs λi H x H'=>∃p kp kv,kvs[i]?\kv/\H p=none/\H kp\.tup (kv.1.map kV)/\x=↑p/\H'=upd H p (.tup [↑kp,kv.2])
def Qe {elts:Zr}{x1:Nat}{tp:Pos}(d it:Zs)(o:Obj)(R:Array DictEntry)(T:Nat)(t:List (Zd×V))(O:o.data=.dict R T):
 Turn P w K (.Tuple elts x1 tp) (Lv d o t) [it] it (λi h=>∃ok j,IsItemIter h it d i R.size T ok j) where
 mem:=by simp
 obj:=λi h st b f=>by
  cbv
 keep:=λi h h' ζ k=>by let⟨ok,j,e⟩:=ζ;rwa[⟨ok,j,k it (by simp) _ e⟩]
 item:=by
  intro X J F hK L i l s σ H E I m st u;subst J F;let⟨ok,j,hit⟩:=st;let⟨hi,n⟩:=u;let⟨r,z,y⟩:=Bd I.aP n O;let M:it<↥s:=ai9 hit;refine Di.next (I.ok.hd L) hit r (λen g C G N x=>⟨12,wpAny_letOwnedTupleGo_items G λZ D U=>?_⟩) λg e=>by cbv
  let⟨S,p,v,a,b,c,d,rv⟩:=y i _ C;rw[b,d]at N;rwa[⟨↑↥s,_,I.A7 (fp:=[it]) (a:=↥s) (o:=.tup [↑p,S.2]) (h':=Z) (t':=s.toks) (λb B f q=>?_) m (aiS _) ⟨Za4 2,[↑p,v],.cons rfl (.cons rv .nil),_,(U.2 _ (aj2 M)).trans N,212⟩,2,⟨_,p,S,a,I.aP.fresh (aiS _),c,22⟩,⟨11,D⟩,λb f=>?_⟩]
  ·simp at f;rwa[(U.2 b f).trans (x b B f q)]
  ·rw[aiR.mp f,ak (ajm M)];rwa[(m it (by simp)).1]
 done:=by
  intro X J F hK L i l s σ H E I m st u;subst J F;let⟨ok,j,hit⟩:=st;let⟨hi,n⟩:=u;let⟨r,z,y⟩:=Bd I.aP n O;rwa[Di.next (I.ok.hd L) hit r (λen g e=>by cbv) λg _ eb=>⟨2,I.mv (fp:=[it]) (t':=s.toks) (λb B f q=>eb b B (λz=>f (by simp[z])) q) m⟩]
 self:=λA i s Q E ζ h=>by let⟨ok,j,hit⟩:=ζ;rwa[PySem.W.kcp_self hit h]
section
variable {X:Cx}
def iDI (tl:TE):TI:=λ c H R=>tl c H λx b=>∃d a,x=↑d/\b d\.dT a/\∀o,R (Lv d o a) (upd b d (.cz o (.dT a)))
def WR {tl:TE}{elts:Zr}{apos c:Pos}(N:PE X e tl)(f:attributeBase e "items" X.env (eval e X.env)=eval e X.env)(hline:(apos.endLine==c.line)=true):
 PI X (.Tuple elts n p) (.Call (.Attribute e "items" apos) [] [] c) (iDI tl):=by
 intro r s Q H R I h;rwa[wpAny_Call_method0_late f hline (bp (N r s Q H _ I h) λu s1 ζ=>?_)];let⟨x,M,k,O,d,j,ex,v,q⟩:=ζ;subst ex;ext O;obtain⟨-,C,ys,V,o,m,t,A,E,D,Y,Z⟩:=k.aP d _ v;let l:eM s1.heap d m t:=⟨o,A,E,D⟩;let B:EK M d:=.inr ⟨j,.inl v⟩;let⟨F,G,_⟩:=mE k B;rwa[⟨"dict","dict.items",aj4,PySem.F.slot_dict_items,PySem.F.type_dict_items,F,G,ajU rfl (PySem.evalArgs_none ?_)⟩];rwa[ak9 PySem.F.slot_dict_items F PySem.F.entry_dict_items (PySem.F.args_dict_items_1 _) (Di.meets d C) ⟨⟨m,t,l⟩,5⟩];let S:(s1.heap.push ("dict_items">>>.fields #[↑d])).IsItemsView ↥s1 d:=⟨_,ai2 _ rfl,22⟩;let g:eM (s1.heap.push ("dict_items">>>.fields #[↑d])) d m t:=⟨o,aiM _ A,E,D⟩;rwa[Di.iter (s:={ s1 with heap:=s1.heap.push ("dict_items">>>.fields #[↑d]) }) S g ?_];let L:=(k.freeze v True.intro A).kept (h':=(s1.heap.push ("dict_items">>>.fields #[↑d])).push ("dict_itemiterator">>>.fields #[.none,.bool false,↑d,.int 0 0,.int m.size 0,.int t 0,.none,.none])) (t':=s1.toks) λb o a=>aiM _ (aiM _ a)
 let i:↥s1<=(s1.heap.push ("dict_items">>>.fields #[↑d])).objs.size:=by rw[akx];ext
 let T:=Qe (P:=X.prog) (w:=X.w) (K:=X.K) (elts:=elts) (x1:=n) (tp:=p) d (s1.heap.push ("dict_items">>>.fields #[↑d])).objs.size o m t j D;rwa[⟨111112,L,T,⟨11,ai2 _ rfl⟩,λb J=>?_,q o⟩];rw[aiR.mp J];let y:=k.aP.fresh i;rwa[k.FX i ([ak (λz=>by cbv)]▸y)]
end
def SQ {g:TG}{e:TS}{o:Obj}{kvs:List (Zd×V)}(a:Nat->St->Hp->Prop)(k:a 0 D H)(m:∀i D H,i<=⇑kvs->a i D H->H d\.cz o (.dT kvs))
 (q:∀i b D H p kp,kvs[i]?\b->H p=none->H kp\.tup (b.1.map kV)->a i D H->g ↑p D (upd H p (.tup [↑kp,b.2])) λ c r=>e { G with nx:=a (i+ 1),ct:=a (i+ 1),bk:=G.nx } c r) (f:∀ D H,a ⇑kvs D H->G.nx D H):pU (Lv d o kvs) g e G D H:=
 Gp k m (λi D H x s p y=>by
  let⟨j,kp,b,l,h,n,rfl,rfl⟩:=y;rwa[q i b D _ j kp l h n p]) f
theorem uH:∀(n:Nat) (l:Zg) (lo:Int),l.Nodup->(∀x∈l,lo<=x/\x<lo+ n)->⇑l<=n
 |0,[],_,_,_=>aiS _
 |0,x::l,lo,_,h=>by have:=h x (ai7 ..);ext
 |n+ 1,l,lo,b,h=>by
  cases c:lo+ n∈l
  ·let d:=uH n (l.erase (lo+ n)) lo (b.erase _) λx a=>by
    let e:=(b.mem_erase_iff.mp a);let f:=h x e.2;ext
   rw[ak5 c]at d;ext
  ·let d:=uH n l lo b λx a=>by
    let f:=h x a;let g:x≠lo+ n:=λz=>c (by rw[<-z];rwa[a])
    ext
   ext
section
variable {κ:Type} [DecidableEq κ]
def IG (b:List (κ×V))(k j:κ):bA (fw b k) j=if j=k then none else bA b j:=by
 unfold fw
 induction b with
 |nil=>split <;> rfl
 |cons p r e=>
  cases c:p.1=k
  ·rw[List.filter_cons_of_neg (by simp[c]),e];cases a:j=k
   ·cbv
   ·rw[ajb a,ajb a,cW (λz=>a (z.symm.trans c))]
  ·rw[alU (by simp[c])];cases a:p.1=j
   ·rw[da a,ajb (λz=>c (a.trans z)),da a]
   ·rw[cW a,e];cases d:j=k
    ·cbv
    ·rw[ajb d,ajb d,cW a]
def p5 (a:List (κ×V))(k:κ)(v:V):(putK a k v).map (·.1)=if k∈a.map (·.1) then a.map (·.1) else a.map (·.1)++[k]:=by
 unfold putK;cases h:(a.any λb=>decide (b.1=k))=true
 ·let c:k∈a.map (·.1):=by
   let⟨b,e,d⟩:=ame.mp h;rwa[ajz.mpr ⟨b,e,aja d⟩]
  rw[ajg h,ajg c,ajw];rwa[ajN λb _=>?_]
  cbv
 cbv
def SR {a:List (κ×V)}(k:κ)(v:V)(h:(a.map (·.1)).Nodup):((putK a k v).map (·.1)).Nodup:=by
 rw[p5];split
 ·rwa[h]
 ·rename_i b;rwa[ajF.mpr ⟨h,by simp,λx d y c z=>?_⟩];rw[aiR.mp c]at z;rwa[b (by rw[<-z];rwa[d])]
def Qf {a:List (κ×V)}(k:κ)(h:(a.map (·.1)).Nodup):((fw a k).map (·.1)).Nodup:=by
 rwa[List.Nodup.sublist ((akM).map _) h]
def Bq {a:List (κ×V)}(h:(a.map (·.1)).Nodup){b:κ×V}(hm:b∈a):bA a b.1\b.2:=by
 induction a with
 |nil=>ext hm
 |cons p r c=>
  rw[aj0,ajr]at h;rcases ai3.mp hm with e|hm
  ·rw[e];rwa[da rfl]
  ·rw[cW (λz=>h.1 ([z]▸akL hm))];rwa[c h.2 hm]
def Lx {a:List (κ×V)}{k:κ}(h:bA a k\q):(k,q)∈a:=by
 unfold bA at h
 cases e:a.find? λb=>decide (b.1=k) with
 |none=>rw[e]at h;ext h
 |some b=>
  cbv
end
def DI (H:Hp)(d:Zs)(f:Int->Zc):Prop:=∃a:List (Key×V),H d\.dK a/\(a.map (·.1)).Nodup/\(∀b∈a,∃i:Int,b.1=Sum.inl i)/\∀i:Int,bA a (Sum.inl i)=f i
def DI.at {f:Int->Zc}(h:DI H d f)(k:∀o,H d\o->I d\o):DI I d f:=by
 let⟨a,c,b⟩:=h;rwa[a,k _ c,b]
def DI.congr {f g:Int->Zc}(h:DI H d f)(e:∀i,f i=g i):DI H d g:=by
 let⟨a,j,b,k,c⟩:=h;rwa[a,j,b,k,λi=>(c i).trans (e i)]
def Br {a:List (Key×V)}{f:Int->Zc}(k:(a.map (·.1)).Nodup)(h:∀g∈a,∃i:Int,g.1=Sum.inl i)(l:∀i:Int,bA a (Sum.inl i)=f i)(i:Int)(v:V):DI (upd H d (.dK (putK a (Sum.inl i) v))) d (λj=>if j=i then some v else f j):=by
 rwa[⟨_,aj,SR^k,λg b=>?_,λj=>?_⟩]
 ·have:g.1∈(putK a (Sum.inl i) v).map (·.1):=akL b;rw[p5]at this;split at this
  ·let⟨q,c,e⟩:=ajz.mp this;rw[<-e];rwa[h q c]
  ·rcases aiY.mp this with z|z
   ·let⟨q,c,e⟩:=ajz.mp z;rw[<-e];rwa[h q c]
   ·rwa[i,aiR.mp z]
 ·rw[jq];dsimp only;cases e:j=i
  ·rw[ajg e,ajg (by rw[e])]
  ·rw[ajb e,ajb (λz=>e (Sum.inl.inj z)),l]
def Qg {a:List (Key×V)}{f:Int->Zc}(e:(a.map (·.1)).Nodup)(g:∀c∈a,∃i:Int,c.1=Sum.inl i)(h:∀i:Int,bA a (Sum.inl i)=f i)(i:Int):DI (upd H d (.dK (fw a (Sum.inl i)))) d (λj=>if j=i then none else f j):=by
 rwa[⟨_,aj,Qf _ e,λc b=>g c ((aky.mp b).1),λj=>?_⟩];rw[IG]
 cbv
def vN {c:List (Key×V)}{f:Int->Zc}(k:(c.map (·.1)).Nodup)(m:∀d∈c,∃i:Int,d.1=Sum.inl i)(p:∀i:Int,bA c (Sum.inl i)=f i){n:Nat}{lo:Int}(o:∀i v,f i\v->lo<=i/\i<lo+ n):⇑c<=n:=by
 let h:=uH n (c.map λd=>match d.1 with|Sum.inl i=>i|Sum.inr _=>0) lo ?_ λx r=>?_
 ·rw[aiQ]at h;rwa[h]
 ·let e:c.map (·.1)=(c.map λd=>match d.1 with|Sum.inl i=>i|Sum.inr _=>(0:Int)).map Sum.inl:=by
   rw[ajw];rwa[ajN λd g=>?_]
   let⟨i,j⟩:=m d g;show d.1=Sum.inl (match d.1 with|Sum.inl i=>i|Sum.inr _=>(0:Int));rw[j]
  rw[e]at k;rwa[List.Pairwise.imp (λ{a b} q z=>q (ajT Sum.inl z)) (akw.mp k)]
 ·let⟨d,g,rfl⟩:=ajz.mp r;let⟨i,j⟩:=m d g;let l:=Bq k g;rw[j,p]at l;rw[j];rwa[o i _ l]
abbrev bN:=Int->Int->Int->Bool
structure ej (H:Hp) (k:Zs) (D:Int->Zo) (E:Int->Int->Zo) (S:bN):Prop where
 top:DI H k λc=>(D c).map V.ref
 row:∀c d,D c\d->DI H d λs=>(E c s).map V.ref
 zi:∀c s e,E c s\e->DI H e λo=>if S c s o=true then some (.bl true) else none
 ed:∀c s e,E c s\e->∃d,D c\d
 se:∀c s o,S c s o=true->∃e,E c s\e
 nd:∀c d,D c\d->d≠k
 ne:∀c s e,E c s\e->e≠k
 dd:∀c c' d,D c\d->D c'\d->c=c'
 de:∀c c' s d,D c\d->E c' s\d->False
 ee:∀c s c' s' e,E c s\e->E c' s'\e->c=c'/\s=s'
def uI (k:Zs)(D:Int->Zo)(E:Int->Int->Zo)(b:Zs):Prop:=b=k\/(∃c,D c\b)\/∃c s,E c s\b
section
variable {H H':Hp}{k:Zs}{D:Int->Zo}{E:Int->Int->Zo}{S:bN}
def ej.keep (h:ej H k D E S)(f:∀b o,uI k D E b->H b\o->H' b\o):ej H' k D E S:=
 ⟨h.top.at λo e=>f _ _ (.inl rfl) e,λc d e=>(h.row c d e).at λo q=>f _ _ (.inr (.inl ⟨c,e⟩)) q,λc s e q=>(h.zi c s e q).at λo r=>f _ _ (.inr (.inr ⟨c,s,q⟩)) r,h.ed,h.se,h.nd,h.ne,h.dd,h.de,h.ee⟩
def ej.same (h:ej H k D E S)(s:av H H'):ej H' k D E S:=h.keep λb o _ e=>s b o e
def ej.there (h:ej H k D E S){b:Zs}(d:uI k D E b):∃a,H b\(.dK a):=by
 rcases d with rfl|⟨c,e⟩|⟨c,s,e⟩
 ·let⟨a,q,_⟩:=h.top;rwa[a,q]
 ·let⟨a,q,_⟩:=h.row c b e;rwa[a,q]
 ·let⟨a,q,_⟩:=h.zi c s b e;rwa[a,q]
def ej.congr (h:ej H k D E S){d:Int->Zo}{b:Int->Int->Zo}{a:bN}(e:∀c,D c=d c)(g:∀c s,E c s=b c s)(f:∀c s o,S c s o=a c s o):ej H k d b a:=by
 obtain rfl:D=d:=funext e;obtain rfl:E=b:=funext λc=>funext (g c)
 obtain rfl:S=a:=funext λc=>funext λs=>funext (f c s)
 rwa[h]
def ej.SV (h:ej H k D E S):∃a:List (Key×V),H k\.dK a/\(a.map (·.1)).Nodup/\(∀b∈a,∃i:Int,b.1=Sum.inl i)/\∀i:Int,bA a (Sum.inl i)=(D i).map V.ref:=h.top
def ej.Ly (h:ej H k D E S){c:Int}{d:Zs}(hd:D c\d):∃a:List (Key×V),H d\.dK a/\(a.map (·.1)).Nodup/\(∀b∈a,∃i:Int,b.1=Sum.inl i)/\∀i:Int,bA a (Sum.inl i)=(E c i).map V.ref:=h.row c d hd
def ej.SW (h:ej H k D E S){c s:Int}{e:Zs}(d:E c s\e):∃a:List (Key×V),H e\.dK a/\(a.map (·.1)).Nodup/\(∀b∈a,∃i:Int,b.1=Sum.inl i)/\∀i:Int,bA a (Sum.inl i)=if S c s i=true then some (.bl true) else none:=h.zi c s e d
def ej.Qh (h:ej H k D E S){c s:Int}{d e:Zs}(hd:D c\d)(N:E c s=none){j:List (Key×V)}(B:H d\.dK j)(J:H e\.dK [])(nw:¬uI k D E e):
 ej (upd H d (.dK (putK j (Sum.inl s) ↑e))) k D (λb f=>if b=c/\f=s then some e else E b f) S:=by
 let x:e≠d:=λz=>nw (.inr (.inl ⟨c,[z]▸hd⟩))
 let⟨t,C,L,F,I⟩:=h.row c d hd;rw[B]at C;obtain rfl:j=t:=by cbv
 rwa[⟨h.top.at λo q=>?_,λb u i=>?_,λb f m a=>?_,λb f m a=>?_,λb f o G=>?_,h.nd,λb f m a=>?_,h.dd,λb r f u i a=>?_,λb f r w m p l=>?_⟩]
 ·rw[ak (h.nd c d hd).symm];rwa[q]
 ·cases g:b=c
  ·subst g;have:u=d:=by rw[hd]at i;rwa[(Za0 i).symm]
   subst this;rwa[(Br L F I s ↑e).congr λf=>?_]
   cbv
  ·let y:u≠d:=λz=>g (h.dd _ _ _ i ([z]▸hd))
   rwa[((h.row b u i).at λo q=>[ak y]▸q).congr λf=>?_]
   cbv
 ·cases g:b=c/\f=s
  ·rw[ajg g]at a;obtain rfl:=Za0 a;let⟨rfl,rfl⟩:=g;rwa[⟨[],[ak x]▸J,by simp,(λM A=>by ext A),λo=>?_⟩]
   cases q:S b f o with
   |true=>let⟨m,z⟩:=h.se _ _ _ q;cbv
   |false=>dsimp only;rw[q];rfl
  ·rw[ajb g]at a;exact(h.zi b f m a).at λo q=>by rw[ak (λz=>h.de c b f d hd (by cbv))];rwa[q]
 ·cases g:b=c/\f=s
  ·cbv
  ·rw[ajb g]at a;rwa[h.ed _ _ _ a]
 ·cases g:b=c/\f=s
  ·rwa[e,ajg g]
  ·let⟨m,z⟩:=h.se _ _ _ G;cbv
 ·cases g:b=c/\f=s
  ·rw[ajg g]at a;obtain rfl:=Za0 a;rwa[λz=>nw (.inl z)]
  ·rw[ajb g]at a;rwa[h.ne _ _ _ a]
 ·cases g:r=c/\f=s
  ·rw[ajg g]at a;obtain rfl:=Za0 a;rwa[nw (.inr (.inl ⟨b,i⟩))]
  ·rw[ajb g]at a;rwa[h.de _ _ _ _ i a]
 ·cases v:b=c/\f=s
  ·rw[ajg v]at p;obtain rfl:=Za0 p;cases n:r=c/\w=s
   ·rwa[v.1.trans n.1.symm,v.2.trans n.2.symm]
   ·rw[ajb n]at l;rwa[(nw (.inr (.inr ⟨r,w,l⟩))).elim]
  ·rw[ajb v]at p;cases n:r=c/\w=s
   ·rw[ajg n]at l;obtain rfl:=Za0 l;rwa[(nw (.inr (.inr ⟨b,f,p⟩))).elim]
   ·rw[ajb n]at l;rwa[h.ee _ _ _ _ _ p l]
def ej.setCell (h:ej H k D E S){c s:Int}{e:Zs}(i:E c s\e){u:HO}{g:Int->Bool}(n:DI (upd H e u) e λo=>if g o=true then some (.bl true) else none):
 ej (upd H e u) k D E (λa d o=>if a=c/\d=s then g o else S a d o):=by
 rwa[⟨h.top.at λo q=>?_,λa m j=>(h.row a m j).at λo q=>?_,λa d p b=>?_,h.ed,λa d o l=>?_,h.nd,h.ne,h.dd,h.de,h.ee⟩]
 ·rw[ak (h.ne _ _ _ i).symm];rwa[q]
 ·rw[ak (λz=>h.de _ _ _ _ j ([z]▸i))];rwa[q]
 ·cases f:a=c/\d=s
  ·let⟨rfl,rfl⟩:=f;rw[i]at b;obtain rfl:=Za0 b;rwa[n.congr λo=>?_]
   simp
  ·refine((h.zi a d p b).at λo q=>?_).congr λo=>by rw[ajb f]
   rw[ak (λz=>f (h.ee _ _ _ _ _ b ([z]▸i)))];rwa[q]
 ·cases f:a=c/\d=s
  ·rwa[e,[f.1,f.2]▸i]
  ·rw[ajb f]at l;rwa[h.se _ _ _ l]
def ej.SX (h:ej H k D E S){c s:Int}{e:Zs}(j:E c s\e){a:List (Key×V)}(l:H e\.dK a)(o:Int):
 ej (upd H e (.dK (putK a (Sum.inl o) (.bl true)))) k D E (λi f b=>S i f b || (decide (i=c) && decide (f=s) && decide (b=o))):=by
 let⟨d,n,q,p,m⟩:=h.zi c s e j;rw[l]at n;obtain rfl:a=d:=by cbv
 rwa[(h.setCell (g:=λb=>S c s b || decide (b=o)) j ((Br q p m o (.bl true)).congr λb=>?_)).congr (λ_=>rfl) (λ_ _=>rfl) λi f b=>?_]
 ·cbv
 cbv
def ej.Qi (h:ej H k D E S){n:Int}{d:Zs}(hd:D n=none){g:List (Key×V)}(v:H k\.dK g)(A:H d\.dK [])(nw:¬uI k D E d):
 ej (upd H k (.dK (putK g (Sum.inl n) ↑d))) k (λc=>if c=n then some d else D c) E S:=by
 let⟨m,w,B,x,y⟩:=h.top;rw[v]at w;obtain rfl:g=m:=by cbv
 let t:d≠k:=λz=>nw (.inl z)
 let en:∀s,E n s=none:=λs=>by
  cases q:E n s with
  |none=>rfl
  |some e=>let⟨i,z⟩:=h.ed _ _ _ q;cbv
 rwa[⟨(Br B x y n ↑d).congr λc=>?_,λc i a=>?_,λc s e p=>(h.zi c s e p).at λo q=>?_,λc s e p=>?_,h.se,λc i a=>?_,h.ne,λc r i b f=>?_,λc r s i b f=>?_,h.ee⟩]
 ·cbv
 ·cases e:c=n
  ·rw[ajg e]at a;obtain rfl:=Za0 a;subst e;rwa[⟨[],[ak t]▸A,by simp,(λC u=>by ext u),λs=>?_⟩];dsimp only;rw[en s];rfl
  ·rw[ajb e]at a;exact(h.row c i a).at λo q=>by rw[ak (h.nd^a)];rwa[q]
 ·rw[ak (h.ne _ _ _ p)];rwa[q]
 ·let⟨i,z⟩:=h.ed _ _ _ p
  cbv
 ·cases e:c=n
  ·cbv
  ·rw[ajb e]at a;rwa[h.nd^a]
 ·cases j:c=n
  ·rw[ajg j]at b;obtain rfl:=Za0 b;cases l:r=n
   ·rw[j,l]
   ·rw[ajb l]at f;rwa[(nw (.inr (.inl ⟨_,f⟩))).elim]
  ·rw[ajb j]at b;cases l:r=n
   ·rw[ajg l]at f;obtain rfl:=Za0 f;rwa[(nw (.inr (.inl ⟨_,b⟩))).elim]
   ·rw[ajb l]at f;rwa[h.dd _ _ _ b f]
 ·cases j:c=n
  ·rw[ajg j]at b;obtain rfl:=Za0 b;rwa[nw (.inr (.inr ⟨11,f⟩))]
  ·rw[ajb j]at b;rwa[h.de _ _ _ _ b f]
end
namespace Et
def meets (l:Zs)(items:Zm)(n:Nat)(dct:Zo)(j:Array Zl):
 Meets (Builtin.«enumerate.__new__» ⟨[.type "enumerate",↑l],[]⟩) (λ_ R s=>s•l\{ cls:=.type "tuple",dict:=dct,data:=.seq items n,slots:=j }/\
  R (.ok (.ret (↑(s.heap.push ("tuple_iterator">>>.fields #[↑l,.int 0 0])).objs.size)))
    { s with heap:=(s.heap.push ("tuple_iterator">>>.fields #[↑l,.int 0 0])).push ("enumerate">>>.fields #[.none,.bool false,↑↥s,rawInt 0,.none,.none]) }):=
 .of_wp λb w A R s h=>by
  let⟨i,g,d,k,os⟩:=s;let⟨a,h⟩:=h;let e:=sub_enumerate;let f:Heap.IsTuple (Shared.heap ⟨i,g,d,k,os⟩) l items:=⟨_,a,2,n,2⟩
  wp_walk using ak3 a;rwa[wpAny_stack_any λst=>aiU ?_]
  split
  ·rename_i c _ _ _ _ _;cases (c==Value.type "enumerate") <;> (wp_walk using ak3 a,wpAny_pyIter_tuple f;rwa[12,h])
  ·wp_walk using ak3 a,wpAny_pyIter_tuple f;rwa[12,h]
theorem call {items:Zm}(k:s.heap.IsTuple a items)
 (h:∀g,IsEnum g (↥s+ 1) ↥s 0 .none->g.IsTupleIter ↥s a 0->g.objs.size=↥s+ 2->(∀b o,s•b\o->g.get? b\o)->Q ↑(↥s+ 1) (s<*g)):
 (P<|>w) A (call (.type "enumerate") [↑a]) Q E s:=by
 let⟨⟨c,dct,l,j⟩,m,f,n,d⟩:=k;replace f:c=.type "tuple":=f;replace d:l=.seq items n:=d;subst f d;rwa[callType_new F.called_enumerate ⋯ (F.typeCall_enumerate_1 _) (F.newCall_enumerate_1 _) (λobj=>F.args_object_init_2 obj _) F.entry_enumerate_new (meets a items n dct j) ⟨m,5⟩];let e:(s.heap.push ("tuple_iterator">>>.fields #[↑a,.int 0 0])).objs.size=↥s+ 1:=akx ..;show _/\_;rw[e]
 let i:IsEnum ((s.heap.push ("tuple_iterator">>>.fields #[↑a,.int 0 0])).push ("enumerate">>>.fields #[.none,.bool false,↑↥s,rawInt 0,.none,.none])) (↥s+ 1) ↥s 0 .none:=by
  have:=ai2 (s.heap.push ("tuple_iterator">>>.fields #[↑a,.int 0 0])) (o:=("enumerate">>>.fields #[.none,.bool false,↑↥s,rawInt 0,.none,.none])) rfl;rw[e]at this;rwa[this]
 rwa[⟨_,i,2⟩,h _ i ⟨_,aiM _ (ai2 _ rfl),22⟩ (by rw[akx,e]) λb o x=>aiM _ (aiM _ x)]
end Et
abbrev abf (K:Za1) (a:Zs):It:=EY (λH=>bB K H a) Nat.cast
section
variable {X:Cx}
def SY (K:Za1)(e:TA):TI:=λ f H R=>e f H λc b=>∃a,c=[↑a]/\(∃d,bB K b a d)/\R (abf K a) b
def Lz {elts:Zr}{b d:Pos}(m:Gl X "enumerate")(x:X.mg "enumerate"=none)(y:PE X e r)(j:starEach [e] X.env=[(false,eval e X.env)]):
 PI X (.Tuple elts n p) (.Call (.Name "enumerate" b) [e] [] d) (SY X.K (jg r jW)):=by
 intro a s w H R I h;rwa[Call_ (gw I m x boot_enumerate (ajH (bp ((ae y ah j) d a s w H _ I h) λG s1 ζ=>?_) j rfl))];let⟨B,E,i,k,l,c,⟨F,t⟩,q⟩:=ζ;subst c;let⟨u,rfl,z⟩:=vals1 k;ext z;let⟨f,C,pl,D⟩:=i.tuple t;rwa[Et.call (show s1.heap.IsTuple l f.toArray from pl) λA g hit v o=>x8 i (Eu l _) (λ_=>rfl) g hit o q]
end
section
variable {K:Za1}{mg:Str->Zl}{h:Heap}{C f:Zs}{x q:Str}{st:Stmt}{ps:Zp}{oc kV doc pm cC ct:Zt}{od an:Zo}{AV:Array Zl}
theorem Def.of (X:K.In h)(G:h.Ns mainGlobals mg)(a:PySem.W.nsIn K mainGlobals x\some ↑f)(l:K.lookup f\⟨oc,od,.func (PySem.W.fnOf x x (dN st) (cQ st) (az st) .none kV doc pm an cC ct),AV⟩)(c:PySem.W.codeIn K cC x=true)(k:PySem.W.keepIn K ↑f=true)
 (b:∀(kV doc pm:Zt) (an:Zo) (cC ct:Zt) (us:Zk),⇑us=⇑ps->bindArgs (PySem.W.fnOf x x (dN st) (cQ st) (az st) .none kV doc pm an cC ct) ⟨us,[]⟩=pure (ps.zip us)):Def K mg x st ps f (PySem.W.fnOf x x (dN st) (cQ st) (az st) .none kV doc pm an cC ct):=
 let F:=HQ (st:=st) l c k
 ⟨F,PySem.W.mg_of X G a,F.binds (ps:=ps) b⟩
theorem MDef.of (a:PySem.W.findIn K ↑C x\some ↑f)(i:PySem.W.isFn K ↑f=true)(l:K.lookup f\⟨oc,od,.func (PySem.W.fnOf x q (dN st) (cQ st) (az st) .none kV doc pm an cC ct),AV⟩)(c:PySem.W.codeIn K cC q=true)(k:PySem.W.keepIn K ↑f=true)
 (b:∀(kV doc pm:Zt) (an:Zo) (cC ct:Zt) (us:Zk),⇑us=⇑ps->bindArgs (PySem.W.fnOf x q (dN st) (cQ st) (az st) .none kV doc pm an cC ct) ⟨us,[]⟩=pure (ps.zip us)):MDef K C x q st ps f (PySem.W.fnOf x q (dN st) (cQ st) (az st) .none kV doc pm an cC ct):=
 let F:=HQ (st:=st) l c k
 ⟨F,⟨a,i,k⟩,F.binds (ps:=ps) b⟩
def Def.fd {fd:FuncData}(D:Def K mg x st ps f fd):∃(kV doc pm:Zt) (an:Zo) (cC ct:Zt),fd=PySem.W.fnOf x x (dN st) (cQ st) (az st) .none kV doc pm an cC ct:=by
 let⟨oc,od,kV,doc,pm,an,cC,ct,AV,e,_⟩:=D.F.ex;rwa[kV,doc,pm,an,cC,ct,e]
end
end L2
namespace L2
noncomputable def wk (b:Nat->Int->Zi):Nat->Zg->Zi
 |c,[]=>some c
 |c,z::w=>match b c z with
  |none=>none
  |some d=>wk b d w
section
variable {b:Nat->Int->Zi}
def ku (h:b n z\m):wk b n (z::l)=wk b m l:=by
 show (match b n z with|none=>none|some m=>wk b m l)=_;rw[h]
def vO (h:wk b n (z::l)\m):∃d,b n z\d/\wk b d l\m:=by
 cases q:b n z with
 |none=>
  let a:(match b n z with|none=>none|some d=>wk b d l)\m:=h;rw[q]at a;ext a
 |some d=>rw[ku q]at h;rwa[d,2,h]
theorem vP:∀{u v:Zg} {c d:Nat},wk b c u\d->wk b c (u++v)=wk b d v
 |[],v,c,d,h=>by rw[Za0 h];rfl
 |z::u,v,c,d,h=>by
  let⟨e,f,a⟩:=vO h;rw[ake,ku f];rwa[vP a]
def S0 (h:b n z\m):wk b n [z]\m:=by rw[ku h];rfl
def take_snoc (h:l[i]?\z):l.take (i+ 1)=l.take i++[z]:=by rw[akG,h];rfl
def drop_cons (h:l[i]?\z):l.drop i=z::l.drop (i+ 1):=by
 let a:=(aiO.mp h).1;rw[akV a,(aiO.mp h).2]
end
structure Later (S S':RS):Prop where
 el:∀c,c<S.q->S'.ax (S.ax c)=S'.ax c
 by_:∀c z d,S.by c z=some d->S'.by (S'.ax c) z=some (S'.ax d)
def Later.of {l:Za2}(h:Good S [] R)(g:Good T [] l)(i:∀a z b,R a z b->l a z b)(k:S.q<=T.q):Later S T:=by
 let el:∀c,c<S.q->T.ax (S.ax c)=T.ax c:=λc hc=>(g.fin (ajk (h.lt hc) k) (ajk hc k)).mpr ((h.cg c hc).mono i).symm
 rwa[⟨el,λc z d e=>?_⟩];let⟨f,j,r,n,m⟩:=h.so _ _ _ e;let⟨o,l2,_⟩:=h.rl _ _ _ r;rw[<-n,<-m,el f o,el j l2];rwa[g.mJ.mpr ⟨f,j,i _ _ _ r,22⟩]
theorem Later.wk (h:Later S T):∀{w:Zg} {c d:Nat},wk S.by c w=some d->wk T.by (T.ax c) w=some (T.ax d)
 |[],c,d,e=>by rw[Za0 e];rfl
 |z::w,c,d,e=>by
  let⟨f,b,a⟩:=vO e;rw[ku (h.by_ _ _ _ b)];rwa[Later.wk h a]
structure Gg where
 which:Nat
 word:Zg
 start:Nat
 front:Nat
 first:Nat
 bE:Nat
 last:Nat
abbrev Zf:=List (Option Gg)
noncomputable def Gg.z1 (g:Gg):Int:=g.word.getD g.first 0
noncomputable def Gg.z2 (g:Gg):Int:=-(g.word.getD g.last 0)
structure GI (S:RS) (g:Gg):Prop where
 fl:g.first<=g.last
 ll:g.last<⇑g.word
 s:g.start<S.q
 f:g.front<S.q
 r:g.bE<S.q
 wf:wk S.by (S.ax g.start) (g.word.take g.first)=some (S.ax g.front)
 wr:wk S.by (S.ax g.bE) (g.word.drop (g.last+ 1))=some (S.ax g.start)
def GI.later {g:Gg}(h:GI S g)(l:Later S T)(a:S.q<=T.q):GI T g:=by
 let c:=l.wk h.wf;let b:=l.wk h.wr;rw[l.el _ h.s,l.el _ h.f]at c;rw[l.el _ h.r,l.el _ h.s]at b;rwa[h.fl,h.ll,ajk h.s a,ajk h.f a,ajk h.r a,c,b]
def Gg.qB {g:Gg}(h:g.first<⇑g.word):g.word[g.first]?\g.z1:=by
 unfold Gg.z1;rw[aiT,aiL h];rfl
def Gg.at2 {g:Gg}(h:g.last<⇑g.word):g.word[g.last]?\(-g.z2):=by
 unfold Gg.z2;rw[aiT,aiL h,akv];rfl
structure XF (S:RS) (g g':Gg):Prop where
 wh:g'.which=g.which
 wo:g'.word=g.word
 st:g'.start=g.start
 gi:GI S g'
 ef:S.ax g'.front=g'.front
 er:S.ax g'.bE=g'.bE
 n1:g'.first<g'.last->S.by g'.front g'.z1=none
 n2:g'.first<g'.last->S.by g'.bE g'.z2=none
 k1:S.ax g.front=g.front->S.by g.front g.z1=none->g'.front=g.front/\g'.first=g.first
 k2:S.ax g.bE=g.bE->S.by g.bE g.z2=none->g'.bE=g.bE/\g'.last=g.last
def GI.whole {g:Gg}(h:GI S g)(e:g.first=g.last)(c:S.ax g.start=g.start)(ef:S.ax g.front=g.front)(er:S.ax g.bE=g.bE)(d:S.by g.front g.z1=some g.bE):wk S.by g.start g.word=some g.start:=by
 let b:=h.wf;let a:=h.wr;rw[c,ef]at b;rw[c,er,<-e]at a;let hz:=Gg.qB (g:=g) ([e]▸h.ll);have:g.word=g.word.take g.first++(g.z1::g.word.drop (g.first+ 1)):=by rw[<-drop_cons hz,List.take_append_drop]
 rw[this,vP b,ku d];rwa[a]
noncomputable def eN (m:Nat)(W:bN)(n:Int):Nat:=(~~~(m* 2001)).countP λc=>W ((c / 2001:Nat):Int) (((c % 2001:Nat):Int) - 1000) n
def vQ (m G:Nat)(W:bN):Nat:=((~~~G).map λn:Nat=>eN m W n).sum
def gB (W:bN)(r s:Int):bN:=λb a n=>W b a n && !(decide (b=r) && decide (a=s))
def S5 (a:n<m)(b: -1000<=z/\z<=1000):n* 2001+ (z+ 1000).toNat<m* 2001:=by
 have:(n+ 1)* 2001<=m* 2001:=akX _ a;ext
def IH {c r:Nat}(f: -1000<=z/\z<=1000):(((c / 2001:Nat):Int)=(r:Int)/\((c % 2001:Nat):Int) - 1000=z)↔c=r* 2001+ (z+ 1000).toNat:=by
 constructor
 ·rintro ⟨e,d⟩;have:=Nat.div_add_mod c 2001;ext
 ·intro h;subst h
  let a:(r* 2001+ (z+ 1000).toNat) / 2001=r:=by
   rw[Nat.mul_comm,Nat.mul_add_div ⋯,Nat.div_eq_of_lt ∅];ext
  let b:(r* 2001+ (z+ 1000).toNat) % 2001=(z+ 1000).toNat:=by
   rw[Nat.mul_comm,Nat.mul_add_mod,Nat.mod_eq_of_lt ∅]
  rw[a,b];ext
def S6 {W:bN}(a:Int)(g:n<m)(d: -1000<=z/\z<=1000):eN m (gB W n z) a+ (if W n z a=true then 1 else 0)=eN m W a:=by
 let f:=S5 g d
 let dec:∀c:Nat,(decide (((c / 2001:Nat):Int)=(n:Int)) && decide (((c % 2001:Nat):Int) - 1000=z))=decide (c=n* 2001+ (z+ 1000).toNat):=λc=>by
  rw[<-Bool.decide_and,decide_eq_decide];rwa[IH d]
 let at_:=(IH (c:=n* 2001+ (z+ 1000).toNat) (r:=n) d).mpr rfl;unfold eN gB;cases b:W n z a=true
 ·rw[ajg b]
  have:=l0 (p:=λc:Nat=>W ((c / 2001:Nat):Int) (((c % 2001:Nat):Int) - 1000) a) (p':=λc:Nat=>W ((c / 2001:Nat):Int) (((c % 2001:Nat):Int) - 1000) a && !(decide (((c / 2001:Nat):Int)=(n:Int)) && decide (((c % 2001:Nat):Int) - 1000=z))) (v:=n* 2001+ (z+ 1000).toNat) (λc=>by
   rw[dec c,<-decide_not]) ([at_.1,at_.2]▸b) (m* 2001)
  rw[ajg f]at this;rwa[this]
 ·rw[ajb b,Nat.add_zero];rwa[List.countP_congr λc _=>?_]
  rw[akC];rwa[⟨λh=>h.1,λh=>⟨h,5⟩⟩];rw[dec c]
  cases e:decide (c=n* 2001+ (z+ 1000).toNat) with
  |false=>rfl
  |true=>
   rw[aja e,at_.1,at_.2]at h;rwa[absurd h b]
theorem zj:∀(l:Zh) (f g h:Nat->Nat),(∀n∈l,f n+ g n=h n)->(l.map f).sum+ (l.map g).sum=(l.map h).sum
 |[],_,_,_,_=>rfl
 |a::l,f,g,h,e=>by
  let c:=zj l f g h λn b=>e n (ajo _ b)
  have:=e a (ai7 ..);simp only[aj0,List.sum_cons];ext
theorem E4 (p:Nat->Bool):∀l:Zh,(l.map λn=>if p n=true then 1 else 0).sum=l.countP p
 |[]=>rfl
 |a::l=>by
  rw[aj0,List.sum_cons,E4 p l,List.countP_cons];ext
def Qj {G:Nat}{W:bN}(b:n<m)(c: -1000<=z/\z<=1000):vQ m G (gB W n z)+ (~~~G).countP (λa:Nat=>W n z a)=vQ m G W:=by
 unfold vQ;rw[<-E4 (λa:Nat=>W n z a)];rwa[zj _ _ _ _ λa _=>S6 a b c]
theorem Qk:∀{l:Zh} {a b:Nat},l.Nodup->(∀x∈l,x=a\/x=b)->⇑l<=2
 |[],_,_,_,_=>⋯
 |[_],_,_,_,_=>al1 1
 |[_,_],_,_,_,_=>aiS 2
 |x::y::z::r,a,b,e,h=>by
  let f:=h x (by simp);let c:=h y (by simp);let d:=h z (by simp)
  cbv
def S7 {W:bN}{p q:Int×Int}(h:∀r s,W r s z=true->(r,s)=p\/(r,s)=q):eN m W z<=2:=by
 unfold eN;rw[List.countP_eq_length_filter];rwa[Qk (a:=(p.1* 2001+ (p.2+ 1000)).toNat) (b:=(q.1* 2001+ (q.2+ 1000)).toNat) (amf.filter _) λc d=>?_]
 let f:=Nat.div_add_mod c 2001;rcases h _ _ (aky.mp d).2 with e|e
 ·left;rw[<-e];dsimp only;ext
 ·right;rw[<-e];dsimp only;ext
theorem II:∀(l:Zh) (f:Nat->Nat) (k:Nat),(∀n∈l,f n<=k)->(l.map f).sum<=⇑l* k
 |[],_,_,_=>by simp
 |a::l,f,k,h=>by
  let c:=II l f k λn b=>h n (ajo _ b)
  have:=h a (ai7 ..);rw[aj0,List.sum_cons,ajf,al8];ext
def Ql {W:bN}(h:∀a:Nat,∃p q:Int×Int,∀r s,W r s a=true->(r,s)=p\/(r,s)=q):vQ m n W<=2* n:=by
 have:=II (~~~n) (λa:Nat=>eN m W a) 2 λa _=>by
  let⟨p,q,e⟩:=h a;rwa[S7 e]
 rw[ajK]at this;unfold vQ;ext
structure CI (S:RS) (bs:List (Nat×Zg×Nat)) (gs:Zf) (ag:Zh) (W:bN) (Ex:Nat->Int->Prop) (x:Zi):Prop where
 len:⇑gs=⇑bs
 al:∀(n:Nat) (g:Gg),gs[n]?\some g->bs[n]?\(g.which,g.word,g.start)/\GI S g/\(n∈ag\/some n=x\/(g.first<g.last/\W g.front g.z1 n=true/\W g.bE g.z2 n=true))
 de:∀(n:Nat) (b:Nat×Zg×Nat),gs[n]?\none->some n≠x->bs[n]?\b->S.ax b.2.2≠b.2.2\/wk S.by b.2.2 b.2.1=some b.2.2
 ab:∀n∈ag,n<⇑gs
 en:∀r s n,W r s n=true->∃r' n':Nat,r=r'/\n=n'/\r'<S.q/\n'<⇑gs/\(-1000<=s/\s<=1000)/\(S.ax r'=r'/\S.by r' s=none\/Ex r' s)
 sl:∀n:Nat,∃p q:Int×Int,(∀r s,W r s n=true->(r,s)=p\/(r,s)=q)/\∀g,gs[n]?\some g->p=((g.front:Int),g.z1)/\q=((g.bE:Int),g.z2)
 bd:∀b∈bs,∀z∈b.2.1,-1000<=z/\z<=1000
def fY:Nat->Int->Prop:=λ_ _=>False
section
variable {S:RS}{bs:List (Nat×Zg×Nat)}{gs:Zf}{ag:Zh}{W:bN}{Ex:Nat->Int->Prop}{x:Zi}{n:Nat}
def CI.pop (h:CI S bs gs (ag++[n]) W Ex none):CI S bs gs ag W Ex (some n):=by
 rwa[⟨h.len,λk g e=>?_,λk b e _=>h.de k b e (λz=>by ext z),λk c=>h.ab k (ajh _ c),h.en,h.sl,h.bd⟩];let⟨f,d,a⟩:=h.al k g e;erw[f,d];rcases a with a|a|a
 ·rcases aiY.mp a with q|q
  ·rwa[.inl q]
  ·rwa[.inr (.inl (by rw[aiR.mp q]))]
 ·ext a
 ·rwa[.inr (.inr a)]
def CI.done (h:CI S bs gs ag W Ex (some n))(e:gs[n]?\none)(k:∀b,bs[n]?\b->S.ax b.2.2≠b.2.2\/wk S.by b.2.2 b.2.1=some b.2.2):CI S bs gs ag W Ex none:=by
 rwa[⟨h.len,λm g c=>?_,λm b c _ d=>?_,h.ab,h.en,h.sl,h.bd⟩]
 ·let⟨i,f,a⟩:=h.al m g c;erw[i,f];rcases a with a|a|a
  ·rwa[.inl a]
  ·cbv
  ·rwa[.inr (.inr a)]
 ·cases q:m=n
  ·rw[q]at d;rwa[k b d]
  ·rwa[h.de m b c (λz=>q (Za0 z)) d]
def fe {c:Type}{l:List c}{a b:c}(h:(l.set i a)[j]?\b):(j=i/\b=a)\/(j≠i/\l[j]?\b):=by
 cases e:i=j
 ·subst e;let d:=(aiO.mp h).1;rw[aji]at d;rw[ajv d]at h;rwa[.inl ⟨2,(Za0 h).symm⟩]
 ·rw[ajO e]at h;rwa[.inr ⟨λz=>e z.symm,h⟩]
def CI.kill (h:CI S bs gs ag W Ex (some n)):CI S bs (gs.set n none) ag W Ex (some n):=by
 rwa[⟨[aji]▸h.len,λm g e=>?_,λm b e q f=>?_,λk a=>[aji]▸h.ab k a,λr s k e=>?_,λm=>?_,h.bd⟩]
 ·rcases fe e with ⟨_,z⟩|⟨z,e⟩
  ·ext z
  ·rwa[h.al m g e]
 ·rcases fe e with ⟨z,_⟩|⟨z,e⟩
  ·cbv
  ·rwa[h.de m b e q f]
 ·rw[aji];rwa[h.en r s k e]
 ·let⟨p,q,d,c⟩:=h.sl m;rwa[⟨p,q,d,λg e=>?_⟩];rcases fe e with ⟨_,z⟩|⟨_,e⟩
  ·ext z
  ·rwa[c g e]
def addW (W:bN)(r s n:Int):bN:=λc a b=>W c a b || (decide (c=r) && decide (a=s) && decide (b=n))
def dG {W:bN}{n c a b:Int}:addW W z y n c a b=true↔W c a b=true\/(c=z/\a=y/\b=n):=by
 unfold addW
 cbv
def dq {W:bN}{b a c:Int}:gB W z y b a c=true↔W b a c=true/\¬(b=z/\a=y):=by
 unfold gB
 cbv
def CI.waits (h:CI S bs gs ag W fY (some n)){g c:Gg}(e:gs[n]?\some g)(a:XF S g c)(d:c.first<c.last):CI S bs (gs.set n (some c)) ag (addW (addW W c.front c.z1 n) c.bE c.z2 n) fY none:=by
 let⟨A,N,_⟩:=h.al n g e;let E:=(aiO.mp e).1;let gi:=a.gi;let B:∀z∈c.word,-1000<=z/\z<=1000:=λz hz=>h.bd _ (aiN A) z (by rw[<-a.wo];rwa[hz])
 let F:=B _ (aiN (Gg.qB (g:=c) (by have:=gi.ll;omega)));let O:=B _ (aiN (Gg.at2 (g:=c) gi.ll));rwa[⟨[aji]▸h.len,λm u q=>?_,λm b q _ J=>?_,λk G=>[aji]▸h.ab k G,λr s k q=>?_,λm=>?_,h.bd⟩]
 ·rcases fe q with ⟨rfl,z⟩|⟨z,q⟩
  ·ext z;rwa[⟨by rw[A,a.wh,a.wo,a.st],gi,.inr (.inr ⟨d,dG.mpr (.inl (dG.mpr (.inr ⟨222⟩))),dG.mpr (.inr ⟨222⟩)⟩)⟩]
  ·let⟨o,l,f⟩:=h.al m u q;erw[o,l];rcases f with f|f|⟨f,H,I⟩
   ·rwa[.inl f]
   ·rwa[absurd (Za0 f) z]
   ·rwa[.inr (.inr ⟨f,dG.mpr (.inl (dG.mpr (.inl H))),dG.mpr (.inl (dG.mpr (.inl I)))⟩)]
 ·rcases fe q with ⟨_,z⟩|⟨z,q⟩
  ·ext z
  ·rwa[h.de m b q (λy=>z (Za0 y)) J]
 ·rw[aji];rcases dG.mp q with q|⟨rfl,rfl,rfl⟩
  ·rcases dG.mp q with q|⟨rfl,rfl,rfl⟩
   ·rwa[h.en r s k q]
   ·rwa[⟨_,n,rfl,rfl,gi.f,E,F,.inl ⟨a.ef,a.n1 d⟩⟩]
  ·rwa[⟨_,n,rfl,rfl,gi.r,E,by ext,.inl ⟨a.er,a.n2 d⟩⟩]
 ·let⟨p,q,o,l⟩:=h.sl m;cases C:m=n
  ·subst C;let⟨L,eq⟩:=l g e;rwa[⟨((c.front:Int),c.z1),((c.bE:Int),c.z2),λr s w=>?_,λu j=>?_⟩]
   ·rcases dG.mp w with w|⟨rfl,rfl,_⟩
    ·rcases dG.mp w with w|⟨rfl,rfl,_⟩
     ·let⟨v,M,er,_,_,_,_,t⟩:=h.en r s m w;rcases t with ⟨D,i⟩|t
      ·rcases o r s w with z|z
       ·rw[L]at z;injection z with z1 z2
        have:v=g.front:=∅
        subst this;let⟨k1,k2⟩:=a.k1 D (by rw[<-z2];rwa[i])
        left
        rw[Prod.mk.injEq];erw[[k1]▸er];rw[z2];unfold Gg.z1;rw[a.wo,k2]
       ·rw[eq]at z;injection z with z1 z2
        have:v=g.bE:=∅
        subst this;let⟨k1,k2⟩:=a.k2 D (by rw[<-z2];rwa[i])
        right
        rw[Prod.mk.injEq];erw[[k1]▸er];rw[z2];unfold Gg.z2;rw[a.wo,k2]
      ·rwa[t.elim]
     ·rwa[.inl rfl]
    ·rwa[.inr rfl]
   ·rcases fe j with ⟨_,z⟩|⟨z,_⟩
    ·ext z;rwa[22]
    ·rwa[absurd rfl z]
  ·rwa[⟨p,q,λr s w=>?_,λu j=>?_⟩]
   ·rcases dG.mp w with w|⟨_,_,z⟩
    ·rcases dG.mp w with w|⟨_,_,z⟩
     ·rwa[o r s w]
     ·ext
    ·ext
   ·rcases fe j with ⟨z,_⟩|⟨_,j⟩
    ·rwa[absurd z C]
    ·rwa[l u j]
def CI.wake (h:CI S bs gs ag W Ex x){r s:Int}{ns:Zh}(f:∀k:Nat,k∈ns↔W r s k=true):CI S bs gs (ag++ns) (gB W r s) Ex x:=by
 rwa[⟨h.len,λm g e=>?_,h.de,λk u=>?_,λt o k q=>h.en _ _ _ (dq.mp q).1,λm=>?_,h.bd⟩]
 ·let⟨c,b,a⟩:=h.al m g e;erw[c,b];rcases a with a|a|⟨a,j,l⟩
  ·rwa[.inl (ajh _ a)]
  ·rwa[.inr (.inl a)]
  ·cases i:(g.front:Int)=r/\g.z1=s
   ·rwa[.inl (aiV _ ((f m).mpr (by rw[<-i.1,<-i.2];rwa[j])))]
   ·cases d:(g.bE:Int)=r/\g.z2=s
    ·rwa[.inl (aiV _ ((f m).mpr (by rw[<-d.1,<-d.2];rwa[l])))]
    ·rwa[.inr (.inr ⟨a,dq.mpr ⟨j,i⟩,dq.mpr ⟨l,d⟩⟩)]
 ·rcases aiY.mp u with q|q
  ·rwa[h.ab k q]
  ·let⟨_,v,_,en,_,y,_⟩:=h.en _ _ _ ((f k).mp q);ext
 ·let⟨p,q,c,b⟩:=h.sl m;rwa[p,q,λt o w=>c^(dq.mp w).1,b]
def CI.ex {e:Nat->Int->Prop}(h:CI S bs gs ag W Ex x)(k:∀(r:Nat) s n,W r s n=true->r<S.q->Ex r s->(S.ax r=r/\S.by r s=none)\/e r s):CI S bs gs ag W e x:=by
 rwa[⟨h.len,h.al,h.de,h.ab,λr s n q=>?_,h.sl,h.bd⟩];let⟨g,f,rfl,rfl,a,b,c,d⟩:=h.en r s n q;rwa[g,f,22,a,b,c,d.elim .inl (k g s f q a)]
end
structure ig (S:RS):Prop where
 a:∀c,c<S.q->S.ax c≠c->c∈S.bu
 b:∀c∈S.bu,S.ax c≠c
 c:∀c∈S.bu,c<S.q
section
variable {S S':RS}{pend:Ze}{w:Way}{R:Za2}{ks:Zg}
def IJ {x:Nat}:(S.meet n z x m pend).1.bu=S.bu++[max x m]:=by
 have:=(gO (max x m) (S.joined n z (min x m) (max x m)) pend ((S.joined n z (min x m) (max x m)).way (max x m))).2;have:=ajT RS.bu this;rwa[this]
def tY (h:(S.takeIn pend w).1.bu=S.bu):(S.takeIn pend w).1.aY=S.aY:=by
 let no:∀{c x y:Nat} {z:Int},(S.meet c z x y pend).1.bu=S.bu->False:=λ{c x y z} e=>by
  rw[IJ]at e;have:=ajT List.length e;rw[aiP]at this;simp at this
 unfold RS.takeIn at h ⊢;split
 ·rename_i q;rw[ajg q]at h;rwa[(no h).elim]
 ·rename_i q;rw[ajb q]at h;split
  ·rename_i a;rw[ajg a]at h;rwa[(no h).elim]
  ·rfl
def ig.take (f:ig S)(h:Good S (pend++[w]) R)(j:∀c z d,R c z d->z∈ks):ig (S.takeIn pend w).1/\∃l,(S.takeIn pend w).1.bu=S.bu++l:=by
 let⟨_,_,g,_,q⟩:=h.take j;rcases q with ⟨_,_,e⟩|⟨_,c,z,x,y,n,_,p,r,m,_,e,el⟩
 ·let ee:=tY e;let el:∀a,(S.takeIn pend w).1.ax a=S.ax a:=λa=>by unfold RS.ax;rw[ee]
  rwa[⟨⟨λc hc=>?_,λc hc=>?_,λc hc=>by rw[g];rw[e]at hc;rwa[f.c c hc]⟩,[],by rw[e,ajp]⟩]
  ·rw[g]at hc;rw[el,e];rwa[f.a c hc]
  ·rw[e]at hc;rw[el];rwa[f.b c hc]
 ·let⟨_,o,_,ex⟩:=h.st _ _ _ n;rwa[⟨⟨λa b=>?_,λa b=>?_,λa b=>?_⟩,[max x y],e⟩]
  ·rw[g]at b;rw[el,e];intro i;cases q:S.ax a=a
   ·cbv
   ·rwa[ajh _ (f.a a b q)]
  ·rw[el];rw[e]at b;rcases aiY.mp b with q|q
   ·let i:=f.b a q
    cbv
   cbv
  ·rw[g];rw[e]at b;rcases aiY.mp b with q|q
   ·rwa[f.c a q]
   ·rw[aiR.mp q];rcases alK x y with k|k <;> ext
inductive kx:RS->Ze->RS->Prop where
 |nil (S:RS):kx S [] S
 |take {S S':RS} {pend:Ze} {w:Way}:kx (S.takeIn pend w).1 (S.takeIn pend w).2 S'->kx S (pend++[w]) S'
def kx.all (l:kx S pend S'):Good S pend R->(∀c z d,R c z d->z∈ks)->ig S->Good S' [] R/\ig S'/\S'.q=S.q/\S'.L=S.L/\∃l,S'.bu=S.bu++l:=by
 induction l with
 |nil S=>exact λg _ w=>⟨g,w,22,[],(ajp _).symm⟩
 |take _ i=>
  intro g e w;let⟨h,_,m,k,_⟩:=g.take e;let⟨f,l2,n⟩:=w.take g e;let⟨a,b,c,d,o,j⟩:=i h e f;rwa[a,b,c.trans m,d.trans k,l2++o,by rw[j,n,ajy]]
end
section
variable {S S':RS}{R:Za2}{bs:List (Nat×Zg×Nat)}{gs:Zf}{ag:Zh}{W:bN}{n c d:Nat}{z:Int}
def CI.lay (h:CI S bs gs ag W fY (some n))(e:gs[n]?\none)(g:Good S [] R)(w:Good S' [] (eP R c z d))(hm:S'.q=S.q)(L:ig S)(C:ig S'){l:Zh}(U:S'.bu=S.bu++l)(hc:c<S.q)(P:S.ax c=c)(hd:d<S.q)(ed:S.ax d=d)
 (k:∀b,bs[n]?\b->S'.ax b.2.2≠b.2.2\/wk S'.by b.2.2 b.2.1=some b.2.2):CI S' bs gs ag W (λr s=>(r=c/\s=z)\/(r=d/\s= -z)\/∃m∈l,r=m\/r=S'.ax m) none:=by
 let lt:=Later.of g w jt (alF hm.symm)
 let i:∀e,e<S.q->S.ax e=e->S'.ax e≠e->e∈l:=λe p j D=>by
  have:=C.a e ([hm]▸p) D;rw[U]at this;rcases aiY.mp this with q|q
  ·rwa[absurd j (L.b e q)]
  ·rwa[q]
 let h0:CI S' bs gs ag W (λr s=>(r=c/\s=z)\/(r=d/\s= -z)\/∃m∈l,r=m\/r=S'.ax m) (some n):=by
  rwa[⟨h.len,λm u q=>?_,λm b A F Q=>?_,h.ab,λr s m q=>?_,h.sl,h.bd⟩]
  ·let⟨p,j,D⟩:=h.al m u q;rwa[p,j.later lt (alF hm.symm),D]
  ·cases t:S'.ax b.2.2=b.2.2
   ·right
    rcases h.de m b A F Q with q|q
    ·cases y:b.2.2<S.q
     ·let p:=(g.el _ y).1;let j:=(w.el _ ([hm]▸g.lt y)).1;rw[lt.el _ y,t]at j;rwa[absurd (Nat.le_antisymm p j) q]
     ·exfalso
      let J:⇑S.aY=S.q:=g.wf.e;let O:⇑S'.aY=S'.q:=w.wf.e;let M:S.ax b.2.2=0:=by unfold RS.ax;rw[aiT,aju ∅];rfl
      let B:S'.ax b.2.2=0:=by unfold RS.ax;rw[aiT,aju ∅];rfl
      rwa[q (by rw[M,<-B,t])]
    ·have:=lt.wk q;rw[t]at this;rwa[this]
   ·rwa[.inl t]
  ·let⟨f,N,t,T,I,X,J,q⟩:=h.en r s m q;erw[f,N,t,T,[hm]▸I,X,J];rcases q with ⟨A,F⟩|q
   ·cases p:S'.ax f=f
    ·cases j:S'.by f s with
     |none=>exact .inl ⟨p,2⟩
     |some o=>
      right
      let⟨v,V,x,f1,f2⟩:=w.so _ _ _ j
      let stand:∀e,e<S.q->S.ax e=e->S'.ax e=f->e=f\/∃m∈l,f=m\/f=S'.ax m:=λe Y Z G=>by
       cases H:e=f
       ·rwa[.inl H]
       ·rwa[.inr ⟨e,i e Y Z (by rw[G];rwa[λz=>H z.symm]),.inr G.symm⟩]
      rcases x with x|⟨rfl,rfl,rfl⟩|⟨rfl,rfl,rfl⟩
      ·let⟨E,l2,_⟩:=g.rl _ _ _ x;rcases stand (S.ax v) (g.lt E) (g.el _ E).2 ([lt.el _ E]▸f1) with a|a
       ·exfalso
        have:=g.mJ.mpr ⟨v,V,x,a,rfl⟩;rw[F]at this;ext this
       ·rwa[.inr (.inr a)]
      ·rcases stand v hc P f1 with a|a
       ·rwa[.inl ⟨a.symm,rfl⟩]
       ·rwa[.inr (.inr a)]
      ·rcases stand v hd ed f1 with a|a
       ·rwa[.inr (.inl ⟨a.symm,rfl⟩)]
       ·rwa[.inr (.inr a)]
    ·rwa[.inr (.inr (.inr ⟨f,i f I A p,.inl rfl⟩))]
   ·rwa[q.elim]
 rwa[h0.done e k]
end
noncomputable def cx (a:Nat->Int->Zi):Nat->Zg->Zh
 |_,[]=>[]
 |r,z::c=>match a r z with
  |none=>[]
  |some b=>b::cx a b c
def zk {a:Nat->Int->Zi}(h:a n z=none):cx a n (z::l)=[]:=by
 show (match a n z with|none=>[]|some b=>b::cx a b l)=[];rw[h]
def nS {a:Nat->Int->Zi}(h:a n z\m):cx a n (z::l)=m::cx a m l:=by
 show (match a n z with|none=>[]|some m=>m::cx a m l)=_;rw[h]
noncomputable def ky (w:Nat)(p:Zh)(k:Nat):Dt:=.t [.s [114,117,108,101],.i w,.t (p.map λc:Nat=>Dt.i (c:Int)),.i k]
structure Bs (ws:Za3) (nr:Nat) (S:RS) (which:Nat) (word:Zg) (start m c d:Nat) (z:Int):Prop where
 w:ws[which]?\word
 n:which<nr\/start=0
 s:start<S.q/\S.ax start=start
 hz:word[m]?\z
 f:wk S.by start (word.take m)=some c
 r:wk S.by d (word.drop (m+ 1))=some start
 hc:c<S.q/\S.ax c=c
 hd:d<S.q/\S.ax d=d
 o:S.by c z≠some d
def p6 (S:RS)(a:Nat)(word:Zg)(start m d:Nat):RS:={ S with rows:=S.rows++[ky a ((start::cx S.by start (word.take m))++(d::cx S.by d (word.drop (m+ 1)))) m] }
inductive Tr (ws:Za3) (nr:Nat):RS->RS->Prop where
 |refl (S:RS):Tr ws nr S S
 |step {S S1 S2:RS} {which:Nat} {word:Zg} {start m c d:Nat} {z:Int}:Tr ws nr S S1->Bs ws nr S1 which word start m c d z->kx (p6 S1 which word start m d) [(c,z,d)] S2->Tr ws nr S S2
def S8 (S:RS)(c:Nat)(word:Zg):Prop:=wk S.by c word=some c\/∃(i j f r:Nat) (y z:Int),i<j/\word[i]?\y/\word[j]?\z/\wk S.by c (word.take i)=some f/\S.by f y=none/\wk S.by r (word.drop (j+ 1))=some c/\S.by r (-z)=none
structure Gs (rs ps:Za3) (S:RS):Prop where
 r:∀w∈rs,∀c,c<S.q->S.ax c=c->S8 S c w
 p:∀w∈ps,S8 S 0 w
def UW (U:Za2):Nat->Zg->Nat->Prop
 |p,[],q=>p=q
 |p,z::w,q=>∃r,U p z r/\UW U r w q
structure Mdl (ws:Za3) (nr M:Nat) (φ:Nat->Nat) (U:Za2):Prop where
 sy:∀p z q,U p z q->U q (-z) p
 fn:∀p z q q',U p z q->U p z q'->q=q'
 cl:∀(which:Nat) (word:Zg) (start m c d:Nat) (z:Int),ws[which]?\word->which<nr\/start=0->start<M->word[m]?\z->UW U (φ start) (word.take m) (φ c)->UW U (φ d) (word.drop (m+ 1)) (φ start)->U (φ c) z (φ d)
end L2
namespace L2
open PySem PySem.Spec PyProof.Rows
section
variable {X:Cx}
def Qm (K:Za1)(h:TA)(f:TE):TI:=λ c H R=>h c H λd e=>f c e λz b=>∃a n,d=[↑a]/\z=.int n/\0<=n/\n<1000/\(∃g,aD K b a g)/\R (NF K a n) b
def S9 (Q:V->Hp->Prop):Zb->Hp->Prop
 |[z],H=>Q z H
 |_,_=>False
theorem Qn {Q:V->Hp->Prop}:∀{a:Zb} {H:Hp},S9 Q a H->∃z,a=[z]/\Q z H
 |[z],_,h=>⟨z,2,h⟩
 |[],_,h=>h.elim
 |_::_::_,_,h=>h.elim
def IK {b:Expr}{w:TE}{elts:Zr}{d a kp:Pos}(D:Gl X "enumerate")(T:X.mg "enumerate"=none)(U:PE X e r)(C:PE X b w)
 (y:starEach [e] X.env=(false,eval e X.env)::starEach [] X.env)
 (i:((backTo a (starEach [e] X.env)).any (·.1) || (backToKw a (keywordEach [⟨some "start",b,kp⟩] X.env)).any (·.1.isNone))=false):
 PI X (.Tuple elts n p) (.Call (.Name "enumerate" d) [e] [⟨some "start",b,kp⟩] a) (Qm X.K (jg r jW) w):=by
 intro g s A H R I h;rwa[ajX (gw I D T boot_enumerate ?_)];rwa[PySem.W.callWith_of (P:=λ_=>True) i (λ_ _=>⟨.machine,.inr (.inl rfl),λ_ _ _ _ _ q=>aiU q⟩) (evalArgs_kw2 rfl (bp ((ae U ah y) a g s A H _ I h) λus Q ζ=>?_) y)];let⟨G,O,E,c,q⟩:=ζ;rwa[bp ((EB C HF:PK X [⟨some "start",b,kp⟩] _) a g Q A O (S9 λz t=>∃e f,G=[↑e]/\z=.int f/\0<=f/\f<1000/\(∃x,aD X.K t e x)/\R (NF X.K e f) t) E q) λws J ζ=>?_];let⟨Y,t,v,S,V⟩:=ζ;rwa[⟨True.intro,5⟩]
 let⟨z,rfl,l,f,M,rfl,j,o,k,N⟩:=Qn V;subst M;let⟨x,k⟩:=k;let⟨u,rfl,W⟩:=vals1 c;ext W;let⟨u2,rfl,B,rfl⟩:=vals1 S;let⟨L,rv,pl,hz⟩:=v.list k;show wpAny _ _ (call (.type "enumerate") [↑l] [("start",.int f B)]) _ _ J;rwa[En.DK pl.isList j o λZ m hit F=>x8 v (uA l _) (λ_=>∅) ([show f+ ((0:Nat):Int)=f by ext]▸m) hit F N]
end
section
variable {prog:Program} {w:World} {K:Type} [DecidableEq K] {knd:HeapKind prog w K} {A:Around} {E:Zt->Zu->Prop} {s:Zu} {d a:Zs} {k:K} {xs:List (K×Zs×Zt)}
def DL {dflt:Zt}(m:knd.room A)(b:knd.is s.heap k a)(C:s.heap.DictOfH knd d xs)
 (u:∀v,(atKey xs k).map (·.2)\v->Q v { s with toks:=s.toks+ knd.draws k })
 (r:atKey xs k=none->∀i,i.DictOfH knd d (storedH xs k a dflt)->Heap.SameBut d s.heap i->Q dflt { s with heap:=i,toks:=s.toks+ knd.draws k })
 (x:⇑xs<=sizeLine):(prog<|>w) A (dictSetDefault d ↑a dflt) Q E s:=by
 let⟨G,B,t,f,g2,c,h,n,l⟩:=C;unfold dictSetDefault
 first|(with_reducible rwa[ajP ?_])|skip
 rwa[aiK (knd.pyHash m b (aiK (wpAny_dictFind_heap (s:={ s with toks:=s.toks+ knd.draws k }) m b f c h n l (λno=>?_) (λj p o=>?_))))]
 ·let I:k∉xs.map (·.1):=not_mem_keys_of_get no;let g:=atKey_none_of_get no;rwa[aiK (al0 (aiK (wpAny_updateDictKeys (hz:=by let e:=size_of_entries h;omega) (s:={ s with toks:=s.toks+ knd.draws k }) f c (aiU (r g _ ?_ (akf ..))))))];erw[11,t+ 1,ajB _ f (Obj.isFreed_of_dict (Obj.data_mapDictKeys c _)),g2.mapDictKeys _,Obj.data_mapDictKeys c _,55]
  ·rw[storedH_new g];simp[h,entryOfKey]
  ·rw[storedH_new g];intro y z;rcases aiY.mp z with q|q
   ·rwa[knd.keeps (n y q) f c (akf ..)]
   ·rw[aiR.mp q];rwa[knd.keeps b f c (akf ..)]
  ·rw[storedH_new g,ajn,ajF]
   cbv
 ·let D:=atKey_of_get l o;rwa[aiK (alq (s:={ s with toks:=s.toks+ knd.draws k }) f c ?_)]
  let F:B[j]?\(entryOfKey knd (k,p)):=by
   rw[entry_at h j,o];rfl
  rw[F];rwa[aiK (al0 (aiU (u _ (by rw[D];rfl))))]
def zR (knd:HeapKind prog w K)(d a:Zs)(e:(d==sysModules)=false)(dflt:Zt):MeetsIn prog w (Builtin.«dict.setdefault» ⟨[↑d,↑a,dflt],[]⟩) (λA R s=>knd.room A.in1/\∃k xs,knd.is s.heap k a/\s.heap.DictOfH knd d xs/\⇑xs<=sizeLine/\
 (∀v,(atKey xs k).map (·.2)\v->R (.ok (.ret v)) { s with toks:=s.toks+ knd.draws k })/\(atKey xs k=none->∀b,b.DictOfH knd d (storedH xs k a dflt)->Heap.SameBut d s.heap b->R (.ok (.ret dflt)) { s with heap:=b,toks:=s.toks+ knd.draws k })):=
 .of_wp λA R s ζ=>by
  let⟨j,k,xs,c,hm,n,i,h⟩:=ζ
  unfold Builtin.«dict.setdefault» Builtin.Dict.keyAndDefault;rwa[aiK (aiK (alm hm.typeIs ?_))];show wpAny _ _ (pure (d,Value.ref a,some dflt)) _ _ s;rwa[aiU ?_];show wpAny _ _ (if (d==sysModules)=true then _ else (dictSetDefault d ↑a dflt >>=_)) _ _ s;rw[e];rwa[aiK (DL j c hm (λv g=>aiU ⟨v,2,i v g⟩) (λm b l f=>aiU ⟨dflt,2,h m b l f⟩) n)]
end
inductive Ta (a:Zs) (y z:V) (H:Hp) (Q:VK):Prop
 |mk (kvs:List (Zd×V)) (k:Zd) (b:Zs):H a\.dT kvs->y=↑b->H b\.tup (k.map kV)->⇑kvs<sizeLine->(∀v,bA kvs k\v->Q v H)->(bA kvs k=none->Q z (upd H a (.dT (putK kvs k z))))->Ta a y z H Q
def Tc (td e tx:TE):TE:=λ b H Q=>td b H λx c=>EL x c λa=>e b c λy d=>tx b d λz f=>Ta a y z f Q
section
variable {X:Cx}{o e f:Expr}{apos cP:Pos}{td ty tx:TE}
def LC (hu:X.A.units+ 1<cLine)(Z:PE X o td)(he:PE X e ty)(Y:PE X f tx)(m:M2 X o "setdefault" apos e f cP):PE X (.Call (.Attribute o "setdefault" apos) [e,f] [] cP) (Tc td ty tx):=by
 intro j s r H Q I h;rwa[ak2 m.base m.few m.line aj4 akF PySem.F.type_dict_setdefault (bp (Z j s r H _ I h) λu s1 ζ=>?_)];let⟨x,H1,D,rx,a,ex,d,S⟩:=ζ;subst ex;obtain rfl:u=Value.ref a:=rx;let⟨t1,M,_⟩:=mE D d;erw[t1,M];rw[m.trees]
 rwa[ajU rfl (ako (ajL (bp (he j s1 r H1 _ D S) λiv P ζ=>?_)))];let⟨y,H2,V,ry,q2⟩:=ζ;rwa[ ajL (bp (Y j P r H2 _ V q2) λfv s3 ζ=>?_)];let⟨z,E,n,J,i,k,b,A,ey,G,N,U,q4⟩:=ζ;rwa[akg ?_]
 subst ey;cases (show iv=Value.ref b from ry);let⟨W,B,xs,rel,L⟩:=Nt n.aP A;let g:=rel.val k;let p:⇑xs<=sizeLine:=by rw[<-Paired.length rel];rwa[W]
 rwa[ak9 akF L.typeIs PySem.F.entry_dict_setdefault (PySem.F.args_dict_setdefault_3^_) (zR _ a b B fv) ⟨akB hu,k,xs,lh n.aP G,L,p,λv hv=>?_,λhn g1 w sb=>?_⟩]
 ·rw[hv]at g
  cases l:bA i k with
  |none=>rw[l]at g;rwa[g.elim]
  |some t=>
   rw[l]at g;rwa[t,E,n.tok _,g,U t l]
 ·rw[hn]at g
  cases l:bA i k with
  |some t=>rw[l]at g;rwa[g.elim]
  |none=>
   let hl:⇑(putK i k z)<=sizeLine:=by have:=dB i k z;ext
   let⟨q,es,ep,F,O,h3,R,_,T⟩:=w;rwa[⟨z,upd E a (.dT (putK i k z)),km n ([A]▸True.intro) sb ⟨q,F⟩ ⟨hl,B,_,(rel.put k G J).keeps λc ys C=>?_,q,es,ep,F,O,h3,R,T⟩,J,q4 l⟩];rw[ak (cf C A (λz=>nomatch z))];rwa[C]
end
section
variable {H:Hp}{k:Zs}{D:Int->Zo}{E:Int->Int->Zo}{S:bN}
def ej.LD (h:ej H k D E S){c s:Int}{d:Zs}(hd:D c\d){l:List (Key×V)}(x:H d\.dK l):
 ej (upd H d (.dK (fw l (Sum.inl s)))) k D (λg f=>if g=c/\f=s then none else E g f) (gB S c s):=by
 let⟨m,n,G,A,F⟩:=h.row c d hd;rw[x]at n;obtain rfl:l=m:=by injection n with n;injection n
 let un:∀{g f:Int} {z:Zs},(if g=c/\f=s then none else E g f)\z->¬(g=c/\f=s)/\E g f\z:=λ{g f z} q=>by
  cases e:g=c/\f=s
  ·rw[ajg e]at q;ext q
  ·rw[ajb e]at q;rwa[e,q]
 rwa[⟨h.top.at λo q=>?_,λg v j=>?_,λg f p i=>?_,λg f p i=>h.ed _ _ _ (un i).2,λg f o C=>?_,h.nd,λg f p i=>h.ne _ _ _ (un i).2,h.dd,λg B f v j i=>h.de _ _ _ _ j (un i).2,λg f B I p y w=>h.ee _ _ _ _ _ (un y).2 (un w).2⟩]
 ·rw[ak (h.nd c d hd).symm];rwa[q]
 ·cases u:g=c
  ·subst u;obtain rfl:v=d:=by rw[hd]at j;rwa[(Za0 j).symm]
   rwa[(Qg G A F s).congr λf=>?_]
   cases r:f=s
   ·rw[ajg r,ajg ⟨2,r⟩];rfl
   ·rw[ajb r,ajb (λz=>r z.2)]
  ·rwa[((h.row g v j).at λo q=>by rw[ak λz=>u (h.dd _ _ _ j ([z]▸hd))];rwa[q]).congr λf=>?_]
   rw[ajb (λz=>u z.1)]
 ·let⟨ne,t⟩:=un i;rwa[((h.zi g f p t).at λo q=>[ak (λz=>h.de c g f d hd (by rw[<-z];rwa[t]))]▸q).congr λo=>?_]
  have:gB S c s g f o=S g f o:=by
   rw[ajQ,dq];rwa[λz=>z.1,λz=>⟨z,ne⟩]
  rw[this]
 ·let⟨a,b⟩:=dq.mp C;let⟨e,t⟩:=h.se _ _ _ a;rwa[e,[ajb b]▸t]
end
structure Td (k:Zs) (D:Int->Zo) (E:Int->Int->Zo) (W:bN) (O:Zs->Prop):Prop where
 o:∀b,uI k D E b->O b
 d:∀c x,D c\x->0<=c/\c<100000
 e:∀c s x,E c s\x-> -1000<=s/\s<=1000
 w:∀c s n,W c s n=true->0<=n/\n<100000
def oX (H:Hp)(k:Zs)(W:bN)(O:Zs->Prop):Prop:=∃D E,ej H k D E W/\Td k D E W O
def fM (H:Hp)(k:Zs)(W:bN)(O:Zs->Prop)(c:Int)(d:Zs):Prop:=∃D E,ej H k D E W/\Td k D E W O/\D c\d
def p7 (H:Hp)(k:Zs)(W:bN)(O:Zs->Prop)(c s:Int)(e:Zs):Prop:=∃D E,ej H k D E W/\Td k D E W O/\E c s\e
def IL (O:Zs->Prop)(p:Zs):Zs->Prop:=λb=>O b\/b=p
section
variable {H H':Hp}{k:Zs}{W:bN}{O:Zs->Prop}{c s:Int}{d e p:Zs}
def oX.keep (h:oX H k W O)(f:∀b o,O b->H b\o->H' b\o):oX H' k W O:=by
 let⟨D,E,g,a⟩:=h;rwa[D,E,g.keep λb o i q=>f b o (a.o b i) q,a]
def oX.qA (h:oX H k W O):EK H k:=by
 let⟨D,E,a,_⟩:=h;let⟨b,q,_⟩:=a.top;rwa[.inl ⟨b,.inl q⟩]
def oX.room (h:oX H k W O)(t:H p=none)(hc:0<=c/\c<100000):∃a,upd H p (.dK []) k\.dK a/\⇑a<sizeLine/\(∀v,bA a (Sum.inl c)\v->∃d,v=↑d/\fM (upd H p (.dK [])) k W O c d)/\
 (bA a (Sum.inl c)=none->fM (upd (upd H p (.dK [])) k (.dK (putK a (Sum.inl c) ↑p))) k W (IL O p) c p):=by
 let⟨D,E,r,f⟩:=h;let y:=av.upd (o:=.dK []) t;let k1:=r.same y;let⟨a,m,A,w,l⟩:=k1.SV;let nw:¬uI k D E p:=λz=>by let⟨B,q⟩:=r.there z;cbv
 rwa[⟨a,m,5,λv g=>?_,λg=>?_⟩]
 ·rwa[aiW (vN (n:=100000) (lo:=0) A w l λi v g=>?_) ⋯]
  cases e:D i with
  |none=>rw[e]at g;ext g
  |some x=>have:=f.d i x e;ext
 ·rw[l]at g;let⟨d,hd,rfl⟩:=ajV.mp g;rwa[d,2,D,E,k1,f,hd]
 ·rw[l]at g;let hd:D c=none:=alY.mp g;rwa[⟨_,E,k1.Qi hd m aj nw,⟨λb u=>?_,λj x q=>?_,f.e,f.w⟩,ajg rfl⟩]
  ·rcases u with z|⟨j,z⟩|z
   ·rwa[.inl (f.o b (.inl z))]
   ·dsimp only at z;cases e:j=c
    ·rw[ajg e]at z;rwa[.inr (Za0 z).symm]
    ·rw[ajb e]at z;rwa[.inl (f.o b (.inr (.inl ⟨j,z⟩)))]
   ·rwa[.inl (f.o b (.inr (.inr z)))]
  ·cases e:j=c
   ·rw[e];rwa[hc]
   ·rw[ajb e]at q;rwa[f.d j x q]
def fM.qA (h:fM H k W O c d):EK H d:=by
 let⟨D,E,a,g,b⟩:=h;let⟨f,q,_⟩:=a.row c d b;rwa[.inl ⟨f,.inl q⟩]
def fM.own (h:fM H k W O c d):O d:=by
 let⟨D,E,f,a,b⟩:=h;rwa[a.o d (.inr (.inl ⟨c,b⟩))]
def fM.same (h:fM H k W O c d)(s:av H H'):fM H' k W O c d:=by
 let⟨D,E,b,a,f⟩:=h;rwa[D,E,b.same s,a,f]
def fM.cell (h:fM H k W O c d)(w:H p=none)(C: -1000<=s/\s<=1000):∃a,upd H p (.dK []) d\.dK a/\⇑a<sizeLine/\(∀v,bA a (Sum.inl s)\v->∃e,v=↑e/\p7 (upd H p (.dK [])) k W O c s e)/\
 (bA a (Sum.inl s)=none->p7 (upd (upd H p (.dK [])) d (.dK (putK a (Sum.inl s) ↑p))) k W (IL O p) c s p):=by
 let⟨D,E,u,f,hd⟩:=h;let B:=av.upd (o:=.dK []) w;let k1:=u.same B;let⟨a,t,F,A,m⟩:=k1.Ly hd;let nw:¬uI k D E p:=λz=>by let⟨G,q⟩:=u.there z;cbv
 rwa[⟨a,t,5,λv g=>?_,λg=>?_⟩]
 ·rwa[aiW (vN (n:=2001) (lo:=-1000) F A m λi v g=>?_) ⋯]
  cases e:E c i with
  |none=>rw[e]at g;ext g
  |some x=>have:=f.e c i x e;ext
 ·rw[m]at g;let⟨e,r,rfl⟩:=ajV.mp g;rwa[e,2,D,E,k1,f,r]
 ·rw[m]at g;let r:E c s=none:=alY.mp g;rwa[⟨D,_,k1.Qh hd r t aj nw,⟨λb y=>?_,f.d,λl j x q=>?_,f.w⟩,ajg ⟨22⟩⟩]
  ·rcases y with z|z|⟨l,j,z⟩
   ·rwa[.inl (f.o b (.inl z))]
   ·rwa[.inl (f.o b (.inr (.inl z)))]
   ·dsimp only at z;cases e:l=c/\j=s
    ·rw[ajg e]at z;rwa[.inr (Za0 z).symm]
    ·rw[ajb e]at z;rwa[.inl (f.o b (.inr (.inr ⟨l,j,z⟩)))]
  ·cases e:l=c/\j=s
   ·rw[e.2];rwa[C]
   ·rw[ajb e]at q;rwa[f.e l j x q]
def p7.own (h:p7 H k W O c s e):O e:=by
 let⟨D,E,f,a,b⟩:=h;rwa[a.o e (.inr (.inr ⟨c,s,b⟩))]
def p7.put (h:p7 H k W O c s e){n:Int}(o:0<=n/\n<100000):∃a,H e\.dK a/\⇑a<sizeLine/\oX (upd H e (.dK (putK a (Sum.inl n) (.bl true)))) k (addW W c s n) O:=by
 let⟨D,E,g,b,j⟩:=h;let⟨a,f,r,l,m⟩:=g.SW j;rwa[⟨a,f,5,D,E,g.SX j f n,b.o,b.d,b.e,λx t u q=>?_⟩]
 ·rwa[aiW (vN (n:=100000) (lo:=0) r l m λi v y=>?_) ⋯];cases w:W c s i=true
  ·have:=b.w _ _ _ w;ext
  cbv
 ·rcases dG.mp q with q|⟨_,_,q⟩
  ·rwa[b.w _ _ _ q]
  ·rw[q];rwa[o]
def oX.get (h:oX H k W O):∃o,dz H k (.int c) o/\((o=none/\∀s n,W c s n=false)\/∃d,o\↑d/\fM H k W O c d):=by
 let⟨D,E,a,i⟩:=h;let⟨b,j,r,q,f⟩:=a.SV;let g:=dz.k (k:=Sum.inl c) j;rw[f]at g;erw[_,g]
 cases e:D c with
 |none=>
  rwa[.inl ⟨2,λs n=>?_⟩]
  cases w:W c s n with
  |false=>rfl
  |true=>
   let⟨x,l⟩:=a.se _ _ _ w;let⟨y,m⟩:=a.ed _ _ _ l
   cbv
 |some d=>exact .inr ⟨d,2,D,E,a,i,e⟩
theorem Bu:∀{a:List (Key×V)},(a.map (·.1)).Nodup->(∀b∈a,∃n:Nat,b.1=Sum.inl (n:Int))->∃ns:Zh,a.map (λb=>kV b.1)=aq (nI ns)/\ns.Nodup/\∀n:Nat,n∈ns↔Sum.inl (n:Int)∈a.map (·.1)
 |[],_,_=>⟨[],2,aj8,λn=>⟨(λz=>by ext z),(λz=>by ext z)⟩⟩
 |b::r,f,h=>by
  rw[aj0,ajr]at f;let⟨ns,i,l,j⟩:=Bu f.2 λx o=>h x (ajo _ o)
  let⟨m,g⟩:=h b (ai7 ..);rwa[⟨m::ns,5,ajr.mpr ⟨λz=>f.1 ([g]▸(j m).mp z),l⟩,λn=>?_⟩]
  ·rw[aj0,i,g];rfl
  cbv
def E5 {a:List (Key×V)}{v:V}(h:bA a (Sum.inl z)\v):Sum.inl z∈a.map (·.1):=ajz.mpr ⟨_,Lx h,2⟩
def fM.pop (h:fM H k W O c d)(s:Int):∃a,H d\.dK a/\(bA a (Sum.inl s)=none->∀n,W c s n=false)/\
 ∀v,bA a (Sum.inl s)\v->∃(e:Zs) (f:List (Key×V)) (ns:Zh),v=↑e/\e≠d/\H e\.dK f/\f.map (λt=>kV t.1)=aq (nI ns)/\ns.Nodup/\(∀n:Nat,n∈ns↔W c s n=true)/\oX (upd H d (.dK (fw a (Sum.inl s)))) k (gB W c s) O:=by
 let⟨D,E,o,l,hd⟩:=h;let⟨a,A,S,Q,B⟩:=o.Ly hd;rwa[⟨a,A,λu n=>?_,λv u=>?_⟩]
 ·rw[B]at u
  cases w:W c s n with
  |false=>rfl
  |true=>
   let⟨x,R⟩:=o.se _ _ _ w
   cbv
 ·rw[B]at u;let⟨e,F,rfl⟩:=ajV.mp u;let⟨f,M,y,G,I⟩:=o.SW F
  let r:∀i:Int,Sum.inl i∈f.map (·.1)↔W c s i=true:=λi=>by
   constructor
   ·intro z;let⟨t,g,e⟩:=ajz.mp z;have:=Bq y g
    cbv
   ·intro w;rwa[E5 (v:=.bl true) (by rw[I,ajg w])]
  let⟨ns,N,L,P⟩:=Bu y λt g=>by
   let⟨i,C⟩:=G t g;have:=l.w _ _ _ ((r i).mp (by rw[<-C];rwa[akL g]));rwa[i.toNat,by rw[C];congr 1;ext]
  rwa[⟨e,f,ns,2,λz=>o.de _ _ _ _ hd (by rw[<-z];rwa[F]),M,N,L,λn=>(P n).trans (r n),11,o.LD hd A,⟨λb J=>l.o b ?_,l.d,λm j x q=>?_,λm j n q=>l.w _ _ _ (dq.mp q).1⟩⟩]
  ·rcases J with z|z|⟨m,j,z⟩
   ·rwa[.inl z]
   ·rwa[.inr (.inl z)]
   ·dsimp only at z;cases e:m=c/\j=s
    ·cbv
    ·rw[ajb e]at z;rwa[.inr (.inr ⟨m,j,z⟩)]
  ·cases e:m=c/\j=s
   ·rw[ajg e]at q;ext q
   ·rw[ajb e]at q;rwa[l.e _ _ _ q]
def IQ {P:Nat->Bool}{G:Nat}:∀{ns:Zh},ns.Nodup->(∀n∈ns,n<G/\P n=true)->⇑ns<=(~~~G).countP P:=by
 intro ns
 induction ns generalizing P with
 |nil=>exact λ_ _=>ajj _
 |cons m r j=>
  intro f h;rw[ajr]at f;let⟨i,g⟩:=h m (ai7 ..);have:=l0 (p:=P) (p':=λa=>P a && decide (a≠m)) (v:=m) (λa=>rfl) g G;rw[ajg i]at this
  have:=j (P:=λa=>P a && decide (a≠m)) f.2 λn b=>⟨(h n (ajo _ b)).1,by
   rw[(h n (ajo _ b)).2,aje (show n≠m from λz=>f.1 (by rw[<-z];rwa[b]))];rfl⟩
  rw[ajf];ext
def yc {W:bN}{c s:Int}(h:∀n,W c s n=false):gB W c s=W:=by
 funext b a n
 rw[ajQ,dq];rwa[⟨λz=>z.1,λz=>⟨z,λq=>?_⟩⟩];rw[q.1,q.2,h]at z;ext z
end
def Qo {CX:lQ}{base:Heap}{k:Nat}{name qual:Str}{params:Arguments}{body:Expr}{scope:Scope}{pm:Zt}{i:Zp}
 {A:Around} {f:Zq} {s:Zu} {H:Hp} {g:Args} {us:Zk} {vs:Zb} {Q:VK} {E:XK} {t:TE} (S:aS Z i scope) (L:⇑vs=⇑i) (m:cL (k+ 1) A) (j:mB P w K M base A f s H)
 (G:s•a\PySem.W.kla_obj name qual params body scope [] pm c v) (l:s.heap.CodeRec ↑c qual) (B:bindArgs (PySem.W.kla_fn name qual params body scope [] pm ↑c v) g=pure (i.zip us)) (r:Vals vs us)
 (F:PE (cM CX P w K M base Z qual scope a ↑c A f s H E) body t) (C:t (start Z vs) H Q):codeAny (model P w) A (.call ↑a g) (CR CX f P w H s Q E) s:=by
 let lim:s.heap.NoLimit:=j.mod.nolimit.keeps λb o e=>(j.bs b o e).1
 let h:∀y∈i.zip us,scope.names.lookup y.1=some .local\/(scope.names.lookup y.1=some .cell/\((cellsFrom (↥s+ 1) scope.names []).lookup y.1).isSome=true):=λζ N=>by
  let⟨n,d⟩:=ζ
  rcases S.par n (List.of_mem_zip N).1 with q|q
  ·rwa[.inl q]
  ·rwa[.inr ⟨q,alV _ _ _ (.inl q)⟩]
 rwa[PySem.W.kla_callFunE m.depth G rfl S.co S.gen rfl l ?_];rw[B];rwa[aiU (wpAny_newFunctionEnv_cells S.kind h λenv R p x=>?_)];subst R;rwa[⟨lim.keeps x.toInCall.keep,PySem.W.kla_codeExpr ?_⟩];let I:Inv (cM CX P w K M base Z qual scope a ↑c A f s H E) [] (start Z vs) H p:=yV S m.hd j L r x;rwa[ajZ (F [] p (start Z vs) H Q I C) (λu z ζ=>?_) λe z O=>O];let⟨d,T,J,D,q⟩:=ζ
 rwa[d,T,J.os,J.bare,J.base,J.aP,D,q]
def du (d:Zs)(pos:Pos)(qual:Str)(H:Hp):Prop:=
 H d=some (.fI #[])\/∃(c:Zs) (b:Obj) (a:Zm) (t:Tok),H d\(.fI #[rawInt pos.line,rawInt pos.col,↑c])/\H c\.cz b (.own c)/\b.data=.fields a/\a[1]?\(.str qual t)
def du.keep {pos:Pos}{qual:Str}(h:du a pos qual H)(k:∀b u,H b\u->(∃d,u=.fI d)\/(∃o v,u=.cz o v)->I b\u):du a pos qual I:=by
 rcases h with h|⟨c,j,e,t,i,f,l,g⟩
 ·rwa[.inl (k _ _ h (.inl ⟨_,rfl⟩))]
 ·rwa[.inr ⟨c,j,e,t,k _ _ i (.inl ⟨_,rfl⟩),k _ _ f (.inr ⟨_,_,rfl⟩),l,g⟩]
def kz (c:Str->Zl)(base:Heap):Prop:=∃(b:Zs) (a:Obj),c "__builtins__"=some ↑b/\base.get? b\a/\(a.cls=.type "module"/\a.dict\builtinsNs/\a.data=.plain)/\b≠builtinsNs
section
variable {X:Cx}{pins:List (Zs×Obj)}{σ:St}{H:Hp}{s:Zu}
def Te {params:Arguments}{body:Expr}{scope:Scope}{pos:Pos}(I:Inv X pins σ H s)(A:X.env.code=↑c)(hC:PySem.W.codeHdIn X.K c a=true)
 (mM:closureFor scope X.env=pure []) (W:defaultsOf params X.env=([],[])) (hT:du a pos (X.env.qual++"<lambda>") H)
 (hB:kz X.mg X.base)
 (h:∀(f g:Zs) (m:Obj) (D:Zm) (t:Tok) (pm j:Zt) (B:Hp) (s2:Zu),Inv X (pins++[(f,PySem.W.kla_obj "<lambda>" (X.env.qual++"<lambda>") params body scope [] pm g j)]) σ B s2->B g\.cz m (.own g)->m.data=.fields D->D[1]?\.str (X.env.qual++"<lambda>") t->
  du a pos (X.env.qual++"<lambda>") B->(∀b u,b≠a->H b\u->B b\u)->Q ↑f s2):
 X⁻¹ X.A (eval (.Lambda params body scope pos) X.env) Q E s:=by
 let⟨bm,ob,b1,b2,b3,b4⟩:=hB;rwa[PySem.W.kla_eval W ?_]
 let C:s.heap.Ns mainGlobals X.mg:=by
  let⟨o,es,ep,e,r⟩:=I.ok.mod.glob;rwa[o,es,ep,I.bk^e,r]
 let XG:=PySem.W.codeHd_of_K I.dA hC;let R:s•bm\ob:=I.bk^b2
 let hPH:∃ps,H a\(.fI ps):=by
  rcases hT with z|⟨L,_,_,_,z,_⟩
  ·rwa[⟨_,z⟩]
  ·rwa[⟨_,z⟩]
 let⟨V,S⟩:=hPH
 let neP:∀{b:Zs} {o:Obj},s•b\o->o.cls≠.none->b≠a:=λ{b o} e hc z=>by
  have:=I.aP^S;rw[z,show s•a=some { cls:=.none,data:=.fields V } from this]at e
  cbv
 let hbP:bm≠a:=neP R (by cbv)
 let hgP:mainGlobals≠a:=λz=>by
  let⟨o,es,ep,e,hd,_⟩:=C;have:=I.aP^S;rw[z,show s•a=some { cls:=.none,data:=.fields V } from this]at e
  cbv
 let hbG:bm≠mainGlobals:=λz=>by
  let⟨o,es,ep,e,hd,_⟩:=C
  cbv
 let hB:s.heap.BuiltinsAt X.mg a:=⟨bm,ob,b1,b4,hbG,hbP,R,b3.1,b3.2.1,b3.2.2⟩
 let fin:∀{f:Zs} {B:Hp} {s2:Zu} {o:Obj},Inv X pins σ B s2->↥s<=f->s2•f\o->B f=none->(∀v,o.data≠.cell v)->Inv X (pins++[(f,o)]) σ B s2:=λ{f B s2 o} J hf e n hd=>J.jy λp Z=>by
  rcases aiY.mp Z with Z|Z
  ·rwa[J.pin p (aiV _ Z)]
  ·rw[aiR.mp Z];rwa[e,n,aj2 (ajk I.lt hf),I.FV hf,hd]
 rcases hT with M|⟨L,m,D,t,M,rB,x,y⟩
 ·let F:s•a\(PySem.W.tabObj #[]):=I.aP^M;rwa[PySem.W.kla_makeFunction (mg:=X.mg) mM I.ok.glob C A XG F trivial rfl hgP hB λg j U tk hx G P N O=>?_]
  let⟨c2,m,D,t,e2,Y,x,y⟩:=N;ext e2;let lP:∀b u,H b\u->b≠g:=λb u e z=>absurd (I.aP b u e).lt ([z]▸Nat.not_lt.mpr G)
  let hcP:g≠a:=(lP a _ M).symm;let k1:∀b o,b≠a->s•b\o->(U.push (PySem.W.kla_obj "<lambda>" (X.env.qual++"<lambda>") params body scope [] ((X.mg "__name__").getD .none) g j)).get? b\o:=λb o w e=>aiM _ (hx b o w e)
  let eP2:(upd (upd H a (.fI #[rawInt pos.line,rawInt pos.col,↑g])) g (.cz m (.own g))) a\(.fI #[rawInt pos.line,rawInt pos.col,↑g]):=by rw[ak hcP.symm,aj]
  let i:∀b u,b≠a->H b\u->(upd (upd H a (.fI #[rawInt pos.line,rawInt pos.col,↑g])) g (.cz m (.own g))) b\u:=λb u w e=>by rw[ak (lP b u e),ak w];rwa[e]
  let J:Inv X pins σ (upd (upd H a (.fI #[rawInt pos.line,rawInt pos.col,↑g])) g (.cz m (.own g))) { s with heap:=U.push (PySem.W.kla_obj "<lambda>" (X.env.qual++"<lambda>") params body scope [] ((X.mg "__name__").getD .none) g j),toks:=tk }:=by
   rwa[I.un ⟨λb o e n _ _=>k1 b o (λz=>by cbv) e,λb o e n _ _=>⟨o.slots,k1 b o (λz=>by cbv) e⟩,λb o e n _=>?_,λb o e _=>?_,λb xs e=>i b _ (λz=>by cbv) e,λb o u e=>i b _ (λz=>by cbv) e,λb qs e=>?_⟩ λb u e=>?_]
   ·rw[ak (ajm (ajk (ai9 e) G)),ak (λz=>by cbv)];rwa[n]
   ·cases w:b=a
    ·subst w;rwa[_,aiM _ O]
    ·rwa[o,k1 b o w e]
   ·cases w:b=a
    ·cbv
    ·rwa[#[],by rw[i b _ w e];simp]
   ·cases w:b=g
    ·subst w;rw[aj]at e;ext e;rwa[aiM _ Y,m,aiM _ Y]
    ·rw[ak w]at e;cases T:b=a
     ·subst T;rw[aj]at e;ext e;rwa[aiM _ O]
     ·rw[ak T]at e;rwa[(I.aP b u e).fE (λd v hd q=>k1 d v ?_ q) (λd q=>?_) λd xs q=>?_]
      ·cbv
      ·rwa[i d _ (λz=>by cbv) q]
      ·rwa[i d _ (λz=>by cbv) q]
  let l:↥s<=U.objs.size:=ai0 G (akz P);rwa[h _ g m D t _ j _ _ (fin J l (ai2 _ rfl) ?_ λv z=>nomatch z) aj x y (.inr ⟨g,m,D,t,eP2,aj,x,y⟩) i];rw[ak (aj2 P),ak (λz=>absurd (I.aP^M).lt (by rw[<-z];rwa[Nat.not_lt.mpr l]))];rwa[I.aP.fresh l]
 ·let F:s•a\(PySem.W.tabObj #[rawInt pos.line,rawInt pos.col,↑L]):=I.aP^M;rwa[PySem.W.kla_makeFunctionHit (mg:=X.mg) (cv:=↑L) mM I.ok.glob C A XG F (by simp[TriplesOk,rawInt]) (by simp[codeAmong,rawInt]) hB λj U tk k l=>?_]
  let J:Inv X pins σ H { s with heap:=U.push ("function">>>.func (PySem.W.kla_fn "<lambda>" (X.env.qual++"<lambda>") params body scope [] ((X.mg "__name__").getD .none) ↑L j)),toks:=tk }:=I.kept λb u e=>aiM _ (k b u e)
  rwa[h _ L m D t _ j H _ (fin J l (ai2 _ rfl) (I.aP.fresh l) λv z=>nomatch z) rB x y (.inr ⟨L,m,D,t,M,rB,x,y⟩) λb u _ e=>e]
structure Fp (X:Cx) (pq:List (Zs×Obj)) (H:Hp) (b:Zs):Prop where
 none:H b=none
 loc:b≠X.env.locals
 fs:b∉X.fs
 new:X.eK.heap.objs.size<=b
 cell:∀x c,X.env.cells.lookup x\c->c≠b
 pin:∀p∈X.pn++pq,p.1≠b
def vR (I:Inv X o σ H s)(h:↥s<=b):Fp X o H b:=
 ⟨I.aP.fresh h,aj2 (ajk I.lt h),I.FV h,ai0 I.sz h,λx c e z=>by
  let⟨v,d⟩:=I.cell x c e;rwa[absurd d.lt ([z]▸Nat.not_lt.mpr h)],λp a z=>absurd (ai9 (I.pin p a).1) ([z]▸Nat.not_lt.mpr h)⟩
def Inv.Gu {b:List (Zs×Obj)}(I:Inv X (o++b) σ H s):Inv X o σ H s:=I.jy λp a=>I.pin p (aiV _ (ajh _ a))
abbrev Tf (a:Zm) (c:Nat):Obj:={ cls:=.type "list",dict:=none,data:=.seq a c,slots:=#[] }
theorem IU {it l:Zs}{ys:Zb}{kf:Nat->Int}{R:Result->Zu->Prop}(hh:X.A.in1.handled=none)(hq:aD X.K H l ys)(Z:l≠it)(n1:a≠it)(C:Fp X o H it)(D:Fp X o H a)
 (turn:∀(i:Nat) (y:V) (n:Zt) (pr:List (Zs×Obj)) (s':Zu),ys[i]?\y->RelV y n->Inv X (o++pr) σ H s'->X⁻¹ X.A.in1 (call ↑b [n]) (λu s2=>∃t,u=.int (kf i) t/\Inv X (o++pr) σ H s2) (λ_ _=>False) s')
 (hR:∀n s',(ys=[]/\n=v\/∃(j:Nat) (y:V),ys[j]?\y/\RelV y n/\∀q,q<⇑ys->kf j<=kf q/\(q<j->kf j<kf q))->Inv X o σ H s'->R (.ok (.ret n)) s'):
 ∀(k i:Nat) (s:Zu) (r:Zm) (c:Nat),⇑ys - i=k->i<=⇑ys->Inv X o σ H s->s.heap.IsListIter it l i->s•a\Tf r c->
 ((i=0/\r=#[])\/∃(j:Nat) (y:V) (vb:Zt) (U:Tok),j<i/\ys[j]?\y/\RelV y vb/\r=#[vb,.int (kf j) U]/\∀q,q<i->kf j<=kf q/\(q<j->kf j<kf q))->
 codeAny (model X.prog X.w) X.A (.builtin "min.loop" ⟨[↑it,↑b,↑a],[("default",v)]⟩) R s:=by
 let nm:(toString "min"++toString ".loop":String)="min.loop":=⋯
 let L:∀m:Zs,m≠it->m∉[it]:=λm B z=>B (aiR.mp z)
 intro k
 induction k with
 |zero=>
  intro i s r c hk hi I hit B hold;let⟨E,hv,pl,hz⟩:=I.list hq;let Tg:=⇑hv;let W:=Walks.list (prog:=X.prog) (w:=X.w) (A:=X.A.in1) hh it l Z E.toArray;let ei:i=⇑E:=∅
  rwa[alQ F.entry_min_loop ?_];rw[alv alc _];show wpAny _ X.A.in1 (seqItems? ↑a >>=_) _ _ s;rwa[aiK (alw B rfl ?_)];show wpAny _ X.A.in1 (tryCatch (pyNext ↑it) _ >>=_) _ _ s;rwa[aiK (amc (W.done s _ _ ⟨by cbv,pl.isList⟩ λh' M kp=>?_))];let O:=kp a _ (L _ n1) B;let I2:Inv X o σ H { s with heap:=h',toks:=M }:=I.turned (λm f B e=>kp m f (L _ B) e) C.none C.loc (.inr C.new) C.cell C.pin;rcases hold with ⟨e0,rfl⟩|⟨j,y,vb,U,hj,hy,rb,rfl,d⟩
  ·let en:ys=[]:=akd (by omega);rwa[aiK (al0 ?_)];rwa[aiU (hR v _ (.inl ⟨en,2⟩) I2)]
  ·show wpAny _ X.A.in1 (updateSeq a (λ_=>#[]) >>=_) _ _ _;rwa[aiK (aln O rfl (aiK (al3 (aiU ?_))))];rwa[hR _ _ (.inr ⟨j,y,hy,rb,λq S=>d q ∅⟩) (I2.turned (t':=M) (λm f B e=>(ajC^ajR B).trans e) D.none D.loc (.inr D.new) D.cell D.pin)]
 |succ k ih=>
  intro i s r c hk hi I hit B hold;let⟨E,hv,pl,hz⟩:=I.list hq;let Tg:=⇑hv;let lS:i<⇑E:=∅
  let W:=Walks.list (prog:=X.prog) (w:=X.w) (A:=X.A.in1) hh it l Z E.toArray;rwa[alQ F.entry_min_loop ?_];rw[alv alc _];show wpAny _ X.A.in1 (seqItems? ↑a >>=_) _ _ s;rwa[aiK (alw B rfl ?_)];show wpAny _ X.A.in1 (tryCatch (pyNext ↑it) _ >>=_) _ _ s;rwa[aiK (amc (W.item i s _ _ ∅ ⟨hit,pl.isList⟩ λn h' M hP Bv kp=>?_))];let⟨⟨oI,hoI,Ti,T⟩,Bw⟩:=Bv;let O:=kp a _ (L _ n1) B;let I2:Inv X o σ H { s with heap:=h',toks:=M }:=I.turned (λm f B e=>kp m f (L _ B) e) C.none C.loc (.inr C.new) C.cell C.pin;let G:ys[i]?\(ys[i]'∅):=aiL ∅
  change ys[i]'∅=y at G;let⟨u,hu,ru⟩:=hv.get (i:=i) (x:=y) G;let E6:E[i]?\n:=by simpa using hP
  rw[hu]at E6;let euv:u=n:=Za0 E6;subst euv;let dI:∀z,oI.data≠.cell z:=λz e=>by rw[T]at e;ext e
  let J2:Inv X (o++[(it,oI),(a,Tf r c)]) σ H { s with heap:=h',toks:=M }:=I2.jy λp Q=>by
   rcases aiY.mp Q with Q|Q
   ·rwa[I2.pin p (aiV _ Q)]
   ·rcases ai3.mp Q with rfl|Q
    ·rwa[⟨hoI,C.none,C.loc,C.fs,dI⟩]
    ·rw[aiR.mp Q];rwa[O,D.none,D.loc,D.fs,λz e=>nomatch e]
  show wpAny _ X.A.in1 (tryCatch (holding [u] (call ↑b [u])) _ >>=_) _ _ _;rwa[aiK (amc (ajP (ajZ (turn i y u _ _ G ru J2) (λx J he=>?_) λ_ _ hF=>hF.elim)))];let⟨Y,rfl,J3⟩:=he;let pI:=(J3.pin (it,oI) (aiV _ (aiV _ (.head _)))).1;let pB:=(J3.pin (a,Tf r c) (aiV _ (aiV _ (.tail _ (.head _))))).1;let I3:=J3.Gu;let abg:J.heap.IsListIter it l (i+ 1):=⟨oI,pI,Ti,T⟩;let XH:∀(g:Zm->Zm),(J.heap.update a (Obj.mapSeq g)).IsListIter it l (i+ 1):=λg=>⟨oI,(ajC^n1).trans pI,Ti,T⟩
  let XI:∀(g:Zm->Zm) (M:Nat),Inv X o σ H { J with heap:=J.heap.update a (Obj.mapSeq g),toks:=M }:=λg M=>I3.turned (λm f B e=>(ajC^ajR B).trans e) D.none D.loc (.inr D.new) D.cell D.pin
  rcases hold with ⟨e0,rfl⟩|⟨j,y0,vb,U,hj,hy,rb,rfl,d⟩
  ·subst e0;show wpAny _ X.A.in1 (updateSeq a (λ_=>#[u,.int (kf 0) Y]) >>=_) _ _ _;rwa[aiK (aln pB rfl ?_)];rw[nm]
   exact aiU ⟨ala alc _,ih 1 _ _ _ ∅ ∅ (XI _ _) (XH _) (ajB _ pB rfl) (.inr ⟨(0),y,u,Y,3,G,ru,2,λq S=>by
    let e:q=0:=∅
    subst e;rwa[Int.le_refl _,λz=>absurd z (aka _)]⟩)⟩
  ·show wpAny _ X.A.in1 (tryCatch (holding [u,.int (kf i) Y] (richCompare .Lt (.int (kf i) Y) (.int (kf j) U) >>=_)) _ >>=_) _ _ _;rwa[aiK (amc (ajP (aiK (CmpOf.ints_lt (prog:=X.prog) (w:=X.w) (A:=X.A.in1) (P:=λi n=>∃t,n=.int (kf i) t) kf (λi n h=>h) i j _ _ _ _ _ ⟨Y,2⟩ ⟨U,2⟩ ?_))))];rwa[aiK (ajP (akt ?_))];rwa[aiK (al3 (aiU ?_))];cases Bx:kf i<kf j
   ·simp only[Bx,decide_true,amh];rwa[aiK (aln pB rfl (aiK (al3 ?_)))];rw[nm];rwa[aiU ⟨ala alc _,ih (i+ 1) _ _ _ ∅ ∅ (XI _ _) (XH _) (ajB _ pB rfl) (.inr ⟨i,y,u,Y,3,G,ru,2,λq S=>?_⟩)⟩];cases e:q=i
    ·subst e;rwa[Int.le_refl _,λz=>absurd z (aka _)]
    ·let h1:=(d q ∅).1;rwa[3,λ_=>∅]
   ·simp only[Bx,decide_false,alR,amb];rwa[aiK (al3 ?_)];rw[nm];rwa[aiU ⟨ala alc _,ih (i+ 1) _ _ _ ∅ ∅ I3 abg pB (.inr ⟨j,y0,vb,U,3,hy,rb,2,λq S=>?_⟩)⟩];cases e:q=i
    ·subst e;rwa[3,λ_=>∅]
    ·rwa[d q ∅]
def aD.gk {H:Hp}{ys:Zb}{d:Zm}(h:aD K H a ys)(f:H b\.fI d)(k:∀c u,c≠b->H c\u->I c\u):aD K I a ys:=by
 rcases h with h|h
 ·rcases h with e|⟨o,e⟩
  ·rwa[.inl (.inl (k _ _ (λz=>by cbv) e))]
  ·rwa[.inl (.inr ⟨o,k _ _ (λz=>by cbv) e⟩)]
 ·rwa[.inr h]
def LJ (a f d:Zt):checkBuiltinCall "min" ⟨[a],[("key",f),("default",d)]⟩=pure ():=by kernel_rfl
def WT (K:Za1)(e:Zs)(f:Pos)(qual:Str)(g:TE)(k:TA):TE:=λ σ H Q=>k σ H λh d=>∃(l:Zs) (ys:Zb) (c:Nat->Int),h=[↑l]/\aD K d l ys/\du e f qual d/\
 ∀a,du e f qual a->(∀b u,b≠e->d b\u->a b\u)->(∀(i:Nat) (y:V),ys[i]?\y->g [some y] a λv m=>v=.int (c i)/\m=a)/\(ys=[]->Q .non a)/\
  ∀(i:Nat) (y:V),ys[i]?\y->(∀j,j<⇑ys->c i<=c j/\(j<i->c i<c j))->Q y a
theorem Qp {body:Expr}{tb:TE}{w O G kq lp:Pos}{k:Nat}{params:Arguments}{scope:Scope}(hc:X.calm=true)(hg:Gl X "min")(hm:X.mg "min"=none)(he:PE X e r)
 (L:X.env.code=↑c) (hC:PySem.W.codeHdIn X.K c a=true) (mM:closureFor scope X.env=pure []) (V:defaultsOf params X.env=([],[]))
 (hB:kz X.mg X.base) (hr:cL (k+ 2) X.A) (S:aS [x] [x] scope)
 (W:∀(pm C:Zt) (B:Zs) (u:Zt),bindArgs (PySem.W.kla_fn "<lambda>" (X.env.qual++"<lambda>") params body scope [] pm ↑B C) ⟨[u],[]⟩=pure [(x,u)])
 (D:∀(A:Around) (N:Zq) (s:Zu) (H:Hp) (f B:Zs),cL k (A.deeper (envOfC (X.env.qual++"<lambda>") scope ↥s f ↑B))->PE (cM XB X.prog X.w X.K X.mg X.base [x] (X.env.qual++"<lambda>") scope f ↑B A N s H E0) body tb)
 (hs:starEach [e] X.env=(false,eval e X.env)::starEach [] X.env)
 (nT:((backTo w (starEach [e] X.env)).any (·.1) || (backToKw w (keywordEach [⟨some "key",.Lambda params body scope lp,O⟩,⟨some "default",.Constant .none j kq,G⟩] X.env)).any (·.1.isNone))=false):
 PE X (.Call (.Name "min" p) [e] [⟨some "key",.Lambda params body scope lp,O⟩,⟨some "default",.Constant .none j kq,G⟩] w) (WT X.K a lp (X.env.qual++"<lambda>") tb (jg r jW)):=by
 intro pins s σ H Q I h;rwa[ajX (gw I hg hm PyProof.Rows.boot_min ?_)];rwa[PySem.W.callWith_of (P:=λ_=>True) nT (λ_ _=>⟨.machine,.inr (.inl rfl),λ_ _ _ _ _ q=>aiU q⟩) (evalArgs_kw2 rfl (bp ((ae he ah hs) w pins s σ H _ I h) λus s1 ζ=>?_) hs)];let⟨vs,H1,I1,g,q⟩:=ζ;let⟨l,ys,kf,rfl,hq,hT,q⟩:=q;let⟨u,rfl,ru⟩:=vals1 g;ext ru;rwa[kwAll_cons (Te I1 L hC mM V hT hB λf B oc cvs ct pm C H2 s2 I2 NP IV hv1 Z n=>?_)];rwa[bp ((EB cJ HF:PK X [⟨some "default",.Constant .none j kq,G⟩] _) w _ s2 σ H2 (λzs M=>zs=[.non]/\M=H2) I2 ⟨22⟩) λws s3 ζ=>?_];let⟨zs,M,U,rz,R,e2⟩:=ζ;rwa[⟨True.intro,5⟩]
 subst R e2;let⟨u2,rfl,ru2⟩:=vals1 rz;ext ru2;let⟨q1,q2,q3⟩:=q M Z n
 let T:aD X.K M l ys:=by
  rcases hT with z|⟨_,_,_,_,z,_⟩
  ·rwa[hq.gk z n]
  ·rwa[hq.gk z n]
 show wpAny _ _ (call (.builtin "min") [↑l] [("key",↑f),("default",.none)]) _ _ s3;let nm:(toString "min"++toString ".loop":String)="min.loop":=⋯
 rwa[ald (akp F.plain_min F.entry_min (wpAny_of_eq (LJ^_) ?_))];show wpAny _ X.A.in1 (Builtin.Builtins.bindParams "min" ["key","default"] 0 ⟨[],[("key",↑f),("default",.none)]⟩ >>=_) _ _ s3;rwa[aiK (wpAny_of_eq (show Builtin.Builtins.bindParams "min" ["key","default"] 0 ⟨[],[("key",↑f),("default",.none)]⟩=pure #v[↑f,some .none] from rfl) ?_)];let⟨its,rv,pl,hz⟩:=U.list T;rwa[aiK (aiU (aiK (ak0 pl.isList ?_)))];let⟨ol,Tj,Ti,Tn⟩:=id pl.isList;rwa[aiK (ajJ ?_)];let lS:=ai9 Tj;let hsz:(s3.heap.push ("list_iterator">>>.fields #[↑l,.int 0 0])).objs.size=↥s3+ 1:=akx ..;let kp4:∀(b:Zs) (o:Obj),s3•b\o->((s3.heap.push ("list_iterator">>>.fields #[↑l,.int 0 0])).push ("list">>>.seq ([]:Zk).toArray)).get? b\o:=λb o d=>aiM _ (aiM _ d)
 let I4:=U.kept (t':=s3.toks) kp4;rw[nm];rwa[aiU ⟨ala alc _,IU (X:=X) (σ:=σ) (H:=M) (ys:=ys) (kf:=kf) (it:=↥s3) (l:=l) (U.ok.hd hc) T (ajm lS) (by cbv) (vR U (aiS _)) (vR U (by cbv)) (λi y v pr s' hy rv' J=>?_) (λv s' hw J=>?_) _ 0 _ #[] 0 rfl (ajj _) I4 ⟨_,aiM _ (ai2 _ rfl),22⟩ (ai2 _ rfl) (.inl ⟨22⟩)⟩]
 ·let hf:=(J.pin (f,_) (aiV _ (ajh _ (aiV _ (.head _))))).1;let hcr:s'.heap.CodeRec ↑B (X.env.qual++"<lambda>"):=⟨B,oc,cvs,ct,2,(J.aP^NP).1,IV,hv1⟩;rwa[ald (ak7 (Qo (CX:=XB) (E:=E0) (k:=k) (vs:=[y]) (us:=[v]) S rfl hr.in1 J.AI.in1 hf hcr (W pm C B v) (.cons rv' .nil) (D _ _ _ _ f B (hr.in1.deeper _)) (q1 i y hy)) λg s2 m=>?_)]
  cases g with
  |error d=>exact m.elim
  |ok fl=>
   cases fl with
   |next=>exact False.elim m
   |brk=>exact False.elim m
   |cont=>exact False.elim m
   |ret u=>
    let⟨v2,H4,J4,Y,R,e2⟩:=J.after m;subst R e2;let⟨t,rfl⟩:=Y;rwa[t,2,J4]
 ·rcases hw with ⟨R,rfl⟩|⟨i,y,hy,ry,hb⟩
  ·rwa[⟨.non,M,J.Gu,rfl,q2 R⟩]
  ·rwa[⟨y,M,J.Gu,ry,q3 i y hy hb⟩]
end
def IW {D:Str->Zl}{CX:lQ}{k:Nat}{fd:FuncData}{O:Sp}{ns:Zg}
 (R:K.In s.heap) (n:s.heap.Ns mainGlobals M) (g:s.heap.Ns builtinsNs D) (G:∀x:Str,x≠"__name__"->D x=bootBuiltins x) (p:s.heap.NoLimit) (hg:s.gens=#[])
 (J:s•b\("list">>>.seq N.toArray)) (Y:IntsAre N ns) (W:⇑ns<=sizeLine) (hr:cL k callerA)
 (Fn:∀base:Heap,K.In base->base.Ns mainGlobals M->kz M base->dy P w K M base CX k a fd [x] O) (hB:kz M s.heap) (l:∀(s:Zu) (u:Zt),BindsTo s fd ⟨[u],[]⟩ [(x,u)])
 (L:s•c\(PySem.W.tabObj #[])) (hKP:K.lookup c=none) (E:isCodeTable s.heap c)
 (I:∀H:Hp,H c\(.fI #[])->aD K H b (ns.map V.int)->O [↑b] H (λv _=>v=.bl true) λ_ _ _=>False)
 (F:∀H e i,CX [] H s (λ_ _ _=>False) e i->False):
 codeAny (model P w) callerA (.call ↑a ⟨[↑b],[]⟩) (λr i=>r=.ok (.ret (.bool true))/\OldK s.heap i.heap/\i.os=s.os/\AllBare i.gens) s:=by
 let rv:=yZ Y;let C:b≠c:=λz=>by cbv
 let main:∀H:Hp,H c\(.fI #[])->(∀f u,H f\u->K.lookup f=none/\(f=c\/f=b/\∃X,u=.cz ("list">>>.seq N.toArray) (.lst X)))->aD K H b (ns.map V.int)->dC P w H s.heap->
  codeAny (model P w) callerA (.call ↑a ⟨[↑b],[]⟩) (λr i=>r=.ok (.ret (.bool true))/\OldK s.heap i.heap/\i.os=s.os/\AllBare i.gens) s:=by
  intro H T Q h3 S
  let nodict:∀{f:Zs} {o:Obj} {t:Array DictEntry} {A:Nat},s•f\o->o.data=.dict t A->H f=none:=λ{f o t A} e d=>by
   cases q:H f with
   |none=>rfl
   |some u=>
    cbv
  let y:∀{f:Zs} {m:Str->Zl},s.heap.Ns f m->(pR s.heap H).Ns f m:=λ{f m} ζ=>by let⟨o,t,A,e,d,r⟩:=ζ;rwa[⟨o,t,A,uv e (nodict e d),d,r⟩]
  let Z:K.In (pR s.heap H):=λf o e=>uv (R f o e) (by
   cases q:H f with
   |none=>rfl
   |some u=>rw[(Q f u q).1]at e;ext e)
  let md:Mod K M (pR s.heap H):=⟨Z,y n,⟨D,y g,G⟩,let ⟨mc,z1,z2⟩:=p;⟨mc,y z1,z2⟩⟩;let e0:mB P w K M (pR s.heap H) callerA [] s H:=⟨2,md,λf o e=>Ph e,alF (Hn _ _),trivial,λf z=>absurd (show f∈([]:Zn) from z) (by simp),S,.of_eq hg⟩
  let bb:kz M (pR s.heap H):=by
   let⟨U,ob,b1,b2,b3,b4⟩:=hB;rwa[⟨U,ob,b1,uv b2 ?_,b3,b4⟩]
   cases q:H U with
   |none=>rfl
   |some u=>
    cbv
  rwa[ak7 ((Fn _ Z (y n) bb).run callerA [] s H ⟨[↑b],[]⟩ [↑b] [↑b] _ _ hr e0 (l s ↑b) (.cons rfl .nil) (I H T h3)) λr i h=>?_]
  cases r with
  |error e=>exact(F H e i h).elim
  |ok fl=>
   cases fl with
   |next=>exact False.elim h
   |brk=>exact False.elim h
   |cont=>exact False.elim h
   |ret u=>
    let⟨v,H',os,bare,un,j,r',q⟩:=h;let q':v=.bl true:=q;subst q';obtain rfl:u=Value.bool true:=r'
    let each:∀f o,s•f\o->asItWas s.heap i.heap f o/\∃o',i•f\o':=λf o e=>by
     cases q:H f with
     |none=>
      let z:=un.keep f o e q (by intro z;rwa[absurd (show f∈([]:Zn) from z) (by simp)]) (by simp);rwa[.inl z,o,z]
     |some u=>
      rcases (Q f u q).2 with rfl|⟨rfl,X,rfl⟩
      ·rw[L]at e;ext e;let⟨more,z⟩:=un.iw^T;let z2:i•f\{ cls:=.none,data:=.fields (#[]++more) }:=j^z;rwa[.inr (.inl ⟨E,2,#[],more,2,z2⟩),_,z2]
      ·let⟨z1,_⟩:=S^q;let⟨z2,_⟩:=j^un.gQ _ _ _ q;rw[e]at z1;ext z1;rwa[.inl z2,_,z2]
    rwa[2,⟨λf o e=>(each f o e).1,λf o e=>(each f o e).2⟩,os,bare]
 cases B:K.lookup b with
 |some o=>
  let e:=R b o B;rw[J]at e;ext e;rwa[main (upd (λ_=>none) c (.fI #[])) aj (λf u z=>?_) (.inr ⟨_,N.toArray,_,B,222,[ai8,⇑Y]▸W,3⟩) λf u z=>?_]
  ·cases g:f=c
   ·cbv
   ·rw[ak g]at z;ext z
  ·cases g:f=c
   ·subst g;rw[aj]at z;ext z;rwa[L]
   ·rw[ak g]at z;ext z
 |none=>
  rwa[main (upd (upd (λ_=>none) c (.fI #[])) b (.cz ("list">>>.seq N.toArray) (.lst (ns.map V.int)))) (by rw[ak C.symm,aj]) (λf u z=>?_) (.inl (.inr ⟨_,aj⟩)) λf u z=>?_]
  ·cases g:f=b
   ·subst g;rw[aj]at z;ext z;rwa[B,.inr ⟨212⟩]
   ·rw[ak g]at z;cases g:f=c
    ·cbv
    ·rw[ak g]at z;ext z
  ·cases g:f=b
   ·subst g;rw[aj]at z;ext z;rwa[J,[aiQ]▸W,N,_,rv,J]
   ·rw[ak g]at z;cases g:f=c
    ·subst g;rw[aj]at z;ext z;rwa[L]
    ·rw[ak g]at z;ext z
theorem qY.okT {mg:Str->Zl}{base:Heap}{j:lQ}{qual:Str}{st:Stmt}{fd:FuncData}{f:Zp}{k:Nat}{sp:Sp}(F:qY K x qual st a fd)(hc:fd.code=↑c)(S:aS Z f (az st))(len:∀b H Q E,sp b H Q E->⇑b=⇑f)
 (d:∀(A:Around) (outer:Zq) (s:Zu) (H:Hp) (b:Zb) (Q:VK) (E:XK),cL k (A.deeper (envOfC qual (az st) ↥s a ↑c))->sp b H Q E->
  ∃t,jz (cM j P w K mg base Z qual (az st) a ↑c A outer s H E).tQ (cQ st) t/\t { nx:=λ_ p=>Q .non p,rt:=Q } (start Z b) H):dy P w K mg base j (k+ 1) a fd f sp:=by
 let⟨q,u,kV,doc,pm,r,g,ct,m,rfl,lk,i⟩:=F.ex;let e:g=↑c:=hc;subst e;rwa[Ao lk i S len λA outer s H b Q E o h=>?_]
 let⟨t,n,l⟩:=d A outer s H b Q E o h;rwa[t,n.tQ,l]
structure LamAt (K:Za1) (fd:FuncData) (c Pt:Zs):Prop where
 code:fd.code=↑c
 hd:PySem.W.codeHdIn K c Pt=true
 no:K.lookup Pt=none
def LK {l:PySem.W.OpenLaw}{k:Nat}{loose:Zp}{XP:(Str->Zl)->Heap->Prop}{C:World->Heap->Prop}{d:DefRec}{K:Params->Za1}{CX:World->lQ}{sp:World->Sp}
 (hn:l.most\n) (y:n<=sizeLine) (q:d.params.defaults=[]) (hr:cL k callerA) (T:∀(w:World) (h:Heap),C w h->(K w.params).In h/\h.get? a\(PySem.W.tabObj #[]))
 (F:∀(w:World) (g:Str->Zl) (j:Zs) (h:Heap),(K w.params).In h->h.Ns mainGlobals g->g d.name\↑j->
  ∃fd:FuncData,(∃fd2 c,LamAt (K w.params) fd2 c a)/\(∀(s:Zu) (u:Zt),BindsTo s fd ⟨[u],[]⟩ [(x,u)])/\∀base:Heap,(K w.params).In base->base.Ns mainGlobals g->kz g base->dy l.prog w (K w.params) g base (CX w) k j fd [x] (sp w))
 (A:∀(w:World) (H:Hp) (b:Zs) (ns:Zg),⇑ns<=n->H a\(.fI #[])->aD (K w.params) H b (ns.map V.int)->sp w [↑b] H (λv _=>v=.bl true) λ_ _ _=>False)
 (t:∀(w:World) (H:Hp) (s:Zu) (e:Zt) (m:Zu),CX w [] H s (λ_ _ _=>False) e m->False):
 PySem.W.WalkO P loose XP C l.row.toRowW d [] (λf D=>PySem.call f D):=by
 rwa[Att.DH hn q λw B s g mb j o pm cd doc b D ns G Y ho hd hcd z i hints hlen L=>?_]
 let⟨p,hP⟩:=T w _ Y;let⟨fd,⟨fd2,c,E⟩,J,S⟩:=F w g j _ p G.T.g z;let⟨I,r,_,_,_,_,_,_,_,Z,M,g3,W,_⟩:=PySem.W.codeHd_of_K p E.hd;let hB:kz g s.heap:=let ⟨X,N,a1,a2,O,U,R,a6⟩:=G.T.bmain;⟨X,N,a1,O,⟨U,R,a6⟩,a2⟩
 rwa[IW p G.T.g G.T.b G.T.builtins G.T.nolimit L i hints (ai0 hlen y) hr S hB J hP E.no ⟨c,I,r,Z,M,g3,W⟩ (λH Q hS=>A w H b ns hlen Q hS) λH e m=>t w H s e m]
namespace Lr
def To:typeLookup (.type "list_reverseiterator") "__len__"=pure none:=by kernel_rfl
def Qq:typeLookup (.type "list_reverseiterator") "__length_hint__"=pure (some (.builtin "list_reverseiterator.__length_hint__")):=by kernel_rfl
section
variable {prog:Program}{w:World}{A:Around}{E:Zt->Zu->Prop}{s:Zu}{it l:Zs}{items:Zm}
def hint {Q:Bool->Zu->Prop}(hm:s.heap.IsRevIter it l z)(h:Q false s):(prog<|>w) A (Builtin.List.listLengthHint ↑it) Q E s:=by
 rwa[aiK (wpAny_specialOf hm.typeIs To ?_)];rwa[aiK (wpAny_specialOf hm.typeIs Qq ?_)];generalize c:("list_reverseiterator.__length_hint__":String)=d
 wp_delta
 subst c;rwa[aiK (wpAny_isInstance (T:="list_reverseiterator") (b:=true) hm.typeIs (by kernel_rfl) ?_)];rwa[alS (λa=>absurd a ⋯) (λ_=>?_)];rwa[alS (λ_=>?_) (λa=>absurd ⋯ a)];rwa[aiU h]
theorem extend {R:Result->Zu->Prop}(z:A.handled=none)(hit:s.heap.IsRevIter it l ((items.size:Int) - 1))(y:s.heap.IsList l items)(k:l≠it)(hlen:items.size<=sizeLine)(S:Zs)(n:S≠it)(x:S≠l)(res:Zt)(g:Nat)(D:s•S\("list">>>.seq #[] g))
 (G:∀g1 t a d,(∀b o,b≠S->b≠it->s•b\o->g1.get? b\o)->g1.get? S\{ cls:=.type "list",dict:=none,data:=.seq a d,slots:=#[] }->
  ItemsOf (λi v=>items[items.size - 1 - i]?\v) a items.size->R (.ok (.ret res)) { s with heap:=g1,toks:=t }):
 (prog<|>w) A.in1 (Builtin.List.listExtendWith ↑S ↑it res)
  (λfin c=>match fin with|.done f=>R (.ok f) c|.again d=>d.quiet=true/\codeAny (model prog w) A d R c) (λe c=>R (.error e) c) s:=by
 rwa[aiK (ak8 (T:="list_reverseiterator") hit.typeIs ?_)];let u:Builtin.List.listSameRef ↑S ↑it=false:=by simp[Builtin.List.listSameRef,n]
 let r:(Value.type "list_reverseiterator"==Value.type "list")=false:=⋯
 let B:(Value.type "list_reverseiterator"==Value.type "tuple")=false:=⋯
 simp only[u,r,B,Bool.or_false,alR,amb];rwa[aiK (wpAny_pyIter_revIter hit ?_)];rwa[aiK (ajP (hint hit ?_))];let W:=(Walks.listRev (prog:=prog) (w:=w) (A:=A.in1) z it l k items).toS
 let m:S∉[it,l]:=λI=>by
  cbv
 rwa[aiU ⟨ala F.plain_extend_loop _,5⟩];rwa[codeAny_extend_loopS W hlen S m res items.size 0 _ #[] _ rfl (ajj _) ⟨ajj _,by simpa using hit,y⟩ D (ItemsOf.nil _) λc a d h p j=>?_]
 rw[Moved.eq_with h];rwa[G c.heap c.toks a d (λb o H C e=>h.heap b o (λq=>?_) e) p j]
 cbv
def init {R:Result->Zu->Prop}(z:A.handled=none)(hit:s.heap.IsRevIter it l ((items.size:Int) - 1))(y:s.heap.IsList l items)(m:l≠it)(hlen:items.size<=sizeLine)(S:Zs)(g:S≠it)(h:S≠l)(B:s•S\("list">>>.seq #[]))
 (C:∀g1 n a d,(∀b o,b≠S->b≠it->s•b\o->g1.get? b\o)->g1.get? S\{ cls:=.type "list",dict:=none,data:=.seq a d,slots:=#[] }->
  ItemsOf (λi v=>items[items.size - 1 - i]?\v) a items.size->R (.ok (.ret .none)) { s with heap:=g1,toks:=n }):
 (prog<|>w) A.in1 (Builtin.«list.__init__» ⟨[↑S,↑it],[]⟩)
  (λfin k=>match fin with|.done f=>R (.ok f) k|.again d=>d.quiet=true/\codeAny (model prog w) A d R k) (λe k=>R (.error e) k) s:=
 Dk.y7 B λu c t oT=>extend (s:=(s<*u)) z (hit.at λo e=>oT _ o g.symm e) (y.at λo e=>oT _ o h.symm e) m hlen S g h .none _ t λg1 n a d x p j=>C g1 n a d (λb o r q e=>x b o r q (oT b o r e)) p j
theorem call (z:A.handled=none)(hit:s.heap.IsRevIter it l ((items.size:Int) - 1))(q:s.heap.IsList l items)(g:l≠it)(hlen:items.size<=sizeLine)
 (x:∀g1 j a h,(∀b o,b≠it->s•b\o->g1.get? b\o)->g1.get? ↥s\{ cls:=.type "list",dict:=none,data:=.seq a h,slots:=#[] }->ItemsOf (λi v=>items[items.size - 1 - i]?\v) a items.size->Q ↑↥s { s with heap:=g1,toks:=j }):
 (prog<|>w) A (PySem.call (.type "list") [↑it]) Q E s:=by
 rwa[callType_codes (Q₁:=λobj c=>obj=↑↥s/\c={ s with heap:=s.heap.push ("list">>>.seq #[]) }) F.called_list (F.typeCall_list_1 _) F.entry_list_init (code_list_new _ ⟨22⟩) λobj c d=>?_]
 let⟨rfl,rfl⟩:=d;let t:(s.heap.push ("list">>>.seq #[])).get? ↥s\("list">>>.seq #[]):=ai2 _ rfl;let p:it<↥s:=let ⟨o,m,_⟩:=hit;ai9 m
 let k:l<↥s:=let ⟨o,m,_⟩:=q;ai9 m
 rwa[⟨⟨_,t,2⟩,F.args_list_init_2 _ _,init (A:=A.in1) (s:={ s with heap:=s.heap.push ("list">>>.seq #[]) }) z (hit.at λo e=>aiM _ e) (q.at λo e=>aiM _ e) g hlen _ (aj2 p) (aj2 k) t λg1 j a h y n f=>?_⟩];rwa[2,x g1 j a h (λb o u e=>y b o (ajm (ai9 e)) u (aiM _ e)) n f]
end
end Lr
section
variable {X:Cx}{a e:Expr}{ta:TA}{p p2 pos xZ:Pos}
def LN (K:Za1)(ta:TA):TE:=λ d H Q=>ta d H λc b=>∃(l:Zs) (ys:Zb),c=[↑l]/\aD K b l ys/\∀D,b D=none->Q ↑D (upd b D (.lst ys.reverse))
def LQ {ys:Zb}{acc:Zm}(d:Vals ys N)(h:ItemsOf (λi v=>N.toArray[N.toArray.size - 1 - i]?\v) acc N.toArray.size):acc.toList=N.reverse:=by
 let f:acc.size=⇑N:=by simpa using h.1
 rwa[aku λi=>?_]
 cases c:i<⇑N
 ·let e:acc[i]?\(acc[i]'∅):=Array.getElem?_eq_getElem ∅
  let b:=h.2 i _ e;rw[aki,e,List.getElem?_reverse c];simpa using b.symm
 ·rw[aki,Array.getElem?_eq_none ∅,aju (by rw[List.length_reverse];omega)]
theorem rD:∀{ys:Zb} {b:Zk},Vals ys b->Vals ys.reverse b.reverse
 |_,_,.nil=>.nil
 |_,_,.cons r t=>[List.reverse_cons,List.reverse_cons]▸(rD t).append (.cons r .nil)
theorem Gv (R:X.calm=true)(P:Gl X "list")(M:X.mg "list"=none)(V:Gl X "reversed")(O:X.mg "reversed"=none)(ha:PA X [a] ta)(hs:starEach [a] X.env=[(false,eval a X.env)])
 (y:starEach [.Call (.Name "reversed" p) [a] [] pos] X.env=[(false,eval (.Call (.Name "reversed" p) [a] [] pos) X.env)]):PE X (.Call (.Name "list" p2) [.Call (.Name "reversed" p) [a] [] pos] [] xZ) (LN X.K ta):=by
 intro i s N H Q I h;rwa[ajX (gw I P M boot_list ?_)];rwa[ajH ?_ y rfl];rw[y];show wpAny _ _ (spliced ((false,eval (.Call (.Name "reversed" p) [a] [] pos) X.env)::backTo xZ [])) _ _ s;rwa[ajL ?_];rwa[Call_ (gw I V O boot_reversed (ajH (bp (ha pos i s N H _ I h) λus s1 ζ=>?_) hs rfl))];let⟨vs,C,k,U,Z⟩:=ζ;let⟨l,ys,e,Y,q⟩:=Z;subst e;let⟨u,rfl,ru⟩:=vals1 U;ext ru;let⟨g,G,pl,hz⟩:=k.list Y;let hl:=⇑G;let t:∀b o,s1•b\o->(s1.heap.push (revObj l ((g.toArray.size:Int) - 1))).get? b\o:=λb o e=>aiM _ e
 let E:l<↥s1:=let ⟨o,ho,_⟩:=pl.isList;ai9 ho
 let w:=vR k (aiS ↥s1);rwa[call_reversed_list pl.isList (akg ?_)];let I2:Inv X i N C { s1 with heap:=s1.heap.push (revObj l ((g.toArray.size:Int) - 1)) }:=k.kept (t':=s1.toks) t;rwa[Lr.call (s:={ s1 with heap:=s1.heap.push (revObj l ((g.toArray.size:Int) - 1)) }) (I.ok.hd R) ⟨_,ai2 _ rfl,22⟩ (pl.isList.at λo e=>t^e) (ajm E) (by rw[ai8];omega) λL B acc c W T x=>?_]
 let r:=LQ G x;let F:Inv X i N C { s1 with heap:=L,toks:=B }:=I2.turned (t':=B) (λb o j e=>W b o j e) w.none w.loc (.inr w.new) w.cell w.pin;let J:(s1.heap.push (revObj l ((g.toArray.size:Int) - 1))).objs.size=↥s1+ 1:=akx ..;generalize hD:(s1.heap.push (revObj l ((g.toArray.size:Int) - 1))).objs.size=D at T J ⊢;let f:C D=none:=k.aP.fresh ∅;let A:=vR k (b:=D) ∅;let nD:∀{b:Zs},b∉[D]->b≠D:=λj z=>j (by simp[z])
 refine⟨↑D,upd C D (.lst ys.reverse),Inv.step (s:={ s1 with heap:=L,toks:=B }) F (h':=L) (t':=B) (g':=s1.gens) (d':=s1.drawn) (ch:=[D]) (λb j=>[aiR.mp j]▸⟨.inr A.new,A.loc,A.cell,A.pin⟩) (λb o _ _ _ e _=>e) (λb o _ _ _ e _=>⟨o.slots,e⟩) (λb o R _ n=>[ak (nD R)]▸n) (λb o _ e=>⟨o,e⟩)
  (λb xs e=>[ak (aw e f)]▸e) (λb o u e=>[ak (aw e f)]▸e) (λb ps e=>⟨#[],by rw[ak (aw e f),e];simp⟩) (λm O=>O) (λb u e=>?_) F.bare,2,q D f⟩
 ·cases j:b=D
  ·subst j;rw[aj]at e;ext e;erw[[List.length_reverse]▸hz,g.reverse,c,rD G];rw[<-r,Array.toArray_toList];rwa[T]
  ·rw[ak j]at e;rwa[(F.aP b u e).fE (λd v _ q=>q) (λd q=>[ak (aw q f)]▸q) λd xs q=>[ak (aw q f)]▸q]
def By (d c:TE):TE:=λ b H Q=>d b H Q\/c b H Q
def vS {c:TE}(g:PE X e r)(f:PE X e c):PE X e (By r c):=λb s d H Q I h=>h.elim (g b s d H Q I) (f b s d H Q I)
def Tp (C:Zs):TE:=λ_ H Q=>∀x d,H x=none->H d=none->d≠x->Q ↑x (upd (upd H d (.own x)) x (.ins C d []))
def uJ (d:PySem.W.makesIn X.K b=true)(n:PySem.W.findIn X.K ↑b "__init__"=some (some (.builtin "object.__init__")))(kp:PySem.W.keepIn X.K ↑b=true)(j:Gl X x)(q:X.mg x\↑b)
 (f:(x==("__debug__":Str))=false:=by decide):PE X (.Call (.Name x p) [] [] pos) (Tp b):=by
 intro g s r H Q I h;rwa[ajX (kj I j q ?_ f)];rwa[PySem.W.callWith_K0 I.dA kp (ald ?_)];let l:=Inv.made (C:=b) I;let k:=h (↥s+ 1) ↥s (I.aP.fresh (al1 _)) (I.aP.fresh (aiS _)) (ajm (akc _));let Y:=PySem.W.makes_of (M:=model X.prog X.w) I.dA d;rwa[HC I.dA d n (λself=>PySem.W.Looks.of_pure (PySem.W.oi_bind self)) ?_]
 let m:((s.heap.push PySem.W.emptyDict).push (PySem.W.instObj b ↥s)).get? (↥s+ 1)\(PySem.W.instObj b ↥s):=by
  have:=ai2 (s.heap.push PySem.W.emptyDict) (o:=PySem.W.instObj b ↥s) rfl
  rwa [akx]at this
 let t1:PySem.W.Looks (model X.prog X.w) ((s.heap.push PySem.W.emptyDict).push (PySem.W.instObj b ↥s)) (typeOf ↑(↥s+ 1)) ↑b:=(PySem.W.Looks.ld m).andThen .now;let i:PySem.W.Looks (model X.prog X.w) ((s.heap.push PySem.W.emptyDict).push (PySem.W.instObj b ↥s)) (isInstance ↑(↥s+ 1) (.type "object")) true:=t1.andThen (Y.top.keeps λc o e=>aiM _ (aiM _ e));rwa[akp PySem.W.oi_plain PySem.W.entry_oi (@PySem.W.check_slot (model X.prog X.w) _ _ _ "object.__init__" "object" "__init__" ↑(↥s+ 1) [] [] _ PySem.W.oi_kind PySem.W.oi_split i (PySem.W.oi_args ↑(↥s+ 1)) ?_)];rwa[aiU (And.intro rfl ⟨↑(↥s+ 1),_,l,rfl,k⟩)]
inductive WU (K:Za1) (xs:Zb) (H:Hp) (Q:VK):Prop
 |mk (x:V) (D:Zs) (t:Zt) (b:Bool):xs=[x,↑D]->jV K H x t->PySem.W.kitOne K t ↑D\b->Q (.bl b) H->WU K xs H Q
end
end L2
namespace L2
def nm (E:Zh)(c:Nat):Nat:=E.getD c 0
def qC (R:Za2)(E:Zh)(a:Nat)(z:Int)(b:Nat):Prop:=∃c d,R c z d/\nm E c=a/\nm E d=b
noncomputable def e9 (x y a:Nat):Nat:=if a=y then x else a
def vT (h:n<m)(E:Zh)(c:Nat):nm (E.map (e9 n m)) c=e9 n m (nm E c):=by
 unfold nm;rw[aiT,aiT,ai6]
 cases E[c]? with
 |some x=>rfl
 |none=>show 0=e9 n m 0;unfold e9;rw[ajb ∅]
def LR (u v:Nat)(W:Za2)(a:Nat)(z:Int)(b:Nat):Prop:=∃c d,W c z d/\e9 u v c=a/\e9 u v d=b
inductive One (ws:Za3) (nr:Nat):Zh->(Za2)->Dt->Zh->(Za2)->Prop
 |meet {E:Zh} {W:Za2} {c u v:Nat} {z:Int}:u<v->E[u]?\u->E[v]?\v->W c z u->W c z v->One ws nr E W (gA c z u v) (E.map (e9 u v)) (LR u v W)
 |rule {E:Zh} {W:Za2} {which k c d:Nat} {word:Zg} {p:Zh} {z:Int}:ws[which]?\word->⇑p=⇑word+ 1->p[0]?=p[⇑word]?->(which<nr\/p[0]?\0)->(∀x∈p,E[x]?\x)->word[k]?\z->p[k]?\c->p[k+ 1]?\d->
  (∀(i a b:Nat) (y:Int),i≠k->word[i]?\y->p[i]?\a->p[i+ 1]?\b->W a y b)->One ws nr E W (ky which p k) E (eP W c z d)
inductive Go (ws:Za3) (nr:Nat):Zh->(Za2)->List Dt->Zh->(Za2)->Prop
 |nil {E:Zh} {W W':Za2}:(∀a z b,W a z b↔W' a z b)->Go ws nr E W [] E W'
 |cons {E E1 E2:Zh} {W W1 W2:Za2} {row:Dt} {ms:List Dt}:One ws nr E W row E1 W1->Go ws nr E1 W1 ms E2 W2->Go ws nr E W (row::ms) E2 W2
section
variable {ws:Za3}{nr:Nat}{E E1 E2:Zh}{W W' W1 W2:Za2}{ms ns:List Dt}
def Go.congr (h:Go ws nr E W ms E1 W1):∀{W':Za2},(∀a z b,W' a z b↔W a z b)->Go ws nr E W' ms E1 W1:=by
 induction h with
 |nil e=>exact λh=>.nil λa z b=>(h a z b).trans (e a z b)
 |cons o _ m=>
  intro W' h
  cases o with
  |meet j c l f k=>exact .cons (.meet j c l ((h^_).mpr f) ((h^_).mpr k)) (m λa z b=>by
   constructor
   ·rintro ⟨g,d,q,r⟩;rwa[g,d,(h^_).mp q,r]
   ·rintro ⟨g,d,q,r⟩;rwa[g,d,(h^_).mpr q,r])
  |rule j c l f k v p u w=>exact .cons (.rule j c l f k v p u λi a b y n x s t=>(h^_).mpr (w i a b y n x s t)) (m λa z b=>by
   unfold eP;rw[h])
def Go.app (h:Go ws nr E W ms E1 W1):∀{E2:Zh} {W2:Za2} {ns:List Dt},Go ws nr E1 W1 ns E2 W2->Go ws nr E W (ms++ns) E2 W2:=by
 induction h with
 |nil e=>exact λg=>g.congr e
 |cons o _ a=>exact λg=>.cons o (a g)
end
def Qr (h:n<m)(a:Nat)(z:Int)(b:Nat):LR n m (qC R B) a z b↔qC R (B.map (e9 n m)) a z b:=by
 constructor
 ·rintro ⟨g,i,⟨d,c,r,rfl,rfl⟩,e,f⟩;rwa[d,c,r,by rw[vT h,e],by rw[vT h,f]]
 ·rintro ⟨d,c,r,e,f⟩;rwa[11,⟨d,c,r,22⟩,by rw[<-vT h,e],by rw[<-vT h,f]]
section
variable {ws:Za3}{nr:Nat}{S S':RS}{pend:Ze}{R:Za2}{ks:Zg}
def nU {S:RS}(wf:S.Wf){c:Nat}(a:c<S.q):S.aY[c]?\(S.ax c):=by
 unfold RS.ax;rw[aiT,aiL ([wf.e]▸a)];rfl
def Tq (l:kx S pend S'):Good S pend R->(∀c z d,R c z d->z∈ks)->∃e,S'.rows=S.rows++e/\Go ws nr S.aY (qC R S.aY) e S'.aY (qC R S'.aY):=by
 induction l with
 |nil S=>exact λ_ _=>⟨[],(ajp _).symm,.nil λ_ _ _=>Iff.rfl⟩
 | @take S S' pend w _ F=>
   intro g r;let⟨g1,_,t,_,q⟩:=g.take r;let⟨e,A,p⟩:=F g1 r;rcases q with ⟨_,j,C⟩|⟨_,c,z,x,y,v,h,E,G,m,j,_,B⟩
   ·rw[tY C]at p;rwa[e,by rw[A,j],p]
   ·let⟨_,o,_,ex⟩:=g.st _ _ _ v;let f:min x y<max x y:=by rcases Nat.lt_or_gt_of_ne m with q|q <;> ext
    let D:(S.takeIn pend w).1.aY=S.aY.map (e9 (min x y) (max x y)):=by
     rwa[aku λi=>?_]
     rw[ai6];cases u:i<S.q
     ·rw[nU g1.wf ([t]▸u),nU g.wf u,B];rfl
     ·rw[aju (by rw[g1.wf.e,t];omega),aju (by rw[g.wf.e];omega)];rfl
    let ix:qC R S.aY c z x:=g.so _ _ _ v;let h:qC R S.aY c z y:=h;let n:=nU g.wf o;let k:=nU g.wf E;rw[ex]at n;rw[G]at k;rwa[⟨gA c z (min x y) (max x y)::e,by rw[A,j,ajy];rfl,.cons (.meet f ?_ ?_ ?_ ?_) ((D ▸ p).congr λa s b=>Qr f a s b)⟩]
    ·rcases alK x y with q|q
     ·rw[ak6 q];rwa[n]
     ·rw[alz q];rwa[k]
    ·rcases alK x y with q|q
     ·rw[alA q];rwa[k]
     ·rw[alT q];rwa[n]
    ·rcases alK x y with q|q
     ·rw[ak6 q];rwa[ix]
     ·rw[alz q];rwa[h]
    ·rcases alK x y with q|q
     ·rw[alA q];rwa[h]
     ·rw[alT q];rwa[ix]
theorem rE {c:Nat->Int->Zi}:∀{w:Zg} {r e:Nat},wk c r w\e->⇑(r::cx c r w)=⇑w+ 1/\(r::cx c r w)[⇑w]?\e/\∀(i:Nat) (y:Int),w[i]?\y->∃a b,(r::cx c r w)[i]?\a/\(r::cx c r w)[i+ 1]?\b/\c a y\b
 |[],r,e,h=>by
  rwa[⟨2,by rw[<-Za0 h];rfl,λi y q=>by simp at q⟩]
 |z::w,r,e,h=>by
  let⟨d,f,j⟩:=vO h;let⟨g,k,l⟩:=rE j;rw[nS f];rwa[⟨by rw[ajf,g];rfl,k,λi y q=>?_⟩]
  cases i with
  |zero=>rwa[r,d,22,by rw[<-Za0 q];rwa[f]]
  |succ i=>exact l i y q
theorem uK (g:Good S [] R):∀{w:Zg} {r e:Nat},wk S.by r w=some e->S.aY[r]?\r->∀x∈r::cx S.by r w,S.aY[x]?\x
 |[],r,e,h,b,x,a=>by rw[aiR.mp a];rwa[b]
 |z::w,r,e,h,b,x,a=>by
  let⟨d,c,i⟩:=vO h;rcases ai3.mp a with rfl|a
  ·rwa[b]
  ·rw[nS c]at a;let⟨_,f,_,j⟩:=g.st _ _ _ c;have:=nU g.wf f;rw[j]at this;rwa[uK g i this x a]
def LV (f:nm B n=n)(e:nm B m=m)(a:Nat)(y:Int)(b:Nat):eP (qC R B) n z m a y b↔qC (eP R n z m) B a y b:=by
 constructor
 ·rintro (⟨g,h,r,c,d⟩|⟨rfl,rfl,rfl⟩|⟨rfl,rfl,rfl⟩)
  ·rwa[g,h,.inl r,c,d]
  ·rwa[11,.inr (.inl ⟨222⟩),f,e]
  ·rwa[11,.inr (.inr ⟨222⟩),e,f]
 ·rintro ⟨g,h,r|⟨rfl,rfl,rfl⟩|⟨rfl,rfl,rfl⟩,c,d⟩
  ·rwa[.inl ⟨g,h,r,c,d⟩]
  ·rwa[.inr (.inl ⟨c.symm.trans f,2,d.symm.trans e⟩)]
  ·rwa[.inr (.inr ⟨c.symm.trans e,2,d.symm.trans f⟩)]
def LW {start:Nat}{word:Zg}(g:Good S [] R)(c:Bs ws nr S n word start m i j z):One ws nr S.aY (qC R S.aY) (ky n ((start::cx S.by start (word.take m))++(j::cx S.by j (word.drop (m+ 1)))) m) S.aY (eP (qC R S.aY) i z j):=by
 let H:m<⇑word:=(aiO.mp c.hz).1;let⟨d,B,G⟩:=rE c.f;let⟨v,C,D⟩:=rE c.r;let lt:⇑(word.take m)=m:=by rw[ajs];ext
 let ld:⇑(word.drop (m+ 1))=⇑word - (m+ 1):=ajM ..;rw[lt]at d B;rw[ld]at v C;let u:=nU g.wf c.s.1;rw[c.s.2]at u;let t:=nU g.wf c.hd.1;rw[c.hd.2]at t;let left:∀h,h<=m->((start::cx S.by start (word.take m))++(j::cx S.by j (word.drop (m+ 1))))[h]?=(start::cx S.by start (word.take m))[h]?:=λh A=>aiZ (by rw[d];omega)
 let right:∀h,((start::cx S.by start (word.take m))++(j::cx S.by j (word.drop (m+ 1))))[m+ 1+ h]?=(j::cx S.by j (word.drop (m+ 1)))[h]?:=λh=>by
  rw[ai1 (by rw[d];omega),d]
  congr 1
  ext
 rwa[.rule c.w (by rw[aiP,d,v];omega) ?_ ?_ (λx k=>?_) c.hz ?_ ?_ λh a b y A w o l=>?_]
 ·rw[left 0 ∅,show ⇑word=m+ 1+ (⇑word - (m+ 1)) by ext,right];rw[C];rfl
 ·rw[left 0 ∅];exact c.n.imp id λe=>by rw[e];rfl
 ·rcases aiY.mp k with k|k
  ·rwa[uK g c.f u x k]
  ·rwa[uK g c.r t x k]
 ·rw[left m (aiS _)];rwa[B]
 ·rw[right 0];rfl
 ·rcases Nat.lt_or_gt_of_ne A with q|q
  ·let⟨F,E,p,s,r⟩:=G h y (by rw[ak1 q];rwa[w]);rw[left h ∅,p]at o;rw[left (h+ 1) ∅,s]at l;obtain rfl:=Za0 o;obtain rfl:=Za0 l;rwa[g.so _ _ _ r]
  ·obtain⟨f,rfl⟩:∃f,h=m+ 1+ f:=⟨h - (m+ 1),3⟩;let⟨F,E,p,s,r⟩:=D f y ([List.getElem?_drop]▸w);rw[right,p]at o;rw[show m+ 1+ f+ 1=m+ 1+ (f+ 1) by ext,right,s]at l;obtain rfl:=Za0 o;obtain rfl:=Za0 l;rwa[g.so _ _ _ r]
def Aq (t:Tr ws nr S S')(C:∀w∈ws,∀z∈w,z∈ks/\-z∈ks):Good S [] R->ig S->(∀a z b,R a z b->z∈ks)->∃p,Good S' [] p/\ig S'/\(∀a z b,p a z b->z∈ks)/\∃j,S'.rows=S.rows++j/\Go ws nr S.aY (qC R S.aY) j S'.aY (qC p S'.aY):=by
 induction t with
 |refl=>exact λg w k=>⟨R,g,w,k,[],(ajp _).symm,.nil λ_ _ _=>Iff.rfl⟩
 |step _ f u F=>
  rename_i l H h word start m c d z _;intro g x k;let⟨D,g1,n,v,j,E,o⟩:=F g x k;let s:=C word (aiN f.w) z (aiN f.hz)
  let i:∀a y b,eP D c z d a y b->y∈ks:=by
   rintro a y b (r|⟨_,e,_⟩|⟨_,e,_⟩)
   ·rwa[v _ _ _ r]
   ·rw[e];rwa[s.1]
   ·rw[e];rwa[s.2]
  let gl:=g1.lay z f.hc.1 f.hd.1 (l.rows++[ky h ((start::cx l.by start (word.take m))++(d::cx l.by d (word.drop (m+ 1)))) m]);let⟨A,G,_⟩:=u.all gl i ⟨n.a,n.b,n.c⟩;let⟨q,B,go2⟩:=Tq (ws:=ws) (nr:=nr) u gl i;rwa[⟨_,A,G,i,j++(_::q),5,o.app (.cons (LW g1 f) (go2.congr λa y b=>LV f.hc.2 f.hd.2 a y b))⟩];rw[B];show (l.rows++[_])++q=_;rw[E,ajy,ajy];rfl
end
end L2
namespace L2
open PySem PySem.Spec PyProof.Rows
def XJ (a:Program)(w:World)(A:Around)(env:Env):Zr->(Bool->Zu->Prop)->Zu->Prop
 |[],K,s=>K true s
 |c::_,K,s=>(a<|>w) A (isTrue c env (eval c env)) K (λ_ _=>False) s
def Bz {R:Result->Zu->Prop}{elt target iter:Expr}{cs:Zr}{scope:Scope}{it acc:Zt}{env:Env}(y:⇑cs<=1)(I:Nat->Zu->Prop)
 (turn:∀n s,I n s->(P<|>w) A (pyNext it) (λr f=>match r with
  |none=>R (.ok .next) f
  |some v=>(P<|>w) A (letOwnedTupleGo target it v) (λ_ j=>(P<|>w) A (assign target env v) (λ_ l=>XJ P w A env cs (λb k=>
   match b with
   |true=>(P<|>w) A (eval elt env) (λx d=>(P<|>w) A (call (.builtin "list.append") [acc,x]) (λ_ i=>∃m,m<n/\I m i) (λ_ _=>False) d) (λ_ _=>False) k
   |false=>∃m,m<n/\I m k) l) (λ_ _=>False) j) (λ_ _=>False) f) (λ_ _=>False) s)
 (n:Nat) (h:I n s):codeAny (model P w) A (.compLoop (.ListComp elt [⟨target,iter,cs,(0)⟩] scope p) 0 it acc env) R s:=by
 rwa[codeAny_loop rfl I (λn s u=>wpAny_noted ?_) n h];rcases cs with _|⟨c,_|_⟩;rw[compTurn_list1]
 rotate_left 2
 cbv
 all_goals
  rwa[aiK (alM (aiK (ajZ (turn n s u) (λr f g=>?_) λ_ _ e=>e.elim)))]
  cases r with
  |none=>exact aiU g
  |some v=>
   rwa[aiK (ajZ g (λ_ j t=>aiK (ajZ t (λ_ l a=>?_) λ_ _ e=>e.elim)) λ_ _ e=>e.elim)]
   try rwa[aiK (wpAny_tests_one (ajZ a (λok d a=>?_) λ_ _ e=>e.elim))];ext ok;rwa[aiU ⟨2,a⟩]
   rwa[aiK (aiK (ajZ a (λx d q=>aiK (ajZ q (λ_ i o=>aiU (aiU ⟨2,o⟩)) λ_ _ e=>e.elim)) λ_ _ e=>e.elim))]
def NQ (X:Cx):Zr->TT->Prop
 |[],a=>a=λ_ H Q=>Q true H
 |c::_,a=>PT X c a
def Qs {e:TT}{Q:Bool->Hp->Prop}{K:Bool->Zu->Prop}(h:NQ X C e)(i:X.xe=λ_ _=>False)(I:Inv X o D H s)(q:e D H Q)(k:∀b a d,Inv X o D d a->Q b d->K b a):XJ X.prog X.w X.A X.env C K s:=
 match C,h with
 |[],h=>by
  rw[h]at q;rwa[k true s H I q]
 |c::_,h=>by
  have:=h o s D H Q I q;rw[i]at this;rwa[bp this λb a ζ=>?_];let⟨d,f,g⟩:=ζ;rwa[k b a d f g]
section
variable {X:Cx}{elt iter vJ:Expr}{x:Str}{px pos:Pos}{scope:Scope}{cl:List (Str×Zs)}{fns:Zp}{ixs:Zh}{wi:TI}{tt:TT}{te:TE}
theorem zl {cs:Zr}{use:Option (Zt->Sem Unit)}{RQ:Zt->Zu->Prop}{Q:VK}(hl:⇑cs<=1)(hc:X.calm=true)(hi:PI X (.Name x px) iter wi)(S:gN X x fns ixs scope cl)
 (ht:∀(C:Zs) (s:Zu) (H:Hp) (ex:Zn),NQ (dE X (x::fns) scope cl C s H ex) cs tt) (he:∀(C:Zs) (s:Zu) (H:Hp) (ex:Zn),PE (dE X (x::fns) scope cl C s H ex) elt te)
 (hs:∀x,foldedSetIterable iter X.env x=pure x) (I:Inv X o D H s) (h:oQ wi (i7 ixs) tt te D H Q)
 (fin:∀(C k:Zs) (H3:Hp) (ys:Zb) (s4:Zu) (m:Str->Zl),s4.heap.Ns C m->(∀G,Heap.SameBut C s4.heap G->Inv X o D (upd H3 k (.lst ys)) (s4<*G))->upd H3 k (.lst ys) C=none->X.env.locals≠C->(∀z c,X.env.cells.lookup z\c->c≠C)->X.eK.heap.objs.size<=C->(∀g∈X.pn++o,g.1≠C)->Q ↑k (upd H3 k (.lst ys))->compPost (model X.prog X.w) X.A X.xe use RQ ↑k C (.ok .next) s4):
 X⁻¹ X.A (comprehension (.ListComp elt [⟨.Name x px,iter,cs,(0)⟩] scope pos) scope X.env p (newList []) false (eval iter X.env) use) RQ X.xe s:=by
 rwa[wpAny_comprehension_free rfl hs S.aa6 S.kind S.names (bp (hi o s D H _ I h) λv s1 h1=>bp h1 λitv s2 h2=>?_)];let⟨it,Y,tn,J,H2,e,A,T,Bv,f2,W,⟨m0,w0⟩,turn⟩:=h2;subst e
 let E:∀b∈Y,b<↥s2:=λb t=>by
  let⟨f,ho,_⟩:=T.obj _ _ Bv b t;rwa[ai9 ho]
 rwa[ajJ (wpAny_newFunctionEnv S.cell (by intro y hy;simp at hy) (λLX O N=>?_) S.kind)];generalize BD:s2.heap.push { cls:=.type "list",dict:=none,data:=.seq ([]:Zk).toArray }=F at O N ⊢;generalize hD:↥s2=k at E ⊢;let hC:F.objs.size=k+ 1:=by rw[<-BD,akx,hD]
 generalize hCe:F.objs.size=C at hC O N ⊢;let w:k<C:=∅
 let IX:k≠C:=ajm w;let L:∀b u,s2•b\u->F.get? b\u:=λb u q=>by rw[<-BD];rwa[aiM _ q]
 let NR:∀{b u},s2•b\u->b<k:=λq=>by rw[<-hD];rwa[ai9 q]
 let U:∀b u,F.get? b\u->LX.get? b\u:=λb u q=>
  N.extBut b u (ajm (ajk (ai9 q) (alF hCe))) (aiM _ q)
 let hDo:F.get? k\{ cls:=.type "list",dict:=none,data:=.seq ([]:Zk).toArray }:=by rw[<-BD,<-hD];rwa[ai2 _ rfl]
 let I3:Inv X o D H2 (s2<*F):=A.kept (t':=s2.toks) L;let NT:H2 k=none:=A.aP.fresh ∅;let hnC:H2 C=none:=A.aP.fresh ∅
 let LY:∀b∈k::Y,b∉cS X.stack:=λb t z=>by
  rcases ai3.mp (A.Ay b z) with e|z
  ·rcases ai3.mp t with Z|t
   ·rwa[absurd A.lt (by rw[<-e,Z,<-hD];rwa[aka _])]
   ·rwa[(f2 b t).2.1 e]
  ·rcases ai3.mp t with Z|t
   ·rwa[A.FV (by rw[Z,<-hD];rwa[aiS _]) z]
   ·rwa[(f2 b t).2.2.1 z]
 let lP:∀y c,cl.lookup y\c->∀b∈k::Y,c≠b:=λy c q b t z=>by
  let⟨v,hv⟩:=A.cell y c (S.sub y c q);rcases ai3.mp t with Z|t
  ·rwa[absurd hv.lt (by rw[z,Z,<-hD];rwa[aka _])]
  ·rwa[(f2 b t).2.2.2.2.1 y c (S.sub y c q) z]
 let' R:Cx:=dE X (x::fns) scope cl C (s2<*F) H2 (k::Y)
 let ok:R.Ok:={
  mod:=A.ok.mod
  kind:=S.kind
  glob:=A.ok.glob
  blt:=A.ok.blt
  above:=by show F.objs.size<=C;ext
  inj:=λy z c q1 q2=>A.ok.inj y z c (S.sub^q1) (S.sub^q2)
  has:=S.has
  Ax:=λy c q=>nomatch q
  hd:=A.ok.hd
  frames:=A.ok.frames
  Eo:=.inl rfl
  M0:=λb t=>⟨by
   rcases ai3.mp t with Z|t
   ·rw[Z];rwa[IX]
   ·rwa[ajm (alI (E b t) w)],λy c q=>lP y c q b t⟩
  bs:=I3.bs
  qV:=ai0 I3.ok.qV I3.sz
  ux:=λb f q t=>by
   rcases ai3.mp t with Z|t
   ·rwa[absurd (NR (A.bs b f q).1) (by rw[Z];rwa[aka _])]
   ·rcases (f2 b t).2.2.2.1 with z|z
    ·rwa[A.ok.ux b f q z]
    ·rwa[absurd (ai9 (A.ok.bs b f q).1) (Nat.not_lt.mpr z)]
  xK:=LY
  jn:=I3.stack
  tO:=I3.oK }
 let start:∀(v0:Zc),v0=none->Inv R [(k,{ cls:=.type "list",dict:=none,data:=.seq ([]:Zk).toArray })] (v0::i7 ixs D) H2 { s2 with heap:=LX,toks:=s2.toks+ ⇑([]:List (Str×Zt)) }:=λv0 hv0=>{
  ok:=ok
  os:=rfl
  bare:=A.bare
  base:=Un.kept U
  loc:=⟨_,O,λi y v e1 Z e3=>by
   cases i with
   |zero=>rw[hv0]at Z;ext Z
   |succ j=>
    let e1':fns[j]?\y:=e1
    let Ts:(i7 ixs D)[j]?\(some v):=Z
    let⟨i,Tt,hi2,hk,c,rB,NP⟩:=S.at_ j y e1';unfold i7 at Ts;rw[ai6,Tt]at Ts
    let e3':D[i]?\(some v):=by
     let z:(D[i]?).join\v:=Za0 Ts
     cases q:D[i]? with
     |none=>rw[q]at z;ext z
     |some f=>rw[q]at z;rw[show f=some v from z]
    let⟨m,_,hl⟩:=A.loc;let⟨u,r,l⟩:=hl i y v hi2 e3' (hk.elim (λz=>.inr (.inl z)) λz=>.inr (.inr z));rwa[⟨u,r,.inr ⟨NP,c,rB,5⟩⟩];rcases l with ⟨z,_⟩|⟨_,c',hc',WV⟩
    ·rcases hk with hk|hk <;> cbv
    ·have:c'=c:=Za0 (hc'.symm.trans (S.sub^rB));subst this;let⟨f,ho,hd⟩:=WV;rwa[f,U^L^ho,hd]⟩
  cell:=λy c q=>by
   let⟨v,f,ho,hd⟩:=A.cell y c (S.sub y c q);rwa[v,f,U^L^ho,hd]
  free:=hnC
  gR:=λy c q=>A.gR y c (S.sub y c q)
  pin:=λg hp=>by
   let BE:g=(k,{ cls:=.type "list",dict:=none,data:=.seq ([]:Zk).toArray }):=by simpa [R,dE] using hp
   subst BE;rwa[U^hDo,NT,IX,LY k (ai7 ..),λv z=>nomatch z]
  aP:=(A.aP.kept L).kept U
  len:=by show ⇑(v0::i7 ixs D)=⇑(x::fns);simp[i7,S.len] }
 let Tv:∀{H':Hp} {P:List (Zs×Obj)},(∀b∈Y,H' b=none)->(∀g∈P,g.1=k)->∀b∈Y,pT R P H' b:=λ{H' P} hn hp b t=>
  ⟨hn b t,ajm (alI (E b t) w),LY b (ajo _ t),.inl (ajo _ t),λy c q=>lP y c q b (ajo _ t),λg q=>by
   let q':g∈P:=by simpa [R,dE] using q
   rw[hp g q'];rwa[aj2 (E b t)]⟩
 let loop:codeAny (model X.prog X.w) X.A (.compLoop (.ListComp elt [⟨.Name x px,iter,cs,(0)⟩] scope pos) 0 ↑it ↑k (compEnvC scope cl C X.env))
  (compPost (model X.prog X.w) X.A X.xe use RQ ↑k C) { s2 with heap:=LX,toks:=s2.toks+ ⇑([]:List (Str×Zt)) }:=by
  refine Bz hl (λn s'=>∃(i:Nat) (ys:Zb) (M:Zk) (nn:Nat) (v0:Zc) (H':Hp),Inv R [(k,{ cls:=.type "list",dict:=none,data:=.seq M.toArray nn })] (v0::i7 ixs D) H' s'/\tn i s'.heap/\(∀b∈Y,H' b=none)/\Vals ys M/\W i n ys H') ?_ m0
   ⟨(0),[],[],(0),none,H2,start none rfl,T.keep _ _ _ Bv λb _ f q=>U^L^q,λb t=>(f2 b t).1,.nil,w0⟩
  rintro n s3 ⟨i,ys,M,nn,v0,H3,J3,XM,XQ,vv,w3⟩
  let LZ:∀g∈([(k,({ cls:=.type "list",dict:=none,data:=.seq M.toArray nn }:Obj))]:List (Zs×Obj)),g.1=k:=λg hp=>by
   cbv
  rcases turn i n ys H3 w3 with ⟨stop,hlen,q⟩|⟨go,hlen,step⟩
  ·-- the end
   rwa[bp (T.done R rfl rfl rfl hc i _ s3 _ H3 _ J3 (Tv XQ LZ) XM stop) λr s4 ζ=>?_];let⟨hr,J4⟩:=ζ
   subst hr;let⟨m,hn,_⟩:=J4.loc;let⟨gD,nD,_,_,_⟩:=J4.pin (k,{ cls:=.type "list",dict:=none,data:=.seq M.toArray nn }) (by simp[R,dE]);let B:=J4.base
   let inv:∀G,Heap.SameBut C s4.heap G->Inv X o D (upd H3 k (.lst ys)) (s4<*G):=λG hsb=>by
    let kC:∀b u,b≠C->s4•b\u->G.get? b\u:=λb u t q=>(hsb.2 b t).trans q
    let ne:∀{b f},s2•b\f->b≠C/\b≠k:=λq=>⟨ajm (alI (NR q) w),ajm (NR q)⟩
    let vU:∀{b f},s2•b\f->b∉Y->b∉k::Y:=λq hx z=>(ai3.mp z).elim (ne q).2 hx
    let uu:Un (cS X.stack) Y H2 (upd H3 k (.lst ys)) s2.heap G:={
     keep:=λb f q n t hx=>kC b f (ne q).1 (B.keep b f (L b f q) n t (vU q hx))
     slot:=λb f q n t hx=>by
      let⟨sl,e⟩:=B.slot b f (L b f q) n t (vU q hx);rwa[sl,kC b _ (ne q).1 e]
     free:=λb f q n hx=>by rw[ak (ne q).2];rwa[B.free b f (L b f q) n (vU q hx)]
     there:=λb f q hx=>by
      let⟨o',e⟩:=B.there b f (L b f q) (vU q hx);rwa[o',kC b _ (ne q).1 e]
     iq:=λb xs q=>by rw[ak (aw q NT)];rwa[B.iq b xs q]
     gQ:=λb f xs q=>by rw[ak (aw q NT)];rwa[B.gQ b f xs q]
     iw:=λb ps q=>by
      let⟨more,e⟩:=B.iw b ps q;rwa[⟨more,[ak (aw q NT)]▸e⟩ ]}
    let aP:dC X.prog X.w (upd H3 k (.lst ys)) G:=λb u e=>by
     cases t:b=k
     ·subst t;rw[aj]at e;ext e;rwa[hlen,M,nn,vv,kC _ _ IX gD]
     ·rw[ak t]at e;refine(J4.aP b u e).fE (λc v hc q=>kC c v ?_ q) (λc q=>[ak (aw q nD)]▸q) λc xs q=>by rw[ak (aw q nD)];rwa[q]
      let fC:H3 C=none:=J4.free
      cbv
    rwa[A.FW (s':=(s4<*G)) J4.os uu aP J4.bare (λb t=>⟨(f2 b t).2.2.2.1,(f2 b t).2.1,(f2 b t).2.2.2.2.1,(f2 b t).2.2.2.2.2⟩)]
   let ab:∀{b f},s2•b\f->b≠C:=λq z=>absurd (NR q) ([z]▸Nat.not_lt.mpr (akz w))
   rwa[fin C k H3 ys s4 m hn inv ([ak (ajR IX)]▸J4.free) (λz=>?_) (λz c hz=>?_) (ai0 (by have:=A.sz;rw[hD]at this;rwa[this]) (akz w)) (λg hp=>ab (A.pin g hp).1) (q k nD)]
   ·let h1:=A.lt
    cbv
   ·let⟨v,f,ho,_⟩:=A.cell z c hz;rwa[ab ho]
  ·-- a turn
   rwa[bp (T.item R rfl rfl rfl hc i _ s3 _ H3 _ J3 (Tv XQ LZ) XM go) λr s4 ζ=>?_];let⟨u,hr,h4⟩:=ζ
   subst hr;rwa[bp h4 λ_ s5 ζ=>?_];let⟨xv,H5,J5,r5,y5,IY,IZ⟩:=ζ
   let J5':=J5.pinned (Tv IZ LZ) (T.obj^IY);let hg:PG R (.Name x px) (lX 0):=Er (X:=R) (i:=0) S.nd rfl (.inl (tV S.own)) (.inr (tV S.own));rwa[bp (hg _ s5 _ H5 xv u (λ e8 H'=>e8=some xv::i7 ixs D/\H'=H5) J5' r5 ⟨22⟩) λ_ s6 ζ=>?_];let⟨σ6,H6,J6,e6,e6'⟩:=ζ
   subst e6 e6';rwa[Qs (ht C (s2<*F) H2 (k::Y)) rfl J6 (step xv H6 y5) λbt XS Tw I0 q6=>?_]
   cases bt with
   |true=>
    rwa[bp (he C (s2<*F) H2 (k::Y) _ XS _ Tw _ I0 q6) λyv s7 ζ=>?_];let⟨y,H7,J7,r7,m',BF,w7⟩:=ζ
    let⟨gD,nD,_,_,_⟩:=J7.pin (k,{ cls:=.type "list",dict:=none,data:=.seq M.toArray nn }) (by simp[R,dE]);let Tx:tn (i+ 1) s7.heap:=T.keep _ _ _ IY λb t f e=>(J7.pin (b,f) (aiV _ (aiV _ (iL t e)))).1
    let Tz:∀b∈Y,H7 b=none:=λb t=>by
     let⟨f,e,d⟩:=T.obj _ _ IY b t;rwa[(J7.pin (b,f) (aiV _ (aiV _ (iL t e)))).2.1]
    let J7':Inv R [] (some xv::i7 ixs D) H7 s7:=J7.jy λg hp=>nomatch hp
    rwa[wpAny_list_append_plain (hsz:=by rw[ai8,<-⇑vv];omega) ⟨nn,gD⟩ λh8 pl8 XT=>?_]
    let⟨n8,g8⟩:=pl8
    let J8:Inv R [] (some xv::i7 ixs D) H7 (s7<*h8):=J7'.turned (t':=s7.toks) (it:=k) (λb f t e=>(XT.2 b t).trans e) nD (IX) (.inl (ai7 ..))
     (λy c q=>lP y c q k (ai7 ..)) (λg hp=>by simp[R,dE]at hp)
    rwa[⟨m',BF,i+ 1,ys++[y],M++[yv],n8,some xv,H7,J8.jy λg hp=>?_,5,Tz,vv.append (.cons r7 .nil),w7⟩]
    ·cbv
    ·rwa[T.keep _ _ _ Tx λb t f e=>(XT.2 b (ajm (E b t))).trans e]
   |false=>
    let⟨m',BF,w7⟩:=q6;let⟨gD,nD,_,_,_⟩:=I0.pin (k,{ cls:=.type "list",dict:=none,data:=.seq M.toArray nn }) (by simp[R,dE]);let Tx:tn (i+ 1) XS.heap:=T.keep _ _ _ IY λb t f e=>(I0.pin (b,f) (aiV _ (aiV _ (iL t e)))).1
    let Tz:∀b∈Y,Tw b=none:=λb t=>by
     let⟨f,e,d⟩:=T.obj _ _ IY b t;rwa[(I0.pin (b,f) (aiV _ (aiV _ (iL t e)))).2.1]
    rwa[⟨m',BF,i+ 1,ys,M,nn,some xv,Tw,I0.jy λg hp=>?_,Tx,Tz,vv,w7⟩]
    cbv
 rwa[codeAny_compStart_list loop (T.self _ 0 _ _ _ (T.keep _ _ _ Bv λb _ f q=>U^L^q) loop)]
def BG {cs:Zr}(e:⇑cs<=1)(k:X.calm=true)(g:PI X (.Name x px) iter wi)(S:gN X x fns ixs scope cl)(d:∀(C:Zs) (s:Zu) (H:Hp) (ex:Zn),NQ (dE X (x::fns) scope cl C s H ex) cs tt)
 (j:∀(C:Zs) (s:Zu) (H:Hp) (ex:Zn),PE (dE X (x::fns) scope cl C s H ex) elt te) (f:∀x,foldedSetIterable iter X.env x=pure x):PE X (.ListComp elt [⟨.Name x px,iter,cs,(0)⟩] scope pos) (oQ wi (i7 ixs) tt te):=by
 intro c s o H Q I h;rwa[zl e k g S d j f I h λC D n ys l m i inv _ _ _ _ _ q=>⟨m,i,λa b=>⟨↑D,_,inv a b,2,q⟩⟩]
def tZ {cs:Zr}{a:Pos}(L:⇑cs<=1)(P:X.N.Nodup)(i:X.N[n]?\f)(M:Loc X.env.scope f)(T:X.calm=true)(O:PI X (.Name x px) iter wi)(S:gN X x fns ixs scope cl)(B:∀(C:Zs) (s:Zu) (H:Hp) (ex:Zn),NQ (dE X (x::fns) scope cl C s H ex) cs tt)
 (R:∀(C:Zs) (s:Zu) (H:Hp) (ex:Zn),PE (dE X (x::fns) scope cl C s H ex) elt te) (N:∀x,foldedSetIterable iter X.env x=pure x) (r:swapsWith (.ListComp elt [⟨.Name x px,iter,cs,(0)⟩] scope pos) (some (.Name f p)) a.line X.env=pure true)
 (l:X.fn f=true\/X.env.scope.names.lookup f=some .local):PS X (.Assign [.Name f p] (.ListComp elt [⟨.Name x px,iter,cs,(0)⟩] scope pos) a) (xN (oQ wi (i7 ixs) tt te) (lX n)):=by
 intro d s σ H U I h;rw[exec_Assign_Name_used _ _ _ _ r];rwa[aiK (alM (aiK ?_))];rwa[aiK (ajZ (zl (RQ:=λ_ w=>SP X d U .next w) L T O S B R N I h λC D Z ys V m Q inv t A z sz J q=>?_) (λ_ w F=>aiU (aiU F)) λ_ _ e=>e)];rwa[wpAny_assign_Name (yN (inv _ ⟨2,λ_ _=>rfl⟩) P i M (v:=↑D) rfl (λs5 G c=>?_) l)];let⟨y,j,k⟩:=c
 let g:C≠y:=by
  rcases k with e|e
  ·cbv
  ·rwa[ajR (z f y e)]
 rwa[⟨m,Q.sameBut j g,λh6 u=>?_⟩];rwa[11,G.turned (t':=s5.toks) (it:=C) (λb o E e=>(u.2 b E).trans e) t (ajR A) (.inr sz) z J,q]
def iD (c:X.calm=true)(d:PI X (.Name x px) iter wi)(S:gN X x fns ixs scope cl)
 (a:∀(C:Zs) (s:Zu) (H:Hp) (ex:Zn),PE (dE X (x::fns) scope cl C s H ex) elt te)
 (b:∀x,foldedSetIterable iter X.env x=pure x:=by intro _;rfl):
 PE X (.ListComp elt [⟨.Name x px,iter,[],(0)⟩] scope pos) (Nm wi (i7 ixs) te):=BG (cs:=[]) ⋯ c d S (λ_ _ _ _=>rfl) a b
def vV (e:X.calm=true)(b:PI X (.Name x px) iter wi)(S:gN X x fns ixs scope cl)
 (c:∀(C:Zs) (s:Zu) (H:Hp) (ex:Zn),PT (dE X (x::fns) scope cl C s H ex) vJ tt) (a:∀(C:Zs) (s:Zu) (H:Hp) (ex:Zn),PE (dE X (x::fns) scope cl C s H ex) elt te)
 (d:∀x,foldedSetIterable iter X.env x=pure x:=by intro _;rfl):
 PE X (.ListComp elt [⟨.Name x px,iter,[vJ],(0)⟩] scope pos) (oQ wi (i7 ixs) tt te):=BG (cs:=[vJ]) (aiS _) e b S c a d
def kK {iy:Nat}{a:Pos}(i:X.N.Nodup)(c:X.N[iy]?\f)(g:Loc X.env.scope f)(j:X.calm=true)(k:PI X (.Name x px) iter wi)(S:gN X x fns ixs scope cl)
 (e:∀(C:Zs) (s:Zu) (H:Hp) (ex:Zn),PE (dE X (x::fns) scope cl C s H ex) elt te)
 (h:∀x,foldedSetIterable iter X.env x=pure x:=by intro _;rfl) (d:swapsWith (.ListComp elt [⟨.Name x px,iter,[],(0)⟩] scope pos) (some (.Name f p)) a.line X.env=pure true:=by rfl)
 (b:X.fn f=true\/X.env.scope.names.lookup f=some .local:=by trivial):
 PS X (.Assign [.Name f p] (.ListComp elt [⟨.Name x px,iter,[],(0)⟩] scope pos) a) (xN (Nm wi (i7 ixs) te) (lX iy)):=tZ (cs:=[]) ⋯ i c g j k S (λ_ _ _ _=>rfl) e h d b
def zS {iy:Nat}{a:Pos}(j:X.N.Nodup)(c:X.N[iy]?\f)(g:Loc X.env.scope f)(k:X.calm=true)(l:PI X (.Name x px) iter wi)(S:gN X x fns ixs scope cl)
 (h:∀(C:Zs) (s:Zu) (H:Hp) (ex:Zn),PT (dE X (x::fns) scope cl C s H ex) vJ tt) (e:∀(C:Zs) (s:Zu) (H:Hp) (ex:Zn),PE (dE X (x::fns) scope cl C s H ex) elt te)
 (i:∀x,foldedSetIterable iter X.env x=pure x) (d:swapsWith (.ListComp elt [⟨.Name x px,iter,[vJ],(0)⟩] scope pos) (some (.Name f p)) a.line X.env=pure true)
 (b:X.fn f=true\/X.env.scope.names.lookup f=some .local):
 PS X (.Assign [.Name f p] (.ListComp elt [⟨.Name x px,iter,[vJ],(0)⟩] scope pos) a) (xN (oQ wi (i7 ixs) tt te) (lX iy)):=tZ (cs:=[vJ]) (aiS _) j c g k l S h e i d b
end
def TrD (h base:Heap)(e:Zs)(cls:Zt)(g:Zo)(f:Zt):Prop:=
 ∃a b T d c,h.get? e\a/\(a.cls=cls/\a.dict=g)/\a.data=.fields b/\b[1]?\↑T/\base.get? T=none/\T≠e/\h.get? T\d/\d.data=.fields c/\c[3]?\f
def lI (base:Heap)(l:Zq)(e:Zs)(cls:Zt)(b:Zo)(a:Zt)(h:Heap):Prop:=base.StaysIn h/\base.get? e=none/\h.FunFrames base l/\TrD h base e cls b a
def zo (f:Zm->Zm)(o:Obj):(Obj.mapFields f o).dict=o.dict:=by
 let⟨a,b,d,e⟩:=o;cases d <;> rfl
section
variable {M:Model}{A:Around}{E:Zt->Zu->Prop}{s:Zu}{base:Heap}{env:Env}{outer:Zq}{L e:Zs}{cls:Zt}{dx:Zo}
theorem I7 {x:Obj}{u:Zm}{head:Zt}{p:Bool}(G:A.frames\(env::outer))(F:s.heap.FunFrames base (env::outer))(R:env.frame\L)
 (O:s•e\x) (I:base.StaysIn s.heap) (y:base.get? e=none) (C:x.data=.fields u) (z:1<u.size)
 (h:∀H,lI base (env::outer) e x.cls x.dict (rawInt L) H->s.heap.UpToSlots H->U () (s<*H)):
 wpAny M A (do let a <-frameOf env;let pl <-entryPlaceOf L p;let b <-EntryCells.newEntry head a .none (rawInt L) .none pl;setField ↑e 1 b) U E s:=by
 let w:e∉(env::outer).filterMap (·.frame):=λN=>by
  let⟨_,o,D,i⟩:=F.mem N;rw[O]at D;injection D with D;subst D;rwa[i u C]
 rwa[aiK (wpAny_frameOf_fun G F R λc f=>?_)];rwa[aiK (wpAny_entryPlaceOf λpl v=>?_)];unfold EntryCells.newEntry newFields;rwa[aiK (ajJ ?_ (v.sizeOk5 _ _ _ _ _))];let l:c.get? e\x:=(f.2.1 e w).trans O;let k:base.StaysIn c:=λb o g=>(f.2.1 b λN=>by rw[(F.mem N).1]at g;ext g).trans (I b o g)
 let m:=aiM (h:=c) { cls:=.type "traceback",dict:=none,data:=.fields ([head,↑L,.none,rawInt L,.none]++(if pl.isEmpty then List.replicate 6 Value.none else pl)).toArray } l;rwa[akT m C z ?_];let B:c.objs.size≠e:=aj2 (ai9 l);let n:=akk C (·.setIfInBounds 1 (Value.ref c.objs.size));let t:=ajB (Obj.mapFields (·.setIfInBounds 1 (Value.ref c.objs.size))) m (akR n)
 let r:=(ajC (c.push { cls:=.type "traceback",dict:=none,data:=.fields ([head,↑L,.none,rawInt L,.none]++(if pl.isEmpty then List.replicate 6 Value.none else pl)).toArray })
  (Obj.mapFields (·.setIfInBounds 1 (Value.ref c.objs.size))) (ajR B)).trans (ai2 c rfl)
 let keep:∀b o,b≠e->c.get? b\o->_\o:=λb o P j=>(ajC (c.push { cls:=.type "traceback",dict:=none,data:=.fields ([head,↑L,.none,rawInt L,.none]++(if pl.isEmpty then List.replicate 6 Value.none else pl)).toArray }) (Obj.mapFields (·.setIfInBounds 1 (Value.ref c.objs.size))) (ajR P)).trans (aiM _ j)
 let d:∀b o,s•b\o->(∀u,o.data≠.fields u)->b≠e:=λb o j i q=>by
  rw[q,O]at j;injection j with j;subst j;rwa[i u C]
 rwa[h _ ⟨λb o g=>keep b o (λq=>by rw[q,y]at g;ext g) (k b o g),y,F.of_keeps λb o j i=>?_,5⟩ λb o j i=>?_]
 ·let⟨Q,J⟩:=f.2.2 b o j;rwa[_,keep b _ (d b o j i) J,2]
 ·rwa[11,c.objs.size,11,t,⟨Obj.cls_mapFields _ _,zo _ _⟩,n,by simp[z],k.fresh,B,r,2,by first|(simp;done)|(rcases v with rfl|⟨_,_,_,_,_,_,_,rfl⟩ <;> simp)]
 ·let⟨Q,J⟩:=f.2.2 b o j;rwa[Q,keep b _ (d b o j i) J]
def TB {z:Obj}{r:Zm}{n:Obj}{k:Zm}{l:Zq}(y:base.StaysIn s.heap)(x:base.get? e=none)(D:s.heap.FunFrames base l)
 (G:s•e\n) (H:n.cls=cls/\n.dict=dx) (B:n.data=.fields k) (C:k[1]?\↑a) (m:base.get? a=none) (p:a≠e) (w:s•a\z) (g:z.data=.fields r) (F:r[3]?\v)
 (h:∀t,lI base l e cls dx u t->s.heap.UpToSlots t->U () (s<*t)):wpAny M A (setField ↑a 3 u) U E s:=by
 let i:3<r.size:=(aks.mp F).1;let other:∀b,b≠a->(s.heap.update a (Obj.mapFields (·.setIfInBounds 3 u))).get? b=s•b:=λb d=>ajC^ajR d
 let c:∀b o,s•b\o->(∀k,o.data≠.fields k)->b≠a:=λb o d f q=>by
  rw[q,w]at d;injection d with d;subst d;rwa[f r g]
 rwa[akT w g i (h _ ⟨λb o j=>(other b λq=>by rw[q,m]at j;ext j).trans (y b o j),x,D.of_keeps λb o d f=>⟨o,(other b (c b o d f)).trans d,2⟩,5⟩ λb o d f=>⟨o.slots,(other b (c b o d f)).trans d⟩)]
 rwa[n,k,a,11,(other e (ajR p)).trans G,H,B,C,m,p,ajB _ w (akR (akk g _)),akk g _,by simp[i]]
def vW {l:Zq}(p:lI base l e cls dx v s.heap)(m:∀c,lI base l e cls dx .none c->s.heap.UpToSlots c->U () (s<*c)):wpAny M A (setFlight ↑e none) U E s:=by
 let⟨h,f,o,u,t,T,r,w,k,a,i,j,d,g,n,b,q⟩:=p;unfold setFlight;rwa[aiK (ajS k i j ?_)];rw[ajg (show (Value.ref T !=Value.none)=true from by simp)];rwa[TB h f o k a i j d g n b q m]
def NV (g:A.frames\(env::outer))(q:env.frame\L)(l:lI base (env::outer) e cls dx .none s.heap)
 (x:∀d,lI base (env::outer) e cls dx (rawInt L) d->s.heap.UpToSlots d->U () (s<*d)):wpAny M A (noteFrame ↑e env) U E s:=by
 let⟨b,a,k,N,J,T,I,O,u,⟨rfl,rfl⟩,n,p,h,j,o,c,t⟩:=l;unfold noteFrame;simp only[q];rwa[aiK (ajS u n p ?_)];rw[ajg (show (Value.ref T !=Value.none)=true from by simp)];rwa[aiK (ajS o c t ?_)];rw[ajb (show ¬((Value.none==rawInt L)=true) from by simp[rawInt])];rwa[aiK (TB b a k u ⟨22⟩ n p h j o c t λw H z=>?_)];let⟨b,a,k,B,y,P,G,F,m,⟨D,v⟩,f,i,_⟩:=H;rwa[I7 (s:=(s<*w)) g k q m b a f (aks.mp i).1 λd r C=>?_]
 rw[D,v]at r;rwa[x d r (z.trans C)]
def Qt (b:A.frames\(env::outer))(f:env.frame\L)(c:lI base (env::outer) e cls dx .none s.heap)
 (m:∀a,lI base outer e cls dx .none a->s.heap.UpToSlots a->U () (s<*a)):wpAny M A (leaving env ↑e) U E s:=by
 unfold leaving;rwa[aiK (NV b f c λk h n=>vW (s:=(s<*k)) h λi ζ j=>?_)];let⟨d,g,⟨11,k3⟩,l⟩:=ζ;rwa[m i ⟨d,g,k3,l⟩ (n.trans j)]
def L0 {b:Obj}{i:Zm}(c:A.frames\(env::outer))(r:s.heap.FunFrames base (env::outer))(j:env.frame\L)
 (k:s•e\b) (g:base.StaysIn s.heap) (f:base.get? e=none) (h:b.data=.fields i) (a:i[1]?=some .none)
 (n:∀d,lI base outer e b.cls b.dict .none d->s.heap.UpToSlots d->U () (s<*d)):wpAny M A (leaving env ↑e) U E s:=by
 unfold leaving noteFrame;simp only[j];rwa[aiK (aiK (ajS k h a ?_))];rw[ajb ⋯];rwa[I7 c r j k g f h (aks.mp a).1 λa o q=>vW (s:=(s<*a)) o λm ζ p=>?_];let⟨l,t,⟨11,k3⟩,u⟩:=ζ;rwa[n m ⟨l,t,k3,u⟩ (q.trans p)]
end
end L2
namespace L2
open PySem PySem.Spec PyProof.Rows PySem.Calls PySem.W Builtin Builtin.ObjectAttr
def zp (x C:Zs)(e:Zo)(d:Bool)(h:Heap):Prop:=∃b c,h.get? x\b/\b.cls=↑C/\b.dict=e/\b.data=.fields c/\(d=true->c[1]?=some .none/\∃a,c[0]?\↑a)
noncomputable def XO (x C:Zs)(b:Zo)(a:Bool):HO:=.ext (zp x C b a)
def zp.fE {x:Zs}{dx:Zo}{nw:Bool}(p:zp x a dx nw h)(k:∀o,h.get? x\o->g.get? x\o):zp x a dx nw g:=by
 let⟨ob,b,e,r⟩:=p;rwa[ob,b,k _ e,r]
def zp.ex {x:Zs}{dx:Zo}{nw:Bool}(p:zp x a dx nw h):Ge x a h:=let ⟨ob,b,e,c,_,d,_⟩:=p;⟨ob,b,e,c,d⟩
def BH (d:Zs)(fs:List (Str×V))(h:Heap):Prop:=∃a,h.Ns1 d a/\(∀f,eT (fs.lookup f) (a f))/\Within a (fs.map (·.1))
noncomputable def XD (d:Zs)(fs:List (Str×V)):HO:=.ext (BH d fs)
def BH.fE {fs:List (Str×V)}(p:BH d fs h)(k:∀o,h.get? d\o->g.get? d\o):BH d fs g:=by
 let⟨a,n,r⟩:=p;rwa[a,n.at k,r]
def Ar {x:Zs}{c:Zo}{b:Bool}(p:zp x a c b h):b9 P w H h x (XO x a c b):=⟨p,let ⟨d,_,e,_⟩:=p;⟨d,e⟩,λ_ _ q k=>q.fE k⟩
def NW {fs:List (Str×V)}(p:BH d fs h):b9 P w H h d (XD d fs):=⟨p,let ⟨_,⟨o,_,_,e,_⟩,_⟩:=p;⟨o,e⟩,λ_ _ q k=>q.fE k⟩
noncomputable def mO:Zk->Bool
 |.ref _::r=>mO r
 |l=>l==A8
def Gw (e:mO N=true):(∃c r,N=↑c::r/\mO r=true)\/N=A8:=by
 cases N with
 |nil=>exact .inr (alE.mp e)
 |cons c r=>cases c <;> first|rwa[.inl ⟨_,_,rfl,e⟩]|rwa[.inr (alE.mp e)]
theorem qD (self:Zt):∀(l:Zk),mO l=true->refuseLoop self "__setattr__" l=pure ()/\l.contains (.type "object")=true/\l.isEmpty=false
 |[],e=>by ext e
 |v::l,e=>by
  rcases Gw e with ⟨c,r,q,e⟩|q
  ·injection q with b d
   subst b d;let a:=qD self l e;rwa[[refuseLoop_ref]▸a.1,by cbv,2]
  ·rw[q];rwa[PySem.F.store_ValueError.passes self,42]
structure yd (K:Za1) (C:Zs):Prop where
 mr:(clsIn K C).any (λcd=>mO cd.mro)=true
 hd:hasDictIn K C=true
 sa:findIn K ↑C "__setattr__"=some (some (.builtin "object.__setattr__"))
 ga:findIn K ↑C "__getattribute__"=some (some (.builtin "BaseException.__getattribute__"))
 gt:findIn K ↑C "__getattr__"=some none
 be:subIn K ↑C (.type "BaseException")\true
section
variable {prog:Program}{w:World}{A:Around}{R:Result->Zu->Prop}{s:Zu}{K:Za1}{x C:Zs}{name:Str}{v:Zt}
def E7 {p:Obj}{t:Option Obj}{g:Tok}(X:K.In s.heap)(I:PySem.W.InstAt s.heap x p C t)(m:(clsIn K C).any (λcd=>mO cd.mro)=true)(j:takerIn K C name\none)
 (h:∀b,(prog<|>w) A.in1 (storeInOwnDict ↑x ↑C (.str name g) name v b)
  (λfin d=>match fin with|.done f=>R (.ok f) d|.again i=>i.quiet=true/\codeAny (model prog w) A i R d) (λe d=>R (.error e) d) s):
 codeAny (model prog w) A (.call (.builtin "object.__setattr__") ⟨[↑x,.str name g,v],[]⟩) R s:=by
 let c:=PySem.F.store_object;let⟨cd,y,o⟩:=any_some m;let⟨n,B,z⟩:=qD ↑x _ o;let sub:Looks (model prog w) s.heap (isInstance ↑x (.type "object")) true:=I.type.andThen (looks_mroIn X (by unfold mroIn;cbv));rwa[akp c.slot.plain c.entry (@check_slot (model prog w) _ _ s "object.__setattr__" "object" "__setattr__" ↑x [.str name g,v] [] _ c.kind c.split sub (c.args ↑x (.str name g) v) ?_)];let⟨attr,u,r⟩:=Option.bind_eq_some_iff.mp j;let hm:Looks (model prog w) s.heap (mroOf ↑C) cd.mro:=(looks_clsIn X y).andThen .now
 let l:Looks (model prog w) s.heap (storeTaker? attr) none:=by
  cases attr with
  |none=>exact .now
  |some a=>
   let⟨b,k,q⟩:=ajV.mp r;rwa[(looks_takesIn X k).andThen ?_]
   cases b with
   |true=>ext q
   |false=>exact .now
 rw[osa_eq,refuse_eq];rwa[aiK (aiK (I.type.here (aiK (hm.here ?_))))];rw[n];rwa[aiU (aiK (I.type.here (aiK ((looks_findIn X u).here (aiK (l.here ?_))))))];rwa[h _]
def abh {ns:Zp}{f:Obj}{t:Zm}(X:K.In s.heap)(c:yd K C)(z:s•x\f)(j:f.cls=↑C)(q:f.data=.fields t)(D:takerIn K C name\none)
 (e:f.dict\d) (B:s.heap.Ns1 d M) (I:PySem.Within M ns) (H:⇑ns<=sizeLine)
 (h:∀i,i.Ns1 d (λy=>if y=name then some v else M y)->Heap.SameBut d s.heap i->U () { s with heap:=i,toks:=s.toks+ 2 }):
 (prog<|>w) A (setAttr ↑x name v) U E s:=by
 let⟨P,L,O,p⟩:=f;dsimp only at j q e;subst j q e;let⟨u,S,T,F,r⟩:=id B;let J:PySem.W.InstAt s.heap x ⟨↑C,some d,.fields t,p⟩ C (some u):=⟨z,22,F⟩;rwa[set_plain X J c.sa (E7 (s:={ s with toks:=s.toks+ 1 }) X J c.mr D λb=>?_)];let⟨Q,j,o⟩:=any_some c.hd;rwa[aiK (aiU (aiK (aiK (wpAny_loadPart z (aiK (Looks.here (s:={ s with toks:=s.toks+ 1 }) (looks_clsIn X j) ?_))))))];rw[o];rwa[aiU (a:=some d) (aiK (aiU (aiK ?_)))];rwa[wpAny_nsSet1 (s:={ s with toks:=s.toks+ 1 }) B λi g l=>?_]
 let⟨u,N,G,n,k,m⟩:=g.count (PySem.Within.cons name v I);rwa[aiK (wpAny_lookBehind n ([k]▸pastItsLine_dict (ai0 m (by rw[ajf];omega))) ?_)];rwa[aiU (h _ g l)]
def WW {f:Obj}{r:Zm}(X:K.In s.heap)(c:yd K C)(n:s•x\f)(p:f.cls=↑C)(F:f.data=.fields r)(G:takerIn K C name\none)(g:f.dict=none)
 (h:∀j,j.Ns1 ↥s (λy=>if y=name then some v else none)->j.get? x\{ f with dict:=some ↥s }->(∀b o,b≠x->s•b\o->j.get? b\o)->U () { s with heap:=j,toks:=s.toks+ 2 }):
 (prog<|>w) A (setAttr ↑x name v) U E s:=by
 let⟨P,L,O,m⟩:=f;dsimp only at p F g;subst p F g;let J:PySem.W.InstAt s.heap x ⟨↑C,none,.fields r,m⟩ C none:=⟨n,22,True.intro⟩;rwa[set_plain X J c.sa (E7 (s:={ s with toks:=s.toks+ 1 }) X J c.mr G λb=>?_)];let⟨S,p,D⟩:=any_some c.hd;rwa[aiK (aiU (aiK (aiK (wpAny_loadPart n (aiK (Looks.here (s:={ s with toks:=s.toks+ 1 }) (looks_clsIn X p) ?_))))))];rw[D];let d:(s.heap.push ("dict">>>.dict #[])).get? x\⟨↑C,none,.fields r,m⟩:=aiM _ n;let i:x≠↥s:=ajm (ai9 n);rwa[aiK (wpAny_alloc' ?_)];rwa[aiK (wpAny_update' d ?_)];rwa[aiU (a:=some ↥s) (aiK (aiU (aiK ?_)))]
 let q:((s.heap.push ("dict">>>.dict #[])).update x λo=>{ cls:=o.cls,dict:=some ↥s,data:=o.data,slots:=o.slots }).get? ↥s
  =some ("dict">>>.dict #[]):=(Heap.get?_update_ne _ _ _ _ i.symm).trans (Heap.get?_push_at rfl rfl)
 let u:((s.heap.push ("dict">>>.dict #[])).update x λo=>{ cls:=o.cls,dict:=some ↥s,data:=o.data,slots:=o.slots }).Ns ↥s (λ_=>none):=
  ⟨_,#[],_,q,2,λe M=>absurd M (by simp),λ_=>rfl⟩
 rwa[wpAny_nsSet1 (s:={ s with heap:=(s.heap.push ("dict">>>.dict #[])).update x λo=>{ cls:=o.cls,dict:=some ↥s,data:=o.data,slots:=o.slots },toks:=s.toks+ 1 }) (Heap.Ns1.of_empty u) λj l k=>?_]
 let⟨Q,N,I,B,t,z⟩:=l.count (Within.cons name v Within.nil);rwa[aiK (wpAny_lookBehind B ([t]▸pastItsLine_dict (ai0 z (by rw[ajf,akm,sizeLine_eq];omega))) ?_)];rwa[aiU (h _ l ?_ λb o H e=>?_)]
 ·rwa[(k.2 x i).trans (ajB _ d rfl)]
 ·rwa[(k.2 b (ajm (ai9 e))).trans ((Heap.get?_update_ne _ _ _ _ H).trans (aiM _ e))]
end
section
variable {prog:Program}{w:World}{A:Around}{E:Zt->Zu->Prop}{s:Zu}{K:Za1}{x C:Zs}{name:Str}
def abi {b:Bool}{m:Obj}{i:Obj}(X:K.In s.heap)(c:yd K C)(I:PySem.W.InstAt s.heap x m C (some i))(l:findObj K C (some i) name\.value v)(o:handedIn v=true)(h:Q v { s with toks:=s.toks+ 1 }):
 (prog<|>w) A (getAttr ↑x name b) Q E s:=by
 let⟨n,g,d,t,os⟩:=s;let j:=I.type (M:=model prog w);let q:=looks_findIn (M:=model prog w) X c.ga;let L2:=looks_findIn (M:=model prog w) X c.gt;let k:Looks (model prog w) n (isSubtype ↑C (.type "BaseException")) true:=looks_subIn X c.be;let r:=looks_find (M:=model prog w) X I l;let a:(Value.builtin "BaseException.__getattribute__"==Value.builtin "object.__getattribute__")=false:=⋯
 let e:(onTheHeap (Value.ref C) && Value.builtin "BaseException.__getattribute__"==Value.builtin "object.__getattribute__")=false:=by rw[a];rfl
 let f:(b && onTheHeap (Value.builtin "BaseException.__getattribute__"))=false:=by cases b <;> rfl
 let p:=PySem.F.excAttr_ValueError.ga.bind ↑x;unfold getAttr getAttrBy;rwa[aiK (wpAny_mkText (ajP (aiK (j.at (aiK (q.at ?_))))))];dsimp only;rw[ajb (by rw[e];decide)];unfold getAttrByItsOwn hookBefore;rw[ajg (show onTheHeap (Value.ref C)=true from rfl)];rwa[aiK (L2.at (aiK (wpAny_attempt (ajP ?_))))];unfold callGetattribute boundAndCalled;rw[ajb (by rw[f];decide),p];rwa[aiK (aiU ?_)];show wpAny _ _ (call (.builtin "BaseException.__getattribute__") [↑x,.str name t]) _ _ _;rwa[ald (akp PySem.F.excAttr_ValueError.ga.plain PySem.F.entry_bexc_ga (Ig j k ?_))];unfold Builtin.«object.__getattribute__»
 repeat lk
 show wpAny _ _ (handedOut v) _ _ _;rw[handedOut_of o];rwa[aiU h]
end
end L2
namespace L2
open PySem PySem.Spec PyProof.Rows PySem.Calls PySem.W
noncomputable def ye (K:Frag)(C f:Zs):Bool:=match K.lookup C with
 |some ⟨.type "type",_,.cls cd,c⟩=>(match cd.mro,c.toList with
  |.ref b::a,#v[_,_,_,_,.builtin n,_]=>b==C && n=="ValueError.__new__" && !cd.hasDel && tailIn K A8 a && nsOkIn K cd.ns && nsIn K cd.ns "__init__"==some (some ↑f)
  |_,_=>false)
 |_=>false
def Qu {K:Frag}(X:K.In h)(G:h.Ns a M)(e:nsIn K a x\some v):M x\v:=by
 let⟨o,m,p,i,b,_,g⟩:=G;unfold nsIn at e;split at e
 ·rename_i c d f k l q;have:=X^q;rw[i]at this;ext this;ext b;split at e
  ·rename_i n j;ext e;rw[<-g];unfold nsFind findBy;rw[<-Array.find?_toList,j];rfl
  ·split at e <;> ext e
 ·ext e
def BI (XK:K.In h)(q:ye K a b=true):∃n N nm o bs k s sub r col t D A F k3 E w,
 h.get? a=some (excClassObj nm o a N bs n k s sub r col t D A F k3 E "ValueError.__new__")/\h.Ns N w/\w "__init__"=some ↑b/\OwnTail h A8 n:=by
 unfold ye at q;split at q
 ·rename_i t cls m j;split at q
  ·rename_i G n x y z u nid v f c;simp only[akC,alE,Bool.not_eq_true']at q;let⟨⟨⟨⟨⟨rfl,rfl⟩,e⟩,g⟩,i⟩,d⟩:=q;let⟨nm,bs,mro,C,o,B,s,sub,r,col,del⟩:=cls;dsimp only at f e i d;subst f e
   let p:m=#[x,y,z,u,some (.builtin "ValueError.__new__"),v]:=by
    let⟨l⟩:=m;simp only at c;rw[c]
   subst p;rwa[n,C,nm,o,bs,B,s,sub,r,col,t,x,y,z,u,v,_,XK^j,.of_isNs (PySem.W.isNs_of_in XK i),Qu XK (.of_isNs (PySem.W.isNs_of_in XK i)) d,PySem.W.tail_of_in XK g]
  ·ext q
 ·ext q
section
variable {prog:Program}{w:World}{A:Around}{E:Zt->Zu->Prop}{h:Heap}{g:Array GenState}{d:Drawn}{t:Nat}{os:OsState}
variable {nm q:Str}{C N:Zs}{bs bm NX:Zk}{hdct:Bool}{sn:Zp}{sub:Zk}{ab:Bool}{col:Option Bool}{dd:Zo}{k0 k1 k2 k3 k5:Zl}{B newId I8:String}
theorem vX (F:ExcBaseFacts B newId I8 NX)(T:OwnTail h NX bm){n:Str->Zl}{rest:Zk}{s:Zs}{y:Obj}{Q:Fin->Zu->Prop}
 (j:h.get? C\excClassObj nm q C N bs bm hdct sn sub ab col dd k0 k1 k2 k3 k5 newId) (L:h.Ns N n) (J:n "__init__"=some ↑s)
 (u:h.get? s\y) (p:y.cls=.type "function")
 (G:∀l e,Heap.MadeExcOf h l e ↑C rest->
  (prog<|>w) A (call ↑s (↑e::rest)) (λr v=>r=.none/\Q (.done (.ret ↑e)) v) E ⟨l,g,d,t,os⟩) (WX:⇑rest<=sizeLine):
 (prog<|>w) A (Builtin.«type.__call__» ⟨↑C::rest,[]⟩) Q E ⟨h,g,d,t,os⟩:=by
 repeat (first|with_reducible rwa[alu j ?_]|with_reducible rwa[wpAny_madeBy_exc j ?_]|wp_step)
 rwa[codeAny_call_builtin_code (Code.quiet_builtin _ F.quiet) (wpAny_check_new_subT F T j ?_)];rwa[codeAny_exc_new_subT F T j ?_ WX];show wpAny _ _ _ _ _ _
 let a:=aiM { cls:=↑C,data:=.fields #[↑h.objs.size,.none,.none,.none,.bool false,.none] }
  (aiM ("tuple">>>.seq rest.toArray) j)
 let c:=aiM { cls:=↑C,data:=.fields #[↑h.objs.size,.none,.none,.none,.bool false,.none] }
  (aiM ("tuple">>>.seq rest.toArray) u)
 let i:((h.push ("tuple">>>.seq rest.toArray)).push { cls:=↑C,data:=.fields #[↑h.objs.size,.none,.none,.none,.bool false,.none] }).Ns N n:=
  let ⟨o,I,M,e,r⟩:=L;⟨o,I,M,aiM _ (aiM _ e),r⟩
 let f:((h.push ("tuple">>>.seq rest.toArray)).push
  { cls:=↑C,data:=.fields #[↑h.objs.size,.none,.none,.none,.bool false,.none] }).get? (h.objs.size+ 1)=some
  { cls:=↑C,data:=.fields #[↑h.objs.size,.none,.none,.none,.bool false,.none] }:=by heap_get
 let m:(Value.ref C::bm).contains ↑C=true:=by simp
 let k:=T.keeps (h':=(h.push ("tuple">>>.seq rest.toArray)).push { cls:=↑C,data:=.fields #[↑h.objs.size,.none,.none,.none,.bool false,.none] })
  λb o e=>aiM _ (aiM _ e)
 unfold isInstance
 repeat (first|with_reducible rwa[alu f ?_]|(with_reducible rwa[wpAny_isSubtype_exc a ?_];rw[m])|wp_step)
 show wpAny _ _ (typeLookup ↑C _) _ _ _;rwa[wpAny_typeLookup_tail a i k F.mroIs F.init.lookup ?_];rw[J];rwa[ajP (aiK ?_)];unfold bindSpecial;rwa[aiK (ak8 (T:="function") ⟨_,c,p⟩ ?_)];rw[ajg ⋯];rwa[aiU (aiK (ajZ (G _ (h.objs.size+ 1) ⟨λb o z=>aiM _ (aiM _ z),Heap.get?_none_of_le (al1 _),h.objs.size,f,Heap.get?_none_of_le (aiS _),5⟩) (λr v H=>?_) λ_ _ x=>x))]
 ·rwa[aiM _ (Heap.get?_push_at rfl rfl)]
 ·let⟨rfl,D⟩:=H
  wp_walk
  rwa[D]
def Gx (F:ExcBaseFacts B newId I8 NX)(T:OwnTail h NX bm){k:Str->Zl}{rest:Zk}{i:Zs}{l:Obj}{Q:Zt->Zu->Prop}
 (b:h.get? C\excClassObj nm q C N bs bm hdct sn sub ab col dd k0 k1 k2 k3 k5 newId) (p:h.Ns N k) (o:k "__init__"=some ↑i)
 (j:h.get? i\l) (f:l.cls=.type "function")
 (n:∀c e,Heap.MadeExcOf h c e ↑C rest->
  (prog<|>w) (A.under (.builtin "type.__call__" ⟨↑C::rest,[]⟩)) (call ↑i (↑e::rest)) (λr m=>r=.none/\Q ↑e m) E ⟨c,g,d,t,os⟩) (a:⇑rest<=sizeLine):
 (prog<|>w) A (call ↑C rest) Q E ⟨h,g,d,t,os⟩:=by
 let u:=tc_lookup;let x:=tc_bind ↑C;let v:(⟨h,g,d,t,os⟩:Zu).TypeIs ↑C "type":=⟨_,b,2⟩;rwa[ald (codeAny_of_tree ?_)];show wpAny _ _ (callAny ↑C _) _ _ _
 repeat (any_goals (first|assumption|with_reducible rwa[alu b ?_]|wp_step))
 erw[2];rwa[codeAny_call_builtin_at (Code.quiet_builtin _ ⋯) entry_typeCall (wpAny_check_type_call_sub b (vX (WX:=a) F T b p o j f λc e s=>?_))];rwa[n c e s]
def L1 {M:Model}{env:Env}{x:Sem Zt}{Q:Flow->Zu->Prop}(b:bm.contains (.type "BaseException")=true)(r:A.handled=none)
 (h:wpAny M A x (λv a=>∃e f i,v=↑e/\a•C\excClassObj nm q C N bs bm hdct sn sub ab col dd k0 k1 k2 k3 k5 newId/\
  a•e=some f/\f.cls=↑C/\f.data=.fields i/\i[1]?=some .none/\E ↑e a) E s):
 wpAny M A (raiseStmt env (some x) none) Q E s:=by
 let j:(Value.ref C::bm).contains (.type "BaseException")=true:=by rw[List.contains_cons,b,Bool.or_true]
 unfold raiseStmt;rwa[aiK (ajZ h (λv a c=>?_) λ_ _ x=>x)];let⟨e,f,i,rfl,l,m,n,k,o,p⟩:=c;let⟨F,g,d,D,os⟩:=a;let⟨z,G,y,u⟩:=f;dsimp only at n k;subst n k
 repeat (first|with_reducible rwa[alu m ?_]|with_reducible rwa[alu l ?_]|(with_reducible rwa[wpAny_isSubtype_exc l ?_];rw[j])|with_reducible rwa[aiK (ajS m rfl o ?_)]|wp_step)
 all_goals rwa[wpAny_raiseNew_none r p]
end
end L2
namespace L2
open PySem PySem.Spec PyProof.Rows
inductive di (P:Program) (w:World) (outer:Zq) (H:Hp) (s:Zu) (E:XK) (e:Zt) (s':Zu):Prop
 |mk (x C:Zs) (dx:Zo) (B:Heap) (H':Hp):e=↑x->s'.os=s.os->AllBare s'.gens->lI B outer x ↑C dx .none s'.heap->Un (cS outer) [] H H' s.heap s'.heap->dC P w H' B->(∀b o,s•b\o->H b=none->b∉cS outer->B.get? b\o)->(∀b o,s•b\o->b∉cS outer->∃o',B.get? b\o')->E ↑C dx H'->di P w outer H s E e s'
noncomputable def del (H:Hp)(x:Zs):Hp:=λb=>if b=x then none else H b
def rF {x:Zs}(h:b≠x):del H x b=H b:=by unfold del;rw[ajb h]
def L3 {x:Zs}{u:HO}(h:del H x b\u):b≠x/\H b\u:=by
 unfold del at h
 cbv
def gC:Passes (di P w) X (λ_ _ _=>False):=λ_ _ _ _ _ _ _ ζ=>by let⟨_,_,_,_,_,_,_,_,_,_,_,_,_,q⟩:=ζ;rwa[q.elim]
def NZ {a:Zq}{b:Zu}(h:di P w a H s (λ_ _ _=>False) v b):False:=let ⟨_,_,_,_,_,_,_,_,_,_,_,_,_,q⟩:=h;q
section
variable {P:Program}{w:World}{K:Za1}{mg:Str->Zl}{base:Heap}{N:Zp}{qual:Str}{scope:Scope}{f:Zs}{cd:Zt}{A:Around}{outer:Zq}{s:Zu}{H:Hp}{E:XK}{pins:List (Zs×Obj)}{σ:St}{H1:Hp}{s1:Zu}
def p8 {o:Obj}(I:Inv (cM (di P w) P w K mg base N qual scope f cd A outer s H E) pins σ H1 s1)(e:s•b\o)(a:b∉cS outer):b∉cS (cM (di P w) P w K mg base N qual scope f cd A outer s H E).stack:=λz=>by
 rcases ai3.mp (show b∈↥s::cS outer from z) with z|z
 ·rwa[absurd (ai9 e) (by rw[z];rwa[aka _])]
 ·rwa[a z]
def TC {x:Zs}{R:Zo}(I:Inv (cM (di P w) P w K mg base N qual scope f cd A outer s H E) pins σ H1 s1)(F:H1 x\XO x a R true)(Z:s•x=none)(q:E ↑a R (del H1 x)):
 (cM (di P w) P w K mg base N qual scope f cd A outer s H E).xe ↑x s1:=by
 let t:=I.ok.frames;let C:∀env∈(cM (di P w) P w K mg base N qual scope f cd A outer s H E).stack,∀b,env.frame\b->b∈x::cS (cM (di P w) P w K mg base N qual scope f cd A outer s H E).stack:=λenv X b k=>ajo _ (alN.mpr ⟨env,X,k⟩)
 let G:=PySem.W.funFrames_hide I.stack C;let⟨⟨ob,vs,d,rfl',rfl,i,l⟩,_,_⟩:=I.aP x _ F;let nx:∀b o,s•b\o->b≠x:=λb o e z=>by cbv
 let out:∀b o,s•b\o->b∉cS outer->b∉x::cS (cM (di P w) P w K mg base N qual scope f cd A outer s H E).stack:=λb o e k z=>(ai3.mp z).elim (nx b o e) (p8 I e k)
 rwa[L0 (s:=s1) (base:=PySem.W.hideAll s1.heap (x::cS (cM (di P w) P w K mg base N qual scope f cd A outer s H E).stack)) (L:=↥s) t G rfl d (λb o z=>PySem.W.of_hideAll _ z) (PySem.W.hideAll_none _ (.head _)) i (l rfl).1 λy r ups=>?_]
 let S:∀b o,s•b\o->H b=none->b∉cS outer->(PySem.W.hideAll s1.heap (x::cS (cM (di P w) P w K mg base N qual scope f cd A outer s H E).stack)).get? b\o:=λb o d g h=>
  alB _ (I.base.keep b o d g h (by simp[cM])) (out b o d h)
 let O:∀b o,s•b\o->b∉cS outer->∃j,(PySem.W.hideAll s1.heap (x::cS (cM (di P w) P w K mg base N qual scope f cd A outer s H E).stack)).get? b\j:=λb o d h=>by
  let⟨j,i⟩:=I.base.there b o d (by simp[cM]);rwa[j,alB _ i (out b o d h)]
 let M:∀b o,s1•b\o->b∈cS outer->∃B,y.get? b\{ o with slots:=B }:=λb o d g=>by
  let⟨_,o2,h,Y⟩:=I.stack.mem (show b∈cS (cM (di P w) P w K mg base N qual scope f cd A outer s H E).stack from ajo _ g);rw[d]at h;ext h;rwa[ups b o d Y]
 let dl:∀{b:Zs} {u:HO},H1 b\u->(∀ T,u≠.ext T)->del H1 x b\u:=λ{b u} e n=>by
  rw[rF]
  ·rwa[e]
  ·intro z;rw[z,F]at e;rwa[n _ (Za0 e).symm]
 rw[rfl']at r;rwa[⟨x,a,11,del H1 x,2,I.os,I.bare,r,⟨λb o d g h _=>r.1 b o (S b o d g h),λb o d g h _=>?_,λb o d g _=>?_,λb o d _=>?_,λb Q e=>dl (I.base.iq b Q e) (by cbv),λb o u e=>dl (I.base.gQ b o u e) (by cbv),λb V e=>?_⟩,5,S,O,q⟩]
 ·let⟨B,i⟩:=I.base.slot b o d g h (by simp[cM]);let⟨D,l⟩:=M b _ i h;rwa[D,l]
 ·rw[rF (nx b o d)];rwa[I.base.free b o d g (by simp[cM])]
 ·cases k:b∈cS outer
  ·let⟨j,i⟩:=I.base.there b o d (by simp[cM]);let⟨B,l⟩:=M b j i k;rwa[_,l]
  ·let⟨j,i⟩:=O b o d k;rwa[j,r.1 b j i]
 ·let⟨m,g⟩:=I.base.iw b V e;rwa[m,dl g (by cbv)]
 ·intro b u d;let⟨U,d⟩:=L3 d
  let p:∀c v,c≠x->H1 c\v->c∉x::cS (cM (di P w) P w K mg base N qual scope f cd A outer s H E).stack:=λc v J g z=>by
   rcases ai3.mp z with z|z
   ·rwa[J z]
   ·rw[I.oK c z]at g;ext g
  rwa[(I.aP b u d).fE (λc v J z=>alB _ z ?_) (λc z=>dl z (by cbv)) λc Q z=>dl z (by cbv)]
  rcases J with z2|z2
  ·rw[z2];rwa[p b u U d]
  ·rwa[p c _ (λz=>by rw[z,F]at z2;ext z2) z2]
def WY:Passes (di P w) (cM (di P w) P w K mg base N qual scope f cd A outer s H E) E:=by
 intro pins σ H1 s1 e T I F;let⟨x,C,Q,B,O,rfl,os,bare,J,un,m,R,G,q⟩:=F;rwa[Qt (L:=↥s) I.ok.frames rfl J λu k ups=>?_]
 let r:∀b o,s•b\o->H b=none->b∉cS outer->B.get? b\o:=λb o a d c=>
  R b o (I.base.keep b o a d c (by simp[cM])) (I.base.free b o a d (by simp[cM])) (p8 I a c)
 let n:∀b o,s•b\o->b∉cS outer->∃h,B.get? b\h:=λb o a c=>by
  let⟨h,g⟩:=I.base.there b o a (by simp[cM]);rwa[G b h g (p8 I a c)]
 let y:∀b o,s1•b\o->b∈cS outer->∃t,u.get? b\{ o with slots:=t }:=λb o a d=>by
  let i:b∈cS (cM (di P w) P w K mg base N qual scope f cd A outer s H E).stack:=ajo _ d;let⟨_,U,c,S⟩:=I.stack.mem i;rw[a]at c;ext c;let⟨t,g⟩:=un.slot b o a (I.oK b i) i (by simp);let⟨j,l⟩:=ups b _ g S;rwa[j,l]
 rwa[⟨x,C,Q,B,O,2,os.trans I.os,bare,k,⟨λb o a d c _=>k.1 b o (r b o a d c),λb o a d c _=>?_,λb o a d _=>?_,λb o a _=>?_,λb p a=>un.iq b p (I.base.iq b p a),λb o p a=>un.gQ b o p (I.base.gQ b o p a),λb D a=>?_⟩,m,r,n,q⟩]
 ·let⟨t,g⟩:=I.base.slot b o a d c (by simp[cM]);let⟨j,l⟩:=y b _ g c;rwa[j,l]
 ·let⟨h,g⟩:=I.base.there b o a (by simp[cM]);rwa[un.free b h g (I.base.free b o a d (by simp[cM])) (by simp)]
 ·cases v:b∈cS outer
  ·let⟨h,g⟩:=I.base.there b o a (by simp[cM]);let⟨t,l⟩:=y b h g v;rwa[_,l]
  ·let⟨h,g⟩:=n b o a v;rwa[h,k.1 b h g]
 ·let⟨M,d⟩:=I.base.iw b D a;let⟨z,c⟩:=un.iw b _ d;rwa[M++z,by rw[c,Array.append_assoc]]
end
section
variable {P:Program}{w:World}{K:Za1}{mg:Str->Zl}{base:Heap}
theorem qY.TF {qual:Str}{st:Stmt}{fd:FuncData}{e:Zp}{k:Nat}{sp:Sp}(F:qY K x qual st a fd)(S:aS Z e (az st))(len:∀c H Q E,sp c H Q E->⇑c=⇑e)
 (d:∀(b:Zt) (A:Around) (outer:Zq) (s:Zu) (H:Hp) (c:Zb) (Q:VK) (E:XK),cL k (A.deeper (envOfC qual (az st) ↥s a b))->sp c H Q E->
  ∃t,jz (cM (di P w) P w K mg base Z qual (az st) a b A outer s H E) (cQ st) t/\t { nx:=λ_ i=>Q .non i,rt:=Q } (start Z c) H):dy P w K mg base (di P w) (k+ 1) a fd e sp:=by
 let⟨l,n,kV,doc,pm,m,b,ct,j,rfl,lk,g⟩:=F.ex;rwa[Ao lk g S len λA outer s H c Q E h f=>d b A outer s H c Q E h f]
end
section
variable {X:Cx}{pins:List (Zs×Obj)}{σ:St}{H:Hp}{s:Zu}{h':Heap}{e C:Zs}{vs:Zk}
def Inv.WZ (I:Inv X pins σ H s)(hm:Heap.MadeExcOf s.heap h' e ↑C vs)(hex:X.ex=[]):H e=none/\X.eK.heap.get? e=none/\Inv X pins σ (upd H e (XO e C none true)) (s<*h'):=by
 let a:H e=none:=by
  cases q:H e with
  |none=>rfl
  |some u=>
   let⟨o,d⟩:=(I.aP e u q).get;rw[hm.new]at d;ext d
 let ne:∀b o,s•b\o->b≠e:=λb o q z=>by rw[z,hm.new]at q;ext q
 let h:X.eK.heap.get? e=none:=by
  cases q:X.eK.heap.get? e with
  |none=>rfl
  |some o=>
   let⟨l,d⟩:=I.base.there e o q (by rw[hex];simp);rw[hm.new]at d;ext d
 rwa[⟨a,h,I.un (t':=s.toks) ⟨λb u q _ _ _=>hm.keeps b u q,λb u q _ _ _=>⟨u.slots,hm.keeps b u q⟩,λb u q n _=>[ak (ne b u q)]▸n,λb u q _=>⟨u,hm.keeps b u q⟩,λb f q=>[ak (aw q a)]▸q,λb u f q=>[ak (aw q a)]▸q,λb j q=>⟨#[],by rw[ak (aw q a),q];simp⟩⟩ λb u q=>?_⟩];cases g:b=e
 ·subst g;rw[aj]at q;ext q;let⟨t,i,_,_⟩:=hm.there;rwa[Ar ⟨11,i,222,λ_=>⟨212⟩⟩]
 ·rw[ak g]at q;rwa[(I.aP b u q).fE (λc v _ q=>hm.keeps c v q) (λc q=>[ak (aw q a)]▸q) λc f q=>[ak (aw q a)]▸q]
end
section
variable {X:Cx}{k:Nat}{f C:Zs}{fd:FuncData}{ps:Zp}{sp:Sp}{x:Str}{p pos cP:Pos}{e:Expr}{es:Zr}{t:TA}{E:XK}
def XU (X:Cx)(C:Zs)(E:XK):Prop:=∀(a:List (Zs×Obj)) (c:St) (H:Hp) (s:Zu) (x:Zs) (b:Zo),Inv X a c H s->H x\XO x C b true->X.eK.heap.get? x=none->E ↑C b (del H x)->X.xe ↑x s
def lvD {base:Heap}{qual:Str}{scope:Scope}{f C:Zs}{a:Zq}{E:XK}:XU (cM (di P w) P w K M base Z qual scope f v A a s H E) C E:=λ_ _ _ _ _ _ I c b q=>TC I c b q
def Qw (C:Zs)(sp:Sp)(E:XK)(t:TA):TS:=λ_ g H=>t g H λd b=>∀x,b x=none->sp (↑x::d) (upd b x (XO x C none true)) (λv a=>v=.non/\∃c,a x\XO x C c true/\E ↑C c (del a x)) (λ_ _ _=>False)
theorem I9 (F:dy X.prog X.w X.K X.mg X.base (di X.prog X.w) k f fd ps sp)(hr:cL (k+ 1) X.A)(hb:Binds X.K fd ps [])(hc:X.calm=true)(hg:Gl X x)(hm:X.mg x\↑C)(hC:ye X.K C f=true)(hf:PySem.W.isFn X.K ↑f=true)(hk:PySem.W.keepIn X.K ↑C=true)
 (ha:PA X (e::es) t) (lv:XU X C E) (hex:X.ex=[]) (BJ:⇑ps<=1000) (w:(x==("__debug__":Str))=false) (he:starEach (e::es) X.env=(false,eval e X.env)::starEach es X.env) (G:(backTo cP (starEach es X.env)).any (·.1)=false):
 PS X (.Raise (some (.Call (.Name x p) (e::es) [] cP)) none pos) (Qw C sp E t):=by
 intro c s σ H D I h;let⟨R,N,nm,qn,bs,i,sn,sub,Q,col,dd,k0,k1,T,k3,Z,mN,W,o2,o3,o4⟩:=BI I.ok.mod.vn hC;let kp:∀{P O n},Inv X c P O n->∀b o,X.base.get? b\o->n•b\o:=λJ b o q=>(J.bs b o q).1
 rw[arm_exec_Raise];rwa[aiK (alM (L1 (C:=C) (nm:=nm) (q:=qn) (N:=N) (bs:=bs) (bm:=R) (hdct:=i) (sn:=sn) (sub:=sub) (ab:=Q) (col:=col) (dd:=dd) (k0:=k0) (k1:=k1) (k2:=T) (k3:=k3) (k5:=Z) (newId:="ValueError.__new__") (o4.hasType ⋯) (I.ok.hd hc) (aiK (ajZ (E:=X.xe) ?_ (λv Y m=>aiK (alM (aiU m))) λ_ _ x=>x))))];rwa[ajX (kj I hg hm ?_ w)];rwa[alg (h₀:=X.base) I.ok.mod.vn hk (bp (ha cP c s σ H _ I h) λus s1 ζ=>?_) he G];let⟨vs,H1,j,r,q⟩:=ζ;rwa[⟨j.dA,5⟩];let⟨oI,M,B⟩:=ajV.mp (alE.mp hf)
 let len:⇑us<=1000:=by
  let h1:=F.len _ _ _ _ (q (↥s1) (j.aP.fresh (aiS _)));rw[ajf]at h1;rw[<-⇑r];ext
 let⟨hh,g,d,tk,os⟩:=s1;rwa[Gx (A:=X.A) akQ (o4.keeps (kp j)) (kp j _ _ W) (o2.keeps (kp j)) o3 (j.dA^M) B (λh' y z=>?_) (ai0 len ⋯)];let⟨hn,h0,J⟩:=j.WZ z hex;let hq:=q y hn;let r2:Vals (V.ref y::vs) (Value.ref y::us):=.cons rfl r
 let hl:⇑(Value.ref y::us++[])=⇑ps:=by
  rw[ajp,<-⇑r2];rwa[F.len _ _ _ _ hq]
 let l:=hb _ (Value.ref y::us) J.dA hl;rw[ajp]at l;rwa[ald (ak7 (F.run _ X.stack _ _ ⟨Value.ref y::us,[]⟩ (Value.ref y::us) _ _ _ (hr.make C us []) (J.AI.make C us []) l r2 hq) λr n a=>?_)]
 cases r with
 |error e=>exact(NZ a).elim
 |ok fl=>
  cases fl with
  |ret u=>
   let⟨v,O,L,rv,ev,dx,S,q3⟩:=J.after a;subst ev;let⟨⟨ob,ws,a1,a2,a3,a4,a5⟩,_,_⟩:=L.aP y _ S;rwa[rv,y,ob,ws,2,kp L _ _ W,a1,a2,a4,(a5 rfl).1,lv c σ O n y dx L S h0 q3]
  |next=>exact False.elim a
  |brk=>exact False.elim a
  |cont=>exact False.elim a
end
end L2
namespace L2
open PySem PySem.Spec PyProof.Rows PySem.W
section
variable {M:Model}{A:Around}{E:Zt->Zu->Prop}{s:Zu}{x a:Zs}{ob:Obj}{vs:Zm}{tv:Zt}
def L4 {Q:Fin->Zu->Prop}(e:s•x\ob)(c:ob.data=.fields vs)(d:vs[0]?\↑a)
 (h:Q (.done (.ret .none)) { s with heap:=(s.heap.push ("tuple">>>.seq #[tv])).update x (Obj.mapFields (·.setIfInBounds 0 ↑↥s)) }):wpAny M A (Builtin.«BaseException.__init__» ⟨[↑x,tv],[]⟩) Q E s:=by
 let b:=aiM ("tuple">>>.seq #[tv]) e;unfold Builtin.«BaseException.__init__»;rwa[aiK (wpAny_newTuple ?_)];unfold Builtin.BaseException.bexcPut;rwa[aiK (aiK (ajS b c d (aiK (akT b c (aks.mp d).1 ?_))))]
 wp_walk
 rwa[h]
end
section
variable {X:Cx}{Y:Zs}{y f:Str}{np apos pos pos':Pos}{e:Expr}{es:Zr}{t:TA}
structure L5 (K:Za1) (Y:Zs):Prop where
 sp:specialIn K ↑Y "__getattribute__"=some (some (.builtin "type.__getattribute__"))
 rd:readsIn K Y (.type "type")=true
 fc:(match findCls K ↑Y (.type "type") "__init__" with|some (.val (.builtin i))=>i=="ValueError.__init__" | _=>false)=true
def L5.find {Y:Zs}(b:L5 K Y):findCls K ↑Y (.type "type") "__init__"=some (.val (.builtin "ValueError.__init__")):=by
 have:=b.fc
 cbv
def abj (C:Zs)(t:TA):TE:=λ d H Q=>t d H λb a=>∃(x:Zs) (c:Zo) (l:Zh),b=[↑x,.str (tx l)]/\a x\XO x C c true/\Q .non a
def L6 {pl:Sem Bool}(R:ye X.K a b=true)(A:L5 X.K Y)(Z:Gl X y)(hm:X.mg y\↑Y)(ha:PA X (e::es) t)(D:(y==("__debug__":Str))=false)
 (v:starEach (e::es) X.env=(false,eval e X.env)::starEach es X.env) (n:(backTo pos (starEach es X.env)).any (·.1)=false)
 (U:eval (.Call (.Attribute (.Name y np) "__init__" apos) (e::es) [] pos) X.env=(do
  let M <-eval (.Name y np) X.env
  standAt apos.atName
  let (f,first) <-holding [M] (getMethod M "__init__" pl)
  callWith pos f first (backTo pos (starEach (e::es) X.env)) (backToKw pos (keywordEach [] X.env)))):
 PE X (.Call (.Attribute (.Name y np) "__init__" apos) (e::es) [] pos) (abj a t):=by
 intro k s σ H Q I h;rwa[methodCall_KW (pl:=pl) (kj I Z hm ?_ D) U];rwa[method_cls I.dA A.sp (cls_value I.dA A.rd A.find rfl ?_)];rwa[PyProof.Rows.callWith_builtin1 (bp (ha pos k _ σ H _ (I.tok _) h) λus s1 ζ=>?_) v n];let⟨vs,B,p,r,x,P,l,ev,C,q⟩:=ζ;subst ev;let⟨u,E,rfl,rx,ry⟩:=vals2 r;ext rx;let⟨bm,N,nm,qn,bs,F,sn,sub,ab,col,dd,k0,k1,k2,k3,k5,mN,o1,o2,o3,o4⟩:=BI I.ok.mod.vn R;let kp:∀d o,X.base.get? d\o->s1•d\o:=λd o q=>(p.bs d o q).1
 let⟨⟨ob,ws,m,O,a3,L,a5⟩,_,_⟩:=p.aP x _ C;let⟨S,c,G⟩:=a5 rfl;let⟨g,gg,dr,tk,os⟩:=s1;rwa[ald (akp akQ.init.plain akQ.initEntry (wpAny_check_init_subT akQ (o4.keeps kp) (kp^o1) m O ?_))];rwa[L4 m L G ?_];let T:x≠g.objs.size:=ajm (ai9 m);let w:=aiM ("tuple">>>.seq #[E]) m;let j:=akk L (·.setIfInBounds 0 (Value.ref g.objs.size));let i:=ajB (Obj.mapFields (·.setIfInBounds 0 (Value.ref g.objs.size))) w (akR j)
 let J:=p.write (h':=(g.push ("tuple">>>.seq #[E])).update x (Obj.mapFields (·.setIfInBounds 0 ↑g.objs.size))) (t':=tk) (o:=XO x a P true) (x:=x) (e:=x) ([C]▸True.intro) (.inl rfl) (λd u V z=>(ajC^ajR V).trans (aiM _ z)) ⟨_,i⟩
  (Ar ⟨11,i,(Obj.cls_mapFields _ _).trans O,(zo _ _).trans a3,j,λ_=>⟨[Array.getElem?_setIfInBounds_ne ⋯]▸S,g.objs.size,by simp[(aks.mp G).1]⟩⟩)
 let W:upd B x (XO x a P true)=B:=by
  funext d
  cases z:d=x
  ·rw[z,aj,C]
  ·rw[ak z]
 rw[W]at J;rwa[.non,B,J,2,q]
def W6 (K:Za1)(k i:TE)(f:Str):TS:=λD c H=>i c H λy j=>k c j λx b=>∃(a C:Zs) (h:Zo) (g:Bool),x=↑a/\b a\XO a C h g/\yd K C/\lb K C f/\
 match h with
 |none=>∀d,b d=none->D.nx c (upd (upd b d (XD d [(f,y)])) a (XO a C (some d) g))
 |some d=>∃fs,d≠a/\b d\XD d fs/\⇑fs<1000/\D.nx c (upd b d (XD d (bR f y fs)))
def Ja {fs:List (Str×V)}{mA:Str->Zl}{y:V}(r:∀f,eT (fs.lookup f) (mA f))(a:PySem.Within mA (fs.map (·.1)))(c:RelV y u):(∀g,eT ((bR f y fs).lookup g) (if g=f then some u else mA g))/\PySem.Within (λg=>if g=f then some u else mA g) ((bR f y fs).map (·.1)):=by
 rwa[⟨λg=>?_,λg b=>?_⟩]
 ·rw[oC];cases q:g=f
  ·rw[ajg q,ajg q];rwa[c]
  cbv
 ·cases q:g=f
  ·rw[q];rwa[(kZ f y fs).1]
  ·rwa[(kZ f y fs).2 g (a g λz=>b ?_)]
   cbv
def E8 {o value:Expr}{Q:TE}(ha:PE X o r)(hv:PE X value Q)(hs:swapsWith value (some (.Attribute o f pos')) pos.line X.env=pure false):PS X (.Assign [.Attribute o f pos'] value pos) (W6 X.K r Q f):=by
 intro k s A H D I h;rwa[plainObj_wpAny_Assign_Attribute (bp (hv k s A H _ I h) λu s1 ζ=>?_) hs];let⟨y,H1,Z,S,q⟩:=ζ;rwa[bp (ha k s1 A H1 _ Z q) λov s2 ζ=>?_];let⟨x,H2,l,rx,a,C,dx,nw,ex,U,c,n,B⟩:=ζ;subst ex;obtain rfl:ov=Value.ref a:=rx;let⟨⟨ob,vs,N,O,R,L,a5⟩,_,_⟩:=l.aP a _ U
 cases dx with
 |some d=>
  let⟨fs,nd,T,hl,B⟩:=B;let⟨⟨mA,hn,i,P⟩,_,_⟩:=l.aP d _ T;rwa[abh l.dA c N O L n.F2 R hn P (by rw[aiQ,sizeLine_eq];omega) λp j sb=>?_]
  let⟨M,F⟩:=Ja (f:=f) i P S;let⟨w,_,_,v,_⟩:=id j;rwa[A,_,l.write (x:=d) (e:=d) ([T]▸True.intro) (.inl rfl) (λb u G z=>(sb.2 b G).trans z) ⟨w,v⟩ (NW ⟨_,j,M,F⟩),B]
 |none=>
  rwa[WW l.dA c N O L n.F2 R λp j m kp=>?_]
  let V:H2 ↥s2=none:=l.aP.fresh (aiS _);let E:↥s2≠a:=aj2 (ai9 N);let⟨w,es,ep,v,W⟩:=id j;let⟨M,F⟩:=Ja (fs:=[]) (mA:=λ_=>none) (f:=f) (λ_=>True.intro) (λg hg=>absurd rfl hg) S;let J:=l.laid (a:=↥s2) (o:=XD ↥s2 [(f,y)]) (h':=s2.heap.push w) (t':=s2.toks) (λb u z=>aiM _ z) (aiS _) (NW ⟨_,⟨w,es,ep,Heap.get?_push_at rfl (Heap.get?_some_iff.mp v).2,W⟩,M,F⟩);rwa[⟨A,_,J.write (h':=p) (x:=a) (e:=a) (o:=XO a C (some ↥s2) nw) ([ak E.symm,U]▸True.intro) (.inl rfl) (λb u G z=>?_) ⟨_,m⟩ (Ar ⟨11,m,O,2,L,a5⟩),B _ V⟩];rcases Heap.get?_push_cases z with ⟨rfl,rfl⟩|z
  ·rwa[v]
  ·rwa[kp b u G z]
inductive TK (K:Za1) (f:Str) (x:V) (H:Hp) (Q:VK):Prop
 |mk (a C d:Zs) (nw:Bool) (fs:List (Str×V)) (v:V):x=↑a->H a\XO a C (some d) nw->H d\XD d fs->yd K C->lb K C f->fs.lookup f\v->Q v H->TK K f x H Q
def W7 (K:Za1)(b:TE)(f:Str):TE:=λ c H Q=>b c H λx a=>TK K f x a Q
def yf {e:Expr}(S:PE X e r)(z:attributeBase e f X.env (eval e X.env)=eval e X.env):PE X (.Attribute e f pos) (W7 X.K r f):=by
 intro g s N H Q I h;rwa[EA z (bp (S g s N H _ I h) λu s1 ζ=>?_)];let⟨x,F,i,M,a,C,d,nw,fs,v,ex,U,O,c,n,l,q⟩:=ζ;subst ex;obtain rfl:u=Value.ref a:=M;let⟨⟨E,B,T,p,k,m,a5⟩,_,_⟩:=i.aP a _ U;let⟨⟨R,P,b,W⟩,_,_⟩:=i.aP d _ O;let⟨u,L,w⟩:=eT.some_of (v:=v) (o:=R f) (by rw[<-l];rwa[b f]);let⟨D,A,G⟩:=yP P;let⟨Z,od,V,j⟩:=E;dsimp only at p k m;subst p k m;let J:PySem.W.InstAt s1.heap a ⟨↑C,some d,.fields B,j⟩ C (some D):=⟨T,22,A⟩;rwa[abi i.dA c J (findObj_own c.hd n rfl (by rw[G,L])) (yQ w) ⟨v,F,i.tok _,w,q⟩]
end
end L2
namespace L2
open PySem PySem.Spec PyProof.Rows
def fh (X:Cx)(a:List (Zs×Obj))(g:St)(d:Hp)(x C:Zs)(f:Zo)(s:Zu):Prop:=
 ∃(B:Heap) (c:Hp) (s1:Zu),Inv X a g c s1/\s.os=s1.os/\AllBare s.gens/\lI B X.stack x ↑C f .none s.heap/\Un (cS X.stack) [] c d s1.heap s.heap/\dC X.prog X.w d B/\
  (∀b o,s1•b\o->c b=none->b∉cS X.stack->B.get? b\o)/\(∀b o,s1•b\o->b∉cS X.stack->∃e,B.get? b\e)
section
variable {X:Cx}{pins:List (Zs×Obj)}{σ:St}{H':Hp}{x C:Zs}{dx:Zo}{s:Zu}
def fh.of {E:XK}{b:Zu}(I:Inv X pins σ H b)(d:di X.prog X.w X.stack H b E v s):∃x C dx H',v=↑x/\fh X pins σ H' x C dx s/\E ↑C dx H':=by
 let⟨x,C,dx,B,H',rfl,os,bare,fl,un,a,e,c,q⟩:=d;rwa[x,C,dx,H',2,⟨B,H,b,I,os,bare,fl,un,a,e,c⟩,q]
def fh.step {fl:Zt}{s1:Zu}(I:Inv X pins σ H s1)(os:s.os=s1.os)(bare:AllBare s.gens)(un:Un (cS X.stack) [] H H' s1.heap s.heap)(aP:dC X.prog X.w H' g)
 (q:∀b o,s1•b\o->H b=none->b∉cS X.stack->g.get? b\o) (p:∀b o,s1•b\o->b∉cS X.stack->∃i,g.get? b\i) (a:lI g X.stack x ↑C dx .none h) (u:s.heap.UpToSlots h):fh X pins σ H' x C dx (s<*h):=by
 let n:∀b o,s1•b\o->b∈cS X.stack->∃sl,h.get? b\{ o with slots:=sl }:=λb o e c=>by
  let⟨t,f,r⟩:=I.Nw c;rw[e]at f;ext f;let⟨sl,m⟩:=un.slot b o e (I.oK b c) c (by simp);let⟨k,j⟩:=u b _ m r;rwa[k,j]
 rwa[⟨g,H,s1,I,os,bare,a,⟨λb o d f l _=>a.1 b o (q b o d f l),λb o d _ l _=>n b o d l,un.free,λb o d _=>?_,un.iq,un.gQ,un.iw⟩,aP,q,p⟩];cases c:b∈cS X.stack
 ·let⟨sl,j⟩:=n b o d c;rwa[_,j]
 ·let⟨i,m⟩:=p b o d c;rwa[i,a.1 b i m]
def fh.look (t:fh X pins σ H' x C dx s)(a:X.stack=X.env::X.outer)(k:X.env.frame\X.env.locals)(hA:A.frames\X.stack)
 (h:∀d,fh X pins σ H' x C dx (s<*d)->U () (s<*d)):
 X⁻¹ A (noteFrame ↑x X.env) (λ_ f=>X⁻¹ A (setFlight ↑x none) U E f) E s:=by
 let⟨B,o,p,I,os,bare,fl,un,aP,n,j⟩:=t;let b:=fl;rw[a]at b;rwa[NV (base:=B) (hA.trans (by rw[a])) k b λe l i=>?_]
 rwa[vW (s:=(s<*e)) l λm c g=>h m (fh.step (fl:=.none) I os bare un aP n j ([a]▸c) (i.trans g))]
def fh.again (t:fh X pins σ H' x C dx s)(h:∀b,fh X pins σ H' x C dx (s<*b)->U () (s<*b)):
 X⁻¹ A (setFlight ↑x none) U E s:=by
 let⟨B,f,g,I,os,bare,fl,un,aP,d,c⟩:=t;rwa[vW fl λe a u=>h e (fh.step (fl:=.none) I os bare un aP d c a u)]
def fh.inv (t:fh X pins σ H' x C dx s):Inv X pins σ H' s:=by
 let⟨B,c,d,I,os,bare,fl,un,aP,e,a⟩:=t;rwa[I.FW (ch:=[]) os un (aP.kept fl.1) bare (λb z=>absurd z (by simp))]
def fh.none (t:fh X pins σ H' x C dx s):H' x=none:=by
 let⟨B,c,d,I,os,bare,fl,un,aP,f,b⟩:=t
 cases e:H' x with
 |none=>rfl
 |some u=>
  let⟨o,a⟩:=(aP x u e).get;rw[fl.2.1]at a;ext a
def fh.at (t:fh X pins σ H' x C dx s):zp x C dx false s.heap:=by
 let⟨B,e,f,I,os,bare,fl,un,aP,g,d⟩:=t;let⟨_,_,_,c,a,_,_,_,b,hc,hd,_⟩:=fl;rwa[c,a,b,hc.1,hc.2,hd,λz=>by ext z]
def fh.abk (t:fh X pins σ H' x C dx s):Inv X pins σ (upd H' x (XO x C dx false)) s:=by
 let F:=t.none;let h:=t.at;let⟨B,D,E,I,os,bare,fl,un,aP,l,y⟩:=t;let⟨r,p,G,_,_,hd,_⟩:=id h;let ne:∀b u,H' b\u->b≠x:=λb u e z=>by cbv
 rwa[I.FW (ch:=[]) os ⟨un.keep,un.slot,λb o d f k=>?_,un.there,λb g e=>?_,λb o u e=>?_,λb j e=>?_⟩ (λb u e=>?_) bare (λb z=>absurd z (by simp))]
 ·rwa[(ak ?_).trans (un.free b o d f k)];rintro rfl;cases a:b∈cS X.stack
  ·let⟨w,i,A⟩:=I.Nw a;rw[d]at i;ext i;let⟨sl,n⟩:=un.slot b o d f a (by simp)
   cbv
  ·have:=l b o d f a;rw[fl.2.1]at this
   cbv
 ·have:=un.iq b g e;rw[ak (ne^this)];ext
 ·have:=un.gQ b o u e;rw[ak (ne^this)];ext
 ·let⟨m,this⟩:=un.iw b j e;rwa[m,by rw[ak (ne^this)];ext]
 ·cases a:b=x
  ·subst a;rw[aj]at e;ext e;rwa[Ar h]
  ·rw[ak a]at e;rwa[(aP b u e).fE (λc v _ q=>fl.1 c v q) (λc q=>[ak (ne^q)]▸q) λc g q=>[ak (ne^q)]▸q]
end
abbrev Jb:=Zs->Zo->St->Hp->Prop
abbrev N0:=St->Hp->VK->Jb->Prop
abbrev zq:=Ends->Jb->St->Hp->Prop
def TL (X:Cx)(a:List (Zs×Obj))(R:Jb)(e:Zt)(s:Zu):Prop:=∃x C b c H,e=↑x/\fh X a c H x C b s/\R C b c H
def XW (X:Cx)(e:Expr)(t:N0):Prop:=
 ∀(a:List (Zs×Obj)) (s:Zu) (b:St) (H:Hp) (Q:VK) (R:Jb),Inv X a b H s->t b H Q R->X⁻¹ X.A (eval e X.env) (EP X a b Q) (TL X a R) s
def E9 (X:Cx)(st:Stmt)(t:zq):Prop:=
 ∀(a:List (Zs×Obj)) (s:Zu) (b:St) (H:Hp) (D:Ends) (R:Jb),Inv X a b H s->t D R b H->X⁻¹ X.A (exec st X.env) (SP X a D) (TL X a R) s
section
variable {X:Cx}{k:Nat}{f:Zs}{fd:FuncData}{ps:Zp}{sp:Sp}{x:Str}{p pos:Pos}{e:Expr}{es:Zr}{t:TA}{ds:Zk}{dvs:Zb}
def TN (sp:Sp)(dvs:Zb)(t:TA):N0:=λ a H Q R=>t a H λd g=>sp (d++dvs) g Q λc h b=>∃C,c=↑C/\R C h a b
theorem BK (F:dy X.prog X.w X.K X.mg X.base (di X.prog X.w) k f fd ps sp)(N:cL k X.A)(E:Gl X x)(P:X.mg x\↑f)(G:PySem.W.keepIn X.K ↑f=true)(D:Binds X.K fd ps ds)(A:Vals dvs ds)
 (W:PA X.tQ (e::es) t) (m:(x==("__debug__":Str))=false:=by decide) (U:starEach (e::es) X.env=(false,eval e X.env)::starEach es X.env:=by rfl) (g:(backTo pos (starEach es X.env)).any (·.1)=false:=by rfl):
 XW X (.Call (.Name x p) (e::es) [] pos) (TN sp dvs t):=by
 intro b s j H Q R I h;rwa[ajX (kj I E P ?_ m)];rwa[alg (h₀:=X.base) I.ok.mod.vn G (ajZ (W pos b s j H _ (I.wish _) h) (λd i ζ=>?_) λ_ _ z=>False.elim z) U g];let⟨o,v,n,r,q⟩:=ζ;rwa[⟨n.dA,5⟩];let J:=n.iz;let w:Vals (o++dvs) (d++ds):=r.append A;let M:⇑(d++ds)=⇑ps:=by rw[<-⇑w];rwa[F.len _ _ _ _ q]
 rwa[ald (ak7 (F.run X.A X.stack i v ⟨d,[]⟩ (d++ds) (o++dvs) Q _ N J.AI (D i d J.dA M) w q) λr B a=>?_)]
 cases r with
 |error e=>
  let a:di X.prog X.w X.stack v i (λc l S=>∃C,c=Value.ref C/\R C l j S) e B:=a;let⟨x,C,l,Y,rfl,L,Z,T,z⟩:=fh.of J a;ext T;rwa[x,C,l,j,Y,2,L,z]
 |ok O=>
  cases O with
  |ret u=>exact J.after a
  |next=>exact False.elim a
  |brk=>exact False.elim a
  |cont=>exact False.elim a
def W8 (i:Nat)(b:N0):zq:=λD R a H=>b a H (λv c=>D.nx (a.set i (some v)) c) R
def Fb {x:Str}{b:N0}{pos':Pos}(w:X.N.Nodup)(o:X.N[i]?\x)(r:Loc X.env.scope x)(u:XW X e b)(n:swapsWith e (some (.Name x pos')) pos.line X.env=pure false:=by rfl)(l:X.fn x=true\/X.env.scope.names.lookup x=some .local:=by trivial):
 E9 X (.Assign [.Name x pos'] e pos) (W8 i b):=by
 intro a s q H D R I h;rwa[wpAny_Assign_Name (bp (u a s q H _ R I h) λv A ζ=>?_) n];let⟨y,m,d,c,g⟩:=ζ;rwa[pS d w o r c (λz j=>⟨_,m,j,g⟩) l]
def abl (c:TT)(t u:zq):zq:=λD R a H=>c a H λb d=>if b=true then t D R a d else u D R a d
def TQ {c:Expr}{a b:Stmt}{o:TT}{u w:zq}(E:PT X.tQ c o)(C:E9 X a u)(y:E9 X b w):E9 X (.If c [a] [b] pos) (abl o u w):=by
 intro g s l H D R I h
 let one:∀{st:Stmt} {m:zq} {j:Zu} {i:Hp},E9 X st m->Inv X g l i j->m D R l i->X⁻¹ X.A (execs [st] X.env) (SP X g D) (TL X g R) j:=λ{st m j i} A J q=>
  wpAny_execs_cons (bp (A g j l i D R J q) λB F z=>by
   cases B with
   |next=>exact akY z
   |ret v=>exact z
   |brk=>exact z
   |cont=>exact z)
 rwa[wpAny_If (ajZ (E g s l H _ (I.wish _) h) (λd j ζ=>?_) λ_ _ z=>False.elim z)];let⟨i,n,r⟩:=ζ
 cases d with
 |true=>exact one C n.iz r
 |false=>exact one y n.iz r
end
abbrev zr:=Ends->Zs->Zo->St->Hp->Prop
def N1 (X:Cx)(d:List ExceptHandler)(t:zr):Prop:=
 ∀(a:List (Zs×Obj)) (s:Zu) (c:St) (H:Hp) (x C:Zs) (b:Zo) (D:Ends),fh X a c H x C b s->t D C b c H->X⁻¹ X.A (handleBy ↑x X.env d) (SP X a D) X.xe s
section
variable {X:Cx}{y n:Str}{Y:Zs}{np pos:Pos}{Gf:Stmt}{suite:List Stmt}{rest:List ExceptHandler}{tb:TS}{tr:zr}{i:Nat}
def W9 (K:Za1)(Y:Zs)(i:Nat)(tb:TS)(tr:zr):zr:=λD C d e H=>∃b,PySem.W.exmOne K ↑C ↑Y\b/\
 if b=true then ∀x,H x=none->tb { nx:=λ a c=>D.nx (a.set i none) c,rt:=D.rt,bk:=λ a c=>D.bk (a.set i none) c,ct:=λ a c=>D.ct (a.set i none) c } (e.set i (some ↑x)) (upd H x (XO x C d false)) else tr D C d e H
def TR (l:X.N.Nodup)(k:X.N[i]?\n)(g:X.env.scope.names.lookup n=some .local)(B:Gl X y)(N:X.mg y\↑Y)(A:∀x,jz (X.y6 x) (Gf :: suite) tb)(G:N1 X rest tr)(w:(y==("__debug__":Str))=false):
 N1 X (.ExceptHandler (some (.Name y np)) (some n) (Gf :: suite) pos::rest) (W9 X.K Y i tb tr):=by
 intro a s M H x C O D j h;let⟨b,p,h⟩:=h;let I:=j.inv;rwa[wpAny_handleBy_cons (codeAny_handlers_test ?_) (by intro z;cases z)];rwa[kj (X:=X.y6 x) (I.y6 x) B N ?_ w];rwa[PySem.W.exm_one I.dA j.at.ex.Wz p _ _ _ _ (λ_ _ e=>e) ?_]
 cases b with
 |false=>exact G a s M H x C O D j h
 |true=>
  let h:=h x j.none;rwa[codeAny_handlers_suite_as (j.again λP o=>?_)];let J:=o.abk;rwa[pS (X:=X.y6 x) (J.y6 x) l k (.inl g) (v:=↑x) rfl (λE F=>?_) (.inr g)];rwa[ajZ (A x a E _ _ _ F h) (λL Q q=>?_) λ_ _ z=>False.elim z]
  cases L with
  |next=>let⟨f,t,d,q⟩:=q;rwa[sU (d.Ap I.ok) l k g λm c=>⟨11,c,q⟩]
  |brk=>let⟨f,t,d,q⟩:=q;rwa[sU (d.Ap I.ok) l k g λm c=>⟨11,c,q⟩]
  |cont=>let⟨f,t,d,q⟩:=q;rwa[sU (d.Ap I.ok) l k g λm c=>⟨11,c,q⟩]
  |ret u=>let⟨v,f,t,d,r,q⟩:=q;rwa[sU (d.Ap I.ok) l k g λm c=>⟨v,11,c,r,q⟩]
def Xa:zr:=λ_ _ _ _ _=>False
def TV:N1 X rest Xa:=λ_ _ _ _ _ _ _ _ _ h=>h.elim
def Xb (t:zq)(c:zr):TS:=λD e H=>t D (λC d a b=>c D C d a b) e H
def Qx {st:Stmt}{t:zq}{b:ExceptHandler}{j:List ExceptHandler}{c:zr}(d:X.stack=X.env::X.outer)(l:X.env.frame\X.env.locals)(k:E9 X st t)(o:N1 X (b :: j) c):
 PS X (.Try [st] (b :: j) [] [] pos) (Xb t c):=by
 intro a s u H D I h;rwa[wpAny_Try_except (wpAny_execs_cons (ajZ (k a s u H D _ I h) (λp r q=>?_) λe r q=>?_))]
 ·cases p with
  |next=>exact akY (akY q)
  |ret v=>exact q
  |brk=>exact q
  |cont=>exact q
 ·let⟨x,C,w,g,m,rfl,c,q⟩:=q;rwa[c.look d l I.ok.frames λz f=>o a _ g m x C w D f q]
end
def Gy (K:Za1)(C:Zs):Bool:=match PySem.W.findIn K ↑C "__init__" with
 |some (some ↑f)=>ye K C f
 |_=>false
def Fd (h:Gy K a=true)(e:PySem.W.findIn K ↑a "__init__"=some (some ↑b)):ye K a b=true:=by
 unfold Gy at h;rw[e]at h;rwa[h]
structure abm (K:Za1) (x qual:Str) (st:Stmt) (f:Zs) (fd:FuncData) (dV:Zt):Prop where
 ex:∃(oc:Zt) (od:Zo) (kV doc pm:Zt) (an:Zo) (cC ct:Zt) (AV:Array Zl),
  fd=PySem.W.fnOf x qual (dN st) (cQ st) (az st) dV kV doc pm an cC ct/\K.lookup f\⟨oc,od,.func fd,AV⟩/\PySem.W.codeIn K cC qual=true
 kp:PySem.W.keepIn K ↑f=true
structure DDef (K:Za1) (mg:Str->Zl) (x:Str) (st:Stmt) (ps:Zp) (f:Zs) (fd:FuncData) (d:Str):Prop where
 F:∃dV,abm K x x st f fd dV
 kp:PySem.W.keepIn K ↑f=true
 m:mg x\↑f
 b:Binds K fd ps []
 bd:∃t,Binds K fd ps [.str d t]
section
variable {P:Program}{w:World}{K:Za1}{mg:Str->Zl}{base:Heap}
theorem DDef.TF {st:Stmt}{fd:FuncData}{e:Zp}{k:Nat}{sp:Sp}(D:DDef K mg x st e a fd f)(S:aS Z e (az st))(len:∀c H Q E,sp c H Q E->⇑c=⇑e)
 (d:∀(b:Zt) (A:Around) (outer:Zq) (s:Zu) (H:Hp) (c:Zb) (Q:VK) (E:XK),cL k (A.deeper (envOfC x (az st) ↥s a b))->sp c H Q E->
  ∃t,jz (cM (di P w) P w K mg base Z x (az st) a b A outer s H E) (cQ st) t/\t { nx:=λ_ j=>Q .non j,rt:=Q } (start Z c) H):dy P w K mg base (di P w) (k+ 1) a fd e sp:=by
 let⟨dV,F⟩:=D.F;let⟨m,o,kV,doc,pm,n,b,ct,l,rfl,lk,h⟩:=F.ex;rwa[Ao lk h S len λA outer s H c Q E i g=>d b A outer s H c Q E i g]
def DDef.of {st:Stmt}{y d:Zo}{j r:Array Zl}{kV doc pm ct A:Zt}{dd:Zo}{t:Tok}(X:K.In h)(G:h.Ns mainGlobals mg)(e:PySem.W.nsIn K mainGlobals x\some ↑a)(l:K.lookup a\⟨v,y,.func (PySem.W.fnOf x x (dN st) (cQ st) (az st) ↑b kV doc pm d u ct),j⟩)(c:PySem.W.codeIn K u x=true)(k:PySem.W.keepIn K ↑a=true)
 (lt:K.lookup b\⟨A,dd,.seq #[.str f t] n,r⟩)
 (g:∀(kV doc pm:Zt) (d:Zo) (u ct:Zt) (us:Zk),⇑us=⇑Z->∃i:Option Zm->Sem (List (Str×Zt)),bindArgs (PySem.W.fnOf x x (dN st) (cQ st) (az st) ↑b kV doc pm d u ct) ⟨us,[]⟩=seqItems? ↑b >>=i/\i (some #[.str f t])=pure (Z.zip us))
 (z:∀(kV doc pm:Zt) (d:Zo) (u ct:Zt) (us:Zk),⇑us+ 1=⇑Z->∃i:Option Zm->Sem (List (Str×Zt)),bindArgs (PySem.W.fnOf x x (dN st) (cQ st) (az st) ↑b kV doc pm d u ct) ⟨us,[]⟩=seqItems? ↑b >>=i/\i (some #[.str f t])=pure (Z.zip (us++[.str f t]))):
 DDef K mg x st Z a (PySem.W.fnOf x x (dN st) (cQ st) (az st) ↑b kV doc pm d u ct) f:=by
 rwa[⟨⟨_,⟨v,y,kV,doc,pm,d,u,ct,j,2,l,c⟩,k⟩,k,PySem.W.mg_of X G e,λs us p m=>?_,t,λs us p m=>?_⟩]
 ·rw[ajp]at m ⊢;let⟨i,q,o⟩:=g kV doc pm d u ct us m;rwa[BindsTo.of_defaults (T:=b) rfl (p^lt) rfl q o]
 ·let⟨i,q,o⟩:=z kV doc pm d u ct us (by simpa using m);rwa[BindsTo.of_defaults (T:=b) rfl (p^lt) rfl q o]
end
end L2
namespace L2
def Gz {c:Nat}{g:Zg}(b:S.Wf):(S.make c z g).stand=S.stand+ 1:=by
 unfold RS.stand;show (~~~(S.q+ 1)).countP _=_;rw[aj9,List.countP_append,List.countP_singleton]
 let d:(S.make c z g).ax S.q=S.q:=by
  show (S.grown c z g).ax S.q=S.q;rw[fL b,ajg rfl]
 rw[show decide ((S.make c z g).ax S.q=S.q)=true from aje d,ajg rfl]
 congr 1
 rwa[List.countP_congr λa e=>?_]
 have:(S.make c z g).ax a=S.ax a:=by
  show (S.grown c z g).ax a=S.ax a;rw[fL b,ajb (by have:=ajI.mp e;omega)]
 rw[this]
def BL (hw:S.Wf)(d:n<S.q):(S.make n z l).by m y=if m=S.q/\y= -z then some n else if m=n/\y=z then some S.q else S.by m y:=by
 unfold RS.make RS.keep;let b:(S.grown n z l).ways.length=S.q+ 1:=by show ⇑(S.ways++[[]])=_;rw[aiP,hw.w];rfl
 let c:∀a s,(S.grown n z l).by a s=S.by a s:=λa s=>by unfold RS.by;rw[nL hw]
 show (((S.grown n z l).cD n z S.q).cD S.q (-z) n).by m y=_;rw[jH (by show ⇑((S.grown n z l).ways.set n _) > _;rw[aji,b];omega),jH (by rw[b];omega),c]
def zt (h:ig S)(g:S.Wf)(c:Nat)(z:Int)(f:Zg):ig (S.make c z f):=by
 let e:∀b,(S.make c z f).ax b=if b=S.q then S.q else S.ax b:=λb=>fL g c z f b
 rwa[⟨λb d a=>?_,λb d=>?_,λb d=>?_⟩]
 ·let d:b<S.q+ 1:=d;rw[e]at a;cases q:b=S.q
  ·rw[ajg q,q]at a;rwa[absurd rfl a]
  ·rw[ajb q]at a;rwa[h.a b ∅ a]
 ·let d:b∈S.bu:=d;have:=h.c b d;rw[e,ajb ∅];rwa[h.b b d]
 ·let d:b∈S.bu:=d;have:=h.c b d;show b<S.q+ 1;ext
def Fe (d:Dt):Prop:=(∃n,d=.i n)\/∃l,d=.s l
def Fe.low {k:Nat}{d:Dt}(h:Fe d)(a:bS H k q d):bS H n q d:=by
 rcases h with ⟨b,rfl⟩|⟨l,rfl⟩
 ·ext a;rwa[.i]
 ·ext a;rwa[.s]
def Qy {k:Nat}{b:List Dt}(h:∀x∈b,Fe x)(a:bS H (k+ 1) q (.t b)):bS H (n+ 1) q (.t b):=by
 cases a with
 |t g f i=>exact .t g f λj q d e c=>(h d (aiN c)).low (i j q d e c)
def Dp (d:Dt):Prop:=∃a,d=.t a/\∀x∈a,Fe x\/∃as,x=.t as/\∀y∈as,Fe y
def Dp.low {d:Dt}(h:Dp d)(b:bS H 4 q d):bS H 2 q d:=by
 let⟨k,rfl,h⟩:=h
 cases b with
 |t g f i=>
  rwa[.t g f λj q d e c=>?_]
  let b:=i j q d e c;rcases h d (aiN c) with a|⟨as,rfl,a⟩
  ·rwa[a.low b]
  ·rwa[Qy a b]
def Ff {a:List Dt}(h:∀x∈a,Fe x):Dp (.t a):=⟨a,rfl,λx b=>.inl (h x b)⟩
def TX (c:Nat)(z:Int)(n:Nat):Dp (lu c z n):=Ff λx a=>by
 simp only[ai3,ajA,akO]at a;rcases a with rfl|rfl|rfl|rfl
 ·rwa[.inr ⟨_,rfl⟩]
 all_goals rwa[.inl ⟨_,rfl⟩]
def TY {e:Za3}{b:Zh}{W:Za2}{row:Dt}(h:One e n B W row b R):Dp row:=by
 cases h with
 |meet=>
  rwa[Ff λx a=>?_]
  simp only[ai3,ajA,akO]at a;rcases a with rfl|rfl|rfl|rfl|rfl
  ·rwa[.inr ⟨_,rfl⟩]
  all_goals rwa[.inl ⟨_,rfl⟩]
 |rule=>
  rwa[⟨12,λx a=>?_⟩];simp only[ai3,ajA,akO]at a;rcases a with rfl|rfl|rfl|rfl
  ·rwa[.inl (.inr ⟨_,rfl⟩)]
  ·rwa[.inl (.inl ⟨_,rfl⟩)]
  ·rwa[.inr ⟨_,rfl,λy d=>?_⟩];let⟨c,_,rfl⟩:=ajz.mp d;rwa[.inl ⟨12⟩]
  ·rwa[.inl (.inl ⟨12⟩)]
def Xc {e:Za3}{c:Zh}{W:Za2}{b:List Dt}(h:Go e n B W b c R):∀x∈b,Dp x:=by
 induction h with
 |nil=>cbv
 |cons o _ d=>
  intro x a;rcases ai3.mp a with rfl|a
  ·rwa[TY o]
  ·rwa[d x a]
section
variable {S S':RS}{R:Za2}{ks:Zg}{pend:Ze}
def kx.gap (l:kx S pend S'):Good S pend R->(∀c z d,R c z d->z∈ks)->eZ S R ks->eZ S' R ks:=by
 induction l with
 |nil S=>exact λ_ _ h=>h
 |take _ b=>
  intro g a h;rwa[b (g.take a).1 a (h.take g)]
def kx.wr (l:kx S pend S'):Good S pend R->(∀c z d,R c z d->z∈ks)->⇑S.bu<=⇑S.rows->⇑S'.bu<=⇑S'.rows:=by
 induction l with
 |nil S=>exact λ_ _ h=>h
 |take _ i=>
  intro g e h;let⟨f,_,_,_,q⟩:=g.take e;rwa[i f e ?_];rcases q with ⟨_,a,b⟩|⟨_,_,_,_,_,_,_,_,_,_,a,b,_⟩
  ·rw[a,b];rwa[h]
  ·rw[a,b,aiP,aiP,ajY,ajY];ext
structure YS (S:RS) (L:Nat) (ks:Zg) (R:Za2):Prop where
 g:Good S [] R
 w:ig S
 k:∀a z b,R a z b->z∈ks
 gi:eZ S R ks
 l:S.L=L
 m:0<S.q
 d:∀x∈S.rows,Dp x
 wr:⇑S.bu<=⇑S.rows
def YS.new {L:Nat}{ks:Zg}:YS (RS.new L ks) L ks (λ_ _ _=>False):=by
 rwa[⟨Bn L _,⟨λc hc e=>?_,(λc hc=>by ext hc),(λc hc=>by ext hc)⟩,(λ_ _ _ z=>z.elim),Qd L _,2,Nat.one_pos,(λx a=>by ext a),aiS _⟩];have:c=0:=by have:c<1:=hc;ext
 subst this;rwa[absurd rfl e]
def YS.make (h:YS S n ks R)(hc:m<S.q)(f:S.ax m=m)(g:S.by m z=none)(hz:z∈ks)(c: -z∈ks):YS (S.make m z ks) n ks (eP R m z S.q):=by
 erw[h.g.make hc f g _,zt h.w h.g.wf _ _ _,λa y b r=>?_,h.gi.make h.g hc f g,h.l,Nat.succ_pos _,λx d=>?_]
 ·rcases r with r|⟨_,e,_⟩|⟨_,e,_⟩
  ·rwa[h.k _ _ _ r]
  ·rw[e];rwa[hz]
  ·rw[e];rwa[c]
 ·let d:x∈S.rows++[lu m z S.q]:=d;rcases aiY.mp d with p|p
  ·rwa[h.d x p]
  ·rw[aiR.mp p];rwa[TX^_]
 ·show ⇑S.bu<=⇑(S.rows++[_]);rw[aiP];have:=h.wr;ext
def YS.tr {ws:Za3}(t:Tr ws m S S')(o:∀w∈ws,∀z∈w,z∈ks/\-z∈ks)(h:YS S n ks R):∃u,YS S' n ks u/\S'.q=S.q/\(∀a z b,R a z b->u a z b)/\∃v,S'.rows=S.rows++v/\∃E W B F,Go ws m E W v B F:=by
 induction t with
 |refl=>rwa[R,h,2,λ_ _ _ r=>r,[],(ajp _).symm,1111,.nil (E:=S.aY) (W:=λ_ _ _=>False) λ_ _ _=>Iff.rfl]
 |step L ra j P=>
  rename_i k Z which word start f c d z;let⟨C,g,M,N,O,e1,E,W,B,F,g1⟩:=P;let hz:=o word (aiN ra.w) z (aiN ra.hz)
  let i:∀a y b,eP C c z d a y b->y∈ks:=by
   rintro a y b (r|⟨_,e,_⟩|⟨_,e,_⟩)
   ·rwa[g.k _ _ _ r]
   ·rw[e];rwa[hz.1]
   ·rw[e];rwa[hz.2]
  let gl:=g.g.lay z ra.hc.1 ra.hd.1 (p6 k which word start f d).rows;let⟨I,Q,A,l2,_⟩:=j.all gl i ⟨g.w.a,g.w.b,g.w.c⟩;let gp:=j.gap gl i ((g.gi.more λa y b r=>.inl r).rows _);let⟨u,X,T,Y,H,J,p⟩:=Aq (Tr.step (Tr.refl k) ra j) (R:=C) o g.g g.w g.k;let⟨R0,U,w0,V,l,G,s⟩:=Aq (Tr.step L ra j) (R:=R) o h.g h.w h.k;rwa[⟨_,⟨I,Q,i,gp,l2.trans g.l,[A]▸g.m,λx D=>?_,j.wr gl i (by show ⇑k.bu<=⇑(k.rows++[_]);rw[aiP];have:=g.wr;omega)⟩,A.trans M,λa y b r=>.inl (N _ _ _ r),l,G,1111,s⟩];rw[J]at D;rcases aiY.mp D with q|q
  ·rwa[g.d x q]
  ·rwa[Xc p x q]
end
def CI.make {bs:List (Nat×Zg×Nat)}{gs:Zf}{W:bN}(h:CI S bs gs [] W fY none)(d:Good S [] R)(hc:n<S.q)(x:S.ax n=n)(A:S.by n z=none)(f:∀b∈bs,b.2.2<S.q)(g:Zg):CI (S.make n z g) bs gs [] W (λr s=>r=n/\s=z) none:=by
 let i:=d.make hc x A g;let k:S.q<=(S.make n z g).q:=al1 _;let lt:=Later.of d i jt k;let el:∀b,b<S.q->(S.make n z g).ax b=S.ax b:=λb c=>(fL d.wf n z g b).trans (ajb ∅)
 rwa[⟨h.len,λa u q=>?_,λa b B I m=>?_,(λa j=>by ext j),λr s a q=>?_,h.sl,h.bd⟩]
 ·let⟨C,v,E⟩:=h.al a u q;rwa[C,v.later lt k,E]
 ·let c:=f b (aiN m);rw[el _ c];rcases h.de a b B I m with w|w
  ·rwa[.inl w]
  ·cases e:S.ax b.2.2=b.2.2
   ·right
    have:=lt.wk w;rw[el _ c,e]at this;rwa[this]
   ·rwa[.inl e]
 ·let⟨l,p,G,D,o,j,F,w⟩:=h.en r s a q;erw[l,p,G,D,ajk o k,j,F];rcases w with ⟨t,H⟩|w
  ·cases e:l=n/\s=z
   ·rwa[.inr e]
   ·left
    rw[el _ o,BL d.wf hc,ajb (λy=>by omega),ajb e];rwa[t,H]
  ·rwa[w.elim]
noncomputable def pw (s:Int)(n:Nat):Zg:=List.replicate n s
def GA (h:(pw z n)[m]?\y):m<n/\y=z:=by
 unfold pw at h;rw[List.getElem?_replicate]at h;split at h
 ·rwa[3,(Za0 h).symm]
 ·ext h
structure Pth (S:RS) (P:Nat->Int) (lo:Int):Prop where
 el:∀c,c<S.q->S.ax c=c
 rg:∀c,c<S.q->lo<=P c/\P c<lo+ S.q
 on:∀t:Int,lo<=t->t<lo+ S.q->∃c,c<S.q/\P c=t
 inj:∀a b,a<S.q->b<S.q->P a=P b->a=b
 by_:∀a z b,S.by a z=some b->(z=1\/z= -1)/\P b=P a+ z
 ch:∀a b,a<S.q->b<S.q->P b=P a+ 1->S.by a 1=some b
section
variable {S:RS}
structure Rng (S:RS) (G:Int->Nat) (M:Nat):Prop where
 st:∀t,S.by (G t) 1=some (G (t+ 1))
 pm:∀t,G (t+ M)=G t
end
def Per (G:Int->Nat)(k:Int):Prop:=∀t,G (t+ k)=G t
end L2
namespace L2
open PySem PySem.Spec PyProof.Rows
inductive T1 (K:Za1) (xs:Zb) (H:Hp) (Q:VK):Prop
 |mk (l:Zs) (ns:Zg):xs=[↑l]->aD K H l (aq ns)->⇑ns<64->(∀D ms,H D=none->ms.Perm ns->ms.Pairwise (·<= ·)->Q ↑D (upd H D (.lst (aq ms))))->T1 K xs H Q
inductive Qz (x:V) (vs:Zb) (H:Hp) (Q:VK):Prop
 |mk (a:Zs) (ns:Zg) (k:Int):x=↑a->vs=[.int k]->H a\.lst (aq ns)->Q (.int (ns.count k:Nat)) H->Qz x vs H Q
abbrev Def.Ok {K:Za1} {mg:Str->Zl} {x:Str} {st:Stmt} {ps:Zp} {f:Zs} {fd:FuncData} (_:Def K mg x st ps f fd) (P:Program) (w:World) (base:Heap) (k:Nat) (sp:Sp):Prop:=dy P w K mg base (di P w) k f fd ps sp
abbrev MDef.Ok {K:Za1} {C:Zs} {x q:Str} {st:Stmt} {ps:Zp} {f:Zs} {fd:FuncData} (_:MDef K C x q st ps f fd) (mg:Str->Zl) (P:Program) (w:World) (base:Heap) (k:Nat) (sp:Sp):Prop:=dy P w K mg base (di P w) k f fd ps sp
section
variable {P:Program}{w:World}{K:Za1}{mg:Str->Zl}{base:Heap}{x q:Str}{st:Stmt}{ps N:Zp}{f C:Zs}{fd:FuncData}{k:Nat}{sp:Sp}
def Def.on (D:Def K mg x st ps f fd)(S:aS N ps (az st))
 (a:∀(b:Zt) (A:Around) (outer:Zq) (s:Zu) (H:Hp) (c:Zb) (Q:VK) (E:XK),cL k (A.deeper (envOfC x (az st) ↥s f b))->sp c H Q E->
  ∃t,jz (cM (di P w) P w K mg base N x (az st) f b A outer s H E).tQ (cQ st) t/\t { nx:=λ_ d=>Q .non d,rt:=Q } (start N c) H) (len:∀c H Q E,sp c H Q E->⇑c=⇑ps:=by intro _ _ _ _ h;rcases h with ⟨⟩;subst_vars;rfl):D.Ok P w base (k+ 1) sp:=D.F.okN S len a
def MDef.on (D:MDef K C x q st ps f fd)(S:aS N ps (az st))
 (a:∀(b:Zt) (A:Around) (outer:Zq) (s:Zu) (H:Hp) (c:Zb) (Q:VK) (E:XK),cL k (A.deeper (envOfC q (az st) ↥s f b))->sp c H Q E->
  ∃t,jz (cM (di P w) P w K mg base N q (az st) f b A outer s H E).tQ (cQ st) t/\t { nx:=λ_ d=>Q .non d,rt:=Q } (start N c) H) (len:∀c H Q E,sp c H Q E->⇑c=⇑ps:=by intro _ _ _ _ h;rcases h with ⟨⟩;subst_vars;rfl):D.Ok mg P w base (k+ 1) sp:=D.F.okN S len a
end
section
variable {X:Cx}{x q m:Str}{st:Stmt}{ps:Zp}{f C:Zs}{fd:FuncData}{k j i:Nat}{sp:Sp}{e o:Expr}{es:Zr}{t:TA}{ta te:TE}{p pos pos' apos:Pos}
def pc (D:Def X.K X.mg x st ps f fd)(F:dy X.prog X.w X.K X.mg X.base (di X.prog X.w) k f fd ps sp)(g:cL j X.A)(d:PA X (e::es) t)(hj:k<=j:=by decide)(h:Gl X x:=by rfl)(b:(x==("__debug__":Str))=false:=by decide)(c:starEach (e::es) X.env=(false,eval e X.env)::starEach es X.env:=by rfl)(a:(backTo pos (starEach es X.env)).any (·.1)=false:=by rfl):
 PE X (.Call (.Name x p) (e::es) [] pos) (Nf sp [] (λ_ _ _=>False) t):=xO F (g.mono hj) h D.m D.F.kp D.b .nil gC d b c a
def pm {pl:Sem Bool}(g:PE X o ta)(c:kc X.K C)(D:MDef X.K C m q st ps f fd)(F:dy X.prog X.w X.K X.mg X.base (di X.prog X.w) k f fd ps sp)(n:cL j X.A)(l:PA X (e::es) t)(h:k<=j:=by decide)(a:starEach (e::es) X.env=(false,eval e X.env)::starEach es X.env:=by rfl)(b:(backTo pos (starEach es X.env)).any (·.1)=false:=by rfl)
 (r:eval (.Call (.Attribute o m apos) (e::es) [] pos) X.env=(do
  let d <-eval o X.env
  standAt apos.atName
  let (f,first) <-holding [d] (getMethod d m pl)
  callWith pos f first (backTo pos (starEach (e::es) X.env)) (backToKw pos (keywordEach [] X.env))):=by rfl):
 PE X (.Call (.Attribute o m apos) (e::es) [] pos) (kJ C m sp [] (λ_ _ _=>False) ta t):=kl g c D.m F (n.mono h) D.b .nil gC l a b r
def vY {pl:Sem Bool}(b:PE X o ta)(c:kc X.K C)(D:MDef X.K C m q st ps f fd)(F:dy X.prog X.w X.K X.mg X.base (di X.prog X.w) k f fd ps sp)(g:cL j X.A)(d:k<=j:=by decide)
 (h:eval (.Call (.Attribute o m apos) [] [] pos) X.env=(do
  let a <-eval o X.env
  standAt apos.atName
  let (f,first) <-holding [a] (getMethod a m pl)
  callWith pos f first (backTo pos (starEach [] X.env)) (backToKw pos (keywordEach [] X.env))):=by rfl):
 PE X (.Call (.Attribute o m apos) [] [] pos) (kJ C m sp [] (λ_ _ _=>False) ta jW):=KY b c D.m F (g.mono d) D.b .nil gC h
def bI (i:Nat)(d:X.N.Nodup)(b:PE X e te)(g:X.N[i]?\x:=by rfl)(h:Loc X.env.scope x:=by trivial)(c:swapsWith e (some (.Name x pos')) pos.line X.env=pure false:=by rfl)(a:X.fn x=true\/X.env.scope.names.lookup x=some .local:=by trivial):
 PS X (.Assign [.Name x pos'] e pos) (xN te (lX i)):=Ri d g h b c a
def cZ (i:Nat)(a:X.N.Nodup)(b:X.N[i]?\x:=by rfl)(c:Loc X.env.scope x:=by trivial)(d:X.fn x=true\/X.env.scope.names.lookup x=some .local:=by trivial):PG X (.Name x pos) (lX i):=Er a b c d
end
inductive Xd (x:V) (y:V) (H:Hp) (Q:VK):Prop
 |mk (a b:Zs) (xs:Zb):x=↑a->y=↑b->H a\.lst xs->H b\.lst []->Q (.bl (!decide (⇑xs=0))) H->Xd x y H Q
section
variable {C:Zs}{fd:FuncData}{ps:Zp}{x d:Str}{pos:Pos}
def T2 (K:Za1)(fd:FuncData)(ps:Zp)(d:Str):Prop:=∀(s:Zu) (a:Zk) (v:Zt),K.In s.heap->⇑(a++[v])=⇑ps->BindsTo s fd { pos:=a,kw:=[(d,v)] } (ps.zip (a++[v]))
inductive Xe (K:Za1) (xs:Zb) (H:Hp) (Q:VK):Prop
 |mk (x C:Zs) (dx:Zo) (nw:Bool) (y:V) (c:Zt) (b:Bool):xs=[↑x,y]->H x\XO x C dx nw->aa9 K C->vOf y\c->PySem.W.kitOne K ↑C c\b->Q (.bl b) H->Xe K xs H Q
end
section
variable {K:Za1}{mg:Str->Zl}
structure ahm (K:Za1) (mg:Str->Zl) (x:Str) (st:Stmt) (ps:Zp) (f:Zs) (fd:FuncData) (d nm:Str):Prop extends DDef K mg x st ps f fd d where
 bk:T2 K fd ps nm
end
inductive Xf (x:V) (y:V) (H:Hp) (Q:VK):Prop
 |mk (a b p q:Zs) (t:Zh) (ns:Zg):x=↑a->y=↑b->H a\.lst [↑p]->H b\.lst [↑q]->H p\.tup (.str (tx t)::aq ns)->H q\.tup (.str (tx t)::aq ns)->Q (.bl true) H->Xf x y H Q
end L2
namespace M11
noncomputable def flip (k:Nat):Nat:=if k % 2=0 then k+ 1 else k - 1
noncomputable def nx (T:Za3)(k i:Nat):Nat:=((T.getD i []).getD k 0).toNat
structure Tab (L:Nat) (T:Za3):Prop where
 pos:1<=⇑T
 top:⇑T<=300
 let1:1<=L
 ahy:L<=40
 row:∀(i:Nat) (r:Zg),T[i]?\r->⇑r=2* L
 val:∀i k,i<⇑T->k<2* L->∃r:Zg,T[i]?\r/\r[k]?\((nx T k i:Nat):Int)
 lt:∀i k,i<⇑T->k<2* L->nx T k i<⇑T
 back:∀i k,i<⇑T->k<2* L->nx T (flip k) (nx T k i)=i
noncomputable def pl (s:Int):Nat:=if 0<s then 2* s.natAbs - 2 else 2* s.natAbs - 1
def walk (T:Za3)(w:Zg)(i:Nat):Nat:=w.foldl (λi s=>nx T (pl s) i) i
def ik (L:Nat)(w:Zg):Prop:=∀s∈w,s≠0/\s.natAbs<=L
noncomputable def back (w:Zg):Zg:=w.reverse.map λz=>-z
structure Pm (p:Nat) (r:Zg):Prop where
 len:⇑r=p
 nd:r.Nodup
 rg:∀z∈r,0<=z/\z<(p:Int)
def Pm.at (h:Pm n l){i:Nat}(b:i<n):∃j:Nat,l[i]?\(j:Int)/\j<n:=by
 let a:i<⇑l:=by rw[h.len];rwa[b]
 have:=h.rg l[i] (List.getElem_mem a);rwa[l[i].toNat,by rw[aiL a,show ((l[i].toNat:Nat):Int)=l[i] by ext],3]
def ahn (L:Nat)(f:Nat->Int->Int)(come:Zg)(x:Int)(r:Zg)(m:Nat):Prop:=⇑r=m/\∀k,k<m->∃j:Nat,r[k]?\(j:Int)/\come[j]?\(f k x)
theorem jK:∀(n:Nat) (l:Zh),l.Nodup->(∀x∈l,x<n)->⇑l<=n
 |0,[],_,_=>aiS _
 |0,a::l,_,h=>absurd (h a (ai7 ..)) ∅
 |n+ 1,l,b,h=>by
  cases c:n∈l
  ·have:=jK n (l.erase n) (b.erase n) (λx d=>by
    cbv)
   rw[ak5 c]at this;ext
  ·have:=jK n l b (λx d=>by
    cbv)
   ext
def vZ (j:l.Nodup)(h:∀x∈l,0<=x/\x<(n:Int)):⇑l<=n:=by
 let f:(l.map Int.toNat).Nodup:=by
  rwa[akw.mpr (alL ?_ j)];intro a b d g c z;have:=h a d;have:=h b g;rwa[c ∅]
 have:=jK n (l.map Int.toNat) f (λx i=>by
  let⟨y,e,rfl⟩:=ajz.mp i;have:=h y e;omega)
 rw[aiQ]at this;rwa[this]
def Pm.T3 (h:Pm n l){x:Nat}(g:x<n):∃i:Nat,l[i]?\(x:Int)/\i<n:=by
 let c:(x:Int)∈l:=by
  rwa[alx λc=>?_]
  have:=vZ (n:=n) (l:=(x:Int)::l) (ajr.mpr ⟨c,h.nd⟩) (λy d=>by
   rcases ai3.mp d with e|d
   ·rw[e];ext
   ·rwa[h.rg y d])
  rw[ajf,h.len]at this;ext
 let⟨i,f,e⟩:=akD.mp c;rwa[i,by rw[aiL f,e],by rw[<-h.len];rwa[f]]
def aho (p:Nat)(r t:Zg):Prop:=⇑t=p/\∀k j:Nat,r[k]?\(j:Int)->t[j]?\(k:Int)
def ahp (p:Nat)(r t:Zg)(n:Nat):Prop:=⇑t=p/\∀k j:Nat,k<n->r[k]?\(j:Int)->t[j]?\(k:Int)
end M11
namespace M12
open M11
def Fc (W:Nat)(E:Zg)(N:Nat):Prop:=(∀z∈E,0<=z/\z<(N:Int))/\∀j:Nat,0<j->j<N->∃p:Nat,p<j* W/\E[p]?\(j:Int)/\∀(q:Nat) (z:Int),q<p->E[q]?\z->z<(j:Int)
noncomputable def st (k:Nat):Int:=if k % 2=0 then ((k / 2+ 1:Nat):Int) else -((k / 2+ 1:Nat):Int)
def N2 (k:Nat):pl (st k)=k:=by
 unfold pl st;cases h:k % 2=0
 ·rw[ajg h,ajg ∅];ext
 ·rw[ajb h,ajb ∅];ext
def Xg {k:Nat}(h:k<2* n):st k≠0/\(st k).natAbs<=n:=by
 unfold st;split <;> ext
def T4:Zh->Zh->Prop
 |a::u,b::v=>a<b\/(a=b/\T4 u v)
 |_,_=>False
def adb (u v:Zh):Prop:=⇑u<⇑v\/(⇑u=⇑v/\T4 u v)
def Lw (L:Nat)(T:Za3)(ws:List Zh):Prop:=⇑ws=⇑T/\ws[0]?\[]/\
 ∀(j p:Nat),0<j->j<⇑T->T.flatten[p]?\(j:Int)->(∀(q:Nat) (z:Int),q<p->T.flatten[q]?\z->z<(j:Int))->∃u,ws[p / (2* L)]?\u/\ws[j]?\(u++[p % (2* L)])
end M12
namespace M17
noncomputable def it (f:Nat->Nat):Nat->Nat->Nat
 |0,x=>x
 |n+ 1,x=>f (it f n x)
theorem wc (f:Nat->Nat)(m:Nat):∀(n x:Nat),it f (m+ n) x=it f n (it f m x)
 |0,x=>rfl
 |n+ 1,x=>ajT f (wc f m n x)
theorem tj {f:Nat->Nat}(h:∀x,x<m->f x<m):∀(n x:Nat),x<m->it f n x<m
 |0,x,a=>a
 |n+ 1,x,a=>h _ (tj h n x a)
theorem Jc {f:Nat->Nat}(h:∀x,x<m->f x<m)(b:∀x y,x<m->y<m->f x=f y->x=y):∀(n x y:Nat),x<m->y<m->it f n x=it f n y->x=y
 |0,x,y,_,_,e=>e
 |n+ 1,x,y,c,a,e=>Jc h b n x y c a (b _ _ (tj h n x c) (tj h n y a) e)
theorem mP {f:Nat->Nat}{x:Nat}(h:it f n x=x):∀k,it f (n* k) x=x
 |0=>rfl
 |k+ 1=>by
  rw[Nat.mul_succ,wc,mP h k,h]
def ring {f:Nat->Nat}{x:Nat}(h:∀x,x<n->f x<n)(r:∀x y,x<n->y<n->f x=f y->x=y)(k:x<n):∃c,1<=c/\c<=n/\it f c x=x:=by
 rwa[alx λs=>?_]
 let ne:∀i j,i<j->j<=n->it f i x≠it f j x:=λi j m t e=>by
  rwa[s ⟨j - i,335⟩];let p:it f j x=it f i (it f (j - i) x):=by rw[<-wc,show j - i+ i=j by ext]
  rw[p]at e;rwa[(Jc h r i x _ k (tj h _ x k) e).symm]
 let o:((~~~(n+ 1)).map λi=>((it f i x:Nat):Int)).Nodup:=by
  rw[List.nodup_iff_pairwise_ne,akw];rwa[alL (R:=λa b=>a<b) (λu l g e=>?_) alZ];have:=ajI.mp l;rwa[ne _ _ g ∅ ∅]
 have:=M11.vZ (n:=n) o λz q=>by
  let⟨i,_,rfl⟩:=ajz.mp q;have:=tj h i x k;ext
 rw[aiQ,ajK]at this;ext
def Xh {f:Nat->Nat}(g:n<=6)(h:∀x,x<n->f x<n)(b:∀x y,x<n->y<n->f x=f y->x=y)(x:Nat)(d:x<n):it f 60 x=x:=by
 let⟨c,j,i,e⟩:=ring h b d;let a:c=1\/c=2\/c=3\/c=4\/c=5\/c=6:=∅
 rcases a with rfl|rfl|rfl|rfl|rfl|rfl
 ·rwa[mP e 60]
 ·rwa[mP e 30]
 ·rwa[mP e 20]
 ·rwa[mP e 15]
 ·rwa[mP e 12]
 ·rwa[mP e 10]
end M17
namespace M24
noncomputable def add (come:Zh)(y:Nat):Zh:=if y∈come then come else come++[y]
def fG (f:Nat->Nat->Nat)(x:Nat)(come:Zh)(k:Nat):Zh:=(~~~k).foldl (λc i=>add c (f i x)) come
def jL (f:Nat->Nat->Nat)(x:Nat)(come:Zh)(k:Nat):fG f x come (k+ 1)=add (fG f x come k) (f k x):=by
 unfold fG;rw[aj9,alr];rfl
def bH (f:Nat->Nat->Nat)(k a:Nat):Nat->Zh
 |0=>[a]
 |n+ 1=>match (bH f k a n)[n]? with
  |some x=>fG f x (bH f k a n) k
  |none=>bH f k a n
def BM (f:Nat->Nat->Nat)(k a:Nat):bH f k a 0=[a]:=rfl
def fZ {f:Nat->Nat->Nat}{k x:Nat}(h:(bH f k n m)[m]?\x):bH f k n (m+ 1)=fG f x (bH f k n m) k:=by
 rw[bH,h]
def mQ {f:Nat->Nat->Nat}{k:Nat}(h:(bH f k n m)[m]?=none):bH f k n (m+ 1)=bH f k n m:=by
 rw[bH,h]
def Fg (come:Zh)(y:Nat):∃t,add come y=come++t:=by
 unfold add;split
 ·rwa[[],(ajp _).symm]
 cbv
theorem p9 (f:Nat->Nat->Nat)(x:Nat)(come:Zh):∀k,∃t,fG f x come k=come++t
 |0=>⟨[],(ajp _).symm⟩
 |k+ 1=>by
  let⟨t,b⟩:=p9 f x come k;let⟨u,a⟩:=Fg (fG f x come k) (f k x);rwa[t++u,by rw[jL,a,b,ajy]]
def uL (f:Nat->Nat->Nat)(k a n:Nat):∃t,bH f k a (n+ 1)=bH f k a n++t:=by
 cases h:(bH f k a n)[n]? with
 |none=>rwa[[],by rw[mQ h,ajp]]
 |some x=>let⟨t,b⟩:=p9 f x (bH f k a n) k;rwa[t,by rw[fZ h,b]]
def yg {come:Zh}:m∈add come n↔m∈come\/m=n:=by
 unfold add
 cbv
def Jd {come:Zh}(h:come.Nodup)(y:Nat):(add come y).Nodup:=by
 unfold add
 cbv
theorem oY {f:Nat->Nat->Nat}{x:Nat}{come:Zh}(h:come.Nodup):∀k,(fG f x come k).Nodup
 |0=>h
 |k+ 1=>[jL]▸Jd (oY h k) _
theorem j1 (f:Nat->Nat->Nat)(k a:Nat):∀n,(bH f k a n).Nodup
 |0=>by rw[BM];simp
 |n+ 1=>by
  cases h:(bH f k a n)[n]? with
  |none=>rw[mQ h];rwa[j1 f k a n]
  |some x=>rw[fZ h];rwa[oY (j1 f k a n) k]
theorem kA {f:Nat->Nat->Nat}{x:Nat}{come:Zh}{z:Nat}:∀{k:Nat},z∈fG f x come k↔z∈come\/∃i,i<k/\z=f i x
 |0=>⟨.inl,λq=>q.elim id λζ=>by let⟨i,a,_⟩:=ζ;rwa[absurd a (Nat.not_lt_zero _)]⟩
 |k+ 1=>by
  rw[jL,yg,kA (k:=k)]
  cbv
theorem o6 {f:Nat->Nat->Nat}{k:Nat}{P:Nat->Prop}(b:P m)(c:∀x i,P x->i<k->P (f i x)):∀n,∀z∈bH f k m n,P z
 |0,z,a=>by rw[BM,aiR]at a;rw[a];rwa[b]
 |n+ 1,z,a=>by
  cases h:(bH f k m n)[n]? with
  |none=>rw[mQ h]at a;rwa[o6 b c n z a]
  |some x=>
   rw[fZ h,kA]at a;rcases a with a|⟨i,d,rfl⟩
   ·rwa[o6 b c n z a]
   ·rwa[c _ _ (o6 b c n x (aiN h)) d]
theorem qc {f:Nat->Nat->Nat}{k:Nat}:∀{n j x i:Nat},j<n->(bH f k m n)[j]?\x->i<k->f i x∈bH f k m n
 |n+ 1,j,x,i,g,b,c=>by
  cases h:(bH f k m n)[n]? with
  |none=>
   rw[mQ h]at b ⊢;let o:=akW.mp h;let l:=(aiO.mp b).1;rwa[qc (show j<n by omega) b c]
  |some y=>
   let⟨t,d⟩:=p9 f y (bH f k m n) k;let p:=(aiO.mp h).1
   let a:(bH f k m n)[j]?\x:=by
    rw[fZ h,d,aiZ ∅]at b;rwa[b]
   cases e:j=n
   ·rw[e,h]at a;rw[fZ h,kA];rwa[.inr ⟨i,c,by cbv⟩]
   ·rw[fZ h,kA];rwa[.inl (qc (show j<n by omega) a c)]
theorem uM {f:Nat->Nat->Nat}{k:Nat}(h:⇑(bH f k n i)=i):∀m,bH f k n (i+ m)=bH f k n i
 |0=>rfl
 |m+ 1=>by
  let a:=uM h m;rw[<-Nat.add_assoc,mQ ([a]▸akW.mpr ∅),a]
def QB {f:Nat->Nat->Nat}{k:Nat}(h:⇑(bH f k n m)=m)(a:⇑(bH f k n i)=i):m=i:=by
 rcases alK m i with q|q
 ·have:=uM h (i - m);rw[show m+ (i - m)=i by ext]at this;rw[this,h]at a;rwa[a]
 ·have:=uM a (m - i);rw[show i+ (m - i)=m by ext]at this;rw[this,a]at h;rwa[h.symm]
noncomputable def ix (come:Zh)(y:Nat):Nat:=come.findIdx λz=>z==y
theorem As:∀{come:Zh} {i y:Nat},come.Nodup->come[i]?\y->ix come y=i
 |[],i,y,_,h=>by simp at h
 |a::l,0,y,_,h=>by
  let e:a=y:=Za0 h;unfold ix
  cbv
 |a::l,i+ 1,y,d,h=>by
  rw[List.getElem?_cons_succ]at h;let f:=aiN h
  let b:(a==y)=false:=by
   rw[ajd];intro e;rwa[(ajr.mp d).1 (by cbv)]
  let c:ix l y=i:=As (ajr.mp d).2 h;unfold ix at c ⊢;rw[al9,b];show l.findIdx _+ 1=i+ 1;rw[c]
def BO {come t:Zh}(b:(come++t).Nodup)(h:n∈come):ix (come++t) n=ix come n:=by
 let⟨i,a⟩:=ajG h;let c:(come++t)[i]?\n:=by rw[aiZ (aiO.mp a).1];rwa[a]
 rw[As b c,As (ajF.mp b).1 a]
def uN (f:Nat->Nat->Nat)(k:Nat)(come:Zh):Za3:=come.map λx=>(~~~k).map λi=>((ix come (f i x):Nat):Int)
def T5 {come:Zh}(h:n∉come):ix (come++[n]) n=⇑come:=by
 induction come with
 |nil=>unfold ix;rw[ali,al9];simp
 |cons a l b=>
  rw[ai3,not_or]at h;let c:(a==n)=false:=by rw[ajd];rwa[λe=>h.1 e.symm]
  have:=b h.2;unfold ix at this ⊢
  cbv
def iE (f:Nat->Nat->Nat)(k a n:Nat):Za3:=((bH f k a n).take n).map λx=>(~~~k).map λi=>((ix (bH f k a n) (f i x):Nat):Int)
def zu {f:Nat->Nat->Nat}{k x:Nat}(h:(bH f k n m)[m]?\x):iE f k n (m+ 1)=iE f k n m++[(~~~k).map λi=>((ix (bH f k n (m+ 1)) (f i x):Nat):Int)]:=by
 let⟨t,e⟩:=uL f k n m;let b:=j1 f k n (m+ 1);let q:=(aiO.mp h).1
 let l:(bH f k n (m+ 1)).take (m+ 1)=(bH f k n m).take m++[x]:=by
  rw[e,List.take_append_of_le_length ∅,akG,h];rfl
 unfold iE;rw[l,ajn]
 congr 1
 rwa[ajN λc o=>?_]
 rwa[ajN λi p=>?_]
 let⟨j,d⟩:=ajG o
 let a:j<m:=by
  have:=(aiO.mp d).1;rw[ajs]at this;ext
 rw[ak1 a]at d;let g:=qc a d (ajI.mp p);rw[e]at b ⊢;rw[BO b g]
def BP {f:Nat->Nat->Nat}{k:Nat}(h:⇑(bH f k n m)=m):iE f k n m=uN f k (bH f k n m):=by
 unfold iE uN
 cbv
end M24
namespace M55
open M11 M24
theorem zv {f:Nat->Nat->Nat}{x:Nat}{come:Zh}{m:Nat}:∀n,∃t,fG f x come (m+ n)=fG f x come m++t
 |0=>⟨[],(ajp _).symm⟩
 |n+ 1=>by
  let⟨t,b⟩:=zv (m:=m) n;let⟨u,a⟩:=Fg (fG f x come (m+ n)) (f (m+ n) x);rwa[t++u,by rw[<-Nat.add_assoc,jL,a,b,ajy]]
end M55
namespace K34
open PySem L2
noncomputable def top (i:Nat):Stmt:=PySem.Challenge.pw_cosetyard_k34_whole_paper_walked.main.body.getD i (.Pass ⟨(0),(0),(0),(0)⟩)
abbrev BQ:Stmt:=top 1
abbrev o8:Stmt:=top 2
abbrev wg:Stmt:=top 10
abbrev wj:Stmt:=top 12
abbrev wm:Stmt:=top 13
abbrev wq:Stmt:=top 18
abbrev wu:Stmt:=top 19
abbrev wx:Stmt:=top 22
abbrev N3:Stmt:=top 23
abbrev Je:Stmt:=top 25
abbrev pe:Stmt:=top 27
abbrev rH:Stmt:=top 28
abbrev t9:Stmt:=top 29
abbrev pf:Stmt:=top 30
abbrev rJ:Stmt:=top 31
abbrev qE:Stmt:=top 32
abbrev rK:Stmt:=top 33
abbrev ua:Stmt:=top 34
abbrev qF:Stmt:=top 35
abbrev mR:Stmt:=top 36
abbrev rL:Stmt:=top 37
abbrev qG:Stmt:=top 38
abbrev rM:Stmt:=top 39
abbrev ph:Stmt:=top 40
abbrev qH:Stmt:=top 41
abbrev wy:Stmt:=top 42
abbrev ub:Stmt:=top 43
abbrev uc:Stmt:=top 44
abbrev zx:Stmt:=top 45
abbrev nV:Stmt:=top 46
abbrev N4:Stmt:=top 47
abbrev mS:Stmt:=inClass (top 3) 0
abbrev nX:Stmt:=inClass (top 3) 1
abbrev ud:Stmt:=inClass (top 3) 2
abbrev lz:Stmt:=inClass (top 4) 0
abbrev jM:Stmt:=inClass (top 4) 1
abbrev nY:Stmt:=inClass (top 4) 2
abbrev mU:Stmt:=inClass (top 4) 3
abbrev pj:Stmt:=inClass (top 4) 4
abbrev nZ:Stmt:=inClass (top 4) 5
abbrev pz:Stmt:=inClass (top 4) 6
abbrev qI:Stmt:=inClass (top 4) 7
abbrev pA:Stmt:=inClass (top 4) 8
abbrev pC:Stmt:=inClass (top 4) 9
abbrev lA:Stmt:=inClass (top 4) 10
abbrev lB:Stmt:=inClass (top 8) 0
abbrev uf:Stmt:=inClass (top 15) 0
abbrev j2:Stmt:=inClass (top 16) 0
abbrev rN:Stmt:=inClass (top 17) 0
abbrev mV:Stmt:=inClass (top 21) 0
abbrev rO:Stmt:=inClass (top 21) 1
abbrev ug:Stmt:=inClass (top 21) 2
abbrev wz:Stmt:=inClass (top 21) 3
abbrev qJ:Stmt:=inClass (top 21) 4
abbrev mW:Stmt:=inClass (top 21) 5
abbrev qK:Stmt:=inClass (top 21) 6
abbrev lT:Stmt:=inClass (top 21) 7
abbrev rP:Stmt:=inClass (top 21) 8
abbrev oh:Stmt:=inClass (top 21) 9
abbrev j3:Stmt:=inClass (top 21) 10
abbrev oi:Stmt:=inClass (top 21) 11
set_option genInjectivity false in
structure qL where
 L7:Zs
 L8:FuncData
 yh:Zs
 yi:FuncData
 GB:Zs
 GC:FuncData
 GD:Zs
 GF:FuncData
 GH:Zs
 GJ:FuncData
 wA:Zs
 wB:FuncData
 GK:Zs
 GN:FuncData
 GO:Zs
 GP:FuncData
 tm:Zs
 tq:FuncData
 Jf:Zs
 Jg:FuncData
 yj:Zs
 yk:FuncData
 BR:Zs
 BU:FuncData
 DM:Zs
 DN:FuncData
 yl:Zs
 ym:FuncData
 BV:Zs
 BW:FuncData
 zT:Zs
 zU:FuncData
 BX:Zs
 BZ:FuncData
 DP:Zs
 DQ:FuncData
 zV:Zs
 zW:FuncData
 uO:Zs
 uP:FuncData
 B1:Zs
 Ca:FuncData
 zX:Zs
 zY:FuncData
 Cb:Zs
 Cd:FuncData
 yn:Zs
 yo:FuncData
 zZ:Zs
 Aa:FuncData
 GQ:Zs
 GR:FuncData
 DR:Zs
 DS:FuncData
 DT:Zs
 DU:FuncData
 Jh:Zs
 Ji:FuncData
 wC:Zs
 wD:FuncData
 Xi:Zs
 Xj:FuncData
 mX:Zs
 uQ:FuncData
 wF:Zs
 wG:FuncData
 DV:Zs
 DW:FuncData
 lC:Zs
 rQ:FuncData
 pD:Zs
 pE:FuncData
 wH:Zs
 wI:FuncData
 uR:Zs
 uS:FuncData
 yp:Zs
 yq:FuncData
 wJ:Zs
 wL:FuncData
 yr:Zs
 yt:FuncData
 Ab:Zs
 Ac:FuncData
 yu:Zs
 yw:FuncData
 yx:Zs
 yy:FuncData
 rS:Zs
 rT:FuncData
 rV:Zs
 rX:FuncData
 DX:Zs
 DY:FuncData
 oj:Zs
 j4:FuncData
 Ce:Zs
 Ci:FuncData
 mY:Zs
 uT:FuncData
 Cj:Zs
 Ck:FuncData
 DZ:Zs
 D0:FuncData
 GU:Zs
 GV:FuncData
 Ad:Zs
 Ae:FuncData
 uU:Zs
 uV:FuncData
 Af:Zs
 Ag:FuncData
 tE:Zs
 tF:FuncData
 Cm:Zs
 Cp:FuncData
 wM:Zs
 wN:FuncData
 qd:Zs
 qe:FuncData
 wO:Zs
 wQ:FuncData
 kL:Zs
 om:Zs
 bD:Zs
 c9:Zs
 bQ:Zs
 cO:Zs
 aB:Zs
 aT:Zs
 aH:Zs
 abn:Zs
 eR:Zs
set_option genInjectivity false in
structure Txt (K:Za1) (mg:Str->Zl) (A:qL):Prop where
 walked:Def K mg "walked" BQ ["rooms","room","word"] A.L7 A.L8
 mZ:Def K mg "first_places" o8 ["rules"] A.yh A.yi
 qf:Def K mg "steps_of" wg ["letters"] A.GB A.GC
 numbered:Def K mg "numbered" wj ["rooms"] A.GD A.GF
 m2:Def K mg "place_of" wm ["step"] A.GH A.GJ
 qg:Def K mg "order_by" wq ["name"] A.wA A.wB
 mG:Def K mg "first_of" wu ["rooms","some"] A.GK A.GN
 qh:Def K mg "all_gaps" wx ["letters"] A.GO A.GP
 own:Def K mg "own" N3 ["value"] A.tm A.tq
 fill:DDef K mg "fill" Je ["letters","rules","part","limit","order"] A.Jf A.Jg (tx [114,111,111,109,115])
 bF:Def K mg "_law_cell_at" pe ["_law_script","_law_k"] A.yj A.yk
 eB:Def K mg "_law_whole" rH ["_law_found"] A.BR A.BU
 oq:Def K mg "_law_step" t9 ["_law_number","_law_letters"] A.DM A.DN
 m3:Def K mg "_law_turning" pf ["_law_number","_law_many","_law_plain"] A.yl A.ym
 mh:Def K mg "_law_moved" rJ ["_law_turns","_law_point","_law_word"] A.BV A.BW
 kM:Def K mg "_law_rounds" qE ["_law_turns","_law_points","_law_word"] A.zT A.zU
 qi:Def K mg "_law_rules" rK ["_law_turns","_law_letters","_law_mask","_law_room"] A.BX A.BZ
 rY:Def K mg "_law_part" ua ["_law_script","_law_turns","_law_letters","_law_first"] A.DP A.DQ
 kO:Def K mg "_law_digits" qF ["_law_cell","_law_letters","_law_most"] A.zV A.zW
 kB:Def K mg "_law_any_group" mR ["_law_script"] A.uO A.uP
 qj:Def K mg "_law_group" rL ["_law_script"] A.B1 A.Ca
 oD:Def K mg "_law_filled" qG ["_law_letters","_law_rules_here","_law_part_here","_law_limit_here","_law_order"] A.zX A.zY
 qk:Def K mg "_law_limit" rM ["_law_script"] A.Cb A.Cd
 iF:Def K mg "_law_renamed" ph ["_law_room","_law_less","_law_more"] A.yn A.yo
 hO:Def K mg "_law_stands" qH ["_law_elders","_law_room"] A.zZ A.Aa
 uW:Def K mg "_law_new" wy ["_law_letters","_law_ways","_law_elders","_law_row"] A.GQ A.GR
 rZ:Def K mg "_law_rule" ub ["_law_words","_law_many","_law_ways","_law_elders","_law_row"] A.DR A.DS
 r0:Def K mg "_law_meet" uc ["_law_ways","_law_elders","_law_row"] A.DT A.DU
 yz:Def K mg "_law_on" zx ["_law_letters","_law_rules_here","_law_part_here","_law_state","_law_row"] A.Jh A.Ji
 lJ:Def K mg "_law_numbered" nV ["_law_ways","_law_letters"] A.wC A.wD
 law:Def K mg "law" N4 ["_law_script"] A.Xi A.Xj
 gE:MDef K A.aT "__init__" "Going.__init__" mS ["self","which","word","start"] A.mX A.uQ
 lK:MDef K A.aT "advance" "Going.advance" nX ["self","rooms"] A.wF A.wG
 r6:MDef K A.aT "row" "Going.row" ud ["self","rooms"] A.DV A.DW
 fi:MDef K A.aH "__init__" "Closing.__init__" lz ["self","rooms","rules","part"] A.lC A.rQ
 fx:MDef K A.aH "begin_rules" "Closing.begin_rules" jM ["self","room"] A.pD A.pE
 jj:MDef K A.aH "begin" "Closing.begin" nY ["self","which","word","room"] A.wH A.wI
 iR:MDef K A.aH "settle" "Closing.settle" mU ["self"] A.uR A.uS
 m4:MDef K A.aH "make" "Closing.make" pj ["self","room","step"] A.yp A.yq
 lL:MDef K A.aH "go_on" "Closing.go_on" nZ ["self","number"] A.wJ A.wL
 j5:MDef K A.aH "wait" "Closing.wait" pz ["self","number","room","step"] A.yr A.yt
 oE:MDef K A.aH "lay" "Closing.lay" qI ["self","going"] A.Ab A.Ac
 fj:MDef K A.aH "wake" "Closing.wake" pA ["self","room","step"] A.yu A.yw
 m5:MDef K A.aH "hear" "Closing.hear" pC ["self"] A.yx A.yy
 jv:MDef K A.aH "wake_all" "Closing.wake_all" lA ["self","room"] A.rS A.rT
 dW:MDef K A.bD "__init__" "TooMany.__init__" lB ["self","made","rows"] A.rV A.rX
 jN:MDef K A.c9 "gap" "Order.gap" uf ["self","rooms"] A.DX A.DY
 hH:MDef K A.bQ "gap" "ByLetters.gap" j2 ["self","rooms"] A.oj A.j4
 iS:MDef K A.cO "gap" "Newest.gap" rN ["self","rooms"] A.Ce A.Ci
 gF:MDef K A.aB "__init__" "Rooms.__init__" mV ["self","letters"] A.mY A.uT
 qm:MDef K A.aB "make" "Rooms.make" rO ["self","room","step"] A.Cj A.Ck
 r9:MDef K A.aB "lay" "Rooms.lay" ug ["self","room","step","other","row"] A.DZ A.D0
 iG:MDef K A.aB "by" "Rooms.by" wz ["self","room","step"] A.GU A.GV
 hU:MDef K A.aB "elder" "Rooms.elder" qJ ["self","room"] A.Ad A.Ae
 fb:MDef K A.aB "standing" "Rooms.standing" mW ["self"] A.uU A.uV
 kP:MDef K A.aB "paper" "Rooms.paper" qK ["self"] A.Af A.Ag
 fN:MDef K A.aB "first_gap" "Rooms.first_gap" lT ["self","room"] A.tE A.tF
 mj:MDef K A.aB "keep" "Rooms.keep" rP ["self","room","step","other"] A.Cm A.Cp
 lM:MDef K A.aB "take_in" "Rooms.take_in" oh ["self","way","pending"] A.wM A.wN
 fO:MDef K A.aB "put_together" "Rooms.put_together" j3 ["self","room","step","one","other","pending"] A.qd A.qe
 lO:MDef K A.aB "put_off" "Rooms.put_off" oi ["self","room","pending"] A.wO A.wQ
 oF:mg "enumerate"=none
 N5:mg "min"=none
 Xk:mg "max"=none
 dX:mg "range"=none
 cy:mg "len"=none
 mx:mg "tuple"=none
 jc:mg "list"=none
 dH:mg "isinstance"=none
 T6:mg "bool"=none
 N6:mg "int"=none
 Jj:mg "dict"=none
 GW:mg "reversed"=none
 Xl:mg "abs"=none
 Ea:mg "YardError"=some ↑A.kL
 XX:mg "NoOrder"=some ↑A.om
 zy:mg "TooMany"=some ↑A.bD
 QC:mg "Order"=some ↑A.c9
 Eb:mg "ByLetters"=some ↑A.bQ
 L9:mg "Newest"=some ↑A.cO
 QD:mg "Rooms"=some ↑A.aB
 QF:mg "Going"=some ↑A.aT
 Jk:mg "Closing"=some ↑A.aH
 Ma:PySem.W.plainGet K A.aB Str.empty=true
 Mb:PySem.W.hasDictIn K A.aB=true
 Md:PySem.W.plainOver K A.aB=true
 Mf:PySem.W.findIn K ↑A.aB "__setattr__"=some (some (.builtin "object.__setattr__"))
 uX:PySem.W.makesIn K A.aB=true
 Mg:PySem.W.keepIn K ↑A.aB=true
 sg:PySem.W.findIn K ↑A.aB "letters"=some none
 pF:PySem.W.findIn K ↑A.aB "made"=some none
 sh:PySem.W.findIn K ↑A.aB "rows"=some none
 jd:PySem.W.findIn K ↑A.aB "ways"=some none
 si:PySem.W.findIn K ↑A.aB "gaps"=some none
 jw:PySem.W.findIn K ↑A.aB "elders"=some none
 m6:PySem.W.findIn K ↑A.aB "called"=some none
 sj:PySem.W.findIn K ↑A.aB "went"=some none
 Mh:PySem.W.plainGet K A.aT Str.empty=true
 Mi:PySem.W.hasDictIn K A.aT=true
 Mj:PySem.W.plainOver K A.aT=true
 Ml:PySem.W.findIn K ↑A.aT "__setattr__"=some (some (.builtin "object.__setattr__"))
 uY:PySem.W.makesIn K A.aT=true
 Mm:PySem.W.keepIn K ↑A.aT=true
 Cq:PySem.W.findIn K ↑A.aT "which"=some none
 jO:PySem.W.findIn K ↑A.aT "word"=some none
 qo:PySem.W.findIn K ↑A.aT "start"=some none
 gW:PySem.W.findIn K ↑A.aT "front"=some none
 fk:PySem.W.findIn K ↑A.aT "first"=some none
 hV:PySem.W.findIn K ↑A.aT "rear"=some none
 iT:PySem.W.findIn K ↑A.aT "last"=some none
 GX:PySem.W.plainGet K A.aH Str.empty=true
 GY:PySem.W.hasDictIn K A.aH=true
 GZ:PySem.W.plainOver K A.aH=true
 G0:PySem.W.findIn K ↑A.aH "__setattr__"=some (some (.builtin "object.__setattr__"))
 qp:PySem.W.makesIn K A.aH=true
 G3:PySem.W.keepIn K ↑A.aH=true
 fm:PySem.W.findIn K ↑A.aH "rooms"=some none
 Cr:PySem.W.findIn K ↑A.aH "rules"=some none
 jP:PySem.W.findIn K ↑A.aH "goings"=some none
 lD:PySem.W.findIn K ↑A.aH "agenda"=some none
 j6:PySem.W.findIn K ↑A.aH "waiting"=some none
 m7:PySem.W.findIn K ↑A.aH "heard"=some none
 Mp:PySem.W.plainGet K A.c9 Str.empty=true
 Mq:PySem.W.hasDictIn K A.c9=true
 Mr:PySem.W.plainOver K A.c9=true
 Ms:PySem.W.findIn K ↑A.c9 "__setattr__"=some (some (.builtin "object.__setattr__"))
 Mt:PySem.W.makesIn K A.c9=true
 Mu:PySem.W.keepIn K ↑A.c9=true
 Mv:PySem.W.findIn K ↑A.c9 "__init__"=some (some (.builtin "object.__init__"))
 abo:PySem.W.findIn K ↑A.c9 "__class__"=some (some (.builtin "object.__class__"))
 abp:PySem.W.mroIn K A.c9 (.type "object")\true
 Ct:PySem.W.plainGet K A.bQ Str.empty=true
 Cu:PySem.W.hasDictIn K A.bQ=true
 Cv:PySem.W.plainOver K A.bQ=true
 Cw:PySem.W.findIn K ↑A.bQ "__setattr__"=some (some (.builtin "object.__setattr__"))
 Cy:PySem.W.makesIn K A.bQ=true
 Cz:PySem.W.keepIn K ↑A.bQ=true
 CB:PySem.W.findIn K ↑A.bQ "__init__"=some (some (.builtin "object.__init__"))
 T7:PySem.W.findIn K ↑A.bQ "__class__"=some (some (.builtin "object.__class__"))
 T8:PySem.W.mroIn K A.bQ (.type "object")\true
 Jl:PySem.W.plainGet K A.cO Str.empty=true
 Jm:PySem.W.hasDictIn K A.cO=true
 Jn:PySem.W.plainOver K A.cO=true
 Jo:PySem.W.findIn K ↑A.cO "__setattr__"=some (some (.builtin "object.__setattr__"))
 Jp:PySem.W.makesIn K A.cO=true
 Jq:PySem.W.keepIn K ↑A.cO=true
 Jr:PySem.W.findIn K ↑A.cO "__init__"=some (some (.builtin "object.__init__"))
 XY:PySem.W.findIn K ↑A.cO "__class__"=some (some (.builtin "object.__class__"))
 XZ:PySem.W.mroIn K A.cO (.type "object")\true
 X1:PySem.W.excIn K A.om A8 "ValueError.__new__"=true
 wU:L2.Gy K A.bD=true
 G4:PySem.W.keepIn K ↑A.bD=true
 X2:PySem.W.exmOne K ↑A.bD ↑A.bD\true
 G5:(PySem.W.clsIn K A.bD).any (λcd=>L2.mO cd.mro)=true
 G6:PySem.W.hasDictIn K A.bD=true
 G7:PySem.W.findIn K ↑A.bD "__setattr__"=some (some (.builtin "object.__setattr__"))
 G8:PySem.W.findIn K ↑A.bD "__getattribute__"=some (some (.builtin "BaseException.__getattribute__"))
 G9:PySem.W.findIn K ↑A.bD "__getattr__"=some none
 Hc:PySem.W.subIn K ↑A.bD (.type "BaseException")\true
 yA:PySem.W.findIn K ↑A.bD "made"=some none
 Fh:PySem.W.findIn K ↑A.bD "rows"=some none
 abq:PySem.W.specialIn K ↑A.kL "__getattribute__"=some (some (.builtin "type.__getattribute__"))
 abr:PySem.W.readsIn K A.kL (.type "type")=true
 abt:(match PySem.W.findCls K ↑A.kL (.type "type") "__init__" with|some (.val (.builtin i))=>i=="ValueError.__init__" | _=>false)=true
 lam:LamAt K A.j4 A.abn A.eR
def PVN(e:Lean.Term):Lean.MacroM Lean.Term:=if e.raw.isNatLit?.isSome then`(pv $e)else pure e
local macro_rules|`(#[$x,*])=>do
  if x.getElems.size=0 then Lean.Macro.throwUnsupported
  let mut r←`(ah)
  for e in x.getElems.reverse do r←`(ae $(←PVN e) $r)
  return r
local macro_rules(kind:=«term{_}»)|`({$x,*})=>do
  let a:=x.getElems
  let mut r←`(au $(a.back!))
  for e in a.pop.reverse do r←`(ai $e $r)
  return r
local macro_rules|`($x&&&$y)=>do`(aK bf $(←PVN x) $(←PVN y) λ_ _=>rfl)
local macro_rules|`($x|||$y)=>do`(aK bL $(←PVN x) $(←PVN y) λ_ _=>rfl)
local macro_rules|`($x<<<$y)=>do
  let x←PVN x
  if y.raw.isNatLit?=some 0 then`(bq bh rfl $(Lean.mkIdent `T.cy) ajl #[$x])else`(aF $x rfl)
def aJ {A:qL}(T:Txt K M A):kc K A.aB:=⟨T.Ma,T.Mb,T.Md,T.Mf⟩
def uX {A:qL}(T:Txt K M A):Mk K A.aB A.mY:=⟨T.uX,T.gF.m.at_,T.gF.m.fn,T.Mg⟩
def aX {A:qL}(T:Txt K M A):kc K A.aT:=⟨T.Mh,T.Mi,T.Mj,T.Ml⟩
def uY {A:qL}(T:Txt K M A):Mk K A.aT A.mX:=⟨T.uY,T.gE.m.at_,T.gE.m.fn,T.Mm⟩
def aM {A:qL}(T:Txt K M A):kc K A.aH:=⟨T.GX,T.GY,T.GZ,T.G0⟩
def qp {A:qL}(T:Txt K M A):Mk K A.aH A.lC:=⟨T.qp,T.fi.m.at_,T.fi.m.fn,T.G3⟩
def CD {A:qL}(T:Txt K M A):kc K A.c9:=⟨T.Mp,T.Mq,T.Mr,T.Ms⟩
def sk {A:qL}(T:Txt K M A):kc K A.bQ:=⟨T.Ct,T.Cu,T.Cv,T.Cw⟩
def zz {A:qL}(T:Txt K M A):kc K A.cO:=⟨T.Jl,T.Jm,T.Jn,T.Jo⟩
def ou:aS ["rooms","room","word","path","step"] ["rooms","room","word"] (az BQ):=(by ac_rfl)
def il:aS ["rules","places","which","rule"] ["rules"] (az o8):=(by ac_rfl)
def oH:aS ["letters","steps","letter"] ["letters"] (az wg):=(by ac_rfl)
def gb:aS ["rooms","steps","found","numbers","rows","others","other"] ["rooms"] (az wj):=(by ac_rfl)
def Ec:aS ["step"] ["step"] (az wm):=(by ac_rfl)
def Ed:aS ["name"] ["name"] (az wq):=(by ac_rfl)
def oJ:aS ["rooms","some","room","step"] ["rooms","some"] (az wu):=(by ac_rfl)
def Ee:aS ["letters"] ["letters"] (az wx):=(by ac_rfl)
def T9:aS ["value"] ["value"] (az N3):=(by ac_rfl)
def my:aS ["letters","rules","part","limit","order","chosen","rooms","closing","gap"] ["letters","rules","part","limit","order"] (az Je):=(by ac_rfl)
def wV:aS ["_law_script","_law_k"] ["_law_script","_law_k"] (az pe):=(by ac_rfl)
def Ah:aS ["_law_found"] ["_law_found"] (az rH):=(by ac_rfl)
def CF:aS ["_law_number","_law_letters"] ["_law_number","_law_letters"] (az t9):=(by ac_rfl)
def fP:aS ["_law_number","_law_many","_law_plain","_law_by","_law_some","_law_turned"] ["_law_number","_law_many","_law_plain"] (az pf):=(by ac_rfl)
def jk:aS ["_law_turns","_law_point","_law_word","_law_step_here"] ["_law_turns","_law_point","_law_word"] (az rJ):=(by ac_rfl)
def gG:aS ["_law_turns","_law_points","_law_word","_law_count","_law_spots"] ["_law_turns","_law_points","_law_word"] (az qE):=(by ac_rfl)
def df:aS ["_law_turns","_law_letters","_law_mask","_law_room","_law_words","_law_k","_law_j","_law_found","_law_word","_law_often"] ["_law_turns","_law_letters","_law_mask","_law_room"] (az rK):=(by ac_rfl)
def gH:aS ["_law_script","_law_turns","_law_letters","_law_first","_law_way","_law_words","_law_word","_law_cell"] ["_law_script","_law_turns","_law_letters","_law_first"] (az ua):=(by ac_rfl)
def dY:aS ["_law_cell","_law_letters","_law_most","_law_many","_law_word","_law_k"] ["_law_cell","_law_letters","_law_most"] (az qF):=(by ac_rfl)
def dO:aS ["_law_script","_law_letters","_law_rules_here","_law_k","_law_part_here"] ["_law_script"] (az mR):=(by ac_rfl)
def cI:aS ["_law_script","_law_plain","_law_many","_law_letters","_law_turns","_law_k","_law_mask","_law_first","_law_rules_here"] ["_law_script"] (az rL):=(by ac_rfl)
def dZ:aS ["_law_letters","_law_rules_here","_law_part_here","_law_limit_here","_law_order","_law_found","_law_refused","e"] ["_law_letters","_law_rules_here","_law_part_here","_law_limit_here","_law_order"] (az qG):=(by ac_rfl)
def jl:aS ["_law_script","_law_cell","_law_limit_here"] ["_law_script"] (az rM):=(by ac_rfl)
def wW:aS ["_law_room","_law_less","_law_more"] ["_law_room","_law_less","_law_more"] (az ph):=(by ac_rfl)
def yB:aS ["_law_elders","_law_room"] ["_law_elders","_law_room"] (az qH):=(by ac_rfl)
def Ef:aS ["_law_letters","_law_ways","_law_elders","_law_row"] ["_law_letters","_law_ways","_law_elders","_law_row"] (az wy):=(by ac_rfl)
def gI:aS ["_law_words","_law_many","_law_ways","_law_elders","_law_row","_law_which","_law_path","_law_room","_law_at","_law_step_here"] ["_law_words","_law_many","_law_ways","_law_elders","_law_row"] (az ub):=(by ac_rfl)
def CH:aS ["_law_ways","_law_elders","_law_row"] ["_law_ways","_law_elders","_law_row"] (az uc):=(by ac_rfl)
def dJ:aS ["_law_letters","_law_rules_here","_law_part_here","_law_state","_law_row","_law_ways","_law_elders","_law_turned","_law_room","_law_step_here","_law_other","_law_way"] ["_law_letters","_law_rules_here","_law_part_here","_law_state","_law_row"] (az zx):=(by ac_rfl)
def b8:aS ["_law_ways","_law_letters","_law_known","_law_room","_law_step_here","_law_other","_law_come","_law_table","_law_row","_law_letter"] ["_law_ways","_law_letters"] (az nV):=(by ac_rfl)
def fq:aS ["_law_script","_law_letters","_law_turns","_law_rules_here","_law_part_here","_law_first","_law_limit_here","_law_order","_law_found","_law_refused","_law_rows","_law_state","_law_row"] ["_law_script"] (az N4):=(by ac_rfl)
def tG:aS ["self","which","word","start"] ["self","which","word","start"] (az mS):=(by ac_rfl)
def jx:aS ["self","rooms","room"] ["self","rooms"] (az nX):=(by ac_rfl)
def m8:aS ["self","rooms","ahead","behind"] ["self","rooms"] (az ud):=(by ac_rfl)
def fy:aS ["self","rooms","rules","part","room","which","word"] ["self","rooms","rules","part"] (az lz):=(by ac_rfl)
def gf:aS ["self","room","rule","which"] ["self","room"] (az jM):=(by ac_rfl)
def uZ:aS ["self","which","word","room"] ["self","which","word","room"] (az nY):=(by ac_rfl)
def tH:aS ["self"] ["self"] (az mU):=(by ac_rfl)
def wX:aS ["self","room","step"] ["self","room","step"] (az pj):=(by ac_rfl)
def m9:aS ["self","number","going"] ["self","number"] (az nZ):=(by ac_rfl)
def j7:aS ["self","number","room","step","steps","numbers"] ["self","number","room","step"] (az pz):=(by ac_rfl)
def pG:aS ["self","going","step"] ["self","going"] (az qI):=(by ac_rfl)
def wY:aS ["self","room","step"] ["self","room","step"] (az pA):=(by ac_rfl)
def wZ:aS ["self"] ["self"] (az pC):=(by ac_rfl)
def fz:aS ["self","room","step","elder"] ["self","room"] (az lA):=(by ac_rfl)
def qR:aS ["self","made","rows"] ["self","made","rows"] (az lB):=(by ac_rfl)
def CJ:aS ["self","rooms"] ["self","rooms"] (az uf):=(by ac_rfl)
def nh:aS ["self","rooms","gaps"] ["self","rooms"] (az j2):=(by ac_rfl)
def Ai:aS ["self","rooms"] ["self","rooms"] (az rN):=(by ac_rfl)
def tI:aS ["self","letters"] ["self","letters"] (az mV):=(by ac_rfl)
def qM:aS ["self","room","step","number"] ["self","room","step"] (az rO):=(by ac_rfl)
def sr:aS ["self","room","step","other","row","pending"] ["self","room","step","other","row"] (az ug):=(by ac_rfl)
def Eg:aS ["self","room","step"] ["self","room","step"] (az wz):=(by ac_rfl)
def yC:aS ["self","room"] ["self","room"] (az qJ):=(by ac_rfl)
def tJ:aS ["self"] ["self"] (az mW):=(by ac_rfl)
def yD:aS ["self"] ["self"] (az qK):=(by ac_rfl)
def lE:aS ["self","room","step"] ["self","room"] (az lT):=(by ac_rfl)
def Aj:aS ["self","room","step","other"] ["self","room","step","other"] (az rP):=(by ac_rfl)
def eh:aS ["self","way","pending","room","step","other","led_to","come_from"] ["self","way","pending"] (az oh):=(by ac_rfl)
def eJ:aS ["self","room","step","one","other","pending","less","more","number"] ["self","room","step","one","other","pending"] (az j3):=(by ac_rfl)
def gX:aS ["self","room","pending","ways","step","other"] ["self","room","pending"] (az oi):=(by ac_rfl)
section
variable {P:Program}{w:World}{K:Za1}{mg:Str->Zl}{base:Heap}{A:qL}
def dP {t:Zs}{o:HO}(e:upd H t o=I)(n:H t=none):av H I/\I t\o:=by
 subst e;rwa[av.upd n,aj]
def hJ {c:PySem.Const}{p:PySem.Pos}{a:List PySem.Expr}{env:PySem.Env}:PySem.starEach (.Constant c j p::a) env=(false,PySem.eval (.Constant c j p) env)::PySem.starEach a env:=rfl
def Au (K:Za1)(d:Zs):Sp:=λb H Q _=>∃(a:Zs) (ns:Zg),b=[↑a]/\aD K H a (ns.map V.int)/\⇑ns<=63/\H d\(.fI #[])/\∀c,Q (.bl true) c
def bJ (n:Nat):Zg:=(~~~n).map M12.st
def tu (n:Nat):⇑(bJ n)=n:=by unfold bJ;cbv
def su (h:i<n):(bJ n)[i]?\(M12.st i):=by
 unfold bJ;rw[ai6,alC h];rfl
def QG (i:Nat):bJ (2* i)++[1+ (i:Int)]++[-(1+ (i:Int))]=bJ (2* (i+ 1)):=by
 let e:2* (i+ 1)=2* i+ 1+ 1:=∅
 rw[e];unfold bJ;rw[aj9,aj9,ajn,ajn];let a:M12.st (2* i)=1+ (i:Int):=by unfold M12.st;rw[ajg ∅];ext
 let b:M12.st (2* i+ 1)= -(1+ (i:Int)):=by unfold M12.st;rw[ajb ∅];ext
 show _=(~~~(2* i)).map M12.st++[M12.st (2* i)]++[M12.st (2* i+ 1)];rw[a,b]
def Js (n:Nat):(bJ n).Nodup:=by
 unfold bJ;rwa[akw.mpr (List.Pairwise.imp ?_ amf)];intro a b c z;let d:=M12.N2 a;rw[z,M12.N2]at d;rwa[c d.symm]
def dR {rs:Zn}(h:rs[i]?\a):g6 (rs.map V.ref) (i:Int)\(V.ref a):=cw (by rw[ai6,h];rfl)
def Mw:Sp:=λb H Q _=>∃L:Nat,b=[.int L]/\1<=L/\L<=200/\∀l a,av H a->a l\.lst (aq ((~~~(2* L)).map M12.st))->Q ↑l a
def Ua:Sp:=λb H Q _=>∃L:Nat,b=[.int L]/\1<=L/\L<=200/\∀d a,av H a->H d=none->a d\.dK (gK (bJ (2* L)))->Q ↑d a
inductive N7 (C:Zs) (vs:Zb) (H:Hp) (Q:VK) (E_:XK):Prop
 |mk (x dx:Zs) (L:Nat):vs=[↑x,.int L]->H x\.ins C dx []->1<=L->L<=200->(∀a H',(∀b o,H b\o->b≠x->H' b\o)->ay C H' x (RS.new L (bJ (2* L))) a->(∀b,a.own x b->b=x\/H b=none)->Q .non H')->N7 C vs H Q E_
def dh (a:RA)(r:Zs)(H c:Hp):Prop:=∀b o,¬a.own r b->H b\o->c b\o
inductive Jt (C:Zs) (vs:Zb) (H:Hp) (Q:VK) (E_:XK):Prop
 |mk (r:Zs) (S:RS) (a:RA) (c d:Nat) (z:Int):vs=[↑r,.int c,.int z,.int d]->ay C H r S a->S.Wf->c<S.q->d<S.q->(∀l∈S.ways,⇑l<=100000)->(∀H',dh a r H H'->ay C H' r (S.keep c z d) a->Q .non H')->Jt C vs H Q E_
inductive Ju (C:Zs) (vs:Zb) (H:Hp) (Q:VK) (E_:XK):Prop
 |mk (r:Zs) (S:RS) (a:RA) (c:Nat) (z:Int):vs=[↑r,.int c,.int z]->ay C H r S a->S.Wf->1<=S.L->S.L<=200->c<S.q->S.q<=100000->⇑S.rows<=1000000->(∀l∈S.ways,⇑l<=100000)->(∀a' H',dh a r H H'->ay C H' r (S.make c z (bJ (2* S.L))) a'->(∀b,a'.own r b->a.own r b\/H b=none)->Q (.int S.q) H')->Ju C vs H Q E_
inductive N8 (C:Zs) (vs:Zb) (H:Hp) (Q:VK) (E_:XK):Prop
 |mk (r:Zs) (S:RS) (a:RA) (c:Nat) (z:Int):vs=[↑r,.int c,.int z]->ay C H r S a->c<⇑S.ways->(Q (((S.by c z).map λn:Nat=>V.int (n:Int)).getD .non) H)->N8 C vs H Q E_
inductive Fi (C:Zs) (vs:Zb) (H:Hp) (Q:VK) (E_:XK):Prop
 |mk (r:Zs) (S:RS) (a:RA) (c e:Nat):vs=[↑r,.int c]->ay C H r S a->S.aY[c]?\e->Q (.int e) H->Fi C vs H Q E_
inductive xc (C:Zs) (vs:Zb) (H:Hp) (Q:VK) (E_:XK):Prop
 |mk (r:Zs) (S:RS) (a:RA):vs=[↑r]->ay C H r S a->S.Wf->S.q<=100000->(∀l,H l=none->Q ↑l (upd H l (.lst (aq (nI ((~~~S.q).filter λc=>decide (S.aY[c]?\c)))))))->xc C vs H Q E_
def xg (k:Nat):Sp:=λc H Q _=>∃(v:V) (d:Dt),c=[v]/\bS H k v d/\mH d/\∀b a,av H a->bS a k b d->Q b a
inductive Fj (k:Nat) (C:Zs) (vs:Zb) (H:Hp) (Q:VK) (E_:XK):Prop
 |mk (r:Zs) (S:RS) (a:RA):vs=[↑r]->ay C H r S a->⇑S.rows<=1000000->(∀p d,d∈S.rows->bS H 4 ↑p d->bS H k ↑p d)->(∀l ps H',av H H'->H l=none->H' l\.lst (ps.map V.ref)->Each (λp d=>bS H' 4 ↑p d) ps S.rows->Q ↑l H')->Fj k C vs H Q E_
def Ub:Nat->Sp
 |0=>λ_ _ _ _=>False
 |n+ 1=>xg n
def u0 {dp lv:Nat}(T:Txt K mg A)(o:dy P w K mg base (di P w) lv A.tm A.tq ["value"] (Ub dp)):dy P w K mg base (di P w) (lv+ 1) A.tm A.tq ["value"] (xg dp):=by
 rwa[T.own.F.okN T9 (λf H Q E h=>?_) (λcC AA G s H f Q E I h=>?_)]
 ·let⟨v,d,rfl,_⟩:=h;rfl
 ·let⟨v,d,rfl,L,u,k⟩:=h
  erw[_,{bC (cX (bq gT rfl T.dH ajE #[0,iK (v:=.ty "tuple") rfl T.mx akn rfl]))
   {a9 (fK qx rfl T.mx akn #[iD (fns:=[]) (ixs:=[]) (cl:=[]) rfl (vw (pv 0)) (cR [] rfl True.intro rfl) (λC s H ex=>(pc (hj:=aiS _) T.own o I #[0]))])}
   bj,bC (cX (bq gT rfl T.dH ajE #[0,iK (v:=.ty "list") rfl T.jc aj6 rfl]))
    yO
    bj,bC (cX (bq gT rfl T.dH ajE #[0,iK (v:=.ty "dict") rfl T.Jj PyProof.Rows.boot_dict rfl]))
    yO
    bj,a9 (pv 0)}]
  rwa[ju ?_];intro iY ft U
  let atom:(∃n,v=.int n)\/(∃l,v=.str (tx l))\/∃(a:Zs) (f:Zb) (ds:List Dt) (m:Nat),dp=m+ 1/\v=↑a/\d=.t ds/\(H a\.tup f/\⇑f=⇑ds/\∀(j:Nat) (v:V) (x:Dt),f[j]?\v->ds[j]?\x->bS H m v x):=by
   cases L with
   |i=>exact .inl ⟨12⟩
   |s=>exact .inr (.inl ⟨12⟩)
   |n=>ext u
   |b=>ext u
   |t g M J=>exact .inr (.inr ⟨1111222,g,M,J⟩)
   |l=>ext u
  rcases atom with ⟨n,rfl⟩|⟨l,rfl⟩|⟨a,f,ds,m,rfl,rfl,rfl,B⟩
  ·rwa[⟨_,rfl,_,_,_,_,rfl,.int n,zP K,_,rfl,cU ?_⟩];rwa[⟨1211112,.int n,Bi K,12,cU ?_⟩];rwa[⟨1211112,.int n,Bj K,12,cU ?_⟩];rwa[12,k _ H (λ_ _ e=>e) L]
  ·rwa[⟨1211112,.str (tx l),zQ K,12,cU ?_⟩];rwa[⟨1211112,.str (tx l),Bk K,12,cU ?_⟩];rwa[⟨1211112,.str (tx l),Bl K,12,cU ?_⟩];rwa[12,k _ H (λ_ _ e=>e) L]
  ·let⟨g,M,J⟩:=B;obtain⟨hz,p⟩:⇑ds<=100000/\∀x∈ds,mH x:=by cases u with|t a b=>exact⟨a,b⟩
   rwa[⟨1211112,.tup g,iA K "tuple",12,eX ?_⟩];erw[12,a,2,⟨_,bB.of g⟩];rwa[nK ⇑f (λi=>f.getD i .non) (λc v i=>∃x,ds[i]?\x/\mH x/\bS c m v x) (λH1 c v i s ζ=>by let⟨x,e,hn,q⟩:=ζ;rwa[⟨x,e,hn,q.same s⟩]) ?_ (λi c s2 r=>RP (bB.of (s2^g)) i r) (λi x c Y s2 r y=>?_) (λc s2=>K6 (bB.of (s2^g))) (λi c Rr r s2 Z=>?_) (λD c ys s2 X hl I=>?_)]
   ·rwa[ai0 ∅ (show 100000<=sizeLine by decide)]
   ·let⟨e,B⟩:=Pu (bB.of (s2^g)) i x Y r y
    cbv
   ·let B:f[i]?\(f.getD i .non):=by rw[aiT,aiL r];rfl
    let z:ds[i]?\(ds[i]'∅):=aiL ∅
    rwa[⟨12112,(J i _ _ B z).same s2,p _ (aiN z),λS H' R q'=>Z S H' R ⟨_,z,p _ (aiN z),q'⟩⟩]
   ·rwa[⟨D,ys,2,.inl ⟨aD.of aj,λl F=>?_⟩⟩];let N:av c (upd c D (.lst ys)):=av.upd X;let O:av (upd c D (.lst ys)) (upd (upd c D (.lst ys)) l (.tup ys)):=av.upd F;rwa[k _ _ (s2.trans (N.trans O)) (.t aj ∅ λj v x e1 e2=>?_)];obtain⟨y,e3,-,q⟩:=I j v e1;obtain rfl:y=x:=Za0 (e3.symm.trans e2);rwa[q.same (N.trans O)]
def Jv (T:Txt K mg A):dy P w K mg base (di P w) 2 A.tm A.tq ["value"] (xg 0):=u0 (dp:=0) (lv:=1) T ⟨λ_ _ _ _ h=>h.elim,λ_ _ _ _ _ _ _ _ _ _ _ _ _ h=>h.elim⟩
def Jw (T:Txt K mg A):dy P w K mg base (di P w) 3 A.tm A.tq ["value"] (xg 1):=u0 T (Jv T)
def zA (T:Txt K mg A):dy P w K mg base (di P w) 4 A.tm A.tq ["value"] (xg 2):=u0 T (Jw T)
def uh (T:Txt K mg A):T.qf.Ok P w base 1 Mw:=by
 rwa[T.qf.on oH (λu B f s H z Q E C h=>?_) (len:=by rintro _ _ _ _ ⟨L,rfl,_⟩;rfl)]
 ·let⟨L,rfl,t,y,k⟩:=h
  erw[_,{bI 1 oH.nd (bT ah),ck ajc rfl (kX rfl T.dX #[ao,aL cK (pv 0) ao]) (cZ 2 oH.nd)
    {aZ (cG aiX ai4 ai5 bM (pv 1) #[2]),aZ (cG aiX ai4 ai5 bM (pv 1) #[eU dD (pv 2)])},a9 (pv 1)}]
  rwa[eQ ?_];intro x q;rwa[⟨ajj _,λl g=>?_⟩];let p:av H (upd H l (.lst [])):=av.upd g;let m:upd H l (.lst []) l\(.lst (aq (bJ (2* 0)))):=aj;change upd H l _=H0 at p m ⊢;erw[121122,(1),(L:Int)+ 1,2,⟨3333⟩];rwa[gM (lo:=1) (n:=((L:Int)+ 1 - 1).toNat) (λi j c=>∃v:Zc,j=#v[.int L,↑l,v]/\av H c/\c l\.lst (aq (bJ (2* i)))) ⟨none,2,p,m⟩ ?_ ?_]
  ·rintro i j c D ⟨v,rfl,d,a⟩;let r:i<L:=∅
   erw[12,.inl ⟨21,aD.of a⟩,12,l,1122,a,5]
   ·rw[aI,tu];rwa[aiW (show 2* i<=400 by omega) ⋯]
   erw[12,.inl ⟨21,aD.of aj⟩,1212,l,1122,aj,5]
   ·rw[aiP,aI,tu];rwa[aiW (show 2* i+ 1<=400 by omega) ⋯]
   erw[12,λb o e=>?_]
   ·rw[ak (aw e g),ak (aw e g)];rwa[d^e]
   ·rw[aj,<-QG,ints_app,ints_app];rfl
  ·rintro j c ⟨v,rfl,d,a⟩;rw[show ((L:Int)+ 1 - 1).toNat=L by ext]at a;rwa[12,k l c d a]
def ui (T:Txt K mg A):T.qh.Ok P w base 2 Ua:=by
 rwa[T.qh.on Ee (λY AA n s H vs Q E B h=>?_) (len:=by rintro _ _ _ _ ⟨L,rfl,_⟩;rfl)]
 ·let⟨L,rfl,o,G,k⟩:=h;erw[_,{a9 (fK (vK rfl) rfl T.Jj PyProof.Rows.boot_dict #[iD (fns:=[]) (ixs:=[]) (cl:=[]) rfl (cY (pc T.qf (uh T) B #[0])) (cR [] rfl True.intro rfl) (λC s H ex=>(bO #[0,fu]))])}];rwa[⟨12,L,2,o,G,λl Z s1 j=>⟨l,2,⟨_,aD.of j⟩,5⟩⟩];let hn:⇑(aq ((~~~(2* L)).map M12.st))=2* L:=by rw[aI,aiQ,ajK]
  rwa[nK (2* L) (λi=>.int (M12.st i)) (λc v i=>∃p,v=↑p/\c p\.tup [.int (M12.st i),.bl true]) (λZ c v i s ζ=>by let⟨p,e,q⟩:=ζ;rwa[⟨p,e,s^q⟩]) ?_ (λi c s2 f=>jX (aD.of (s2^j)) i ∅) (λi x c U s2 f y=>?_) (λc s2=>?_) (λi c Rr f s2 X=>?_) (λD c ys s2 S u B=>?_)]
  ·rwa[ai0 (show 2* L<=400 by omega) ⋯]
  ·let⟨e,hx⟩:=iN (aD.of (s2^j)) i x U ∅ y;erw[e];rw[show (aq ((~~~(2* L)).map M12.st))[i]?=some (.int (M12.st i)) from bU (su f)]at hx
   cbv
  ·have:=gS (aD.of (K:=K) (s2^j));rw[hn]at this;rwa[this]
  ·rwa[⟨12,(Za4 2),λt R=>X _ _ (av.upd R) ⟨t,2,aj⟩⟩]
  ·let⟨g,rfl,F⟩:=ti (P:=λi p=>c p\.tup [.int (M12.st i),.bl true]) ys 0 (λi v hv=>[Nat.zero_add]▸B i v hv);let J:av c (upd c D (.lst (g.map V.ref))):=av.upd S;rw[aiQ]at u;rwa[⟨D,g,gK (bJ (2* L)),2,aj,by rw[Sy,tu,u],λi p kv M r=>?_,λd I=>?_⟩]
   ·let f:i<2* L:=by rw[<-u];rwa[(aiO.mp M).1]
    have:=F i p M;rw[Nat.zero_add]at this;unfold gK at r;rw[ai6,su f]at r;rw[<-Za0 r];rwa[J^this]
   ·let e:jb [] (gK (bJ (2* L)))=gK (bJ (2* L)):=by
     rw[y9 _ _ ?_,ali];rw[ali];unfold gK;rw[ajw];rwa[akw.mpr (List.Pairwise.imp (λ{a b} m z=>m (Sum.inl.inj z)) (Js _))]
    rw[e];let O:av (upd c D (.lst (g.map V.ref))) (upd (upd c D (.lst (g.map V.ref))) d (.dK (gK (bJ (2* L))))):=av.upd I;let N:=s1.trans (s2.trans J);rwa[k d _ (N.trans O) (N.free I) aj]
def hX (T:Txt K mg A):T.iG.Ok mg P w base 1 (N8 A.aB):=by
 rwa[T.iG.on Eg (λf n d s H m Q E j h=>?_)]
 ·let⟨r,S,a,c,z,rfl,h,l,k⟩:=h;let b:=eV j;erw[_,{a9 (A6 b ((0<<<1)|||1) (pv 2) ⟨2222⟩)}];let i:S.ways[c]?\(S.way c):=by unfold RS.way;rw[aiT,aiL l];rfl
  let⟨p,g,e⟩:=h.rW.at i;erw[12,r,_,a.dx,112,h.ins,aJ T,T.jd,iP^_,12,a.aW,11122,aD.of h.hW,dR g,p,2,.inl ⟨_,.inl e⟩,121,dz.k (k:=Sum.inl z) e];rw[lj];rwa[k]
def iU (T:Txt K mg A):T.hU.Ok mg P w base 1 (Fi A.aB):=by
 rwa[T.hU.on yC (λd j b s H g Q E i h=>?_)]
 ·let⟨r,S,a,c,e,rfl,h,f,k⟩:=h;erw[_,{a9 ((0<<<1)|||1)}];rwa[12,r,_,a.dx,112,h.ins,aJ T,T.jw,jD^_,12,a.aE,11122,aD.of h.hE,cw (bU (eD f)),k]
def pH {c:Nat}(h:c<⇑S.ways):S.ways[c]?\(S.way c):=by unfold RS.way;cbv
def xh {c:Nat}(h:c<⇑S.gaps):S.gaps[c]?\(S.gap c):=by unfold RS.gap;cbv
def CK (h:∀l∈S.ways,⇑l<=m):⇑(S.way n)<=m:=by
 unfold RS.way;rw[aiT]
 cases e:S.ways[n]? with
 |none=>exact ajj _
 |some l=>exact h l (aiN e)
def N9 (h:O.ws[i]?\b):O.own a b:=.inr (.inr (dF (aiN h)))
def Xm (h:O.gs[i]?\b):O.own a b:=.inr (.inr (gy (aiN h)))
def dh.upd {o:HO}(h:O.own a b):dh O a H (upd H b o):=λc u d e=>[ak (λz=>d ([z]▸h))]▸e
def dh.trans (h:dh O a H I)(d:dh O a I J):dh O a H J:=λb u c e=>d b u c (h b u c e)
def qN (T:Txt K mg A):T.mj.Ok mg P w base 1 (Jt A.aB):=by
 rwa[T.mj.on Aj (λcC AA F s H vs Q E hr h=>?_)]
 ·let⟨r,S,a,c,d,z,rfl,h,hw,hc,M,Y,k⟩:=h;let j:=eV hr
  erw[_,{jC j ((0<<<1)|||1) (pv 2) (pv 3) rfl,jC j ((0<<<1)|||3) (eU dD (pv 2)) (pv 1) rfl,aZ (uE ((0<<<1)|||1) (pv 2) cJ ⟨2222⟩),aZ (uE ((0<<<1)|||3) (eU dD (pv 2)) cJ ⟨2222⟩)}]
  rwa[ju ?_];intro iY ft fQ;let⟨p,b,J⟩:=h.rW.at (pH (S:=S) (c:=c) ([hw.w]▸hc));let b1:⇑(S.way c)<=100000:=CK Y;erw[1212,r,_,a.dx,112,h.ins,aJ T,T.jd,iP^_,12,a.aW,11122,aD.of h.hW,dR b,12,p,12,jY.k (k:=Sum.inl z) J ([Be]▸aiW b1 ⋯)];rw[Bf];let n:ay A.aB _ r (S.cD c z d) a:=h.Bh b (jZ (S.way c) z d);let X:dh a r H (upd H p (.dK (wK (jZ (S.way c) z d)))):=dh.upd (N9 b);change upd H p _=G at n X ⊢;let w1:(S.cD c z d).ways.length=S.q:=by show ⇑(S.ways.set c _)=_;rw[aji,hw.w]
  let⟨q,D,B⟩:=n.rW.at (pH (S:=S.cD c z d) (c:=d) ([w1]▸M))
  let b2:⇑((S.cD c z d).way d)<=100001:=CK λl g=>by
   rcases akU g with g|rfl
   ·rwa[Nat.le_succ_of_le (Y l g)]
   ·rwa[ai0 (Ln^_) (by omega)]
  rwa[⟨_,rfl,_,rfl,r,_,a.dx,_,_,rfl,n.ins,aJ T,T.jd,iP^_,_,rfl,a.aW,_,_,_,rfl,rfl,aD.of n.hW,dR D,_,rfl,_,rfl,q,_,rfl,jY.k (k:=Sum.inl (-z)) B (by rw[Be];rwa[aiW b2 (by decide)]),?_⟩];rw[Bf];let f:ay A.aB _ r ((S.cD c z d).cD d (-z) c) a:=n.Bh D (jZ ((S.cD c z d).way d) (-z) c);let O:dh a r G (upd G q (.dK (wK (jZ ((S.cD c z d).way d) (-z) c)))):=dh.upd (N9 D);change upd G q _=H2 at f O ⊢;generalize U:(S.cD c z d).cD d (-z) c=C at f ⊢;let N:⇑C.gaps=S.q:=by rw[<-U];rwa[hw.g]
  let⟨p3,o,m⟩:=f.rG.at (xh (S:=C) (c:=c) ([N]▸hc))
  let pop:∀{H:Hp} {S:RS} {c:Nat} {z:Int} {p:Zs},ay A.aB H r S a->a.gs[c]?\p->H p\.dK (gK (S.gap c))->∀{Q:V->Hp->Prop},(∀v L,dh a r H L->ay A.aB L r (S.lY c z) a->Q v L)->
   Lc p (.int z) .non H Q:=by
   intro H S c z p h b J Q B
   suffices q:(∀v,bA (gK (S.gap c)) (Sum.inl z)\v->Q v (upd H p (.dK (fw (gK (S.gap c)) (Sum.inl z)))))/\(bA (gK (S.gap c)) (Sum.inl z)=none->Q .non H) from ⟨_,Sum.inl z,J,2,q.1,q.2⟩
   rw[Iv,P0];cases I:z∈S.gap c
   ·rw[ajg I];rwa[λv _=>B _ _ (dh.upd (Xm b)) (h.SG b _),λz=>by ext z]
   ·rw[ajb I];rwa[⟨λv z=>(by ext z),λ_=>B _ _ (λ_ _ _ e=>e) ?_⟩];let e:(S.gap c).filter (λx=>decide (x≠z))=S.gap c:=List.filter_eq_self.mpr λx hx=>aje λz=>I (z ▸ hx)
    let g:c<⇑S.gaps:=by rw[<-h.rG.1];rwa[(aiO.mp b).1]
    have:S.lY c z=S:=by
     unfold RS.lY RS.setG;rw[e]
     let es:S.gaps.set c (S.gap c)=S.gaps:=aku λi=>by
      cases Z:c=i
      ·subst Z;rw[ajv g,xh g]
      ·rw[ajO Z]
     rw[es]
    rw[this];rwa[h]
  rwa[⟨12,r,_,a.dx,112,f.ins,aJ T,T.si,sY^_,12,a.aG,11122,aD.of f.hG,dR o,p3,2,.inl ⟨_,.inl m⟩,12,pop f o m λv H3 u3 t=>?_⟩];generalize e3:C.lY c z=S3 at t;let g3:⇑S3.gaps=S.q:=by rw[<-e3];show ⇑(C.gaps.set c _)=_;rw[aji,N]
  let⟨p4,y,u⟩:=t.rG.at (xh (S:=S3) (c:=d) ([g3]▸M));rwa[⟨12,r,_,a.dx,112,t.ins,aJ T,T.si,sY^_,12,a.aG,11122,aD.of t.hG,dR y,p4,2,.inl ⟨_,.inl u⟩,1212,pop t y u λv H4 u4 R=>?_⟩];rwa[k H4 (X.trans (O.trans (u3.trans u4))) ?_];rw[<-e3,<-U]at R;rwa[R]
def tK (T:Txt K mg A):T.gF.Ok mg P w base 3 (N7 A.aB):=by
 rwa[T.gF.on tI (λcC AA outer s H vs Q E hr h=>?_)]
 ·let⟨x,B,L,rfl,hx,lU,sv,k⟩:=h
  erw[_,{cq (pv 0) (pv 1) rfl,cq (pv 0) ao rfl,cq (pv 0) (bT ah) rfl,cq (pv 0) (bT #[fW]) rfl,cq (pv 0) (bT #[pc T.qh (ui T) hr #[1]]) rfl,cq (pv 0) (bT #[ao]) rfl,cq (pv 0) (bT #[bT #[ao]]) rfl,cq (pv 0) (bT ah) rfl}]
  rwa[uG ?_];intro CL uj lV kh iY ft fQ
  let st:∀{H0:Hp} {fs:List (Str×V)} {f:Str} {v:V},H0 x\.ins A.aB B fs->(∀b o,H b\o->b≠x->H0 b\o)->upd H0 x (.ins A.aB B (bR f v fs)) x\.ins A.aB B (bR f v fs)/\(∀b o,H b\o->b≠x->upd H0 x (.ins A.aB B (bR f v fs)) b\o)/\∀b o,b≠x->H0 b\o->upd H0 x (.ins A.aB B (bR f v fs)) b\o:=
   λ_ h=>⟨aj,λb o e n=>[ak n]▸h b o e n,λb o n e=>[ak n]▸e⟩
  erw[1212,x,_,B,12,hx,aJ T,T.sg,(by show 0<1000;decide)];obtain⟨x1,o1,-⟩:=st (f:="letters") (v:=.int L) hx (λb o e _=>e);change upd H x _=H1 at x1 o1 ⊢;let f1:⇑(bR "letters" (.int L) ([]:List (Str×V)))<=1:=jF (n:=0) (aiS _);erw[12,x,_,B,12,x1,aJ T,T.pF,aiW f1 ⋯];obtain⟨x2,o2,-⟩:=st (f:="made") (v:=.int 1) x1 o1;let f2:=jF (f:="made") (v:=.int 1) f1;generalize e2:bR "made" (.int 1) (bR "letters" (.int L) [])=fs2 at x2 o2 f2 ⊢;change upd H1 x _=H2 at x2 o2 ⊢;rwa[⟨ajj _,λu nR=>⟨12,x,_,B,12,av.upd nR _ _ x2,aJ T,T.sh,aiW f2 ⋯,5⟩⟩];let X3:upd H2 u (.lst []) u\(.lst []):=aj;let C:u≠x:=(aw x2 nR).symm;let s3:=av.upd (o:=.lst []) nR
  let n0:∀{b:Zs} {H0:Hp},(∀c o,H c\o->c≠x->H0 c\o)->H0 b=none->b≠x->H b=none:=λ{b H0} h n nx=>by
   cases e:H b with
   |none=>rfl
   |some o=>rw[h b o e nx]at n;ext n
  let kR:=n0 o2 nR C;change upd H2 u _=H3 at X3 s3 ⊢;let⟨x4,o4,k4⟩:=st (f:="rows") (v:=↑u) (s3^x2) (λb o e n=>s3^o2 b o e n);let f4:=jF (f:="rows") (v:=↑u) f2;generalize e4:bR "rows" ↑u fs2=fs4 at x4 o4 f4 k4 ⊢;let Uc:=k4 _ _ C X3;change upd H3 x _=H4 at x4 o4 Uc ⊢;intro wd Ud;let l:wd≠x:=(aw x4 Ud).symm;let X4:=n0 o4 Ud l;generalize e_:upd H4 wd _=H5;let⟨s5,abu⟩:=dP e_ Ud;rwa[⟨(Za4 1),λG nW=>⟨12,x,_,B,12,av.upd nW _ _ (s5^x4),aJ T,T.jd,aiW f4 ⋯,5⟩⟩];let U:G≠x:=(aw (s5^x4) nW).symm;let kW:=n0 (λb o e n=>s5^o4 b o e n) nW U;let nWR:G≠u:=(aw (s5^Uc) nW).symm;generalize e_:upd H5 G _=H6;let⟨s6,hW6⟩:=dP e_ nW;let⟨x7,o7,k7⟩:=st (f:="ways") (v:=↑G) (s6^s5^x4) (λb o e n=>s6^s5^o4 b o e n);let f7:=jF (f:="ways") (v:=↑G) f4;generalize e7:bR "ways" ↑G fs4=fs7 at x7 o7 f7 k7 ⊢;let Ue:=k7 _ _ C (s6^s5^Uc);let Ug:=k7 _ _ U hW6;let Mx:=k7 _ _ l (s6^abu);change upd H6 x _=H7 at x7 o7 Ue Ug Mx ⊢;rwa[⟨12,L,2,lU,sv,λgd H8 s8 Uh abv=>?_⟩];let t:gd≠x:=(aw x7 Uh).symm;let kgd:=n0 o7 Uh t;let ngw:gd≠wd:=(aw Mx Uh).symm;rwa[⟨(Za4 1),λN nG=>⟨12,x,_,B,12,av.upd nG _ _ (s8^x7),aJ T,T.si,aiW f7 ⋯,5⟩⟩];let Jx:N≠x:=(aw (s8^x7) nG).symm;let kG:=n0 (λb o e n=>s8^o7 b o e n) nG Jx;let nGR:N≠u:=(aw (s8^Ue) nG).symm;let nGW:N≠G:=(aw (s8^Ug) nG).symm;generalize e_:upd H8 N _=H9;let⟨s9,hG9⟩:=dP e_ nG;let⟨x10,Ob,Y⟩:=st (f:="gaps") (v:=↑N) (s9^s8^x7) (λb o e n=>s9^s8^o7 b o e n);let Jy:=jF (f:="gaps") (v:=↑N) f7;generalize e10:bR "gaps" ↑N fs7=abw at x10 Ob Jy Y ⊢;let My:=Y _ _ C (s9^s8^Ue);let Mz:=Y _ _ U (s9^s8^Ug);let Oc:=Y _ _ l (s9^s8^Mx);let MA:=Y _ _ Jx hG9;let Od:=Y _ _ t (s9^abv);change upd H9 x _=Oe at x10 Ob My Mz Oc MA Od ⊢;rwa[⟨4,λI nE=>⟨12,x,_,B,12,av.upd nE _ _ x10,aJ T,T.jw,aiW Jy ⋯,5⟩⟩];let Og:I≠x:=(aw x10 nE).symm;let kE:=n0 Ob nE Og;let nER:I≠u:=(aw My nE).symm;let nEW:I≠G:=(aw Mz nE).symm;let nEG:I≠N:=(aw MA nE).symm;generalize e_:upd Oe I _=Ui;let⟨y,abx⟩:=dP e_ nE;let⟨X,Jz,F⟩:=st (f:="elders") (v:=↑I) (y^x10) (λb o e n=>y^Ob b o e n);let Uj:=jF (f:="elders") (v:=↑I) Jy;generalize e12:bR "elders" ↑I abw=aby at X Jz Uj F ⊢;let R:=F _ _ C (y^My);let J:=F _ _ U (y^Mz);let Oh:=F _ _ l (y^Oc);let S:=F _ _ Jx (y^MA);let Oi:=F _ _ t (y^Od);let O:=F _ _ Og abx;change upd Ui x _=X5 at X Jz R J Oh S Oi O ⊢;rwa[⟨4,λcl r=>⟨(Za4 1),λM nC=>⟨12,x,_,B,12,av.upd nC _ _ (av.upd r _ _ X),aJ T,T.m6,aiW Uj ⋯,5⟩⟩⟩];let MB:cl≠x:=(aw X r).symm;let kcl:=n0 Jz r MB;let ncR:cl≠u:=(aw R r).symm;let ncW:cl≠G:=(aw J r).symm;let ncG:cl≠N:=(aw S r).symm;let ncE:cl≠I:=(aw O r).symm;let a:=av.upd (o:=.lst [.int 0]) r;let z:upd X5 cl (.lst [.int 0]) cl\(.lst [.int 0]):=aj;change upd X5 cl _=H13 at a z nC ⊢;let Uk:M≠x:=(aw (a^X) nC).symm;let kC:=n0 (λb o e n=>a^Jz b o e n) nC Uk;let nCR:M≠u:=(aw (a^R) nC).symm;let nCW:M≠G:=(aw (a^J) nC).symm;let nCG:M≠N:=(aw (a^S) nC).symm;let nCE:M≠I:=(aw (a^O) nC).symm;let nCc:M≠cl:=(aw z nC).symm;generalize e_:upd H13 M _=H14;let⟨m,abz⟩:=dP e_ nC;let⟨JA,Oj,q⟩:=st (f:="called") (v:=↑M) (m^a^X) (λb o e n=>m^a^Jz b o e n);let Ol:=jF (f:="called") (v:=↑M) Uj;generalize e15:bR "called" ↑M aby=abA at JA Oj Ol q ⊢;let MC:=q _ _ C (m^a^R);let MD:=q _ _ U (m^a^J);let Om:=q _ _ l (m^a^Oh);let MF:=q _ _ Jx (m^a^S);let Oo:=q _ _ t (m^a^Oi);let MG:=q _ _ Og (m^a^O);let D:=q _ _ MB (m^z);let MH:=q _ _ Uk abz;change upd H14 x _=H15 at JA Oj MC MD Om MF Oo MG D MH ⊢;rwa[⟨ajj _,λZ nN=>⟨12,x,_,B,12,av.upd nN _ _ JA,aJ T,T.sj,aiW Ol ⋯,5⟩⟩];let X6:Z≠x:=(aw JA nN).symm;let kN:=n0 Oj nN X6;let nNR:Z≠u:=(aw MC nN).symm;let nNW:Z≠G:=(aw MD nN).symm;let nNG:Z≠N:=(aw MF nN).symm;let nNE:Z≠I:=(aw MG nN).symm;let nNC:Z≠M:=(aw MH nN).symm;let nNc:Z≠cl:=(aw D nN).symm;generalize e_:upd H15 Z _=H16;let⟨g,abB⟩:=dP e_ nN;let⟨X7,X8,j⟩:=st (f:="went") (v:=↑Z) (g^JA) (λb o e n=>g^Oj b o e n)
  let ef:bR "went" ↑Z abA=fX (L:Int) 1 ⟨B,u,G,N,I,M,Z,[],[wd],[gd],[cl]⟩:=by
   rw[<-e15,<-e12,<-e10,<-e7,<-e4,<-e2]
   kernel_rfl
  rw[ef]at X7 X8 j ⊢;rwa[k ⟨B,u,G,N,I,M,Z,[],[wd],[gd],[cl]⟩ _ X8 ⟨X7,j _ _ C (g^MC),j _ _ U (g^MD),j _ _ Jx (g^MF),j _ _ Og (g^MG),j _ _ Uk (g^MH),j _ _ X6 abB,⟨2,(λi p d h=>by simp at h)⟩,555,(λd hd=>by ext hd),55⟩ ?_]
  ·rwa[Each.snoc (ps:=[]) (xs:=[]) ⟨2,λi p d h=>by simp at h⟩ (j _ _ l (g^Om))]
  ·rwa[Each.snoc (ps:=[]) (xs:=[]) ⟨2,λi p d h=>by simp at h⟩ (j _ _ t (g^Oo))]
  ·rwa[Each.snoc (ps:=[]) (xs:=[]) ⟨2,λi p d h=>by simp at h⟩ (j _ _ MB (g^D))]
  ·show [u,G,N,I,M,Z,cl].Nodup;simp only[ajr,ai3,ajA,akO,not_or,aj8,and_true,ak4]
   cbv
  ·show [wd,gd].Nodup;simp only[ajr,ai3,ajA,akO,aj8,and_true,ak4];rwa[ngw.symm]
  ·intro b hb;rcases hb with rfl|hb|hb
   ·rwa[.inl rfl]
   ·simp only[RA.lists,ai3,ajA,akO]at hb
    cbv
   ·simp only[RA.eY,aiY,ai3,ajA,akO]at hb
    cbv
def _root_.Lake.L2.ay.CM (h:ay a H b S O){p:Zs}(c:H p=none):¬O.own b p:=λz=>by
 let⟨o,e⟩:=h.there z
 cbv
theorem Ak (T:Txt K mg A):T.qm.Ok mg P w base 3 (Ju A.aB):=by
 rwa[T.qm.on qM (λcC AA outer s H vs Q E hr h=>?_)]
 ·let⟨r,S,a,c,z,rfl,h,hw,lU,sv,hc,hm,oy,hz,k⟩:=h
  erw[_,{bI 3 qM.nd (0<<<1),cq (pv 0) (aL cK (pv 3) ao) rfl,aZ (cG aiX ai4 ai5 bM (0<<<1) #[bO #[dS (l:=[110,101,119]) rfl,1,2,3]]),aZ (cG aiX ai4 ai5 bM (0<<<1) #[fW]),aZ (cG aiX ai4 ai5 bM (0<<<1) #[pc T.qh (ui T) hr #[0<<<1]]),aZ (cG aiX ai4 ai5 bM (0<<<1) #[3]),aZ (cG aiX ai4 ai5 bM (0<<<1) #[bT #[3]]),aZ (pm (pv 0) (aJ T) T.mj (qN T) hr #[1,2,3]),a9 (pv 3)}]
  rwa[Bo ?_];intro Ul CL uj lV kh iY ft fQ;erw[12,r,_,a.dx,112,h.ins,aJ T,T.pF,sW^_];erw[12112212,r,_,a.dx,12,h.ins,aJ T,T.pF,(by show 8<1000;decide)];rw[Iw,show (S.q:Int)+ 1=((S.q+ 1:Nat):Int) by ext];let h1:=h.P1 (S.q+ 1);let u1:dh a r H (upd H r (.ins A.aB a.dx (fX S.L ((S.q+ 1:Nat):Int) a))):=dh.upd (.inl rfl);change upd H r _=H1 at h1 u1 ⊢;let lR:⇑(a.rs.map V.ref)<sizeLine:=by rw[aiQ,h.rR.1];rwa[aiW oy ⋯]
  rwa[⟨12,r,_,a.dx,112,h1.ins,aJ T,T.sh,sX^_,.inl ⟨21,aD.of h1.hR⟩,121212,(Za4 4),λt ht=>⟨a.aR,1122,av.upd ht _ _ h1.hR,lR,5⟩⟩];generalize e_:upd H1 t _=H2;let⟨s2,ht2⟩:=dP e_ ht
  let hd2:bS H2 4 ↑t (lu c z S.q):=by
   rwa[.t ht2 rfl λj v d x I=>?_]
   rcases j with _|_|_|_|j
   ·simp at x I;subst x I;rwa[.s]
   ·simp at x I;subst x I;rwa[.i]
   ·simp at x I;subst x I;rwa[.i]
   ·simp at x I;subst x I;rwa[.i]
   ·simp at x
  let nl:mH (lu c z S.q):=.t (by show 4<=100000;decide) λd hd=>by
   simp only[ai3,ajA,akO]at hd;rcases hd with rfl|rfl|rfl|rfl
   ·rwa[.s]
   ·rwa[.i]
   ·rwa[.i]
   ·rwa[.i]
  let D:=(h1.same s2).Bg hd2 nl;let u3:dh a r H2 (upd H2 a.aR (.lst (a.rs.map V.ref++[↑t]))):=dh.upd (.inr (.inl gn));change upd H2 a.aR _=H3 at D u3 ⊢;generalize R:({ a with rs:=a.rs++[t] }:RA)=p at D;let Y:∀b,p.own r b->a.own r b:=λb f=>by rw[<-R]at f;rwa[f]
  let ahq:∀b,a.own r b->p.own r b:=λb f=>by rw[<-R];rwa[f]
  let ewG:p.dx=a.dx:=by rw[<-R]
  let U3:dh a r H H3:=u1.trans (λb o f e=>u3 b o f (s2^e));erw[12,r,_,p.dx,112,D.ins,aJ T,T.jd,iP^_,.inl ⟨21,aD.of D.hW⟩];intro m y;let hdW:⇑(p.ws.map V.ref)<sizeLine:=by rw[aiQ,D.rW.1];show ⇑S.ways<sizeLine;rw[hw.w];rwa[aiW hm ⋯]
  let s4:=av.upd (o:=.dK []) y;let L:upd H3 m (.dK []) m\(.dK (wK [])):=aj;let abC:=D.CM y;erw[p.aW,1122,s4^D.hW,hdW];change upd H3 m _=H4 at s4 L ⊢;let F:=(D.same s4).SD L (λz=>abC (.inr (.inr z)));let u5:dh p r H4 (upd H4 p.aW (.lst (p.ws.map V.ref++[↑m]))):=dh.upd (.inr (.inl gq));change upd H4 p.aW _=H5 at F u5 ⊢;generalize ea5:({ p with ws:=p.ws++[m] }:RA)=n at F
  let ahz:∀b,n.own r b->p.own r b\/b=m:=λb f=>by
   rw[<-ea5]at f;rcases f with f|f|f
   ·rwa[.inl (.inl f)]
   ·rwa[.inl (.inr (.inl f))]
   ·simp only[RA.eY,aiY,aiR]at f;rcases f with (f|f)|f
    ·rwa[.inl (.inr (.inr (ajh _ f)))]
    ·rwa[.inr f]
    ·rwa[.inl (.inr (.inr (aiV _ f)))]
  let X4:H m=none\/a.own r m:=by
   cases C:a.own r m
   ·rwa[.inr C]
   ·rwa[.inl ?_]
    cases e:H m with
    |none=>rfl
    |some o=>rw[U3 m o C e]at y;ext y
  let U5:dh a r H H5:=U3.trans λb o f e=>u5 b o (λz=>f (Y b z)) (s4^e)
  rwa[⟨12,r,_,n.dx,112,F.ins,aJ T,T.si,sY^_,.inl ⟨21,aD.of F.hG⟩,12,r,_,n.dx,112,F.ins,aJ T,T.sg,vL^_,S.L,2,lU,sv,λB H6 s6 N X=>?_⟩];let hdG:⇑(n.gs.map V.ref)<sizeLine:=by rw[aiQ,F.rG.1];show ⇑S.gaps<sizeLine;rw[hw.g];rwa[aiW hm ⋯]
  let h6:=F.same s6;let abD:=F.CM N;erw[n.aG,1122,h6.hG,hdG];let U:=h6.SF X (λz=>abD (.inr (.inr z)));let u7:dh n r H6 (upd H6 n.aG (.lst (n.gs.map V.ref++[↑B]))):=dh.upd (.inr (.inl ji));change upd H6 n.aG _=H7 at U u7 ⊢;generalize ea7:({ n with gs:=n.gs++[B] }:RA)=g at U
  let ahA:∀b,g.own r b->n.own r b\/b=B:=λb f=>by
   rw[<-ea7]at f;rcases f with f|f|f
   ·rwa[.inl (.inl f)]
   ·rwa[.inl (.inr (.inl f))]
   ·simp only[RA.eY,aiY,aiR]at f;rcases f with f|f|f
    ·rwa[.inl (.inr (.inr (ajh _ f)))]
    ·rwa[.inl (.inr (.inr (aiV _ f)))]
    ·rwa[.inr f]
  let w5:H m=none\/a.own r m:=X4
  let abE:∀b o,¬a.own r b->H b\o->¬n.own r b:=λb o f e z=>by
   cbv
  let U7:dh a r H H7:=λb o f e=>u7 b o (abE b o f e) (s6^U5 b o f e)
  let kgd:H B=none\/a.own r B:=by
   cases C:a.own r B
   ·rwa[.inr C]
   ·rwa[.inl ?_]
    cases e:H B with
    |none=>rfl
    |some o=>rw[U5 B o C e]at N;ext N
  erw[12,r,_,g.dx,112,U.ins,aJ T,T.jw,jD^_,.inl ⟨21,aD.of U.hE⟩,12,g.aE,1122,U.hE,5]
  ·rw[aI,bP];show ⇑S.aY<sizeLine;rw[hw.e];rwa[aiW hm ⋯]
  let eE:aq (nI S.aY)++[V.int (S.q:Int)]=aq (nI (S.aY++[S.q])):=by rw[g9,ints_app];rfl
  show _;let J:=U.za (S.aY++[S.q]);rw[<-eE]at J;let u8:dh g r H7 (upd H7 g.aE (.lst (aq (nI S.aY)++[V.int (S.q:Int)]))):=dh.upd (.inr (.inl gU));change upd H7 g.aE _=H8 at J u8 ⊢
  let G:∀b o,¬a.own r b->H b\o->¬g.own r b:=λb o f e z=>by
   cbv
  let U8:dh a r H H8:=λb o f e=>u8 b o (G b o f e) (U7 b o f e)
  rwa[⟨12,r,_,g.dx,112,J.ins,aJ T,T.m6,nJ^_,.inl ⟨21,aD.of J.hC⟩,12,(Za4 1),λu q=>⟨g.aC,1122,av.upd q _ _ J.hC,55⟩⟩]
  ·rw[aiQ,J.rC.1];show ⇑S.called<sizeLine;rw[hw.c];rwa[aiW hm ⋯]
  generalize e_:upd H8 u _=H9;obtain⟨s9,Z⟩:_/\_\(.lst (aq (nI [S.q]))):=dP e_ q;let abF:=J.CM q;let O:=(J.same s9).Iy Z (λz=>abF (.inr (.inl z)));let X9:dh g r H9 (upd H9 g.aC (.lst (g.cs.map V.ref++[↑u]))):=dh.upd (.inr (.inl iQ));change upd H9 g.aC _=Oe at O X9 ⊢;generalize abG:({ g with cs:=g.cs++[u] }:RA)=i at O
  let ahr:∀b,i.own r b->g.own r b\/b=u:=λb f=>by
   rw[<-abG]at f;rcases f with f|f|f
   ·rwa[.inl (.inl f)]
   ·let Bx:b∈g.lists++[u]:=f;rcases aiY.mp Bx with f|f
    ·rwa[.inl (.inr (.inl f))]
    cbv
   ·rwa[.inl (.inr (.inr f))]
  let kcl:H u=none\/a.own r u:=by
   cases C:a.own r u
   ·rwa[.inr C]
   ·rwa[.inl ?_]
    cases e:H u with
    |none=>rfl
    |some o=>rw[U8 u o C e]at q;ext q
  let M:∀b o,¬a.own r b->H b\o->¬i.own r b:=λb o f e z=>by
   cbv
  let U10:dh a r H Oe:=λb o f e=>X9 b o (G b o f e) (s9^U8 b o f e)
  let hS:ay A.aB Oe r (S.grown c z (bJ (2* S.L))) i:=O;rwa[⟨12,r,i.dx,12,hS.ins,cV _ _ _ ⋯,121212,r,S.grown c z (bJ (2* S.L)),i,c,S.q,z,2,hS,⟨5555⟩,555,λUi u11 h11=>?_⟩]
  ·show ⇑(S.ways++[[]])=S.q+ 1;rw[aiP,hw.w];rfl
  ·show ⇑(S.gaps++[_])=S.q+ 1;rw[aiP,hw.g];rfl
  ·show ⇑(S.aY++[_])=S.q+ 1;rw[aiP,hw.e];rfl
  ·show ⇑(S.called++[_])=S.q+ 1;rw[aiP,hw.c];rfl
  ·show c<S.q+ 1;ext
  ·show S.q<S.q+ 1;ext
  ·intro l hl;rcases aiY.mp hl with hl|hl
   ·rwa[hz l hl]
   cbv
  ·rwa[⟨_,rfl,k i Ui (λb o f e=>u11 b o (M b o f e) (U10 b o f e)) h11 λb f=>?_⟩]
   cbv
def gu (T:Txt K mg A):T.fb.Ok mg P w base 1 (xc A.aB):=by
 rwa[T.fb.on tJ (λo v g s H u Q E y h=>?_)]
 ·let⟨r,S,a,rfl,h,hw,q,k⟩:=h;erw[_,{a9 (vV (fns:=["self"]) (ixs:=[0]) (cl:=_) rfl (gL rfl T.dX #[0<<<1]) (cR [(_,_)] rfl ⟨22222,True.intro⟩ rfl) (λC s H ex=>(aO dm (aK (Ba (K:=K) rfl) (P9 (K:=K) rfl (pv 1) rfl) (pv 0) (λ_ _=>rfl)) (pv 0) (aV _))) (λC s H ex=>(pv 0)))}];erw[12,r,_,a.dx,112,h.ins,aJ T,T.pF,sW^_,(S.q:Int),233];rw[ajq];erw[λi m ys j=>m=S.q - i/\i<=S.q/\ys=aq (nI ((~~~i).filter λc=>decide (S.aY[c]?\c)))/\j=H,⟨S.q,by simp,ajj _,22⟩];rintro i m ys j ⟨rfl,B,rfl,rfl⟩
  let hlen:⇑(aq (nI ((~~~i).filter λc=>decide (S.aY[c]?\c))))<=i:=by
   rw[aI,bP];rwa[ai0 (akS _ _) (by cbv)]
  cases b:i<S.q
  ·rwa[.inr ⟨b,5,λx t f=>?_⟩]
   ·rwa[aiW (ai0 hlen (show i<=100000 by omega)) ⋯]
   let⟨rfl,rfl⟩:=f;let l:S.aY[i]?\(S.aY[i]'([hw.e]▸b)):=aiL _
   change S.aY[i]'(by cbv)=e at l;erw[12,r,_,a.dx,112,h.ins,aJ T,T.jw,jD^_,12,a.aE,11122,aD.of h.hE,([Int.zero_add]▸cw (bU (eD l)))];erw[12212];cases d:e=i
   ·subst d;rw[show decide (V.int (e:Int)=V.int (0+ (e:Int)))=true from aje (by rw[Int.zero_add])];rwa[⟨12,S.q - (e+ 1),32,b,52⟩];rw[aj9,List.filter_append,alU (by cbv),List.filter_nil,g9,ints_app,Int.zero_add];rfl
   ·rw[show decide (V.int (e:Int)=V.int (0+ (i:Int)))=false from ajx (λz=>d (by injection z with z;omega))];rwa[⟨S.q - (i+ 1),32,b,52⟩];rw[aj9,List.filter_append,List.filter_cons_of_neg (by cbv),List.filter_nil,ajp]
  ·let e:i=S.q:=∅
   subst e;rwa[.inl ⟨aiS _,ai0 hlen (ai0 q ⋯),λD n=>k D n⟩]
def pJ (T:Txt K mg A):T.kP.Ok mg P w base 5 (Fj 2 A.aB):=by
 rwa[T.kP.on yD (λcC AA m s H vs Q E X h=>?_)]
 ·let⟨r,S,a,rfl,h,B,u,k⟩:=h;erw[_,{a9 (iD (fns:=[]) (ixs:=[]) (cl:=[]) rfl (cY (0<<<1)) (cR [] rfl True.intro rfl) (λC s H ex=>(pc T.own (zA T) X #[0])))}];erw[12,r,_,a.dx,112,h.ins,aJ T,T.sh,sX^_,a.aR,2,⟨_,aD.of h.hR⟩];let j:⇑(a.rs.map V.ref)=⇑S.rows:=by rw[aiQ,h.rR.1]
  let L:∀i,i<⇑S.rows->∃p d,a.rs[i]?\p/\S.rows[i]?\d/\d∈S.rows/\bS H 4 ↑p d:=λi f=>by
   let c:=aiL f;let⟨p,o,q⟩:=h.rR.at c;rwa[p,_,o,c,aiN c,q]
  rwa[nK ⇑S.rows (λi=>(a.rs.map V.ref).getD i .non) (λb v i=>∃p d,v=↑p/\S.rows[i]?\d/\mH d/\bS b 4 ↑p d) (λH1 b v i s q0=>by let⟨p,x,e,n,hn,q⟩:=q0;rwa[p,x,e,n,hn,q.same s]) ?_ (λi b s2 f=>jX (aD.of (s2^h.hR)) i ∅) (λi x b H3 s2 f y=>?_) (λb s2=>?_) (λi b Rr f s2 kk=>?_) (λD b ys s2 N U X=>?_)]
  ·rwa[ai0 B ⋯]
  ·let⟨e,F⟩:=iN (aD.of (s2^h.hR)) i x H3 ∅ y;erw[e];rw[aiT,F];rfl
  ·have:=gS (aD.of (K:=K) (s2^h.hR));rw[j]at this;rwa[this]
  ·let⟨p,d,o,c,g,q⟩:=L i f;let F:(a.rs.map V.ref).getD i .non=↑p:=by rw[aiT,ai6,o];rfl
   let q1:=(u p d g q).same s2;rw[F];rwa[⟨12,↑p,d,2,q1,h.flat d g,λv' H' s' Z=>?_⟩]
   have:∃J,v'=↑J:=by
    let I:∃R,d=.t R:=by
     cases q with
     |t=>cbv
     |l=>exact absurd (h.flat _ g) (λz=>by ext z)
    let⟨R,rfl⟩:=I
    cases Z with
    |t=>cbv
   let⟨J,rfl⟩:=this;rwa[kk _ H' s' ⟨J,d,2,c,h.flat d g,Z.le ⋯⟩]
  ·let⟨O,rfl,G⟩:=ti (P:=λi p=>∃d,S.rows[i]?\d/\bS b 4 ↑p d) ys 0 (λi v hv=>by
    cbv)
   let M:av b (upd b D (.lst (O.map V.ref))):=av.upd N;rw[aiQ]at U;rwa[k D O _ (s2.trans M) (s2.free N) aj ⟨U,λi p d e1 n=>?_⟩];let⟨d',Y,q⟩:=G i p e1;rw[Nat.zero_add]at Y;obtain rfl:d'=d:=Za0 (Y.symm.trans n);rwa[q.same M]
def dk (H:Hp)(p:Zs)(a:Ze):Prop:=∃b:Zn,H p\.lst (b.map V.ref)/\Each (λq (w:Way)=>H q\.tup [.int (w.1:Int),.int w.2.1,.int (w.2.2:Int)]) b a
def qq (a:RA)(r p:Zs)(H c:Hp):Prop:=∀b o,¬a.own r b->b≠p->H b\o->c b\o
def dk.keep {c:Ze}(h:dk H a c)(k:∀o,H a\o->I a\o)(f:∀b d,H b\.tup d->I b\.tup d):dk I a c:=by
 let⟨g,j,i⟩:=h;rwa[g,k _ j,i.imp λq w _ _ e=>f^e]
structure Small (S:RS):Prop where
 m:S.q<=100000
 w:∀l∈S.ways,⇑l<=100000
 r:⇑S.rows<=1000000
 n:⇑S.bu<=1000000
 c:∀l∈S.called,⇑l<=1000000
inductive CN (C:Zs) (vs:Zb) (H:Hp) (Q:VK) (E_:XK):Prop
 |mk (r p:Zs) (S:RS) (a:RA) (c:Nat) (pend:Ze):vs=[↑r,.int c,↑p]->ay C H r S a->S.Wf->c<S.q->Gq S c->(∀l∈S.ways,⇑l<=100000)->dk H p pend->¬a.own r p->⇑pend<=1000000->(∀a' H',qq a r p H H'->ay C H' r (S.oW c pend).1 a'->dk H' p (S.oW c pend).2->(∀b,a'.own r b->a.own r b\/H b=none)->Q .non H')->CN C vs H Q E_
inductive Fm (C:Zs) (vs:Zb) (H:Hp) (Q:VK) (E_:XK):Prop
 |mk (r p:Zs) (S:RS) (a:RA) (c x y:Nat) (z:Int) (pend:Ze):vs=[↑r,.int c,.int z,.int x,.int y,↑p]->ay C H r S a->S.Wf->x<S.q->y<S.q->x≠y->Gq S (max x y)->(∀n∈S.cE (max x y),n<S.q)->Small S->dk H p pend->¬a.own r p->⇑pend<=1000000->(∀a' H',qq a r p H H'->ay C H' r (S.meet c z x y pend).1 a'->dk H' p (S.meet c z x y pend).2->(∀b,a'.own r b->a.own r b\/H b=none)->Q .non H')->Fm C vs H Q E_
structure xi (S:RS):Prop where
 wf:S.Wf
 el:∀c,c<S.q->S.ax c<S.q
 bl:∀c z d,S.by c z=some d->d<S.q
 cl:∀c,∀n∈S.cE c,n<S.q
 off:∀c,c<S.q->Gq S c
 sm:Small S
inductive CP (C:Zs) (vs:Zb) (H:Hp) (Q:VK) (E_:XK):Prop
 |mk (r t p:Zs) (S:RS) (a:RA) (w:Way) (pend:Ze):vs=[↑r,↑t,↑p]->ay C H r S a->H t\.tup [.int (w.1:Int),.int w.2.1,.int (w.2.2:Int)]->xi S->w.1<S.q->w.2.2<S.q->dk H p pend->¬a.own r p->⇑pend<=1000000->(∀a' H',qq a r p H H'->ay C H' r (S.takeIn pend w).1 a'->dk H' p (S.takeIn pend w).2->(∀b,a'.own r b->a.own r b\/H b=none)->Q .non H')->CP C vs H Q E_
inductive Oq (C:Zs) (vs:Zb) (H:Hp) (Q:VK) (E_:XK):Prop
 |mk (r q:Zs) (S:RS) (a:RA) (c d:Nat) (z:Int) (row:Dt) (I:RS->Ze->Prop) (μ:RS->Ze->Nat):vs=[↑r,.int c,.int z,.int d,↑q]->ay C H r S a->⇑S.rows<=1000000->bS H 2 ↑q row->mH row->I { S with rows:=S.rows++[row] } [(c,z,d)]->(∀S pend w,I S (pend++[w])->xi S/\w.1<S.q/\w.2.2<S.q/\⇑pend<=1000000/\I (S.takeIn pend w).1 (S.takeIn pend w).2/\μ (S.takeIn pend w).1 (S.takeIn pend w).2 < μ S (pend++[w]))->(∀S' a' H',dh a r H H'->ay C H' r S' a'->I S' []->(∀b,a'.own r b->a.own r b\/H b=none)->Q .non H')->Oq C vs H Q E_
def pK (h:i<n):tU n (i:Int)\i:=by
 unfold tU;rw[ajg ∅,ajg ∅,ajq]
def MJ {l:List (Int×Nat)}(a:(l.map (·.1)).Nodup){q:Int×Nat}(h:q∈l):fF l q.1\q.2:=by
 induction l with
 |nil=>ext h
 |cons p l b=>
  unfold fF;rw[aj0,ajr]at a;cases e:p.1=q.1
  ·cbv
  ·rw[alf (by simpa using e)];rcases ai3.mp h with rfl|h
   ·rwa[absurd rfl e]
   ·rwa[b a.2 h]
def u6 (T:Txt K mg A):T.lO.Ok mg P w base 1 (CN A.aB):=by
 rwa[T.lO.on gX (λcC AA outer s H vs Q E hr h=>?_)]
 ·let⟨r,p,S,a,c,d,rfl,h,hw,hc,ok,sm,hP,np,nT,k⟩:=h;let iZ:=eV hr
  erw[_,{bI 3 gX.nd ((0<<<1)|||1),kU fW (vq (0<<<1) (pv 1) set_list),ck ajc rfl (cY (fK (j0 rfl) rfl T.jc aj6 #[3])) (cZ 4 gX.nd)
    {bI 5 gX.nd (EJ iZ (pv 3) (pv 4) (λ_ _=>rfl)),bG (bC (aO ib (pv 5) (pv 1) (aV _))
     {aZ (Ld ((0<<<1)|||5) (eU dD (pv 4)) ⟨2222⟩)}
     bj),aZ (cG aiX ai4 ai5 bM (pv 2) #[bO #[1,4,5]])}}]
  rwa[eQ ?_];intro ft fQ;let R:c<⇑S.ways:=by rw[hw.w];rwa[hc]
  let⟨u,v,Ya⟩:=h.rW.at (pH R);let Yb:⇑(S.way c)<=100000:=CK sm;erw[12,r,_,a.dx,112,h.ins,aJ T,T.jd,iP^_,12,a.aW,11122,aD.of h.hW,dR v];intro Y D;generalize e_:upd H Y _=H1;obtain⟨s1,abH⟩:_/\_\(.dK (wK [])):=dP e_ D;let nn:=h.CM D;let nnp:Y≠p:=λz=>by let⟨J,q1,_⟩:=hP;cbv
  let h1:=h.same s1;let hi:c<⇑a.ws:=by rw[h.rW.1];rwa[R]
  erw[12,r,_,a.dx,112,h1.ins,aJ T,T.jd,iP^_,12,a.aW,11,c,22,h1.hW,pK ([aiQ]▸hi)];let h2:=h1.SJ hi abH (λz=>nn (.inr (.inr z)));let u2:∀b o,b≠a.aW->H1 b\o->upd H1 a.aW (.lst ((a.ws.map V.ref).set c ↑Y)) b\o:=λb o y e=>by rw[ak y];rwa[e]
  change upd H1 a.aW _=H2 at h2 u2 ⊢;let npW:p≠a.aW:=λz=>np (.inr (.inl ([z]▸gq)))
  let wdW:u≠a.aW:=(h.ld gq (dF (aiN v))).symm;let N:H2 u\(.dK (wK (S.way c))):=u2 _ _ wdW (s1^Ya);generalize Fo:({ a with ws:=a.ws.set c Y }:RA)=a2 at h2;let Yc:ay A.aB H2 r (dc c S d []).1 a2:=h2
  let abI:¬a2.own r u:=λz=>by
   rw[<-Fo]at z;rcases z with z|z|z
   ·rwa[(h.rd (dF (aiN v))) z.symm]
   ·rwa[h.ld z (dF (aiN v)) rfl]
   ·let Yd:=ajF.mp h.mI;let z':u∈a.ws.set c Y++a.gs:=z;rcases aiY.mp z' with z|z
    ·let⟨j,M⟩:=ajG z;cases e:c=j
     ·subst e;rw[ajv hi]at M;have:Y=u:=Za0 M;rw[this,Ya]at D;ext D
     ·rw[ajO e]at M;rwa[e ((al7 hi Yd.1).mp (v.trans M.symm))]
    ·rwa[Yd.2.2 u (aiN v) u z rfl]
  let L:∀b,a2.own r b->a.own r b\/H b=none:=λb f=>by
   rw[<-Fo]at f;rcases f with f|f|f
   ·rwa[.inl (.inl f)]
   ·rwa[.inl (.inr (.inl f))]
   ·let Bx:b∈a.ws.set c Y++a.gs:=f;rcases aiY.mp Bx with f|f
    ·rcases akU f with f|rfl
     ·rwa[.inl (.inr (.inr (ajh _ f)))]
     ·rwa[.inr D]
    ·rwa[.inl (.inr (.inr (aiV _ f)))]
  let xj:¬a2.own r p:=λz=>by
   rcases L p z with q|q
   ·rwa[np q]
   ·let⟨J,q1,_⟩:=hP;cbv
  let E6:dk H2 p (dc c S d []).2:=hP.keep (λo e=>u2 _ _ npW (s1^e)) (λb U e=>u2 _ _ (h.tl e gq) (s1^e));let B2:qq a r p H H2:=λb o y _ e=>u2 _ _ (λz=>y (.inr (.inl ([z]▸gq)))) (s1^e)
  rwa[⟨12,u,12,N,λl nl=>?_⟩];let s3:=av.upd (o:=.lst ((wK (S.way c)).map λG=>kV G.1)) nl;let X:upd H2 l (.lst ((wK (S.way c)).map λG=>kV G.1)) l\(.lst ((wK (S.way c)).map λG=>kV G.1)):=aj;let Fq:=Yc.CM nl;let Ye:l≠p:=λz=>by let⟨J,q1,_⟩:=E6;cbv
  let nlw:l≠u:=λz=>by cbv
  let nlH:H l=none\/a.own r l:=by
   cases ho:a.own r l
   ·rwa[.inr ho]
   ·rwa[.inl ?_]
    cases e:H l with
    |none=>rfl
    |some o=>rw[B2 l o ho Ye e]at nl;ext nl
  change upd H2 l _=H3 at s3 X ⊢;erw[l,2,⟨_,aD.of X⟩];let hlen:⇑((wK (S.way c)).map λG=>kV G.1)=⇑(S.way c):=by rw[aiQ,Be]
  rwa[eI (xs:=(wK (S.way c)).map λG=>kV G.1) (λi σ I=>∃v4 v5,σ=#v[↑r,.int (c:Int),↑p,↑u,v4,v5]/\ay A.aB I r (dc c S d ((S.way c).take i)).1 a2/\dk I p (dc c S d ((S.way c).take i)).2/\(∀b o,¬a2.own r b->b≠p->H3 b\o->I b\o)) ⟨none,none,2,Yc.same s3,E6.keep (λo e=>s3^e) (λb U e=>s3^e),λb o _ _ e=>e⟩ (λi σ I _ q0=>by let⟨_,_,_,_,_,Z⟩:=q0;rwa[aD.of (Z _ _ Fq Ye X)]) ?_ ?_]
  ·rintro i x σ I hx ⟨v4,v5,rfl,O,B,Z⟩;let F:i<⇑(S.way c):=by rw[<-hlen];rwa[(aiO.mp hx).1]
   let hg:(S.way c)[i]?\((S.way c)[i]'F):=aiL F
   change (S.way c)[i]'F=w at hg
   let ex:x=.int w.1:=by
    unfold wK at hx;rw[ai6,ai6,hg]at hx;rwa[(Za0 hx).symm]
   subst ex;let hm:=aiN hg;let JB:(S.way c).take (i+ 1)=(S.way c).take i++[w]:=by rw[akG,hg];rfl
   let abJ:I u\(.dK (wK (S.way c))):=Z _ _ abI (λz=>by let⟨J,q1,_⟩:=E6;cbv) (s3^N);let hv:bA (wK (S.way c)) (Sum.inl w.1)\(.int (w.2:Int)):=by rw[lj,MJ ok.nd hm];rfl
   let lS:=ok.lt w hm;let Tj:=(gO c S d ((S.way c).take i)).1;erw[1212,u,12,(by have:=dz.k (k:=Sum.inl w.1) abJ;rw[hv]at this;rwa[this])];erw[λ e8 H'=>e8=#v[↑r,.int (c:Int),↑p,↑u,.int w.1,.int (w.2:Int)]/\ay A.aB H' r (dc c S d ((S.way c).take (i+ 1))).1 a2/\dk H' p (dc c S d ((S.way c).take i)).2/\(∀b o,¬a2.own r b->b≠p->H3 b\o->H' b\o),5]
   ·rwa[⟨1212212,bK (λtX=>?_) (λtX=>?_)⟩]
    ·let n:w.2≠c:=λz=>by cbv
     let hd2:w.2<(dc c S d ((S.way c).take i)).1.ways.length:=by rw[Tj,hw.w];rwa[lS]
     let⟨pd,C,Yf⟩:=O.rW.at (pH hd2)
     let SK:((dc c S d ((S.way c).take i)).1.by w.2 (-w.1)).isSome=true:=by
      rw[yb R _ (λq hq=>[hw.w]▸ok.lt q (List.mem_of_mem_take hq)),ajb]
      ·rwa[ok.bk w hm n]
      ·rintro (q|⟨q,hq,q1,q2⟩)
       ·rwa[n q]
       ·let⟨j,M⟩:=ajG hq
        let Um:j<i:=by
         have:=(aiO.mp M).1;rw[ajs]at this;ext
        rw[ak1 Um]at M;let e1:((S.way c).map (·.1))[j]?\q.1:=by rw[ai6,M];rfl
        let e2:((S.way c).map (·.1))[i]?\w.1:=by rw[ai6,hg];rfl
        let e3:q.1=w.1:=∅
        rw[e3]at e1;have:=(al7 ([aiQ]▸F) ok.nd).mp (e2.trans e1.symm);ext
     let⟨m,CQ⟩:=akh.mp SK;erw[12,r,_,a2.dx,112,O.ins,aJ T,T.jd,iP^_,12,a2.aW,11122,aD.of O.hW,dR C,pd,2,.inl ⟨_,.inl Yf⟩,12121,Sum.inl (-w.1),.int (m:Int),Yf,25]
     ·rw[lj];show ((dc c S d ((S.way c).take i)).1.by w.2 (-w.1)).map _=_;rw[CQ];rfl
     ·rw[Qa];rwa[⟨25,B.keep (λo e=>?_) (λb U e=>?_),λb o y g e=>?_⟩]
      ·rw[JB,iB];unfold jG;simp only[n,amh,ak4,ne_eq];rwa[O.Bh C _]
      ·rw[ak (λz=>xj (.inr (.inr (dF ([z]▸aiN C)))))];rwa[e]
      ·rw[ak (O.td e (dF (aiN C)))];rwa[e]
      ·rw[ak (λz=>y (.inr (.inr (dF ([z]▸aiN C)))))];rwa[Z b o y g e]
    ·let n:w.2=c:=by
      cases e:w.2=c
      ·rwa[e]
      ·cbv
     rwa[⟨25,B,Z⟩];rw[JB,iB];unfold jG
     cbv
   rintro e8 H5 ⟨rfl,h5,hP5,kk5⟩;let⟨J,JC,CT⟩:=hP5
   let CV:⇑(J.map V.ref)<sizeLine:=by
    rw[aiQ,CT.1,zb,aiP,aiQ,ajs];rwa[aiW (show _<=1100000 by omega) ⋯]
   rwa[⟨12,.inl ⟨21,aD.of JC⟩,121212,(Za4 3),λt nt=>?_⟩];generalize e_:upd H5 t _=H6;let⟨s6,ht6⟩:=dP e_ nt;erw[p,1122,s6^JC,CV];let kp:∀b o,b≠p->H6 b\o->upd H6 p (.lst (J.map V.ref++[↑t])) b\o:=λb o y e=>by rw[ak y];rwa[e]
   let Uo:∀b U,H6 b\.tup U->upd H6 p (.lst (J.map V.ref++[↑t])) b\(.tup U):=λb U e=>kp _ _ (cf e (s6^JC) (by cbv)) e
   rwa[⟨112,(h5.same s6).keep (λb o f e=>kp b o (λz=>xj (z ▸ f)) e) Uo,⟨J++[t],55⟩,λb o y g e=>kp b o g (s6^kk5 b o y g e)⟩]
   ·rw[aj,ajn];rfl
   ·rw[JB,iB];rwa[(CT.imp λq w' _ _ e=>Uo^s6^e).snoc (Uo^ht6)]
  ·rintro σ I ⟨v4,v5,rfl,O,B,Z⟩;rw[hlen,akq]at O B;rwa[k a2 I (λb o y g e=>?_) O B L];let e2:=B2 b o y g e;rwa[Z b o (λz=>by cbv) g (s3^e2)]
def xk (h:n<⇑S.called):S.called[n]?\(S.cE n):=by unfold RS.cE;cbv
def sx (h:n<⇑S.aY):S.aY[n]?\(S.ax n):=by unfold RS.ax;cbv
def JD (h:∀l∈S.called,⇑l<=m):⇑(S.cE n)<=m:=by
 unfold RS.cE;rw[aiT]
 cases e:S.called[n]? with
 |none=>exact ajj _
 |some l=>exact h l (aiN e)
theorem u9 (x:Nat):∀(l a:Zh),⇑(l.foldl (λa n=>a.set n x) a)=⇑a
 |[],_=>rfl
 |n::l,a=>by rw[List.foldl_cons,u9 x l,aji]
def ints_set (ns:Zg)(i:Nat)(z:Int):(aq ns).set i (.int z)=aq (ns.set i z):=by
 unfold aq;rw[List.map_set]
def jQ (T:Txt K mg A):T.fO.Ok mg P w base 2 (Fm A.aB):=by
 rwa[T.fO.on eJ (λcC AA outer s H vs Q E hr h=>?_)]
 ·let⟨r,p,S,a,c,x,y,z,f,rfl,h,hw,hx,hy,hxy,ok,mM,sm,hP,np,nT,k⟩:=h
  erw[_,{bI 6 eJ.nd (bq (HB rfl) rfl T.N5 PyProof.Rows.boot_min #[3,4]),bI 7 eJ.nd (bq (Hz rfl) rfl T.Xk PyProof.Rows.boot_max #[3,4]),aZ (cG aiX ai4 ai5 bM (0<<<1) #[bO #[dS (l:=[109,101,101,116]) rfl,1,2,6,7]]),aZ (cG aiX ai4 ai5 bM (0<<<1) #[7]),ck ajc rfl (cY ((0<<<1)|||7)) (cZ 8 eJ.nd)
    {kU (pv 6) (vq (0<<<1) (pv 8) set_list)},aZ (cG aiX PySem.F.slot_list_extend PySem.F.type_list_extend yX ((0<<<1)|||6) #[(0<<<1)|||7]),aZ (pm (pv 0) (aJ T) T.lO (u6 T) hr #[7,5])}]
  rwa[pZ ?_];intro uj lV kh iY ft fQ;let C:(if (y:Int)<(x:Int) then (y:Int) else (x:Int))=((min x y:Nat):Int):=by split <;> ext
  let F:(if (y:Int) > (x:Int) then (y:Int) else (x:Int))=((max x y:Nat):Int):=by split <;> ext
  let Yg:min x y<max x y:=∅
  let I:max x y<S.q:=∅
  generalize ev:min x y=u at C Yg;let ek:∀a' O,qq a r p H O->ay A.aB O r ((S.joined c z u (max x y)).oW (max x y) f).1 a'->dk O p ((S.joined c z u (max x y)).oW (max x y) f).2->(∀b,a'.own r b->a.own r b\/H b=none)->Q .non O:=λa' O h1 N M g=>k a' O h1 (by unfold RS.meet;rw[ev];rwa[N]) (by unfold RS.meet;rw[ev];rwa[M]) g
  clear k;change max x y=v at F Yg I ok mM ek;erw[1212112];rw[C];erw[1212112];rw[F];let lR:⇑(a.rs.map V.ref)<sizeLine:=by rw[aiQ,h.rR.1];rwa[aiW sm.r ⋯]
  rwa[⟨12,r,_,a.dx,112,h.ins,aJ T,T.sh,sX^_,.inl ⟨21,aD.of h.hR⟩,12121212,(Za4 5),λt nt=>⟨a.aR,1122,av.upd nt _ _ h.hR,lR,5⟩⟩];generalize e_:upd H t _=H1;let⟨s1,ht1⟩:=dP e_ nt
  let JF:bS H1 4 ↑t (gA c z u v):=by
   rwa[.t ht1 rfl λj w d C F=>?_]
   rcases j with _|_|_|_|_|j
   ·simp at C F;subst C F;rwa[.s]
   ·simp at C F;subst C F;rwa[.i]
   ·simp at C F;subst C F;rwa[.i]
   ·simp at C F;subst C F;rwa[.i]
   ·simp at C F;subst C F;rwa[.i]
   ·simp at C
  let nl:mH (gA c z u v):=.t (by show 5<=100000;decide) λd hd=>by
   simp only[ai3,ajA,akO]at hd;rcases hd with rfl|rfl|rfl|rfl|rfl
   ·rwa[.s]
   ·rwa[.i]
   ·rwa[.i]
   ·rwa[.i]
   ·rwa[.i]
  let N:=(h.same s1).Bg JF nl;let B2:qq a r p H (upd H1 a.aR (.lst (a.rs.map V.ref++[↑t]))):=λb o D _ e=>by rw[ak (λz=>D (.inr (.inl ([z]▸gn))))];rwa[s1^e]
  let npl:∀{b},b∈a.lists->p≠b:=λhb z=>np (.inr (.inl ([z]▸hb)))
  let P2:dk (upd H1 a.aR (.lst (a.rs.map V.ref++[↑t]))) p f:=hP.keep (λo e=>[ak (npl gn)]▸s1^e) (λb xs e=>[ak (h.tl e gn)]▸s1^e);change upd H1 a.aR _=H2 at N B2 P2 ⊢;generalize Fo:({ a with rs:=a.rs++[t] }:RA)=a2 at N;let Y:∀b,a2.own r b↔a.own r b:=λb=>by rw[<-Fo];rwa[Iff.rfl]
  let xj:¬a2.own r p:=λz=>np ((Y p).mp z)
  let G:∀{b},b∈a2.lists->p≠b:=λhb z=>xj (.inr (.inl ([z]▸hb)))
  let lN:⇑(aq (nI S.bu))<sizeLine:=by rw[aI,bP];rwa[aiW sm.n ⋯]
  erw[12,r,_,a2.dx,112,N.ins,aJ T,T.sj,sZ^_,.inl ⟨21,aD.of N.hN⟩,12,a2.aN,1122,N.hN,lN];let eN:aq (nI S.bu)++[V.int (v:Int)]=aq (nI (S.bu++[v])):=by rw[g9,ints_app];rfl
  let M:=N.P8 (S.bu++[v]);rw[<-eN]at M;let B3:qq a r p H (upd H2 a2.aN (.lst (aq (nI S.bu)++[V.int (v:Int)]))):=λb o D B e=>by rw[ak (λz=>D ((Y b).mp (.inr (.inl ([z]▸ie)))))];rwa[B2 b o D B e]
  let P3:dk (upd H2 a2.aN (.lst (aq (nI S.bu)++[V.int (v:Int)]))) p f:=P2.keep (λo e=>[ak (G ie)]▸e) (λb xs e=>[ak (N.tl e ie)]▸e);show _;change upd H2 a2.aN _=H3 at M B3 P3 ⊢;let⟨pv,J,hPV⟩:=M.rC.at (show S.called[v]?=some (S.cE v) from xk ([hw.c]▸I));let mpv:=aiN J;erw[12,r,_,a2.dx,112,M.ins,aJ T,T.m6,nJ^_,12,a2.aC,11122,aD.of M.hC,dR J,pv,2,⟨_,aD.of hPV⟩];obtain⟨-,-,-,-,-,nc⟩:=vM M.iX;let npE:pv≠a2.aE:=(nc pv mpv).2.2.2.1;rwa[eI (xs:=aq (nI (S.cE v))) (λi σ L=>∃v8,σ=#v[↑r,.int (c:Int),.int z,.int (x:Int),.int (y:Int),↑p,.int (u:Int),.int (v:Int),v8]/\ay A.aB L r { S with rows:=S.rows++[gA c z u v],bu:=S.bu++[v],aY:=((S.cE v).take i).foldl (λU n=>U.set n u) S.aY } a2/\qq a r p H L/\dk L p f) ⟨none,2,M,B3,P3⟩ (λi σ L _ ⟨11,g,11⟩=>aD.of (g.rC.2 v pv _ J (show S.called[v]?=some (S.cE v) from xk ([hw.c]▸I)))) ?_ ?_]
  ·rintro i w σ L Yh ⟨v8,rfl,g,B4,P4⟩;let⟨m,rfl,Z⟩:=cH Yh;unfold nI at Z;rw[ai6]at Z
   cases hn:(S.cE v)[i]? with
   |none=>rw[hn]at Z;ext Z
   |some n=>
    rw[hn]at Z;obtain rfl:(n:Int)=m:=Za0 Z;let Fs:=mM n (aiN hn);let Yi:⇑(((S.cE v).take i).foldl (λU n=>U.set n u) S.aY)=S.q:=by rw[u9,hw.e]
    erw[1212,r,_,a2.dx,112,g.ins,aJ T,T.jw,jD^_,12,a2.aE,11,n,22,g.hE,pK ([aI,bP,Yi]▸Fs)];rw[ints_set,Sx];let h5:=g.za ((((S.cE v).take i).foldl (λU n=>U.set n u) S.aY).set n u);rwa[⟨125,λb o D B e=>?_,P4.keep (λo e=>?_) (λb xs e=>?_)⟩]
    ·let JB:(S.cE v).take (i+ 1)=(S.cE v).take i++[n]:=by rw[akG,hn];rfl
     rw[JB,alr];rwa[h5]
    ·rw[ak (λz=>D ((Y b).mp (.inr (.inl ([z]▸gU)))))];rwa[B4 b o D B e]
    ·rw[ak (G gU)];rwa[e]
    ·rw[ak (g.tl e gU)];rwa[e]
  ·rintro σ L ⟨v8,rfl,g,B4,P4⟩;rw[aI,bP,akq]at g;let hul:u<⇑S.called:=by rw[hw.c];ext
   let Tg:v<⇑S.called:=by rw[hw.c];rwa[I]
   let⟨pu,X,Yj⟩:=g.rC.at (show S.called[u]?=some (S.cE u) from xk hul);let abK:=g.rC.2 v pv _ J (show S.called[v]?=some (S.cE v) from xk Tg);let b1:⇑(S.cE u)<=1000000:=JD sm.c;let b2:⇑(S.cE v)<=1000000:=JD sm.c;erw[12,r,_,a2.dx,112,g.ins,aJ T,T.m6,nJ^_,12,a2.aC,11122,aD.of g.hC,dR X,.inl ⟨21,aD.of Yj⟩];erw[12,r,_,a2.dx,112,g.ins,aJ T,T.m6,nJ^_,12,a2.aC,11122,aD.of g.hC,dR J,pu,pv,1122,Yj,abK,5]
   ·rw[aI,aI,bP,bP];rwa[ai0 (show _<=2000000 by omega) ⋯]
   let eC:aq (nI (S.cE u))++aq (nI (S.cE v))=aq (nI (S.cE u++S.cE v)):=by rw[g9,ints_app]
   rw[eC];let h5:=g.Iz X (S.cE u++S.cE v);let R:=gx (aiN X);let B5:qq a r p H (upd L pu (.lst (aq (nI (S.cE u++S.cE v))))):=λb o D B e=>by rw[ak (λz=>D ((Y b).mp (.inr (.inl ([z]▸R)))))];rwa[B4 b o D B e]
   let P5:dk (upd L pu (.lst (aq (nI (S.cE u++S.cE v))))) p f:=P4.keep (λo e=>[ak (G R)]▸e) (λb xs e=>[ak (g.tl e R)]▸e);change upd L pu _=H5 at h5 B5 P5 ⊢;let Yk:ay A.aB H5 r (S.joined c z u v) a2:=h5;rwa[⟨12,r,a2.dx,12,Yk.ins,cV _ _ _ ⋯,1212,r,p,S.joined c z u v,a2,v,f,2,Yk,⟨hw.w,hw.g,55⟩,I,⟨ok.nd,ok.lt,ok.bk⟩,sm.w,P5,xj,nT,λa' O b' r' p' o'=>ek a' O (λb o D B e=>b' b o (λz=>D ((Y b).mp z)) B (B5 b o D B e)) r' p' (λb hb=>?_)⟩]
   ·show ⇑((S.cE v).foldl (λU n=>U.set n u) S.aY)=S.q;rw[u9];rwa[hw.e]
   ·show ⇑(S.called.set u (S.cE u++S.cE v))=S.q;rw[aji];rwa[hw.c]
   ·rcases o' b hb with q|q
    ·rwa[.inl ((Y b).mp q)]
    ·cases ho:a.own r b
     ·rwa[.inl ho]
     ·rwa[.inr ?_]
      cases e:H b with
      |none=>rfl
      |some o=>
       cases hbp:b=p
       ·let⟨qs,q1,_⟩:=P5
        cbv
       ·rw[B5 b o ho hbp e]at q;ext q
def va (T:Txt K mg A):T.lM.Ok mg P w base 3 (CP A.aB):=by
 rwa[T.lM.on eh (λcC AA O s H vs Q E L h=>?_)]
 ·let⟨r,t,p,S,a,w,i,rfl,h,ht,ok,G,y,hP,M,x,k⟩:=h;let B:=eV L
  erw[_,{bI 3 eh.nd ((0<<<1)|||(1&&&ao)),bI 4 eh.nd (1&&&ao),bI 5 eh.nd ((0<<<1)|||(1&&&ao)),bI 6 eh.nd (mF B ((0<<<1)|||3) (pv 4) (pv 5) ⟨2222⟩),bI 7 eh.nd (mF B ((0<<<1)|||5) (eU dD (pv 4)) (pv 3) ⟨2222⟩),bG (bC (aO ib (pv 6) (pv 5) (aV _))
    {aZ (pm (pv 0) (aJ T) T.fO (jQ T) L #[3,4,6,5,2])}
    {bG (bC (aO ib (pv 7) (pv 3) (aV _))
     {aZ (pm (pv 0) (aJ T) T.fO (jQ T) L #[5,eU dD (pv 4),7,3,2])}
     {aZ (pm (pv 0) (aJ T) T.mj (qN T) L #[3,4,5])})})}]
  rwa[kr ?_];intro lV kh iY ft fQ;let R:bB K H t [.int (w.1:Int),.int w.2.1,.int (w.2.2:Int)]:=bB.of ht;let C:∀{c:Nat},c<S.q->S.aY[c]?\(S.ax c):=λ{c} j=>sx ([ok.wf.e]▸j)
  let j:=ok.el _ G;let u:=ok.el _ y;erw[12,r,_,a.dx,112,h.ins,aJ T,T.jw,jD^_,12,t,11122,R,(rfl:g6 _ (0:Int)=_),a.aE,11122,aD.of h.hE,cw (bU (eD (C G)))];erw[12,t,11122,R,(rfl:g6 _ (1:Int)=_)];erw[12,r,_,a.dx,112,h.ins,aJ T,T.jw,jD^_,12,t,11122,R,(rfl:g6 _ (2:Int)=_),a.aE,11122,aD.of h.hE,cw (bU (eD (C y)))];let g:=k;clear k;unfold RS.takeIn at g;change S.ax w.1=c at j g ⊢;change S.ax w.2.2=d at u g ⊢;change w.2.1=z at g ⊢;let⟨pc,X,I⟩:=h.rW.at (pH (S:=S) (c:=c) ([ok.wf.w]▸j));let⟨pd,Uq,F⟩:=h.rW.at (pH (S:=S) (c:=d) ([ok.wf.w]▸u));let gd:∀(o:Zi) (n:Nat),(o.map λr:Nat=>V.int (r:Int)).getD (.int (n:Int))=V.int ((o.getD n:Nat):Int):=λo n=>by cases o <;> rfl
  erw[12,r,_,a.dx,112,h.ins,aJ T,T.jd,iP^_,12,a.aW,11122,aD.of h.hW,dR X,pc,2,.inl ⟨_,.inl I⟩,12121,dz.k (k:=Sum.inl z) I];rw[lj,gd];show _;erw[12,r,_,a.dx,112,h.ins,aJ T,T.jd,iP^_,12,a.aW,11122,aD.of h.hW,dR Uq,pd,2,.inl ⟨_,.inl F⟩,1212121,dz.k (k:=Sum.inl (-z)) F];rw[lj,gd];let e1:fF (S.way c) z=S.by c z:=rfl;let e2:fF (S.way d) (-z)=S.by d (-z):=rfl;rw[e1,e2]
  let hl:(S.by c z).getD d<S.q:=by
   cases e:S.by c z with
   |none=>exact u
   |some m=>exact ok.bl _ _ _ e
  let hf:(S.by d (-z)).getD c<S.q:=by
   cases e:S.by d (-z) with
   |none=>exact j
   |some m=>exact ok.bl _ _ _ e
  change (S.by c z).getD d=l at hl g ⊢;change (S.by d (-z)).getD c=f at hf g ⊢
  let ne:∀{m n:Nat},m≠n->(!decide (V.int (m:Int)=V.int (n:Int)))=true:=λ{m n} q=>by
   cbv
  rwa[⟨λ_ J=>Q .non J,5,λ_ _ q=>q⟩];cases D:l≠d
  ·rw[ajg D]at g;erw[1212212];rw[ne D];rwa[eX ?_];rwa[12,r,a.dx,12,h.ins,cV _ _ _ ⋯,1212121212,r,p,S,a,c,l,d,z,i,2,h,ok.wf,hl,u,D,ok.off _ ∅,λn Z=>ok.cl _ n Z,ok.sm,hP,M,x,g]
  ·let Y:l=d:=als.mp D;rw[ajb D]at g;rwa[⟨1212212,ic (by rw[Y]) ?_⟩];rwa[⟨λ_ J=>Q .non J,5,λ_ _ q=>q⟩];cases v:f≠c
   ·rw[ajg v]at g;erw[1212212];rw[ne v];rwa[eX ?_];rwa[12,r,a.dx,12,h.ins,cV _ _ _ ⋯,121212121212,r,p,S,a,d,f,c,-z,i,2,h,ok.wf,hf,j,v,ok.off _ ∅,λn Z=>ok.cl _ n Z,ok.sm,hP,M,x,g]
   ·let U:f=c:=als.mp v;rw[ajb v]at g;rwa[⟨1212212,ic (by rw[U]) ?_⟩];rwa[⟨12,r,a.dx,12,h.ins,cV _ _ _ ⋯,121212,r,S,a,c,d,z,2,h,ok.wf,j,u,ok.sm.w,λJ N r'=>g a J (λb o nb _ e=>N b o nb e) r' (hP.keep (λo e=>N _ _ M e) (λb xs e=>N _ _ (h.tf e) e)) λb hb=>.inl hb⟩]
def CW (T:Txt K mg A):T.r9.Ok mg P w base 5 (Oq A.aB):=by
 rwa[T.r9.on sr (λcC AA outer s H vs Q E hr h=>?_)]
 ·let⟨r,q,S,a,c,d,z,row,I,μ,rfl,h,oy,hq,v,hI,step,k⟩:=h
  erw[_,{aZ (cG aiX ai4 ai5 bM (0<<<1) #[pc T.own (zA T) hr #[4]]),bI 5 sr.nd (bT #[bO #[1,2,3]]),bG (fU ajc (AH (pv 5) (λ_=>rfl))
    {aZ (pm (pv 0) (aJ T) T.lM (va T) hr #[HK aiX PySem.F.slot_list_pop PySem.F.type_list_pop HL (pv 5),5])})}]
  rwa[eQ ?_];intro ft fQ;let lR:⇑(a.rs.map V.ref)<sizeLine:=by rw[aiQ,h.rR.1];rwa[aiW oy ⋯]
  obtain⟨ds,rfl⟩:∃ds,row=.t ds:=by
   cases hq with
   |t=>cbv
   |l=>ext v
  rwa[⟨12,r,_,a.dx,112,h.ins,aJ T,T.sh,sX^_,.inl ⟨21,aD.of h.hR⟩,12,↑q,.t ds,2,hq,v,λv' H1 s1 Yl=>?_⟩];obtain⟨q',rfl⟩:∃q',v'=↑q':=by cases Yl with|t=>cbv
  erw[a.aR,1122,s1^h.hR,lR];let h2:=(h.same s1).Bg (Yl.le ⋯) v;let B2:dh a r H (upd H1 a.aR (.lst (a.rs.map V.ref++[↑q']))):=λb o n e=>by rw[ak (λz=>n (.inr (.inl ([z]▸gn))))];rwa[s1^e]
  change upd H1 a.aR _=H2 at h2 B2 ⊢;generalize Fo:({ a with rs:=a.rs++[q'] }:RA)=a2 at h2;let eo:∀b,a2.own r b↔a.own r b:=λb=>by rw[<-Fo];rwa[Iff.rfl]
  rwa[⟨121212,(Za4 3),λt nt=>?_⟩];generalize e_:upd H2 t _=H3;let⟨s3,Ot⟩:=dP e_ nt;rwa[⟨(Za4 1),λp Ym=>?_⟩];generalize e_:upd H3 p _=H4;let⟨s4,hp4⟩:=dP e_ Ym;let U:¬a2.own r p:=(h2.same s3).CM Ym
  let npH:H p=none:=by
   cases e:H p with
   |none=>rfl
   |some o=>have:=s3^(B2 p o (λz=>U ((eo p).mpr z)) e);cbv
  let B4:dh a r H H4:=λb o n e=>s4^s3^B2 b o n e
  let P4:dk H4 p [(c,z,d)]:=⟨[t],hp4,Each.snoc (ps:=[]) (xs:=[]) ⟨2,λi p d h=>by simp at h⟩ (s4^Ot)⟩;rwa[⟨λ_ R=>Q .non R,5,λ_ _ q=>q⟩];erw[λm σ j=>∃B G pend,m=μ B pend/\σ=#v[↑r,.int (c:Int),.int z,.int (d:Int),↑q,↑p]/\ay A.aB j r B G/\dk j p pend/\I B pend/\¬G.own r p/\(∀b o,¬a.own r b->b≠p->H b\o->j b\o)/\∀b,G.own r b->a.own r b\/H b=none,⟨11,a2,[(c,z,d)],22,(h2.same s3).same s4,P4,hI,U,λb o n _ e=>B4 b o n e,λb F=>.inl ((eo b).mp F)⟩];rintro m σ j ⟨B,G,pend,rfl,rfl,h5,P5,I5,M,B5,O5⟩;let⟨O,y,x⟩:=id P5;erw[12,!(O.map V.ref).isEmpty,.inl ⟨_,aD.of y,2⟩];cases D:pend=[]
  ·subst D;let eq0:O=[]:=akd x.1;subst eq0;rwa[cU ?_];rwa[k B G j (λb o n e=>B5 b o n (λz=>by cbv) e) h5 I5 O5]
  ·let J:=akE D;change pend.getLast D=w at J;change pend.dropLast=pre at J;subst J;let L:⇑O=⇑pre+ 1:=by rw[x.1,aiP];rfl
   let Z:O≠[]:=λz=>by rw[z]at L;ext L
   let u:=akE Z;change O.getLast Z=C at u;change O.dropLast=f at u;subst u;let Y:⇑f=⇑pre:=by rw[aiP]at L;have:⇑([C]:Zn)=1:=rfl;ext
   let⟨ok,hw1,Yn,F,hI2,Ou⟩:=step B pre w I5;let htq:j C\(.tup [.int (w.1:Int),.int w.2.1,.int (w.2.2:Int)]):=x.2 ⇑pre C w (by rw[<-Y,ai1 (aiS _),akH];rfl) (by cbv);let ht:(!((f++[C]).map V.ref).isEmpty)=true:=by simp
   rw[ht];rwa[eX ?_];erw[λ e8 R=>∃X a6 g,μ X g < μ B (pre++[w])/\e8=#v[↑r,.int (c:Int),.int z,.int (d:Int),↑q,↑p]/\ay A.aB R r X a6/\dk R p g/\I X g/\¬a6.own r p/\(∀b o,¬a.own r b->b≠p->H b\o->R b\o)/\∀b,a6.own r b->a.own r b\/H b=none,λ e8 R ζ=>by let⟨X,a6,g,lt,e1,e2,e3,e4,e5,e6,e7⟩:=ζ;rwa[⟨_,lt,X,a6,g,2,e1,e2,e3,e4,e5,e6,e7⟩]];erw[12,r,G.dx,12,h5.ins,cV _ _ _ ⋯,12,.inl ⟨21,aD.of y⟩,p,_,↑C,22,y,5]
   ·rw[ajn,aiP];show ((f.map V.ref)++[V.ref C])[⇑(f.map V.ref)+ 1 - 1]?=_
    rw[Nat.add_sub_cancel,ai1 (aiS _),akH];rfl
   let Ur:((f++[C]).map V.ref).dropLast=f.map V.ref:=by rw[ajn];rwa[List.dropLast_concat]
   rw[Ur];let kp:∀b o,b≠p->j b\o->upd j p (.lst (f.map V.ref)) b\o:=λb o n e=>by rw[ak n];rwa[e]
   let kt:∀b xs,j b\.tup xs->upd j p (.lst (f.map V.ref)) b\(.tup xs):=λb xs e=>kp b _ (cf e y (by cbv)) e
   let h6:=h5.keep (λb o F e=>kp b o (λz=>M (z ▸ F)) e) kt;let P6:dk (upd j p (.lst (f.map V.ref))) p pre:=⟨f,aj,Y,λi t' w' e1 e2=>kt^(x.2 i t' w' ([aiZ (aiO.mp e1).1]▸e1) ([aiZ (aiO.mp e2).1]▸e2))⟩;change upd j p _=H6 at kp kt h6 P6 ⊢;rwa[⟨12,r,C,p,B,G,w,pre,2,h6,kt^htq,ok,hw1,Yn,P6,M,F,λa7 H7 b7 h7 P7 o7=>?_⟩];rwa[⟨_,a7,_,Ou,2,h7,P7,hI2,λz=>?_,λb o n N e=>b7 b o (λz=>?_) N (kp b o N (B5 b o n N e)),λb F=>?_⟩]
   ·rcases o7 p z with q1|q1
    ·rwa[M q1]
    ·let⟨_,q2,_⟩:=P6;cbv
   ·cbv
   ·rcases o7 b F with q1|q1
    ·rwa[O5 b q1]
    ·cases ho:a.own r b
     ·rwa[.inl ho]
     ·rwa[.inr ?_]
      cases e:H b with
      |none=>rfl
      |some o=>
       cbv
def QH {a:Type}{ws:List a}{z:a}(h:ws[i]?\z):ws.drop i=z::ws.drop (i+ 1):=by
 let b:=(aiO.mp h).1;rw[akV b,(aiO.mp h).2]
inductive CY (C:Zs) (vs:Zb) (H:Hp) (Q:VK) (E_:XK):Prop
 |mk (r:Zs) (S:RS) (a:RA) (c:Nat) (t:Zs) (ws:Zg):vs=[↑r,.int c,↑t]->ay C H r S a->S.Wf->c<S.q->(∀c z d,S.by c z=some d->d<S.q)->H t\.tup (aq ws)->⇑ws<=1000->(∀l H',av H H'->H' l\.lst (aq (nI (c::cx S.by c ws)))->Q ↑l H')->CY C vs H Q E_
def zB (T:Txt K mg A):T.walked.Ok P w base 2 (CY A.aB):=by
 rwa[T.walked.on ou (λcC AA D s H vs Q E hr h=>?_)]
 ·let⟨r,S,a,c,t,ws,rfl,h,hw,hc,C,N,X,k⟩:=h
  refine⟨_,{bI 3 ou.nd (bT #[1]),ck ajc rfl (vw (pv 2)) (cZ 4 ou.nd)
    {bI 1 ou.nd (pm (pv 0) (aJ T) T.iG (hX T) hr #[1,4]),bC (aO kY (pv 1) cJ (aV _))
     {uz}
     bj,aZ (cG aiX ai4 ai5 bM (pv 3) #[1])},a9 (pv 3)},?_⟩
  rwa[eQ ?_];intro ft Y;rwa[⟨12,(Za4 1),λl B=>?_⟩];generalize e_:upd H l _=R;obtain⟨I,v⟩:_/\_\(.lst (aq (nI [c]))):=dP e_ B;let L:¬a.own r l:=h.CM B;let u:=I^N;let F:t≠l:=aw N B;erw[12,t,2,⟨_,bB.of u⟩]
  let fin:∀{f:Hp} {pre:Zh},(∀b o,b≠l->R b\o->f b\o)->f l\.lst (aq (nI (c::pre)))->cx S.by c ws=pre->Q ↑l f:=λ{f pre} g d e=>by
   subst e;rwa[k l f (λb o e=>g b o (aw e B) (I^e)) d]
  rwa[eI (xs:=aq ws) (λi y f=>∃cur:Nat,∃pre J,y=#v[↑r,.int (cur:Int),↑t,↑l,J]/\cur<S.q/\⇑pre=i/\cx S.by c ws=pre++cx S.by cur (ws.drop i)/\(∀b o,b≠l->R b\o->f b\o)/\f l\.lst (aq (nI (c::pre)))) ⟨c,[],none,2,hc,22,λ_ _ _ e=>e,v⟩ (λi y f _ U=>by let⟨_,_,_,_,_,_,_,g,_⟩:=U;rwa[bB.of (g _ _ F u)]) ?_ ?_]
  ·rintro i x y f hx ⟨cur,pre,J,rfl,p,m,j,g,d⟩;let⟨z,rfl,O⟩:=cH hx;let hi:i<⇑ws:=(aiO.mp O).1;let M:ay A.aB f r S a:=(h.same I).keep (λb o Z e=>g b o (λq=>L (q ▸ Z)) e) (λb xs e=>g b _ (cf e v (by cbv)) e);rw[QH O]at j;erw[12,r,a.dx,12,M.ins,cV _ _ _ ⋯,1212,r,S,a,cur,z,2,M,by rw[hw.w];ext]
   cases G:S.by cur z with
   |none=>
    rwa[⟨12212,eX ?_⟩];rw[zk G,ajp]at j;rwa[12,fin g d j]
   |some b=>
    rw[show (Option.map (λn:Nat=>V.int (n:Int)) (some b)).getD V.non=V.int (b:Int) from rfl];rwa[⟨12212,cU ?_⟩];rw[nS G]at j;erw[12,.inl ⟨21,aD.of d⟩,12,l,1122,d,5]
    ·rw[aI,bP,ajf,m];rwa[aiW (show i+ 1<=1001 by omega) ⋯]
    erw[b,pre++[b],12,C _ _ _ G,by rw[aiP,m];rfl,by rw[j,ajy];rfl,λx o n e=>[ak n]▸g x o n e];rw[aj,<-ake,g9,ints_app];rfl
  ·rintro y f ⟨cur,pre,J,rfl,p,m,j,g,d⟩;rw[aI,amg]at j;rwa[12,fin g d ([j]▸ajp _)]
def iH (g:Gg)(a:Zs):List (Str×V):=[("which",.int g.which),("word",↑a),("start",.int g.start),("front",.int g.front),("first",.int g.first),("rear",.int g.bE),("last",.int g.last)]
def MK (g:Gg)(a:Zs):(iH g a).lookup ("which":Str)\(.int g.which):=by kernel_rfl
def kD (g:Gg)(a:Zs):(iH g a).lookup ("word":Str)\↑a:=by kernel_rfl
def vd (g:Gg)(a:Zs):(iH g a).lookup ("start":Str)\(.int g.start):=by kernel_rfl
def kF (g:Gg)(a:Zs):(iH g a).lookup ("front":Str)\(.int g.front):=by kernel_rfl
def gY (g:Gg)(a:Zs):(iH g a).lookup ("first":Str)\(.int g.first):=by kernel_rfl
def kH (g:Gg)(a:Zs):(iH g a).lookup ("rear":Str)\(.int g.bE):=by kernel_rfl
def kI (g:Gg)(a:Zs):(iH g a).lookup ("last":Str)\(.int g.last):=by kernel_rfl
def Ov {g:Gg}(h:x∉(["which","word","start","front","first","rear","last"]:Zp)):(iH g a).lookup x=none:=by
 simp only[ai3,ajA,akO,not_or]at h;let⟨e,c,j,d,i,b,f⟩:=h;unfold iH;simp only[List.lookup,ajd.mpr e,ajd.mpr c,ajd.mpr j,ajd.mpr d,ajd.mpr i,ajd.mpr b,ajd.mpr f]
def CZ (g:Gg)(a:Zs)(n:Nat):bR "front" (.int n) (iH g a)=iH { g with front:=n } a:=by kernel_rfl
def ML (g:Gg)(a:Zs)(n:Nat):bR "first" (.int n) (iH g a)=iH { g with first:=n } a:=by kernel_rfl
def Ft (g:Gg)(a:Zs)(n:Nat):bR "rear" (.int n) (iH g a)=iH { g with bE:=n } a:=by kernel_rfl
def QI (g:Gg)(a:Zs)(n:Nat):bR "last" (.int n) (iH g a)=iH { g with last:=n } a:=by kernel_rfl
structure eF (CG:Zs) (H:Hp) (p dx wa:Zs) (g:Gg):Prop where
 ins:H p\(.ins CG dx (iH g wa))
 wo:H wa\(.tup (aq g.word))
def eF.same {dx:Zs}{g:Gg}(h:eF a H b dx c g)(s:av H I):eF a I b dx c g:=⟨s^h.ins,s^h.wo⟩
def eF.set {dx:Zs}{g g':Gg}(h:eF a H b dx c g)(e:g'.word=g.word):eF a (upd H b (.ins a dx (iH g' c))) b dx c g':=⟨aj,[ak (cf h.wo h.ins (by cbv)),e]▸h.wo⟩
def i3 (a:List (Zg×Nat)):List (Zd×V):=a.map λp=>(p.1.map Sum.inl,V.int p.2)
structure yE (rs:Za3) (fp:List (Zg×Nat)):Prop where
 a:∀p∈fp,rs[p.2]?\p.1
 b:∀w∈rs,∃n,(w,n)∈fp
 n:(fp.map (·.1)).Nodup
def C0 {c:List (Zg×Nat)}(w:Zg):bA (i3 c) (w.map Sum.inl)=((c.find? λp=>decide (p.1=w)).map λp=>V.int p.2):=by
 induction c with
 |nil=>rfl
 |cons p l d=>
  cases h:p.1=w
  ·rw[alX (by cbv)];rwa[da (p:=(p.1.map Sum.inl,V.int p.2)) (by rw[h])]
  ·rw[alf (by simpa using h)];rwa[(cW (p:=(p.1.map Sum.inl,V.int p.2)) (λz=>h ?_)).trans d]
   let inj:∀{a b:Zg},a.map (Sum.inl:Int->Key)=b.map Sum.inl->a=b:=λ{a b} e=>by
    induction a generalizing b with
    |nil=>cases b with|nil=>rfl|cons=>ext e
    |cons x a d=>cases b with
     |nil=>ext e
     |cons y b=>cbv
   rwa[inj z]
def MN:Sp:=λc H Q _=>∃(l:Zs) (rs:Za3),c=[↑l]/\bW H l rs/\⇑rs<=1000/\∀d b a,av H a->H d=none->a d\.dT (i3 b)->yE rs b->Q ↑d a
def xl (T:Txt K mg A):T.mZ.Ok P w base 1 MN:=by
 rwa[T.mZ.on il (λcC AA U s H vs Q E hr h=>?_) (len:=by rintro _ _ _ _ ⟨l,rs,rfl,_⟩;rfl)]
 ·let⟨l,rs,rfl,hW,hl,k⟩:=h;let O:=eV hr
  erw[_,{bI 1 il.nd pX,ck ajc rfl (Lg rfl T.oF (pv 0) rfl) (ja rfl (bX (cZ 2 il.nd) (bX (cZ 3 il.nd) hM)))
    {aZ (LC O (pv 1) (pv 3) (pv 2) ⟨2222⟩)},a9 (pv 1)}]
  rwa[eQ ?_];intro ft fQ;let⟨B,x,r⟩:=id hW;rwa[λd I=>?_]
  generalize e_:upd H d _=H1;obtain⟨s1,q1⟩:_/\_\(.dT (i3 [])):=dP e_ I;let ndl:l≠d:=aw x I;erw[12,l,2,⟨_,aD.of (s1^x)⟩]
  refine Bc (xs:=B.map V.ref) (λi J y=>∃a Z M,J=#v[↑l,↑d,Z,M]/\av H y/\y d\.dT (i3 a)/\(∀p∈a,rs[p.2]?\p.1/\p.2<i)/\(∀(j:Nat) (w:Zg),j<i->rs[j]?\w->∃n,(w,n)∈a)/\(a.map (·.1)).Nodup/\⇑a<=i)
   ⟨[],none,none,2,s1,q1,(λp c=>by ext c),λj w C=>absurd C ∅,aj8,aiS _⟩ (λi J y _ q0=>by let⟨_,_,_,_,s2,_⟩:=q0;rwa[aD.of (s2^x)]) ?_ ?_
  ·rintro i v J y t hi nt ⟨a,Z,M,rfl,s2,L,D,N,hn,hlen⟩
   let f:i<⇑B:=by
    have:=(aiO.mp hi).1;rw[aiQ]at this;rwa[this]
   let m:i<⇑rs:=by rw[<-r.1];rwa[f]
   let Y:B[i]?\(B[i]'f):=aiL f
   let R:rs[i]?\(rs[i]'m):=aiL m
   rw[ai6,Y]at hi;obtain rfl:V.ref (B[i]'f)=v:=Za0 hi;change B[i]'f=q at Y;change rs[i]'m=w at R;let G:=av.upd (o:=.tup [.int (i:Int),↑q]) nt;erw[t,12,bB.of aj,21121122];change upd y t _=H3 at G ⊢;let g:=G^L;let hq:H3 q\(.tup ((w.map (Sum.inl:Int->Key)).map kV)):=by rw[ajw];rwa[(s2.trans G) _ _ (r.2 i q w Y R)]
   rwa[⟨12,d,2,.inr ⟨_,.inl g⟩,1212,i3 a,w.map Sum.inl,q,g,2,hq,5,λv F=>?_,λF=>?_⟩]
   ·unfold i3;rw[aiQ];rwa[aiW (show ⇑a<=1000 by omega) ⋯]
   ·rw[C0]at F;let⟨p,c,rfl⟩:=ajV.mp F;let e:p.1=w:=by let h9:=List.find?_some c;simpa using h9
    let hm:=List.mem_of_find?_eq_some c;rwa[⟨a,112,s2.trans G,g,λp c=>⟨(D p c).1,by have:=(D p c).2;ext⟩,λj u C eu=>?_,hn,3⟩];cases S:j<i
    ·rwa[N j u S eu]
    ·cbv
   ·rw[C0]at F
    let Yo:∀p∈a,p.1≠w:=λp c e=>by
     have:=List.find?_eq_none.mp (alY.mp F) p c
     cbv
    let ep:putK (i3 a) (w.map Sum.inl) (V.int (i:Int))=i3 (a++[(w,i)]):=by
     rw[A3 _ ([C0]▸F)];unfold i3;rw[ajn];rfl
    rw[ep];let X:H d=none:=I;rwa[⟨a++[(w,i)],112,λb o e=>[ak (aw e X)]▸(s2.trans G) _ _ e,aj,λp c=>?_,λj u C eu=>?_,5,by rw[aiP];show _+ 1<=_;ext⟩]
    ·rcases aiY.mp c with z|z
     ·rwa[⟨(D p z).1,by have:=(D p z).2;ext⟩]
     ·rw[aiR.mp z];rwa[R,by show i<i+ 1;ext]
    ·cbv
    cbv
  ·rintro J y ⟨a,Z,M,rfl,s2,L,D,N,hn,hlen⟩;rwa[⟨12,k d a y s2 I L ⟨λp c=>(D p c).1,λw hw=>?_,hn⟩⟩];let⟨j,C⟩:=ajG hw;rwa[N j w ([aiQ,r.1]▸(aiO.mp C).1) C]
def zC (a:Nat)(word:Zg)(start:Nat):Gg:=⟨a,word,start,start,(0),start,⇑word - 1⟩
inductive JG (CG:Zs) (vs:Zb) (H:Hp) (Q:VK) (E_:XK):Prop
 |mk (x dx wa:Zs) (which start:Nat) (word:Zg):vs=[↑x,.int which,↑wa,.int start]->H x\.ins CG dx []->H wa\.tup (aq word)->1<=⇑word->⇑word<=1000->(∀H',(∀b o,H b\o->b≠x->H' b\o)->eF CG H' x dx wa (zC which word start)->Q .non H')->JG CG vs H Q E_
def Us (a start:Nat)(b:Zs)(l:Int):List (Str×V):=[("which",.int a)]
def Ut (a start:Nat)(b:Zs)(l:Int):List (Str×V):=[("which",.int a),("word",↑b)]
def Uu (a start:Nat)(b:Zs)(l:Int):List (Str×V):=[("which",.int a),("word",↑b),("start",.int start)]
def Uv (a start:Nat)(b:Zs)(l:Int):List (Str×V):=[("which",.int a),("word",↑b),("start",.int start),("front",.int start)]
def Uw (a start:Nat)(b:Zs)(l:Int):List (Str×V):=[("which",.int a),("word",↑b),("start",.int start),("front",.int start),("first",.int 0)]
def Ux (a start:Nat)(b:Zs)(l:Int):List (Str×V):=[("which",.int a),("word",↑b),("start",.int start),("front",.int start),("first",.int 0),("rear",.int start)]
def Yp (a start:Nat)(b:Zs)(l:Int):List (Str×V):=[("which",.int a),("word",↑b),("start",.int start),("front",.int start),("first",.int 0),("rear",.int start),("last",.int l)]
def gy2 (a start:Nat)(b:Zs)(l:Int):bR "word" ↑b (Us a start b l)=Ut a start b l:=dU (by kernel_rfl)
def gy3 (a start:Nat)(b:Zs)(l:Int):bR "start" (.int start) (Ut a start b l)=Uu a start b l:=dU (by kernel_rfl)
def gy4 (a start:Nat)(b:Zs)(l:Int):bR "front" (.int start) (Uu a start b l)=Uv a start b l:=dU (by kernel_rfl)
def gy5 (a start:Nat)(b:Zs)(l:Int):bR "first" (.int 0) (Uv a start b l)=Uw a start b l:=dU (by kernel_rfl)
def gy6 (a start:Nat)(b:Zs)(l:Int):bR "rear" (.int start) (Uw a start b l)=Ux a start b l:=dU (by kernel_rfl)
def gy7 (a start:Nat)(b:Zs)(l:Int):bR "last" (.int l) (Ux a start b l)=Yp a start b l:=dU (by kernel_rfl)
def tL (T:Txt K mg A):T.gE.Ok mg P w base 1 (JG A.aT):=by
 rwa[T.gE.on tG (λU AA m s H vs Q E hr h=>?_)]
 ·let⟨x,c,d,a,start,word,rfl,r,f,xm,O,k⟩:=h
  refine⟨_,{cq (pv 0) (pv 1) rfl,cq (pv 0) (pv 2) rfl,cq (pv 0) (pv 3) rfl,cq (pv 0) (pv 3) rfl,cq (pv 0) ao rfl,cq (pv 0) (pv 3) rfl,cq (pv 0) (aL jT (2<<<0) ao) rfl},?_⟩
  rwa[pZ ?_];intro S lV Y X ft L;let st:∀{H0:Hp} {fs gs:List (Str×V)},H0 x\.ins A.aT c fs->(∀b o,H b\o->b≠x->H0 b\o)->upd H0 x (.ins A.aT c gs) x\.ins A.aT c gs/\∀b o,H b\o->b≠x->upd H0 x (.ins A.aT c gs) b\o:=λ_ h=>⟨aj,λb o e n=>[ak n]▸h b o e n⟩
  let g:d≠x:=cf f r (by intro z;cases z);let o0:∀b o,H b\o->b≠x->H b\o:=λb o e _=>e
  erw[1212,x,_,c,12,r,aX T,T.Cq,(by show 0<1000;decide)];rw[show bR "which" (.int a) []=Us a start d (((⇑word - 1:Nat):Int)) from rfl];let⟨v,D⟩:=st (gs:=Us a start d (((⇑word - 1:Nat):Int))) r o0;change upd H x _=Z at v D ⊢;erw[1212,x,_,c,12,v,aX T,T.jO,(by show 1<1000;decide)];rw[gy2];let⟨q,C⟩:=st (gs:=Ut a start d (((⇑word - 1:Nat):Int))) v D;change upd Z x _=H2 at q C ⊢;erw[1212,x,_,c,12,q,aX T,T.qo,(by show 2<1000;decide)];rw[gy3];let⟨l,F⟩:=st (gs:=Uu a start d (((⇑word - 1:Nat):Int))) q C;change upd H2 x _=M at l F ⊢;erw[1212,x,_,c,12,l,aX T,T.gW,(by show 3<1000;decide)];rw[gy4];let⟨j,G⟩:=st (gs:=Uv a start d (((⇑word - 1:Nat):Int))) l F;change upd M x _=R at j G ⊢;erw[12,x,_,c,12,j,aX T,T.fk,(by show 4<1000;decide)];rw[gy5];let⟨t,B⟩:=st (gs:=Uw a start d (((⇑word - 1:Nat):Int))) j G;change upd R x _=N at t B ⊢;erw[1212,x,_,c,12,t,aX T,T.hV,(by show 5<1000;decide)];rw[gy6];let⟨u,i⟩:=st (gs:=Ux a start d (((⇑word - 1:Nat):Int))) t B;change upd N x _=I at u i ⊢;erw[12,d,12,.inr (bB.of (i _ _ f g)),112212,x,_,c,12,u,aX T,T.iT,(by show 6<1000;decide)];rw[show V.int ((⇑(aq word):Int) - 1)=V.int (((⇑word - 1:Nat):Int)) by show V.int ((⇑(aq word):Int) - 1)=_;rw[aI];congr 1;ext];rw[gy7];let⟨y,p⟩:=st (gs:=Yp a start d (((⇑word - 1:Nat):Int))) u i;change upd I x _=J at y p ⊢;rwa[k J p ⟨y,p _ _ f g⟩]
structure sC (S:RS) (g g':Gg):Prop where
 wh:g'.which=g.which
 wo:g'.word=g.word
 st:g'.start=g.start
 gi:GI S g'
 ef:S.ax g'.front=g'.front
 er:S.ax g'.bE=g'.bE
 k1:S.ax g.front=g.front->S.by g.front g.z1=none->g'.front=g.front/\g'.first=g.first
 k2:S.ax g.bE=g.bE->S.by g.bE g.z2=none->g'.bE=g.bE/\g'.last=g.last
def sC.fwd {g g1:Gg}(h:sC S g g1)(i:Good S [] R)(a:g1.first<g1.last){c:Nat}(hc:S.by g1.front g1.z1=some c):sC S g { g1 with front:=c,first:=g1.first+ 1 }:=by
 let⟨_,b,_,e⟩:=i.st _ _ _ hc;let ll:=h.gi.ll;let hz:=Gg.qB (g:=g1) ∅;rwa[⟨h.wh,h.wo,h.st,⟨a,ll,h.gi.s,b,h.gi.r,5,h.gi.wr⟩,e,h.er,λf d=>?_,h.k2⟩]
 ·have:=h.gi.wf;rw[h.ef]at this;show wk S.by _ (g1.word.take (g1.first+ 1))=some (S.ax c);rw[take_snoc hz,vP this,S0 hc,e]
 ·let⟨j,k⟩:=h.k1 f d;unfold Gg.z1 at hc d;rw[j,k,h.wo,d]at hc;ext hc
def sC.bwd {g g1:Gg}(h:sC S g g1)(d:Good S [] R)(f:g1.first<g1.last){c:Nat}(hc:S.by g1.bE g1.z2=some c):sC S g { g1 with bE:=c,last:=g1.last - 1 }:=by
 let⟨_,a,_,e⟩:=d.st _ _ _ hc;let ll:=h.gi.ll;let hz:=Gg.at2 (g:=g1) ll;rwa[⟨h.wh,h.wo,h.st,⟨by show g1.first<=g1.last - 1;ext,by show g1.last - 1<⇑g1.word;ext,h.gi.s,h.gi.f,a,h.gi.wf,5⟩,h.ef,e,h.k1,λi b=>?_⟩]
 ·have:=h.gi.wr;rw[h.er]at this;show wk S.by (S.ax c) (g1.word.drop (g1.last - 1+ 1))=some (S.ax g1.start);rw[show g1.last - 1+ 1=g1.last by ext,drop_cons hz,e,ku (d.sy _ _ _ hc)];ext
 ·let⟨j,k⟩:=h.k2 i b;unfold Gg.z2 at hc b;rw[j,k,h.wo,b]at hc;ext hc
inductive Ow (CR CG:Zs) (vs:Zb) (H:Hp) (Q:VK) (E_:XK):Prop
 |mk (p dx wa r:Zs) (g:Gg) (S:RS) (a:RA) (R:Za2):vs=[↑p,↑r]->eF CG H p dx wa g->ay CR H r S a->Good S [] R->GI S g->¬a.own r p->⇑g.word<=1000->(∀g' H',(∀b o,b≠p->H b\o->H' b\o)->eF CG H' p dx wa g'->XF S g g'->Q .non H')->Ow CR CG vs H Q E_
def ve (T:Txt K mg A):T.lK.Ok mg P w base 2 (Ow A.aB A.aT):=by
 rwa[T.lK.on jx (λcC AA outer s H vs Q E X h=>?_)]
 ·let⟨p,d,y,r,g,S,a,R,rfl,O,hR,C,x,Y,G,k⟩:=h
  refine⟨_,{cq (pv 0) (pm (pv 1) (aJ T) T.hU (iU T) X #[0<<<1]) rfl,cq (pv 0) (pm (pv 1) (aJ T) T.hU (iU T) X #[0<<<1]) rfl,bG (fU ajc (aO jU (0<<<1) (0<<<1) (aV _))
    {bI 2 jx.nd (pm (pv 1) (aJ T) T.iG (hX T) X #[0<<<1,(0<<<1)&&&(0<<<1)]),bC (aO kY (pv 2) cJ (aV _))
     {uz}
     bj,cq (pv 0) (pv 2) rfl,cq (pv 0) (aL cK (0<<<1) ao) rfl}),bG (fU ajc (aO jU (0<<<1) (0<<<1) (aV _))
    {bI 2 jx.nd (pm (pv 1) (aJ T) T.iG (hX T) X #[0<<<1,eU dD ((0<<<1)&&&(0<<<1))]),bC (aO kY (pv 2) cJ (aV _))
     {uz}
     bj,cq (pv 0) (pv 2) rfl,cq (pv 0) (aL jT (0<<<1) ao) rfl})},?_⟩
  rwa[ju ?_];intro iY ft fQ;let eo:∀{c:Nat},c<S.q->S.aY[c]?\(S.ax c):=λ{c} hc=>sx ([C.wf.e]▸hc)
  let kp:∀{F:Hp},(∀b o,b≠p->H b\o->F b\o)->ay A.aB F r S a:=λ{F} f=>hR.keep (λb o hb e=>f b o (λz=>Y (z ▸ hb)) e) (λb xs e=>f b _ (cf e O.ins (by intro z;cases z)) e)
  let up:∀{F:Hp} {o2:HO},(∀b o,b≠p->H b\o->F b\o)->∀b o,b≠p->H b\o->upd F p o2 b\o:=λf b o n e=>by rw[ak n];rwa[f b o n e]
  erw[12,r,a.dx,12,hR.ins,cV _ _ _ ⋯,12,p,_,d,112,O.ins,aX T,T.gW,kF _ _,r,S,a,g.front,S.ax g.front,2,hR,eo x.f,12,p,_,d,12,O.ins,aX T,T.gW,(by show 7<1000;decide)];rw[CZ];let U:=O.set (g':={ g with front:=S.ax g.front }) rfl;let Z:=up (o2:=.ins A.aT d (iH { g with front:=S.ax g.front } y)) (λb o _ e=>e);change upd H p _=H1 at U Z ⊢;let R1:=kp Z;erw[12,r,a.dx,12,R1.ins,cV _ _ _ ⋯,12,p,_,d,112,U.ins,aX T,T.hV,kH _ _,r,S,a,g.bE,S.ax g.bE,2,R1,eo x.r,12,p,_,d,12,U.ins,aX T,T.hV,(by show 7<1000;decide)];rw[Ft];let p2:=U.set (g':={ g with front:=S.ax g.front,bE:=S.ax g.bE }) rfl;let f2:=up (o2:=.ins A.aT d (iH { g with front:=S.ax g.front,bE:=S.ax g.bE } y)) Z;change upd H1 p _=F at p2 f2 ⊢;let e1:=(C.el _ x.f).2;let e2:=(C.el _ x.r).2;let D:sC S g { g with front:=S.ax g.front,bE:=S.ax g.bE }:=⟨222,⟨x.fl,x.ll,x.s,C.lt x.f,C.lt x.r,by show wk _ _ _\S.ax (S.ax g.front);rw[e1];rwa[x.wf],by show wk _ (S.ax (S.ax g.bE)) _=_;rw[e2];rwa[x.wr]⟩,e1,e2,λe _=>⟨e,2⟩,λe _=>⟨e,2⟩⟩;erw[λ v j=>∃g1 t,v=#v[↑p,↑r,t]/\(∀b o,b≠p->H b\o->j b\o)/\eF A.aT j p d y g1/\sC S g g1/\(g1.first<g1.last->S.by g1.front g1.z1=none),5]
  ·erw[λm J j=>∃g1 t,m=g1.last - g1.first/\J=#v[↑p,↑r,t]/\(∀b o,b≠p->H b\o->j b\o)/\eF A.aT j p d y g1/\sC S g g1,⟨11,none,22,f2,p2,D⟩];rintro m J j ⟨g1,t,rfl,rfl,u,i,ad⟩;let M:=kp u;let ll:=ad.gi.ll;let fl:=ad.gi.fl;let lw:⇑g1.word<=1000:=by rw[ad.wo];rwa[G]
   erw[12,p,_,d,112,i.ins,aX T,T.fk,gY _ _,12,p,_,d,112,i.ins,aX T,T.iT,kI _ _,112212];rwa[bK (λq=>?_) (λq=>?_)]
   ·let q:(g1.first:Int)<(g1.last:Int):=aja q;erw[_,λ_ _ z=>z];let hz:=Gg.qB (g:=g1) ∅;erw[12,r,a.dx,12,M.ins,cV _ _ _ ⋯,12,p,_,d,112,i.ins,aX T,T.gW,kF _ _,12,p,_,d,112,i.ins,aX T,T.jO,kD _ _,12,p,_,d,112,i.ins,aX T,T.fk,gY _ _,y,11,.int g1.z1,22,bB.of i.wo,cw (bU hz),r,S,a,g1.front,g1.z1,2,M,[C.wf.w]▸ad.gi.f]
    cases I:S.by g1.front g1.z1 with
    |none=>rwa[12212,eX ⟨g1,12,u,i,ad,λ_=>I⟩]
    |some c=>
     rw[show (Option.map (λn:Nat=>V.int (n:Int)) (some c)).getD V.non=V.int (c:Int) from rfl];rwa[⟨12212,cU ?_⟩];erw[1212,p,_,d,12,i.ins,aX T,T.gW,(by show 7<1000;decide)];rw[CZ];let B:=i.set (g':={ g1 with front:=c }) rfl;let L:=up (o2:=.ins A.aT d (iH { g1 with front:=c } y)) u;change upd j p _=H3 at B L ⊢;erw[12,p,_,d,112,B.ins,aX T,T.fk,gY _ _,112212,p,_,d,12,B.ins,aX T,T.fk,(by show 7<1000;decide)];rw[show V.int ((({ g1 with front:=c }:Gg).first:Int)+ 1)=V.int ((g1.first+ 1:Nat):Int) from rfl,ML];rwa[_,by show g1.last - (g1.first+ 1)<_;ext,1122,up L,B.set rfl,ad.fwd C ∅ I]
   ·rwa[g1,t,2,u,i,ad,λz=>absurd (aje (show (g1.first:Int)<(g1.last:Int) by omega)) q]
  rintro v j ⟨g0,v0,rfl,f0,p0,D,n0⟩;erw[λ v j=>∃g1 t,v=#v[↑p,↑r,t]/\(∀b o,b≠p->H b\o->j b\o)/\eF A.aT j p d y g1/\sC S g g1/\(g1.first<g1.last->S.by g1.front g1.z1=none)/\(g1.first<g1.last->S.by g1.bE g1.z2=none),5]
  ·erw[λm J j=>∃g1 t,m=g1.last - g1.first/\J=#v[↑p,↑r,t]/\(∀b o,b≠p->H b\o->j b\o)/\eF A.aT j p d y g1/\sC S g g1/\(g1.first<g1.last->S.by g1.front g1.z1=none),⟨11,v0,22,f0,p0,D,n0⟩];rintro m J j ⟨g1,t,rfl,rfl,u,i,ad,N⟩;let M:=kp u;let ll:=ad.gi.ll;let fl:=ad.gi.fl;let lw:⇑g1.word<=1000:=by rw[ad.wo];rwa[G]
   erw[12,p,_,d,112,i.ins,aX T,T.fk,gY _ _,12,p,_,d,112,i.ins,aX T,T.iT,kI _ _,112212];rwa[bK (λq=>?_) (λq=>?_)]
   ·let q:(g1.first:Int)<(g1.last:Int):=aja q;erw[_,λ_ _ z=>z];let hz:=Gg.at2 (g:=g1) ll;erw[12,r,a.dx,12,M.ins,cV _ _ _ ⋯,12,p,_,d,112,i.ins,aX T,T.hV,kH _ _,12,p,_,d,112,i.ins,aX T,T.jO,kD _ _,12,p,_,d,112,i.ins,aX T,T.iT,kI _ _,y,11,.int (-g1.z2),22,bB.of i.wo,cw (bU hz),12,r,S,a,g1.bE,g1.z2,(by show [V.ref r,V.int (g1.bE:Int),V.int (- -g1.z2)]=_;rw[akv]),M,[C.wf.w]▸ad.gi.r]
    cases I:S.by g1.bE g1.z2 with
    |none=>rwa[12212,eX ⟨g1,12,u,i,ad,N,λ_=>I⟩]
    |some c=>
     rw[show (Option.map (λn:Nat=>V.int (n:Int)) (some c)).getD V.non=V.int (c:Int) from rfl];rwa[⟨12212,cU ?_⟩];erw[1212,p,_,d,12,i.ins,aX T,T.hV,(by show 7<1000;decide)];rw[Ft];let B:=i.set (g':={ g1 with bE:=c }) rfl;let L:=up (o2:=.ins A.aT d (iH { g1 with bE:=c } y)) u;change upd j p _=H3 at B L ⊢;erw[12,p,_,d,112,B.ins,aX T,T.iT,kI _ _,112212,p,_,d,12,B.ins,aX T,T.iT,(by show 7<1000;decide)];rw[show V.int ((({ g1 with bE:=c }:Gg).last:Int) - 1)=V.int ((g1.last - 1:Nat):Int) by show V.int ((g1.last:Int) - 1)=_;congr 1;ext,QI];rwa[_,by show (g1.last - 1) - g1.first<_;ext,1122,up L,B.set rfl,ad.bwd C ∅ I,λz=>N (by let z:g1.first<g1.last - 1:=z;omega)]
   ·rwa[g1,t,2,u,i,ad,N,λz=>absurd (aje (show (g1.first:Int)<(g1.last:Int) by omega)) q]
  rintro v j ⟨g1,t,rfl,u,i,ad,N,n2⟩;rwa[k g1 j u i ⟨ad.wh,ad.wo,ad.st,ad.gi,ad.ef,ad.er,N,n2,ad.k1,ad.k2⟩]
def Xn (ns:Zg)(j:Nat):hY (aq ns) none (some (j:Int))=aq (ns.take j):=by
 rw[A1,HT.xQ];show aq ((List.drop 0 ns).take (min j ⇑ns - 0))=_
 cbv
def QJ (ns:Zg)(j:Nat)(h:j<=⇑ns):hY (aq ns) (some (j:Int)) none=aq (ns.drop j):=by
 rw[A1,HT.xQ,ak6 h];show aq ((ns.drop j).take (⇑ns - j))=_;rw[akN ([ajM]▸aiS _)]
theorem pL {by_:Nat->Int->Zi}:∀{ws:Zg} {r:Nat},⇑(cx by_ r ws)<=⇑ws
 |[],_=>aiS _
 |z::ws,r=>by
  cases q:by_ r z with
  |none=>rw[zk q];rwa[ajj _]
  |some d=>rw[nS q,ajf,ajf];rwa[Nat.succ_le_succ pL]
inductive JH (CR CG:Zs) (vs:Zb) (H:Hp) (Q:VK) (E_:XK):Prop
 |mk (p dx wa r:Zs) (g:Gg) (S:RS) (a:RA) (R:Za2):vs=[↑p,↑r]->eF CG H p dx wa g->ay CR H r S a->Good S [] R->g.start<S.q->g.bE<S.q->g.last<⇑g.word->⇑g.word<=1000->(∀q H',av H H'->bS H' 2 ↑q (ky g.which ((g.start::cx S.by g.start (g.word.take g.first))++(g.bE::cx S.by g.bE (g.word.drop (g.last+ 1)))) g.first)->Q ↑q H')->JH CR CG vs H Q E_
theorem C1 (T:Txt K mg A):T.r6.Ok mg P w base 3 (JH A.aB A.aT):=by
 rwa[T.r6.on m8 (λcC AA O s H vs Q E hr h=>?_)]
 ·let⟨p,m,wa,r,g,S,a,R,rfl,t,hR,I,hs,U,Yq,JK,k⟩:=h
  refine⟨_,{bI 2 m8.nd (pc T.walked (zB T) hr #[1,0<<<1,pV AZ (0<<<1) xR (oN (0<<<1))]),bI 3 m8.nd (pc T.walked (zB T) hr #[1,0<<<1,pV AZ (0<<<1) (oN (aL cK (0<<<1) ao)) xR]),a9 (bO #[dS (l:=[114,117,108,101]) rfl,0<<<1,fK qx rfl T.mx akn #[aL oO (pv 2) (pv 3)],0<<<1])},?_⟩
  rwa[eQ ?_];intro ft fQ;let B:∀c z d,S.by c z=some d->d<S.q:=λc z d e=>(I.st c z d e).2.1
  rwa[⟨1212,p,_,m,112,t.ins,aX T,T.qo,vd _ _,12,p,_,m,112,t.ins,aX T,T.jO,kD _ _,12,p,_,m,112,t.ins,aX T,T.fk,gY _ _,12,wa,12,t.wo,λt1 H1 s1 X=>?_⟩];rw[Xn]at X;rwa[⟨r,S,a,g.start,t1,g.word.take g.first,2,hR.same s1,I.wf,hs,B,X,by rw[ajs];ext,λl1 H2 s2 h2=>?_⟩];let C:=s1.trans s2;let F:=t.same C;rwa[⟨1212,p,_,m,112,F.ins,aX T,T.hV,kH _ _,12,p,_,m,112,F.ins,aX T,T.jO,kD _ _,12,p,_,m,112,F.ins,aX T,T.iT,kI _ _,112212,wa,12,F.wo,λt2 H3 s3 e3=>?_⟩];rw[show (g.last:Int)+ 1=((g.last+ 1:Nat):Int) by ext,QJ _ _ ∅]at e3;let D:=C.trans s3;rwa[⟨r,S,a,g.bE,t2,g.word.drop (g.last+ 1),2,hR.same D,I.wf,U,B,e3,by rw[ajM];ext,λl2 V s4 h4=>?_⟩];let y:=D.trans s4;let Y:=t.same y;let lx:=pL (by_:=S.by) (ws:=g.word.take g.first) (r:=g.start);let ly:=pL (by_:=S.by) (ws:=g.word.drop (g.last+ 1)) (r:=g.bE);rw[ajs]at lx;rw[ajM]at ly;rwa[⟨12,p,_,m,112,Y.ins,aX T,T.Cq,MK _ _,1212,l1,l2,1122,(s3.trans s4) _ _ h2,h4,5,λL n3=>?_⟩]
  ·rw[aI,aI,bP,bP,ajf,ajf];rwa[ai0 (show _<=100000 by omega) ⋯]
  rwa[⟨L,12,.inl ⟨aD.of aj,λG n4=>?_⟩⟩];rw[<-ints_app,<-g9]at n4 ⊢;let s5:=av.upd (o:=.lst (aq (nI ((g.start::cx S.by g.start (g.word.take g.first))++(g.bE::cx S.by g.bE (g.word.drop (g.last+ 1))))))) n3;change (g.start::cx S.by g.start (g.word.take g.first))++(g.bE::cx S.by g.bE (g.word.drop (g.last+ 1)))=path at *;let N:=s5.trans (av.upd (o:=.tup (aq (nI path))) n4);let e6:upd (upd V L (.lst (aq (nI path)))) G (.tup (aq (nI path))) G=_:=aj;change upd (upd V L (.lst (aq (nI path)))) G (.tup (aq (nI path)))=H6 at N e6 ⊢;rwa[⟨12,p,_,m,112,(N^Y.ins),aX T,T.fk,gY _ _,(Za4 4),λq nq=>?_⟩];let Z:=av.upd (o:=.tup [.str (tx [114,117,108,101]),.int (g.which:Int),↑G,.int (g.first:Int)]) nq;rwa[k q _ (y.trans (N.trans Z)) (.t aj rfl λj v d b f=>?_)]
  match j,b,f with
  |0,b,f=>ext b;ext f;rwa[.s]
  |1,b,f=>ext b;ext f;rwa[.i]
  |2,b,f=>
   ext b;ext f;rwa[.t (Z^e6) (by rw[aI,bP,aiQ]) λi u x f1 M=>?_]
   let⟨z,rfl,n⟩:=cH f1;unfold nI at n;rw[ai6]at n M
   cases q1:path[i]? with
   |none=>rw[q1]at n;ext n
   |some c=>
    rw[q1]at n M;ext n;ext M;rwa[.i]
  |3,b,f=>ext b;ext f;rwa[.i]
  |j+ 4,b,f=>simp at b
def same_none (s:av H I){b:Zs}(h:I b=none):H b=none:=by
 cases e:H b with
 |none=>rfl
 |some o=>rw[s^e]at h;ext h
structure KA where
 dx:Zs
 aQ:Zs
 aG:Zs
 aA:Zs
 aW:Zs
noncomputable def pM (r:Zs)(c:KA)(a:Nat):List (Str×V):=[("rooms",↑r),("rules",↑c.aQ),("goings",↑c.aG),("agenda",↑c.aA),("waiting",↑c.aW),("heard",.int a)]
def gj (r:Zs)(c:KA)(a:Nat):(pM r c a).lookup ("rooms":Str)\↑r:=by kernel_rfl
def MP (r:Zs)(c:KA)(a:Nat):(pM r c a).lookup ("rules":Str)\↑c.aQ:=by kernel_rfl
def lF (r:Zs)(c:KA)(a:Nat):(pM r c a).lookup ("goings":Str)\↑c.aG:=by kernel_rfl
def oz (r:Zs)(c:KA)(a:Nat):(pM r c a).lookup ("agenda":Str)\↑c.aA:=by kernel_rfl
def ml (r:Zs)(c:KA)(a:Nat):(pM r c a).lookup ("waiting":Str)\↑c.aW:=by kernel_rfl
def vg (r:Zs)(c:KA)(a:Nat):(pM r c a).lookup ("heard":Str)\(.int a):=by kernel_rfl
def fA {c:KA}(h:x∉(["rooms","rules","goings","agenda","waiting","heard"]:Zp)):(pM a c n).lookup x=none:=by
 simp only[ai3,ajA,akO,not_or]at h;let⟨f,d,i,e,g,b⟩:=h;unfold pM;simp only[List.lookup,ajd.mpr f,ajd.mpr d,ajd.mpr i,ajd.mpr e,ajd.mpr g,ajd.mpr b]
def MQ (r:Zs)(c:KA)(a n:Nat):bR "heard" (.int n) (pM r c a)=pM r c n:=by kernel_rfl
structure qu (CG:Zs) (H:Hp) (gv:Zb) (gs:Zf) (O:Zs->Prop):Prop where
 l:⇑gv=⇑gs
 n:∀(i:Nat) (v:V),gv[i]?\v->gs[i]?\none->v=.non
 s:∀(i:Nat) (v:V) (g:Gg),gv[i]?\v->gs[i]?\some g->∃p dx wa,v=↑p/\eF CG H p dx wa g/\O p
 i:∀(i j:Nat) (p:Zs),gv[i]?\↑p->gv[j]?\↑p->i=j
structure cF (CG CC:Zs) (H:Hp) (x r:Zs) (c:KA) (gs:Zf) (ag:Zh) (W:bN) (hd:Nat) (fp:List (Zg×Nat)) (O:Zs->Prop):Prop where
 ins:H x\(.ins CC c.dx (pM r c hd))
 hG:∃gv,H c.aG\.lst gv/\qu CG H gv gs O
 hA:H c.aA\(.lst (aq (nI ag)))
 wt:oX H c.aW W O
 ne:c.aG≠c.aA
 ox:O x
 oG:O c.aG
 oA:O c.aA
 th:∀b,O b->∃o,H b\o/\(∀xs,o≠.tup xs)/\(∀kv,o≠.dT kv)/\(∀u v,o≠.cz u v)/\∀ps,o≠.fI ps
section
variable {CG CC:Zs}{H H':Hp}{x r:Zs}{c:KA}{gs:Zf}{ag:Zh}{W:bN}{hd:Nat}{fp:List (Zg×Nat)}{O:Zs->Prop}
def qu.keep (h:qu CG H L gs O)(f:∀b o,O b->H b\o->H' b\o)(d:∀b a,H b\.tup a->H' b\.tup a):qu CG H' L gs O:=by
 rwa[⟨h.l,h.n,λi v g j l=>?_,h.i⟩];let⟨p,dx,k,e,q,o⟩:=h.s i v g j l;rwa[p,dx,k,e,⟨f _ _ o q.ins,d^q.wo⟩,o]
def cF.keep (h:cF CG CC H x r c gs ag W hd fp O)(f:∀b o,O b->H b\o->H' b\o)(g:∀b a,H b\.tup a->H' b\.tup a):cF CG CC H' x r c gs ag W hd fp O:=by
 let⟨j,i,g2⟩:=h.hG;rwa[⟨f _ _ h.ox h.ins,⟨j,f _ _ h.oG i,g2.keep f g⟩,f _ _ h.oA h.hA,h.wt.keep f,h.ne,h.ox,h.oG,h.oA,λb d=>?_⟩];let⟨o,e,q⟩:=h.th b d;rwa[o,f _ _ d e,q]
def cF.same (h:cF CG CC H x r c gs ag W hd fp O)(s:av H H'):cF CG CC H' x r c gs ag W hd fp O:=h.keep (λb o _ e=>s b o e) (λb o e=>s^e)
def cF.jm (h:cF CG CC H x r c gs ag W hd fp O){b:Zs}{a:Zb}(e:H b\.tup a):¬O b:=λz=>by
 let⟨o,q,n,_⟩:=h.th b z
 cbv
def cF.JL (h:cF CG CC H x r c gs ag W hd fp O){b:Zs}{a:List (Zd×V)}(e:H b\.dT a):¬O b:=λz=>by
 let⟨o,q,_,n,_⟩:=h.th b z
 cbv
def cF.waits (h:cF CG CC H x r c gs ag W hd fp O){k:bN}{a:Zs->Prop}(f:∀b o,(∀j,o≠.dK j)->H b\o->H' b\o)(d:∀b,O b->a b)(w:oX H' c.aW k a)(th:∀b,a b->∃o,H' b\o/\(∀t,o≠.tup t)/\(∀j,o≠.dT j)/\(∀u v,o≠.cz u v)/\∀m,o≠.fI m):cF CG CC H' x r c gs ag k hd fp a:=by
 let⟨l,s,g2⟩:=h.hG;rwa[⟨f _ _ (by cbv) h.ins,⟨l,f _ _ (by cbv) s,g2.l,g2.n,λi v g y n=>?_,g2.i⟩,f _ _ (by cbv) h.hA,w,h.ne,d _ h.ox,d _ h.oG,d _ h.oA,th⟩];let⟨p,dx,z,e,q,o⟩:=g2.s i v g y n;rwa[p,dx,z,e,⟨f _ _ (by cbv) q.ins,f _ _ (by cbv) q.wo⟩,d _ o]
def cF.agenda (h:cF CG CC H x r c gs ag W hd fp O)(a:Zh):cF CG CC (upd H c.aA (.lst (aq (nI a)))) x r c gs a W hd fp O:=by
 let⟨f,l,g2⟩:=h.hG;let k:∀b o,b≠c.aA->H b\o->upd H c.aA (.lst (aq (nI a))) b\o:=λb o n e=>by rw[ak n];rwa[e]
 let kn:∀b o,(∀m,o≠.lst m)->H b\o->upd H c.aA (.lst (aq (nI a))) b\o:=λb o n e=>k b o (λz=>by rw[z,h.hA]at e;cbv) e
 rwa[⟨kn _ _ (by cbv) h.ins,⟨f,k _ _ h.ne l,g2.l,g2.n,λi v g s j=>?_,g2.i⟩,aj,5,h.ne,h.ox,h.oG,h.oA,λb d=>?_⟩]
 ·let⟨p,dx,t,e,q,o⟩:=g2.s i v g s j;rwa[p,dx,t,e,⟨kn _ _ (by cbv) q.ins,kn _ _ (by cbv) q.wo⟩,o]
 ·let⟨D,E,k1,k2⟩:=h.wt;rwa[D,E,k1.keep λb o d e=>by let⟨u,q⟩:=k1.there d;cbv,k2]
 ·cases e:b=c.aA
  ·rwa[_,[e]▸aj,(by cbv),(by cbv),(by cbv),by cbv]
  ·let⟨o,q,n⟩:=h.th b d;rwa[o,k _ _ e q,n]
end
def Bt (O:Zs->Prop)(H a:Hp):Prop:=∀b o,¬O b->H b\o->a b\o
def Bt.trans {O a:Zs->Prop}(h:Bt O H I)(c:Bt a I J)(f:∀b,a b->O b\/H b=none):Bt O H J:=λb o n e=>c b o (λz=>(f b z).elim n λq=>by cbv) (h b o n e)
def Bt.of {O:Zs->Prop}(s:av H I):Bt O H I:=λb o _ e=>s b o e
inductive JM (CR CG CC:Zs) (vs:Zb) (H:Hp) (Q:VK) (E_:XK):Prop
 |mk (x r:Zs) (c:KA) (gs:Zf) (ag:Zh) (W:bN) (hd:Nat) (fp:List (Zg×Nat)) (O:Zs->Prop) (n m:Nat) (s:Int):vs=[↑x,.int n,.int m,.int s]->cF CG CC H x r c gs ag W hd fp O->m<100000->n<100000->(-1000<=s/\s<=1000)->(∀O' H',Bt O H H'->(∀b o,(∀kv,o≠.dK kv)->H b\o->H' b\o)->(∀b,O b->O' b)->(∀b,O' b->O b\/H b=none)->cF CG CC H' x r c gs ag (addW W m s n) hd fp O'->Q .non H')->JM CR CG CC vs H Q E_
structure j8 (H:Hp) (O:Zs->Prop) (H1:Hp) (O1:Zs->Prop):Prop where
 f:∀b o,(∀kv,o≠.dK kv)->H b\o->H1 b\o
 bt:Bt O H H1
 le:∀b,O b->O1 b
 nw:∀b,O1 b->O b\/H b=none
 th:∀b,O1 b->∃o,H1 b\o/\(∀xs,o≠.tup xs)/\(∀kv,o≠.dT kv)/\(∀u v,o≠.cz u v)/\∀ps,o≠.fI ps
def j8.new {O a:Zs->Prop}(h:j8 H O I a){p:Zs}{c:List (Key×V)}(d:I p=none):j8 H O (upd I p (.dK c)) a:=by
 let s:=av.upd (o:=.dK c) d;rwa[⟨λb o n e=>s^h.f b o n e,λb o n e=>s^h.bt b o n e,h.le,h.nw,λb f=>?_⟩];let⟨o,e,q⟩:=h.th b f;rwa[o,s^e,q]
def j8.put {O a:Zs->Prop}(h:j8 H O I a){d:Zs}(hd:a d){f kv':List (Key×V)}(ed:I d\.dK f):j8 H O (upd I d (.dK kv')) a:=by
 let k:∀b o,b≠d->I b\o->upd I d (.dK kv') b\o:=λb o n e=>by rw[ak n];rwa[e]
 rwa[⟨λb o n e=>k _ _ (λz=>by have:=h.f b o n e;cbv) (h.f b o n e),λb o n e=>k _ _ (λz=>?_) (h.bt b o n e),h.le,h.nw,λb c=>?_⟩]
 ·rcases h.nw d hd with q|q
  ·cbv
  cbv
 ·cases e:b=d
  ·rwa[⟨_,by rw[e];rwa[aj],(by cbv),(by cbv),(by cbv),by cbv⟩]
  ·let⟨o,q,m⟩:=h.th b c;rwa[o,k _ _ e q,m]
def j8.Yr {O a:Zs->Prop}(h:j8 H O I a){p:Zs}(d:H p=none){o:HO}(l:I p\o)(g:∀i,o≠.tup i)(c:∀k,o≠.dT k)(j:∀u v,o≠.cz u v)(f:∀e,o≠.fI e):j8 H O I (IL a p):=by
 rwa[⟨h.f,h.bt,λb z=>.inl (h.le b z),λb z=>z.elim (h.nw b) λq=>.inr ([q]▸d),λb z=>?_⟩];rcases z with z|z
 ·rwa[h.th b z]
 ·rw[z];rwa[o,l,g,c,j,f]
def j8.no {O b:Zs->Prop}(h:j8 H O I b){p:Zs}(a:I p=none):H p=none:=by
 cases e:H p with
 |none=>rfl
 |some o=>
  cases q:O p
  ·let⟨d,c,_⟩:=h.th p (h.le p q);cbv
  ·rw[h.bt p o q e]at a;ext a
def cF.mid {x:Zs}{d:KA}{gs:Zf}{W:bN}{hd:Nat}{f:List (Zg×Nat)}{O:Zs->Prop}(h:cF a b H x c d gs B W hd f O):j8 H O H O:=⟨λ_ _ _ e=>e,λ_ _ _ e=>e,λ_ z=>z,λ_ z=>.inl z,h.th⟩
def oB (T:Txt K mg A):T.j5.Ok mg P w base 1 (JM A.aB A.aT A.aH):=by
 rwa[T.j5.on j7 (λU AA G s H vs Q E V h=>?_)]
 ·let⟨x,r,c,gs,ag,W,B,fp,O,n,m,s,rfl,h,hm,hn,Y,k⟩:=h;let F:=eV V
  erw[_,{bG (bI 4 j7.nd (nM (0<<<1) (pv 2) fW ⟨2222⟩)),bG (bI 5 j7.nd (nM (pv 4) (pv 3) fW ⟨2222⟩)),jC F (pv 5) (pv 1) fu rfl}]
  rwa[eQ ?_];intro Z S;erw[λ f J=>∃d y,f=#v[↑x,.int (n:Int),.int (m:Int),.int s,↑d,none]/\j8 H O J y/\fM J c.aW W y m d,5]
  ·rwa[⟨12,x,_,c.dx,112,h.ins,aM T,T.j6,ml^_,c.aW,2,h.wt.qA,12,λp b=>?_⟩];let⟨a,g,q,l,I⟩:=h.wt.room b (c:=(m:Int)) ∅;rwa[⟨a,Sum.inl (m:Int),g,2,q,λv j=>?_,λj=>?_⟩]
   ·let⟨d,rfl,w⟩:=l v j;rwa[d,O,2,h.mid.new b,w]
   ·let w:=I j;let M:O c.aW:=by let⟨D,E,_,z⟩:=h.wt;rwa[z.o _ (.inl rfl)]
    rwa[p,12,((h.mid.new b).put M g).Yr b ([ak (λz=>by rw[z]at b;let⟨o,e,_⟩:=h.th _ M;cbv)]▸aj) (by cbv) (by cbv) (by cbv) (by cbv),w]
  rintro f J ⟨d,y,rfl,u,C⟩;erw[λ f L=>∃e t,f=#v[↑x,.int (n:Int),.int (m:Int),.int s,↑d,↑e]/\j8 H O L t/\p7 L c.aW W t m s e,5]
  ·rwa[⟨12,d,2,C.qA,12,λp b=>?_⟩];let⟨a,g,q,l,I⟩:=C.cell b Y;rwa[⟨a,Sum.inl s,g,2,q,λv j=>?_,λj=>?_⟩]
   ·let⟨e,rfl,w⟩:=l v j;rwa[e,y,2,u.new b,w]
   ·let w:=I j;let B:=C.own;rwa[p,12,((u.new b).put B g).Yr (u.no b) ([ak (λz=>by rw[z]at b;let⟨o,e,_⟩:=u.th _ B;cbv)]▸aj) (by cbv) (by cbv) (by cbv) (by cbv),w]
  rintro f L ⟨e,t,rfl,R,N⟩;let⟨a,g,q,l⟩:=N.put (n:=(n:Int)) ∅;erw[1212,e,12,jY.k (k:=Sum.inl (n:Int)) g q];let i:=R.put (kv':=putK a (Sum.inl (n:Int)) (.bl true)) N.own g;rwa[k t _ i.bt i.f i.le i.nw (h.waits i.f i.le l i.th)]
inductive JN (CR CG CC:Zs) (vs:Zb) (H:Hp) (Q:VK) (E_:XK):Prop
 |mk (x r:Zs) (c:KA) (gs:Zf) (ag:Zh) (W:bN) (hd:Nat) (fp:List (Zg×Nat)) (O:Zs->Prop) (m:Nat) (s:Int):vs=[↑x,.int m,.int s]->cF CG CC H x r c gs ag W hd fp O->(∀ns:Zh,ns.Nodup->(∀n:Nat,n∈ns↔W m s n=true)->⇑ag+ ⇑ns<=1000000)->(∀ns H',Bt O H H'->ns.Nodup->(∀n:Nat,n∈ns↔W m s n=true)->cF CG CC H' x r c gs (ag++ns) (gB W m s) hd fp O->Q .non H')->JN CR CG CC vs H Q E_
def fS (T:Txt K mg A):T.fj.Ok mg P w base 1 (JN A.aB A.aT A.aH):=by
 rwa[T.fj.on wY (λcC AA C s H vs Q E hr h=>?_)]
 ·let⟨x,r,c,gs,ag,W,hd,fp,O,m,s,rfl,h,hz,k⟩:=h;let B:=eV hr;erw[_,{aZ (cG aiX PySem.F.slot_list_extend PySem.F.type_list_extend yX (0<<<1) #[fK (j0 rfl) rfl T.jc aj6 #[uE (mF B (0<<<1) (pv 1) fW ⟨2222⟩) (pv 2) fW ⟨2222⟩]])}]
  let rest:∀{g:Hp} {L:bN} {l:Zs} {ns:Zh},cF A.aT A.aH g x r c gs ag L hd fp O->Bt O H g->g l=none->ns.Nodup->(∀n:Nat,n∈ns↔W m s n=true)->L=gB W m s->xT (V.ref c.aA) [V.ref l] (upd g l (.lst (aq (nI ns)))) (λ_ H'=>Q .non H'):=λ{g L l ns} j b2 f N Y eW=>by
   subst eW;let J:=av.upd (o:=.lst (aq (nI ns))) f;erw[c.aA,l,1122,J^j.hA,aj,5]
   ·rw[aI,aI,bP,bP];rwa[ai0 (hz ns N Y) ⋯]
   ·rw[<-ints_app,<-g9];rwa[k ns _ (λb o n e=>[ak (λz=>n ([z]▸h.oA))]▸J^b2 b o n e) N Y ((j.same J).agenda (ag++ns))]
  rwa[⟨12,x,_,c.dx,112,h.ins,aM T,T.lD,oz^_,.inl ⟨21,aD.of h.hA⟩,12,x,_,c.dx,112,h.ins,aM T,T.j6,ml^_,c.aW,2,h.wt.qA,12,λU I=>?_⟩];generalize u:upd H U _=X;let⟨s1,R⟩:=dP u I;let D:=h.same s1;let⟨o,g1,g2⟩:=D.wt.get (c:=(m:Int));erw[o,g1];rcases g2 with ⟨rfl,no⟩|⟨d,rfl,w⟩
  ·rwa[⟨U,rfl,.inl ⟨_,.inl R⟩,_,rfl,λt i=>?_⟩];generalize u:upd X t _=g;let⟨a,M⟩:=dP u i;rwa[⟨[],Sum.inl s,a^R,2,(λv p=>by ext p),λ_=>⟨t,[],2,M,λl f=>?_⟩⟩];rwa[rest (ns:=[]) (D.same a) (.of (s1.trans a)) f aj8 (λn=>⟨(λz=>by ext z),λz=>by rw[no]at z;ext z⟩) (yc (no s)).symm]
  ·rwa[⟨d,2,w.qA,12,λt i=>?_⟩];generalize u:upd X t _=g;let⟨a,M⟩:=dP u i;let j:=D.same a;let⟨q,Z,S,e3⟩:=(w.same a).pop s;rwa[⟨q,Sum.inl s,Z,2,λv p=>?_,λp=>⟨t,[],2,M,λl f=>?_⟩⟩]
   ·let⟨e,G,ns,rfl,F,f1,f2,f3,f4,f5⟩:=e3 v p;rwa[⟨e,G,2,[ak F]▸f1,λl f=>?_⟩];let y:=(j.mid.put (kv':=fw q (Sum.inl s)) w.own Z);rw[f2];rwa[rest (j.waits y.f y.le f5 y.th) (Bt.trans (.of (s1.trans a)) y.bt λb z=>.inl z) f f3 f4 rfl]
   ·rwa[rest (ns:=[]) j (.of (s1.trans a)) f aj8 (λn=>⟨(λz=>by ext z),λz=>by rw[S p]at z;ext z⟩) (yc (S p)).symm]
def _root_.Lake.L2.CI.Uy {bs:List (Nat×Zg×Nat)}{gs:Zf}{W:bN}{d:Nat->Int->Prop}{x:Zi}(h:CI S bs gs B W d x){m:Nat}{s:Int}{ns:Zh}(nd:ns.Nodup)(c:∀n:Nat,n∈ns↔W m s n=true):⇑ns+ vQ S.q ⇑gs (gB W m s)<=vQ S.q ⇑gs W:=by
 cases ns with
 |nil=>
  have:∀n,W m s n=false:=λn=>by
   cases q:W m s n with
   |false=>rfl
   |true=>
    let⟨_,b,_,e,_⟩:=h.en _ _ _ q
    cbv
  rw[yc this,akm,Nat.zero_add];rwa[aiS _]
 |cons n r=>
  let⟨k,b,l,_,a,_,f,_⟩:=h.en _ _ _ ((c n).mp (ai7 ..));let a:m<S.q:=∅
  let i:=Qj (G:=⇑gs) (W:=W) a f
  let g:=IQ (P:=λn:Nat=>W m s n) (G:=⇑gs) nd λn a=>by
   let w:=(c n).mp a;let⟨_,b,_,e,_,j,_⟩:=h.en _ _ _ w;rwa[3,w]
  ext
def _root_.Lake.L2.CI.two {bs:List (Nat×Zg×Nat)}{gs:Zf}{W:bN}{a:Nat->Int->Prop}{x:Zi}(h:CI S bs gs B W a x):vQ S.q ⇑gs W<=2* ⇑gs:=Ql λn=>by
 let⟨p,q,e,_⟩:=h.sl n;rwa[p,q,e]
def _root_.Lake.L2.fM.keys {k:Zs}{W:bN}{O:Zs->Prop}(h:fM H k W O z d):∃(a:List (Key×V)) (zs:Zg),H d\.dK a/\a.map (λb=>kV b.1)=aq zs/\⇑zs<=2001/\∀s n,W z s n=true->s∈zs:=by
 let⟨D,E,l,p,hd⟩:=h;let⟨a,j,o,c,f⟩:=l.Ly hd
 let q:⇑a<=2001:=vN (n:=2001) (lo:=-1000) o c f λi v m=>by
  cases e:E z i with
  |none=>rw[e]at m;ext m
  |some x=>have:=p.e z i x e;ext
 let ex:∃zs:Zg,a.map (·.1)=zs.map Sum.inl:=by
  clear j o f q
  induction a with
  |nil=>rwa[[],2]
  |cons b r t=>
   let⟨zs,e⟩:=t λx g=>c x (ajo _ g)
   let⟨i,u⟩:=c b (ai7 ..);rwa[i::zs,by cbv]
 let⟨zs,e⟩:=ex;rwa[⟨a,zs,j,55,λs n w=>?_⟩]
 ·rw[show (λb:Key×V=>kV b.1)=kV ∘ (·.1) from rfl,<-ajw,e,ajw];rfl
 ·have:=ajT List.length e;rw[aiQ,aiQ]at this;ext
 ·let⟨x,g⟩:=l.se _ _ _ w;have:Sum.inl s∈a.map (·.1):=E5 (v:=↑x) (by rw[f,g];rfl)
  cbv
structure lG (CG CC:Zs) (S:RS) (bs:List (Nat×Zg×Nat)) (gs:Zf) (W0:bN) (Ex:Nat->Int->Prop) (B:Nat) (x r:Zs) (c:KA) (hd:Nat) (fp:List (Zg×Nat)) (O:Zs->Prop) (H:Hp) (ag:Zh) (W:bN):Prop where
 c:cF CG CC H x r c gs ag W hd fp O
 i:CI S bs gs ag W Ex none
 s:∀r s n,W r s n=true->W0 r s n=true
 b:⇑ag+ vQ S.q ⇑gs W<=B
def lG.wake {bs:List (Nat×Zg×Nat)}{gs:Zf}{g:bN}{i:Nat->Int->Prop}{x:Zs}{e:KA}{hd:Nat}{f:List (Zg×Nat)}{O:Zs->Prop}{W:bN}(h:lG a b S bs gs g i n x c e hd f O H B W){m:Nat}{s:Int}{ns:Zh}(nd:ns.Nodup)(j:∀d:Nat,d∈ns↔W m s d=true)(q:cF a b I x c e gs (B++ns) (gB W m s) hd f O):lG a b S bs gs g i n x c e hd f O I (B++ns) (gB W m s):=
 ⟨q,h.i.wake j,λc s d w=>h.s _ _ _ (dq.mp w).1,by have:=h.i.Uy nd j;have:=h.b;rw[aiP];ext⟩
def lG.fits {bs:List (Nat×Zg×Nat)}{gs:Zf}{f:bN}{g:Nat->Int->Prop}{x:Zs}{e:KA}{hd:Nat}{i:List (Zg×Nat)}{O:Zs->Prop}{W:bN}(h:lG a b S bs gs f g n x c e hd i O H B W)(k:n<=1000000){m:Nat}{s:Int}:∀ns:Zh,ns.Nodup->(∀d:Nat,d∈ns↔W m s d=true)->⇑B+ ⇑ns<=1000000:=λns nd j=>by have:=h.i.Uy nd j;have:=h.b;ext
inductive Fu (CR CG CC:Zs) (vs:Zb) (H:Hp) (Q:VK) (E_:XK):Prop
 |mk (x r:Zs) (c:KA) (S:RS) (a:RA) (bs:List (Nat×Zg×Nat)) (gs:Zf) (ag:Zh) (W:bN) (Ex:Nat->Int->Prop) (B hd:Nat) (fp:List (Zg×Nat)) (O:Zs->Prop) (m:Nat):vs=[↑x,.int m]->lG CG CC S bs gs W Ex B x r c hd fp O H ag W->B<=1000000->ay CR H r S a->S.Wf->(∀b,a.own r b->¬O b)->m<S.q->S.ax m<S.q->(∀i5 W' H',Bt O H H'->lG CG CC S bs gs W Ex B x r c hd fp O H' i5 W'->(∀s n,W' m s n=false)->(∀s n,W' (S.ax m) s n=true->S.by (S.ax m) s=none)->Q .non H')->Fu CR CG CC vs H Q E_
def qS (T:Txt K mg A):T.jv.Ok mg P w base 2 (Fu A.aB A.aT A.aH):=by
 rwa[T.jv.on fz (λcC AA outer s H vs Q E hr h=>?_)]
 ·let⟨x,r,c,S,a,bs,Y,ag,W,Ex,B,hd,Z,O,m,rfl,h,hB,hR,wf,dj,hm,he,k⟩:=h;let iZ:=eV hr
  erw[_,{ck ajc rfl (cY (fK (j0 rfl) rfl T.jc aj6 #[mF iZ (0<<<1) (pv 1) fW ⟨2222⟩])) (cZ 2 fz.nd)
   {aZ (pm (pv 0) (aM T) T.fj (fS T) hr #[1,2])},bI 3 fz.nd (pm (0<<<1) (aJ T) T.hU (iU T) hr #[1]),ck ajc rfl (cY (fK (j0 rfl) rfl T.jc aj6 #[mF iZ (0<<<1) (pv 3) fW ⟨2222⟩])) (cZ 2 fz.nd)
    {bG (bC (aO oM (pm (0<<<1) (aJ T) T.iG (hX T) hr #[3,2]) cJ (aV _))
     {aZ (pm (pv 0) (aM T) T.fj (fS T) hr #[3,2])}
     bj)}}]
  rwa[eQ ?_];intro ft fQ;let rk:∀{D:Hp},Bt O H D->ay A.aB D r S a:=λ{D} b=>hR.keep (λb' o hb e=>b b' o (dj b' hb) e) (λb' xs e=>b b' _ (h.c.jm e) e)
  let get:∀{N:Hp} {Ys:Zh} {W1:bN} (m1:Nat),lG A.aT A.aH S bs Y W Ex B x r c hd Z O N Ys W1->∀L,N L=none->∃(o:Zc) (d:Zs) (u:List (Key×V)) (G:Zg),dz (upd N L (.dK [])) c.aW (.int (m1:Int)) o/\o.getD ↑L=↑d/\upd N L (.dK []) d\.dK u/\u.map (λkv=>kV kv.1)=aq G/\∀s n,W1 m1 s n=true->s∈G:=λ{N Ys W1} m1 h1 L F=>by
   let s1:=av.upd (o:=.dK []) F;let⟨o,U,g2⟩:=(h1.c.same s1).wt.get (c:=(m1:Int));rcases g2 with ⟨rfl,no⟩|⟨d,rfl,w⟩
   ·rwa[⟨none,L,[],[],U,rfl,aj,rfl,λs n z=>by cbv⟩]
   ·let⟨u,G,e1,e2,_,e4⟩:=w.keys;rwa[_,d,u,G,U,2,e1,e2,e4]
  rwa[⟨12,x,_,c.dx,112,h.c.ins,aM T,T.j6,ml^_,c.aW,2,h.c.wt.qA,12,λL F=>?_⟩];let⟨o,d,u,G,U,g2,g3,g4,Yt⟩:=get m h L F;rwa[⟨o,U,d,u,(by rw[g2]),g3,λl nl=>?_⟩];rw[g4];let s1:=(av.upd (o:=.dK []) F).trans (av.upd (o:=.lst (aq G)) nl);let hl:upd (upd H L (.dK [])) l (.lst (aq G)) l\(.lst (aq G)):=aj;replace nl:=same_none (av.upd (o:=.dK []) F) nl;change upd (upd H L (.dK [])) l (.lst (aq G))=N at s1 hl ⊢;clear U g2 g3 g4;let Yu:¬O l:=λz=>by let⟨o,e,_⟩:=h.c.th l z;cbv
  let h1:lG A.aT A.aH S bs Y W Ex B x r c hd Z O N ag W:=⟨h.c.same s1,h.i,h.s,h.b⟩;erw[l,2,⟨_,aD.of hl⟩]
  refine eI (xs:=aq G) (λi M D=>∃t I v2,M=#v[↑x,.int (m:Int),v2,none]/\Bt O N D/\lG A.aT A.aH S bs Y W Ex B x r c hd Z O D t I/\∀(j:Nat) (s:Int),j<i->G[j]?\s->∀n,I m s n=false)
   ⟨ag,W,none,2,λ_ _ _ e=>e,h1,λj s C=>absurd C ∅⟩ (λi M D _ q0=>by let⟨_,_,_,_,b2,_⟩:=q0;rwa[aD.of (b2 _ _ Yu hl)]) ?_ ?_
  ·rintro i v M D hi ⟨t,I,v2,rfl,b2,g,C⟩;let⟨s,rfl,hs⟩:=cH hi;rwa[⟨12,x,c.dx,12,g.c.ins,fA ⋯,1212,x,r,c,Y,t,I,hd,Z,O,m,s,2,g.c,g.fits hB,λns H3 b3 nd hn h3=>?_⟩];rwa[⟨1112,b2.trans b3 λb z=>.inl z,g.wake nd hn h3,λj s' f e n=>?_⟩]
   cases q:gB I m s m s' n with
   |false=>rfl
   |true=>
    let⟨q1,q2⟩:=dq.mp q
    cbv
  rintro M D ⟨t,I,v2,rfl,b2,g,C⟩;rw[aI]at C;let Uz:Bt O H D:=Bt.trans (.of s1) b2 λb z=>.inl z
  let off:∀s n,I m s n=false:=λs n=>by
   cases q:I m s n with
   |false=>rfl
   |true=>
    let⟨j,f,e⟩:=akD.mp (Yt s n (g.s _ _ _ q));rw[C j s f (by rw[aiL f,e]) n]at q;ext q
  clear C Yt hl Yu h1;let R2:=rk Uz;erw[12,x,_,c.dx,112,g.c.ins,aM T,T.fm,gj^_,r,a.dx,12,R2.ins,cV _ _ _ ⋯,12,r,S,a,m,S.ax m,2,R2,sx ([wf.e]▸hm)];change S.ax m=e at he k ⊢;rwa[⟨12,x,_,c.dx,112,g.c.ins,aM T,T.j6,ml^_,c.aW,2,g.c.wt.qA,12,λp2 xj=>?_⟩];let⟨o2,d2,MR,y,U,g2,g3,g4,abL⟩:=get e g p2 xj;rwa[⟨o2,U,d2,MR,(by rw[g2]),g3,λl2 Fq=>?_⟩];rw[g4];let s3:=(av.upd (o:=.dK []) xj).trans (av.upd (o:=.lst (aq y)) Fq);let Bw:upd (upd D p2 (.dK [])) l2 (.lst (aq y)) l2\(.lst (aq y)):=aj;replace Fq:=same_none (av.upd (o:=.dK []) xj) Fq;change upd (upd D p2 (.dK [])) l2 (.lst (aq y))=H3 at s3 Bw ⊢;clear U g2 g3 g4;let abM:¬O l2:=λz=>by let⟨o,e,_⟩:=g.c.th l2 z;cbv
  let h3:lG A.aT A.aH S bs Y W Ex B x r c hd Z O H3 t I:=⟨g.c.same s3,g.i,g.s,g.b⟩;erw[l2,2,⟨_,aD.of Bw⟩]
  refine eI (xs:=aq y) (λi M X=>∃J W4 v2,M=#v[↑x,.int (m:Int),v2,.int (e:Int)]/\Bt O H3 X/\lG A.aT A.aH S bs Y W Ex B x r c hd Z O X J W4/\(∀r s n,W4 r s n=true->I r s n=true)/\∀(j:Nat) (s:Int),j<i->y[j]?\s->∀n,W4 e s n=true->S.by e s=none)
   ⟨t,I,12,λ_ _ _ q=>q,h3,λ_ _ _ q=>q,λj s C=>absurd C ∅⟩ (λi M X _ q0=>by let⟨_,_,_,_,b4,_⟩:=q0;rwa[aD.of (b4 _ _ abM Bw)]) ?_ ?_
  ·rintro i v M X hi ⟨J,W4,v4,rfl,b4,R,p,C⟩;let⟨s,rfl,hs⟩:=cH hi;let b04:Bt O H X:=Uz.trans (Bt.trans (.of s3) b4 λb z=>.inl z) λb z=>.inl z
   let R4:=rk b04;rwa[⟨15,λ_ _ z=>z⟩];erw[12,x,_,c.dx,112,R.c.ins,aM T,T.fm,gj^_,r,a.dx,12,R4.ins,cV _ _ _ ⋯,1212,r,S,a,e,s,2,R4,[wf.w]▸he]
   cases eb:S.by e s with
   |none=>
    erw[212];rwa[bK (λz=>absurd z ⋯) (λ_=>?_)];rwa[⟨1112,b4,R,p,λj s' f q n w=>?_⟩]
    cbv
   |some d=>
    rw[show (Option.map (λn:Nat=>V.int (n:Int)) (some d)).getD V.non=V.int (d:Int) from rfl];erw[212];rwa[bK (λ_=>?_) (λz=>absurd rfl z)];rwa[⟨12,x,c.dx,12,R.c.ins,fA ⋯,1212,x,r,c,Y,J,W4,hd,Z,O,e,s,2,R.c,R.fits hB,λns H5 b5 nd hn h5=>?_⟩];rwa[⟨1112,b4.trans b5 λb z=>.inl z,R.wake nd hn h5,λr s n w=>p _ _ _ (dq.mp w).1,λj s' f q n w=>?_⟩];let⟨w1,w2⟩:=dq.mp w
    cbv
  rintro M X ⟨J,W4,v4,rfl,b4,R,p,C⟩;rw[aI]at C;rwa[k J W4 X (Uz.trans (Bt.trans (.of s3) b4 λb z=>.inl z) λb z=>.inl z) R (λs n=>?_) λs n w=>?_]
  ·cbv
  ·let⟨j,f,q⟩:=akD.mp (abL s n (p _ _ _ w));rwa[C j s f (by rw[aiL f,q]) n w]
def cF.Xo {x:Zs}{j:KA}{gs:Zf}{W:bN}{hd:Nat}{r:List (Zg×Nat)}{O:Zs->Prop}(h:cF a b H x c j gs B W hd r O)(F:∀(n:Nat) (g:Gg) (p dx k:Zs),gs[n]?\some g->eF a H p dx k g->p≠x)(n:Nat):cF a b (upd H x (.ins b j.dx (pM c j n))) x c j gs B W n r O:=by
 let kn:∀f o,(∀C d fs,o≠.ins C d fs)->H f\o->upd H x (.ins b j.dx (pM c j n)) f\o:=λf o q e=>by rw[ak (λz=>by rw[z,h.ins]at e;cbv)];rwa[e]
 let⟨t,u,g2⟩:=h.hG;rwa[⟨aj,⟨t,kn _ _ (by cbv) u,g2.l,g2.n,λi v g y s=>?_,g2.i⟩,kn _ _ (by cbv) h.hA,5,h.ne,h.ox,h.oG,h.oA,λf l=>?_⟩]
 ·let⟨p,dx,k,e,q,o⟩:=g2.s i v g y s;rwa[p,dx,k,e,⟨[ak (F i g p dx k s q)]▸q.ins,kn _ _ (by cbv) q.wo⟩,o]
 ·let⟨D,E,k1,k2⟩:=h.wt;rwa[D,E,k1.keep λf o l e=>by let⟨G,q⟩:=k1.there l;rw[q]at e;ext e;rwa[kn _ _ (by cbv) q],k2]
 ·cases e:f=x
  ·rwa[_,[e]▸aj,(by cbv),(by cbv),(by cbv),by cbv]
  ·let⟨o,q,m⟩:=h.th f l;rwa[o,[ak e]▸q,m]
def C2 {x:Zs}{d:KA}{i:Zf}{W:bN}{f:List (Zg×Nat)}{O:Zs->Prop}(h:cF a b H x c d i B W n f O){p j k:Zs}{g:Gg}(q:eF a H p j k g):p≠x:=λz=>by
 have:=q.ins;rw[z,h.ins]at this;let e:=ajT (λo:Option HO=>match o with|some (.ins _ _ fs)=>⇑fs|_=>0) this;rwa[absurd (show 6=7 from e) ⋯]
def Ox (S:RS)(a:Nat):Nat->Int->Prop:=λr _=>∃m∈S.bu.drop a,r=m\/r=S.ax m
inductive JP (CR CG CC:Zs) (vs:Zb) (H:Hp) (Q:VK) (E_:XK):Prop
 |mk (x r:Zs) (c:KA) (S:RS) (a:RA) (R:Za2) (bs:List (Nat×Zg×Nat)) (gs:Zf) (ag:Zh) (W:bN) (B hd:Nat) (fp:List (Zg×Nat)) (O:Zs->Prop):vs=[↑x]->lG CG CC S bs gs W (Ox S hd) B x r c hd fp O H ag W->B<=1000000->hd<=⇑S.bu->ay CR H r S a->Good S [] R->(∀m∈S.bu,m<S.q)->(∀b,a.own r b->¬O b)->(∀i5 W' H',Bt O H H'->lG CG CC S bs gs W fY B x r c ⇑S.bu fp O H' i5 W'->Q .non H')->JP CR CG CC vs H Q E_
def xn (T:Txt K mg A):T.m5.Ok mg P w base 3 (JP A.aB A.aT A.aH):=by
 rwa[T.m5.on wZ (λcC AA J s H vs Q E M h=>?_)]
 ·let⟨x,r,c,S,a,R,bs,gs,ag,W,B,hd,Z,O,rfl,h,hB,X,hR,I,U,dj,k⟩:=h
  refine⟨_,{bG (fU ajc (aO jU (0<<<1) (((0<<<1)<<<1)<<<0) (aV _))
   {aZ (pm (pv 0) (aM T) T.jv (qS T) M #[((0<<<1)<<<1)|||(0<<<1)]),cq (pv 0) (aL cK (0<<<1) ao) rfl})},?_⟩
  let rk:∀{v:Hp},Bt O H v->ay A.aB v r S a:=λ{v} b=>hR.keep (λF o hb e=>b F o (dj F hb) e) (λF xs e=>b F _ (h.c.jm e) e)
  rwa[⟨λ e8 H'=>Q .non H',5,λ_ _ q=>q⟩];erw[λm σ v=>∃d l G,m=⇑S.bu - d/\σ=#v[↑x]/\d<=⇑S.bu/\Bt O H v/\lG A.aT A.aH S bs gs W (Ox S d) B x r c d Z O v l G,⟨_,hd,ag,W,22,X,λ_ _ _ e=>e,h⟩];rintro m σ v ⟨d,l,G,rfl,rfl,Bw,N,i⟩;let R2:=rk N;let u:=R2.ins;erw[12,x,_,c.dx,112,i.c.ins,aM T,T.m7,vg^_,12,x,_,c.dx,112,i.c.ins,aM T,T.fm,gj^_,r,_,a.dx,112,u,aJ T,T.sj,sZ^_,a.aN,12,.inl (aD.of R2.hN),112212];rwa[bK (λq=>?_) (λq=>?_)]
  ·let q:(d:Int)<(⇑(aq (nI S.bu)):Int):=aja q;rw[aI,bP]at q;let f:d<⇑S.bu:=∅
   let D:S.bu[d]?\(S.bu[d]'f):=aiL f
   change S.bu[d]'f=m at D;let y:=U m (aiN D);erw[_,λ_ _ z=>z];erw[12,x,c.dx,12,i.c.ins,fA ⋯,12,x,_,c.dx,112,i.c.ins,aM T,T.fm,gj^_,r,_,a.dx,112,u,aJ T,T.sj,sZ^_,12,x,_,c.dx,112,i.c.ins,aM T,T.m7,vg^_,a.aN,11,.int (m:Int),22,aD.of R2.hN,cw (bU (eD D))];rwa[⟨x,r,c,S,a,bs,gs,l,G,Ox S d,B,d,Z,O,m,2,⟨i.c,i.i,λ_ _ _ z=>z,i.b⟩,hB,R2,I.wf,dj,y,I.lt y,λL W3 H3 b3 t w1 w2=>?_⟩];erw[12,x,_,c.dx,112,t.c.ins,aM T,T.m7,vg^_,112212,x,_,c.dx,12,t.c.ins,aM T,T.m7,(by show 6<1000;decide)];rw[show V.int ((d:Int)+ 1)=V.int ((d+ 1:Nat):Int) from rfl,MQ];let c4:=t.c.Xo (λn g p dx wa _ z=>C2 t.c z) (d+ 1);rwa[⟨⇑S.bu - (d+ 1),3,d+ 1,L,W3,22,f,5,c4,t.i.ex λr' s n w M ex=>?_,λr s n w=>i.s _ _ _ (t.s _ _ _ w),t.b⟩]
   ·rwa[(N.trans b3 λb z=>.inl z).trans (λb o n e=>by rw[ak (λz=>n ([z]▸t.c.ox))];rwa[e]:Bt O H3 _) λb z=>.inl z]
   ·let⟨Y,j,C⟩:=ex;rw[akV f]at j;rcases ai3.mp j with z|z
    ·let em:Y=m:=by rw[z];rw[aiL f]at D;rwa[Za0 D]
     subst em;rcases C with C|C
     ·rw[C,w1]at w;ext w
     ·subst C;rwa[.inl ⟨(I.el _ y).2,w2 s n w⟩]
    ·rwa[.inr ⟨Y,z,C⟩]
  ·let q:¬(d:Int)<(⇑(aq (nI S.bu)):Int):=λz=>q (aje z)
   rw[aI,bP]at q;let e:d=⇑S.bu:=∅
   subst e;rwa[k l G v N ⟨i.c,i.i.ex λr' s n w M ex=>?_,i.s,i.b⟩];let⟨Y,j,_⟩:=ex;rw[amg]at j;ext j
def zD {h:Ze}(g:Good S h R)(o:∀a z b,R a z b->z∈l)(r:S.q<=100000)(m:⇑l<=100000)(s:⇑S.rows<=1000000)(p:⇑S.bu<=1000000):xi S:=by
 rwa[⟨g.wf,λc i=>g.lt i,λc z d e=>(g.st c z d e).2.1,λc n t=>g.cb c n t,λc _=>⟨g.kn c,λq j=>(g.st c q.1 q.2 (jI (g.kn c) j)).2.1,λq j _=>?_⟩,⟨r,λf k=>?_,s,p,λf k=>?_⟩⟩]
 ·rw[g.sy c q.1 q.2 (jI (g.kn c) j)];rfl
 ·let⟨c,i⟩:=ajG k;have:S.way c=f:=by unfold RS.way;rw[aiT,i];rfl
  rw[<-this];rwa[ai0 (g.IC o c) m]
 ·let⟨c,i⟩:=ajG k;have:S.cE c=f:=by unfold RS.cE;rw[aiT,i];rfl
  rw[<-this];rwa[ai0 (g.SM c) ∅]
def C3 (S:RS):S.stand<=S.q:=by
 unfold RS.stand;rwa[ai0 List.countP_le_length (by cbv)]
noncomputable def UA (R:Za2)(m L B f M:Nat)(e:Zg)(d:RS)(c:Ze)(S:RS)(a:Ze):Prop:=Good S a R/\S.q=m/\S.L=L/\⇑S.rows+ S.stand<=B/\⇑S.bu+ S.stand<=f/\mu ⇑e S a<=M/\∀b,kx S a b->kx d c b
def MS {M:Nat}{r:Ze}(p:∀a z b,R a z b->z∈l)(J:m<=100000)(s:⇑l<=100000)(N:i<=1000000)(L:j<=1000000)(I:M<=1000000)(S:RS)(pend:Ze)(w:Way)(h:UA R m n i j M l T r S (pend++[w])):
 xi S/\w.1<S.q/\w.2.2<S.q/\⇑pend<=1000000/\UA R m n i j M l T r (S.takeIn pend w).1 (S.takeIn pend w).2/\mu ⇑l (S.takeIn pend w).1 (S.takeIn pend w).2<mu ⇑l S (pend++[w]):=by
 let⟨g,D,v,E,H,o,t⟩:=h;let⟨F,G,u,B,q⟩:=g.take p;let hw:=g.pl w (aiV _ ai7);rwa[⟨zD g p ∅ s ∅ ∅,hw.1,hw.2,5,⟨F,by rw[u,D],by rw[B,v],553,λC d=>t C (.take d)⟩,G⟩]
 ·unfold mu at o;rw[aiP]at o;ext
 ·rcases q with ⟨e,k,f⟩|⟨e,c,z,x,y,_,_,_,_,_,k,f,_⟩
  ·rw[e,k];rwa[E]
  ·rw[k,aiP];have:⇑([gA c z (min x y) (max x y)]:List Dt)=1:=rfl;ext
 ·rcases q with ⟨e,k,f⟩|⟨e,c,z,x,y,_,_,_,_,_,k,f,_⟩
  ·rw[e,f];rwa[H]
  ·rw[f,aiP];have:⇑([max x y]:Zh)=1:=rfl;ext
def iV:z∈bJ (2* n)↔z≠0/\z.natAbs<=n:=by
 unfold bJ;rw[ajz];constructor
 ·rintro ⟨i,a,rfl⟩;rwa[M12.Xg (ajI.mp a)]
 ·rintro ⟨d,c⟩;cases b:0<z
  ·erw[2* (z.toNat - 1),ajI.mpr ∅];unfold M12.st;rw[ajg ∅];ext
  ·erw[2* (z.natAbs - 1)+ 1,ajI.mpr ∅];unfold M12.st;rw[ajb ∅];ext
structure i6 (CR:Zs) (H:Hp) (r:Zs) (S:RS) (a:RA) (R:Za2) (ks:Zg) (B:Nat):Prop where
 at_:ay CR H r S a
 g:Good S [] R
 w:ig S
 k:∀a z b,R a z b->z∈ks
 m:S.q<=2000
 l:⇑ks<=400
 rb:⇑S.rows+ S.stand<=B
 wb:⇑S.bu+ S.stand<=900000
def i6.keep {CR:Zs}(h:i6 CR H a S O R l n)(k:∀b o,O.own a b->H b\o->I b\o)(d:∀b c,H b\.tup c->I b\.tup c):i6 CR I a S O R l n:=⟨h.at_.keep k d,h.g,h.w,h.k,h.m,h.l,h.rb,h.wb⟩
def i6.same {CR:Zs}(h:i6 CR H a S O R l n)(s:av H I):i6 CR I a S O R l n:=h.keep (λb o _ e=>s^e) (λb o e=>s^e)
def yF (h:ay a H b S O){c:Zs}{f:List (Zd×V)}(e:H c\.dT f):¬O.own b c:=λz=>by
 rcases z with z|z|z
 ·rw[z,h.ins]at e;ext e
 ·let⟨d,q⟩:=h.NM z;cbv
 ·let⟨d,q⟩:=h.qA z;cbv
def MT (w:Nat)(p:Zh)(k:Nat)(h:⇑p<=100000):mH (ky w p k):=by
 rwa[.t (by show 4<=100000;decide) λd a=>?_]
 simp only[ai3,ajA,akO]at a;rcases a with rfl|rfl|rfl|rfl
 ·rwa[.s]
 ·rwa[.i]
 ·rwa[.t (by rw[aiQ];rwa[h]) λd a=>?_]
  let⟨c,_,rfl⟩:=ajz.mp a;rwa[.i]
 ·rwa[.i]
inductive JQ (CR CG CC:Zs) (vs:Zb) (H:Hp) (Q:VK) (E_:XK):Prop
 |mk (x r p dx wa:Zs) (c:KA) (S:RS) (a:RA) (R:Za2) (ks:Zg) (B:Nat) (ws:Za3) (nr:Nat) (bs:List (Nat×Zg×Nat)) (gs:Zf) (ag:Zh) (W:bN) (fp:List (Zg×Nat)) (O:Zs->Prop) (n:Nat) (g:Gg):vs=[↑x,↑p]->cF CG CC H x r c gs ag W ⇑S.bu fp O->i6 CR H r S a R ks B->B<900000->(∀b,a.own r b->¬O b)->CI S bs gs ag W fY (some n)->gs[n]?\none->bs[n]?\(g.which,g.word,g.start)->eF CG H p dx wa g->¬O p->¬a.own r p->GI S g->g.first=g.last->S.ax g.start=g.start->S.ax g.front=g.front->S.ax g.bE=g.bE->ws[g.which]?\g.word->(g.which<nr\/g.start=0)->(∀z∈g.word,z∈ks/\-z∈ks)->⇑g.word<=1000->⇑ag+ 2* ⇑gs<=1000000->(∀S' a' R' i5 W' H',(∀b o,¬O b->¬a.own r b->H b\o->H' b\o)->cF CG CC H' x r c gs i5 W' ⇑S'.bu fp O->i6 CR H' r S' a' R' ks (B+ 1)->(∀b,a'.own r b->a.own r b\/H b=none)->CI S' bs gs i5 W' fY none->⇑i5<=⇑ag+ 2* ⇑gs->(∀a z b,R a z b->R' a z b)->S'.q=S.q->S'.L=S.L->Tr ws nr S S'->Q .non H')->JQ CR CG CC vs H Q E_
def yG (T:Txt K mg A):T.oE.Ok mg P w base 6 (JQ A.aB A.aT A.aH):=by
 rwa[T.oE.on pG (λcC AA outer s H vs Q E U h=>?_)]
 ·let⟨x,r,p,t,wa,c,S,a,R,ks,B,ws,nr,bs,I,ag,W,fp,O,n,g,rfl,Z,f,hB,dj,ci,Yv,JR,v,npO,npo,i,F,es,ef,er,Oy,JS,hks,JK,L,k⟩:=h
  refine⟨_,{bI 2 pG.nd ((1<<<1)&&&(1<<<1)),bC (aO dm (pm (0<<<1) (aJ T) T.iG (hX T) U #[1<<<1,2]) (1<<<1) (aV _))
    {xM}
    bj,aZ (pm (0<<<1) (aJ T) T.r9 (CW T) U #[1<<<1,2,1<<<1,pm (pv 1) (aX T) T.r6 (C1 T) U #[0<<<1]]),aZ (pm (pv 0) (aM T) T.fj (fS T) U #[1<<<1,2]),aZ (pm (pv 0) (aM T) T.fj (fS T) U #[1<<<1,eU dD (pv 2)]),aZ (vY (pv 0) (aM T) T.m5 (xn T) U)},?_⟩
  rwa[kr ?_];intro lV kh iY ft fQ;let hz:=Gg.qB (g:=g) ([F]▸i.ll);let qB:g6 (aq g.word) (g.first:Int)\(.int g.z1):=cw (bU hz);let gd:=f.g;erw[12,p,_,t,112,v.ins,aX T,T.jO,kD _ _,12,p,_,t,112,v.ins,aX T,T.fk,gY _ _,wa,11,.int g.z1,22,bB.of v.wo,qB];erw[12,x,_,c.dx,112,Z.ins,aM T,T.fm,gj^_,r,a.dx,12,f.at_.ins,cV _ _ _ ⋯,12,p,_,t,112,v.ins,aX T,T.gW,kF _ _,12,r,S,a,g.front,g.z1,2,f.at_,[gd.wf.w]▸i.f,12,p,_,t,112,v.ins,aX T,T.hV,kH _ _]
  let fin:S.by g.front g.z1=some g.bE->Q .non H:=λj=>by
   rwa[k S a R ag W H (λ_ _ _ _ e=>e) Z ⟨f.at_,f.g,f.w,f.k,f.m,f.l,by have:=f.rb;ext,f.wb⟩ (λb z=>.inl z) (ci.done Yv λb eb=>?_) ∅ (λ_ _ _ z=>z) rfl rfl (.refl S)];rw[JR]at eb;obtain rfl:=Za0 eb;rwa[.inr (i.whole F es ef er j)]
  cases j:S.by g.front g.z1=some g.bE
  ·rw[j];erw[212];rwa[bK (λ_=>fin j) (λz=>absurd (aje rfl) z)]
  let N:KP (((S.by g.front g.z1).map λn:Nat=>V.int (n:Int)).getD .non) (.int (g.bE:Int))=true/\decide ((((S.by g.front g.z1).map λn:Nat=>V.int (n:Int)).getD .non)=V.int (g.bE:Int))=false:=by
   cases q:S.by g.front g.z1 with
   |none=>rwa[2,ajx (by intro z;cases z)]
   |some d=>rwa[2,ajx (λz=>j (by rw[q];have:=V.int.inj z;congr 1;omega))]
  erw[N.1,12];rw[N.2];rwa[cU ?_];clear fin N;rwa[⟨12,x,_,c.dx,112,Z.ins,aM T,T.fm,gj^_,r,a.dx,12,f.at_.ins,cV _ _ _ ⋯,12,p,_,t,112,v.ins,aX T,T.gW,kF _ _,1212,p,_,t,112,v.ins,aX T,T.hV,kH _ _,12,p,t,12,v.ins,Ov ⋯,12,x,_,c.dx,112,Z.ins,aM T,T.fm,gj^_,p,t,wa,r,g,S,a,R,2,v,f.at_,gd,i.s,i.r,i.ll,JK,λq H1 s1 dt=>?_⟩];let lx:=pL (by_:=S.by) (ws:=g.word.take g.first) (r:=g.start);let ly:=pL (by_:=S.by) (ws:=g.word.drop (g.last+ 1)) (r:=g.bE);rw[ajs]at lx;rw[ajM]at ly;let f1:=i.wf;let f2:=i.wr;rw[es,ef]at f1;rw[es,er,<-F]at f2;rw[<-F]at dt ly;let ra:Bs ws nr S g.which g.word g.start g.first g.front g.bE g.z1:=⟨Oy,JS,⟨i.s,es⟩,hz,f1,f2,⟨i.f,ef⟩,⟨i.r,er⟩,j⟩
  let C:∀a y b,eP R g.front g.z1 g.bE a y b->y∈ks:=by
   have:=hks g.z1 (aiN hz);rintro a y b (z|⟨_,e,_⟩|⟨_,e,_⟩)
   ·rwa[f.k _ _ _ z]
   ·rw[e];rwa[this.1]
   ·rw[e];rwa[this.2]
  let stl:=C3 S
  let Ou:mu ⇑ks (p6 S g.which g.word g.start g.first g.bE) [(g.front,g.z1,g.bE)]<=1000000:=by
   unfold mu;let h1:(p6 S g.which g.word g.start g.first g.bE).stand=S.stand:=rfl;have:S.stand* (⇑ks+ 1)<=2000* 401:=aly (by have:=f.m;omega) (by have:=f.l;omega);rw[h1];show S.stand* (⇑ks+ 1)+ 1<=_;ext
  let gl:=gd.lay g.z1 i.f i.r (p6 S g.which g.word g.start g.first g.bE).rows;rwa[⟨r,q,S,a,g.front,g.bE,g.z1,_,UA (eP R g.front g.z1 g.bE) S.q S.L (B+ 1) 900000 1000000 ks (p6 S g.which g.word g.start g.first g.bE) [(g.front,g.z1,g.bE)],mu ⇑ks,2,f.at_.same s1,by have:=f.rb;ext,dt,MT _ _ _ (by rw[aiP,ajf,ajf];omega),⟨gl,225,f.wb,Ou,λ_ z=>z⟩,MS C (by have:=f.m;omega) (by have:=f.l;omega) ∅ ⋯ ⋯,λu a' H2 b2 h2 i2 o2=>?_⟩]
  ·show ⇑(S.rows++[_])+ S.stand<=_;rw[aiP];have:=f.rb;show _+ 1+ _<=_;ext
  let⟨g2,em,eL,rb2,wb2,_,re⟩:=i2;let lay:=re u (.nil u);let⟨_,w2,_,_,l,el⟩:=lay.all gl C (⟨f.w.a,f.w.b,f.w.c⟩:ig (p6 S g.which g.word g.start g.first g.bE));let el:u.bu=S.bu++l:=el;let D:∀b o,¬a.own r b->H b\o->H2 b\o:=λb o nb e=>b2 b o nb (s1^e)
  let Yw:∀b,a'.own r b->a.own r b\/H b=none:=λb z=>(o2 b z).imp id (same_none s1)
  let M:∀b,a'.own r b->¬O b:=λb z y=>by
   rcases Yw b z with q|q
   ·rwa[dj b q y]
   ·let⟨o,e,_⟩:=Z.th b y;cbv
  let X:cF A.aT A.aH H2 x r c I ag W ⇑S.bu fp O:=Z.keep (λb o j e=>D b o (λz=>dj b z j) e) (λb xs e=>D b _ (f.at_.tf e) e);let p2:eF A.aT H2 p t wa g:=⟨D _ _ npo v.ins,D _ _ (f.at_.tf v.wo) v.wo⟩;let lt:=Later.of gd g2 jt (alF em.symm)
  let C4:=ci.lay Yv gd g2 em f.w w2 el i.f ef i.r er λb eb=>by
   rw[JR]at eb;obtain rfl:=Za0 eb;show u.ax g.start≠g.start\/wk u.by g.start g.word=some g.start;cases Y:u.ax g.start=g.start
   ·right
    let h1:=lt.wk f1;let h3:=lt.wk f2;let hbb:=g2.mJ.mpr ⟨g.front,g.bE,pY,22⟩;rw[Y]at h1 h3;have:g.word=g.word.take g.first++(g.z1::g.word.drop (g.first+ 1)):=by rw[<-drop_cons hz,List.take_append_drop]
    rw[this,vP h1,ku hbb];rwa[h3]
   ·rwa[.inl Y]
  let JT:lG A.aT A.aH u bs I W _ (⇑ag+ 2* ⇑I) x r c ⇑S.bu fp O H2 ag W:=⟨X,C4,λ_ _ _ z=>z,by have:=C4.two;ext⟩;rwa[⟨12,x,c.dx,12,X.ins,fA ⋯,12,p,_,t,112,p2.ins,aX T,T.gW,kF _ _,12,x,r,c,I,ag,W,⇑S.bu,fp,O,g.front,g.z1,2,X,JT.fits L,λns H3 b3 nd hn c3=>?_⟩];let Yx:=JT.wake nd hn c3;let p3:eF A.aT H3 p t wa g:=⟨b3 _ _ npO p2.ins,b3 _ _ (X.jm p2.wo) p2.wo⟩;rwa[⟨12,x,c.dx,12,c3.ins,fA ⋯,12,p,_,t,112,p3.ins,aX T,T.hV,kH _ _,1212,x,r,c,I,11,⇑S.bu,fp,O,g.bE,-g.z1,2,c3,Yx.fits L,λns2 H4 b4 nd2 Yy c4=>?_⟩];let Yz:=Yx.wake nd2 Yy c4;let G:Bt O H2 H4:=b3.trans b4 λb z=>.inl z
  let R4:ay A.aB H4 r u a':=h2.keep (λb o j e=>G b o (M b j) e) (λb xs e=>G b _ (X.jm e) e)
  let i4:CI u bs I (ag++ns++ns2) (gB (gB W g.front g.z1) g.bE (-g.z1)) (Ox u ⇑S.bu) none:=Yz.i.ex λr' s n' w U ex=>by
   let⟨w1,n1⟩:=dq.mp w;let⟨w2,n2⟩:=dq.mp w1;rcases ex with ⟨Y,e2⟩|⟨Y,e2⟩|⟨m,hm,e⟩
   ·rwa[absurd ⟨by rw[Y],e2⟩ n2]
   ·rwa[absurd ⟨by rw[Y],e2⟩ n1]
   ·rwa[.inr ⟨m,by cbv,e⟩]
  rwa[⟨_,rfl,x,c.dx,_,rfl,c4.ins,fA (by decide),x,r,c,u,a',_,bs,I,_,_,_,⇑S.bu,fp,O,rfl,⟨c4,i4,λ_ _ _ z=>z,Yz.b⟩,L,by rw[el,aiP];ext,R4,g2,w2.c,M,λUB W5 H5 b5 h5=>?_⟩];let J:Bt O H2 H5:=G.trans b5 λb z=>.inl z
  rwa[k u a' _ UB W5 H5 (λb o n1 n2 e=>J b o n1 (D b o n2 e)) h5.c ⟨h2.keep (λb o j e=>J b o (M b j) e) (λb xs e=>J b _ (X.jm e) e),g2,w2,C,[em]▸f.m,f.l,rb2,wb2⟩ Yw h5.i (by have:=h5.b;omega) jt em eL (.step (.refl S) ra lay)]
def Xp {x:V}{A B:Prop}(h:x=q)(k:B):if (!decide (x=q))=true then A else B:=by cbv
section
variable {CG CC:Zs}{H H':Hp}{x r:Zs}{c:KA}{gs:Zf}{ag:Zh}{W:bN}{hd:Nat}{fp:List (Zg×Nat)}{O:Zs->Prop}{gv:Zb}{n:Nat}{p dx wa:Zs}{g g':Gg}
def cF.Xq (h:cF CG CC H x r c gs ag W hd fp O)(hG:H c.aG\.lst gv)(j:qu CG H gv gs O)(I:gv[n]?\↑p)(N:O p)(q:eF CG H p dx wa g)(f:∀b o,b≠p->H b\o->H' b\o)(L:eF CG H' p dx wa g'):cF CG CC H' x r c (gs.set n (some g')) ag W hd fp O/\qu CG H' gv (gs.set n (some g')) O:=by
 let kn:∀b o,(∀C d fs,o≠.ins C d fs)->H b\o->H' b\o:=λb o w e=>f b o (λz=>by rw[z,q.ins]at e;cbv) e
 let a:qu CG H' gv (gs.set n (some g')) O:=by
  rwa[⟨[aji]▸j.l,λi v y l=>?_,λi v u y l=>?_,j.i⟩]
  ·rcases fe l with ⟨_,z⟩|⟨_,z⟩
   ·ext z
   ·rwa[j.n i v y z]
  ·rcases fe l with ⟨z1,z⟩|⟨z1,z⟩
   ·cbv
   ·let⟨F,t,s,e,B,J⟩:=j.s i v u y z;let G:F≠p:=λz=>z1 (j.i i n p (by cbv) I)
    rwa[F,t,s,e,⟨f _ _ G B.ins,kn _ _ (by cbv) B.wo⟩,J]
 rwa[⟨⟨f _ _ (C2 h q).symm h.ins,⟨gv,kn _ _ (by cbv) hG,a⟩,kn _ _ (by cbv) h.hA,5,h.ne,h.ox,h.oG,h.oA,λb k=>?_⟩,a⟩]
 ·let⟨D,E,k1,k2⟩:=h.wt;rwa[D,E,k1.keep λb o k e=>by let⟨M,q⟩:=k1.there k;cbv,k2]
 ·cases e:b=p
  ·rwa[_,[e]▸L.ins,(by cbv),(by cbv),(by cbv),by cbv]
  ·let⟨o,q,m⟩:=h.th b k;rwa[o,f _ _ e q,m]
theorem cF.Fv (h:cF CG CC H x r c gs ag W hd fp O)(hG:H c.aG\.lst gv)(f:qu CG H gv gs O)(M:gv[n]?\↑p)(q:eF CG H p dx wa g):cF CG CC (upd H c.aG (.lst (gv.set n .non))) x r c (gs.set n none) ag W hd fp (λb=>O b/\b≠p):=by
 let k:∀b o,b≠c.aG->H b\o->upd H c.aG (.lst (gv.set n .non)) b\o:=λb o n e=>by rw[ak n];rwa[e]
 let kn:∀b o,(∀s,o≠.lst s)->H b\o->upd H c.aG (.lst (gv.set n .non)) b\o:=λb o w e=>k b o (λz=>by cbv) e
 let I:∀{b s},H b\.lst s->b≠p:=λ{b s} e z=>by rw[z,q.ins]at e;ext e
 rwa[⟨kn _ _ (by cbv) h.ins,⟨_,aj,[aji,aji]▸f.l,λi v l d=>?_,λi v u l d=>?_,λi j R l d=>?_⟩,k _ _ h.ne.symm h.hA,5,h.ne,⟨h.ox,(C2 h q).symm⟩,⟨h.oG,I hG⟩,⟨h.oA,I h.hA⟩,λb a=>?_⟩]
 ·rcases fe l with ⟨z1,z⟩|⟨z1,z⟩
  ·rwa[z]
  ·rcases fe d with ⟨t,_⟩|⟨_,y⟩
   ·rwa[absurd t z1]
   ·rwa[f.n i v z y]
 ·rcases fe d with ⟨_,z⟩|⟨z1,z⟩
  ·ext z
  ·rcases fe l with ⟨t,_⟩|⟨_,y⟩
   ·rwa[absurd t z1]
   ·let⟨G,C,B,e,F,N⟩:=f.s i v u y z;let L:G≠p:=λw=>z1 (f.i i n p (by cbv) M)
    rwa[G,C,B,e,⟨kn _ _ (by cbv) F.ins,kn _ _ (by cbv) F.wo⟩,N,L]
 ·rcases fe l with ⟨_,z⟩|⟨_,z⟩
  ·ext z
  ·rcases fe d with ⟨_,y⟩|⟨_,y⟩
   ·ext y
   ·rwa[f.i i j R z y]
 ·let⟨D,E,k1,k2⟩:=h.wt;rwa[⟨D,E,k1.keep λb o a e=>by let⟨Q,q⟩:=k1.there a;cbv,λb a=>⟨k2.o b a,λz=>?_⟩,k2.d,k2.e,k2.w⟩];let⟨Q,J⟩:=k1.there a;rw[z,q.ins]at J;ext J
 ·cases e:b=c.aG
  ·rwa[_,[e]▸aj,(by cbv),(by cbv),(by cbv),by cbv]
  ·let⟨o,q,m⟩:=h.th b a.1;rwa[o,k _ _ e q,m]
end
structure C5 (ws:Za3) (nr:Nat) (ks:Zg) (bs:List (Nat×Zg×Nat)):Prop where
 w:∀b∈bs,ws[b.1]?\b.2.1
 n:∀b∈bs,b.1<nr\/b.2.2=0
 l:∀b∈bs,⇑b.2.1<=1000
 k:∀b∈bs,∀z∈b.2.1,z∈ks/\-z∈ks
 c:⇑bs<100000
def live (a:Zf):Nat:=a.countP (·.isSome)
def C6 {a:Zf}{g:Gg}(h:a[n]?\some g):(∀u:Gg,live (a.set n (some u))=live a)/\live (a.set n none)+ 1=live a:=by
 unfold live
 induction a generalizing n with
 |nil=>simp at h
 |cons y r c=>
  cases n with
  |zero=>
   have:y\g:=by simpa using h
   subst this;simp[List.countP_cons]
  |succ n=>
   let⟨b,d⟩:=c (n:=n) (by simpa using h);simp only[List.set_cons_succ,List.countP_cons];rwa[λu=>by rw[b u],3]
inductive JV (CR CG CC:Zs) (vs:Zb) (H:Hp) (Q:VK) (E_:XK):Prop
 |mk (x r:Zs) (c:KA) (S:RS) (a:RA) (R:Za2) (ks:Zg) (B:Nat) (ws:Za3) (nr:Nat) (bs:List (Nat×Zg×Nat)) (gs:Zf) (ag:Zh) (W:bN) (fp:List (Zg×Nat)) (O:Zs->Prop) (n:Nat):vs=[↑x,.int n]->cF CG CC H x r c gs ag W ⇑S.bu fp O->i6 CR H r S a R ks B->B<900000->(∀b,a.own r b->¬O b)->CI S bs gs (ag++[n]) W fY none->C5 ws nr ks bs->⇑ag+ 2* ⇑gs<=1000000->(∀S' a' R' je i5 W' O' B' H',(∀b o,¬O b->¬a.own r b->H b\o->H' b\o)->cF CG CC H' x r c je i5 W' ⇑S'.bu fp O'->i6 CR H' r S' a' R' ks B'->(∀b,a'.own r b->a.own r b\/H b=none)->(∀b,O' b->O b\/H b=none)->(∀b,a'.own r b->¬O' b)->CI S' bs je i5 W' fY none->(∀a z b,R a z b->R' a z b)->S'.q=S.q->S'.L=S.L->Tr ws nr S S'->(live je=live gs/\⇑i5=⇑ag/\B'=B)\/(live je+ 1=live gs/\⇑i5<=⇑ag+ 2* ⇑gs/\B'<=B+ 1)->Q .non H')->JV CR CG CC vs H Q E_
theorem vh (T:Txt K mg A):T.lL.Ok mg P w base 7 (JV A.aB A.aT A.aH):=by
 rwa[T.lL.on m9 (λcC AA outer s H vs Q E hr h=>?_)]
 ·let⟨x,r,c,S,a,R,ks,B,ws,nr,bs,F,ag,W,fp,O,n,rfl,h,J,hB,Z,ci,m,YB,k⟩:=h
  refine⟨_,{bI 2 m9.nd ((0<<<1)|||1),bC (aO kY (pv 2) cJ (aV _))
    {xM}
    bj,bC (aO ib (pm (0<<<1) (aJ T) T.hU (iU T) hr #[2<<<1]) (2<<<1) (aV _))
    {kU cJ (vq (0<<<1) (pv 1) set_list),xM}
    bj,aZ (pm (pv 2) (aX T) T.lK (ve T) hr #[0<<<1]),bG (bC (aO jU (2<<<1) (2<<<1) (aV _))
    {aZ (pm (pv 0) (aM T) T.j5 (oB T) hr #[1,2<<<1,(2<<<1)&&&(2<<<1)]),aZ (pm (pv 0) (aM T) T.j5 (oB T) hr #[1,2<<<1,eU dD ((2<<<1)&&&(2<<<1))])}
    {kU cJ (vq (0<<<1) (pv 1) set_list),aZ (pm (pv 0) (aM T) T.oE (yG T) hr #[2])})},?_⟩
  rwa[uF ?_];intro kh iY ft fQ;let U:n<⇑F:=ci.ab n (aiV _ (aiR.mpr rfl));let⟨I,hG,hs⟩:=h.hG;let hv:I[n]?\(I[n]'([hs.l]▸U)):=aiL _
  change I[n]'(by cbv)=v at hv;let gd:=J.g;erw[12,x,_,c.dx,112,h.ins,aM T,T.jP,lF^_,12,c.aG,11,v,22,aD.of hG,cw hv];let f:F[n]?\(F[n]'U):=aiL U
  change F[n]'U=og at f
  cases og with
  |none=>
   obtain rfl:=hs.n n v hv f;rwa[⟨12212,eX ?_⟩];rwa[k S a R F ag W O B H (λ_ _ _ _ e=>e) h J (λb z=>.inl z) (λb z=>.inl z) Z (ci.pop.done f λb eb=>ci.de n b f (by cbv) eb) (λ_ _ _ z=>z) rfl rfl (.refl S) (.inl ⟨222⟩)]
  |some g=>
   let⟨p,i,wa,rfl,N,op⟩:=hs.s n v g hv f;let⟨JR,gi,_⟩:=ci.al n g f;let D:=aiN JR;let JK:⇑g.word<=1000:=m.l _ D;let V:¬a.own r p:=λz=>Z p z op
   rwa[⟨12212,cU ?_⟩];erw[12,x,_,c.dx,112,h.ins,aM T,T.fm,gj^_,r,a.dx,12,J.at_.ins,cV _ _ _ ⋯,12,p,_,i,112,N.ins,aX T,T.qo,vd _ _,r,S,a,g.start,S.ax g.start,2,J.at_,sx ([gd.wf.e]▸gi.s),12,p,_,i,112,N.ins,aX T,T.qo,vd _ _,212];let Y:∀b,a.own r b->¬(O b/\b≠p):=λb z y=>Z b z y.1
   cases es:S.ax g.start=g.start
   ·rwa[Xp (by rw[es]) ?_];rwa[⟨12,p,i,12,N.ins,Ov ⋯,12,x,_,c.dx,112,h.ins,aM T,T.fm,gj^_,p,i,wa,r,g,S,a,R,2,N,J.at_,gd,gi,V,JK,λd j f1 l ad=>?_⟩];let R1:i6 A.aB j r S a R ks B:=J.keep (λb o hb e=>f1 b o (λz=>V (z ▸ hb)) e) (λb xs e=>f1 b _ (cf e N.ins (by cbv)) e);let⟨c1,gs1⟩:=h.Xq hG hs hv op N f1 l;let YC:j c.aG\(.lst I):=f1 _ _ (cf hG N.ins (by cbv)) hG;let t:=ad.gi;let Yq:=t.ll;let Oz:=t.fl;let abN:⇑d.word<=1000:=by rw[ad.wo];rwa[JK]
    let z1:=Gg.qB (g:=d) ∅;let z2:=Gg.at2 (g:=d) Yq;let ahB:(F.set n (some d))[n]?\(some d):=ajv U
    let lv:=C6 f;let lm:=J.m;rwa[⟨λ_ H'=>Q .non H',5,λ_ _ q=>q⟩];erw[12,p,_,i,112,l.ins,aX T,T.fk,gY _ _,12,p,_,i,112,l.ins,aX T,T.iT,kI _ _,112212];rwa[bK (λq=>?_) (λq=>?_)]
    ·let q:(d.first:Int)<(d.last:Int):=aja q;let bw:∀z∈d.word,-1000<=z/\z<=1000:=λz hz=>ci.bd _ D z (by rw[<-ad.wo];rwa[hz])
     let b1:=bw _ (aiN z1);let b2:=bw _ (aiN z2);let hf:=t.f;let hrr:=t.r;let YD:n<100000:=by have:=ci.len;have:=m.c;ext
     rwa[⟨12,x,c.dx,12,c1.ins,fA ⋯,1212,p,_,i,112,l.ins,aX T,T.gW,kF _ _,12,p,_,i,112,l.ins,aX T,T.jO,kD _ _,12,p,_,i,112,l.ins,aX T,T.fk,gY _ _,wa,11,.int d.z1,22,bB.of l.wo,cw (bU z1),x,r,c,_,ag,W,⇑S.bu,fp,O,n,d.front,d.z1,2,c1,3,YD,b1,λO2 H2 YF f2 OB uk u=>?_⟩];let L:eF A.aT H2 p i wa d:=⟨f2 _ _ (by cbv) l.ins,f2 _ _ (by cbv) l.wo⟩;rwa[⟨12,x,c.dx,12,u.ins,fA ⋯,1212,p,_,i,112,L.ins,aX T,T.hV,kH _ _,12,p,_,i,112,L.ins,aX T,T.jO,kD _ _,12,p,_,i,112,L.ins,aX T,T.iT,kI _ _,wa,11,.int (-d.z2),22,bB.of L.wo,cw (bU z2),12,x,r,c,_,ag,_,⇑S.bu,fp,O2,n,d.bE,d.z2,(by cbv),u,3,YD,3,λO3 H3 bt3 f3 YG nw3 c3=>?_⟩]
     let abO:∀b,O3 b->O b\/j b=none:=λb z=>by
      rcases nw3 b z with y|y
      ·rwa[uk b y]
      ·cases w:O b
       ·rwa[.inl w]
       ·rwa[.inr ?_]
        cases e:j b with
        |none=>rfl
        |some o=>rw[YF b o w e]at y;ext y
     let nw:∀b,O3 b->O b\/H b=none:=λb z=>by
      rcases abO b z with y|y
      ·rwa[.inl y]
      ·cases w:b=p
       ·cbv
       ·rwa[.inr ?_]
        cases e:H b with
        |none=>rfl
        |some o=>rw[f1 b o w e]at y;ext y
     let C:Bt O j H3:=YF.trans bt3 uk
     let dj3:∀b,a.own r b->¬O3 b:=λb z y=>by
      rcases nw b y with w|w
      ·rwa[Z b z w]
      ·let⟨o,e⟩:=J.at_.there z;cbv
     rwa[k S a R _ ag _ O3 B H3 (λb o G _ e=>C b o G (f1 b o (λz=>G ([z]▸op)) e)) c3 (R1.keep (λb o hb e=>C b o (Z b hb) e) (λb xs e=>C b _ (c1.jm e) e)) (λb z=>.inl z) nw dj3 (ci.pop.waits f ad ∅) (λ_ _ _ z=>z) rfl rfl (.refl S) (.inl ⟨lv.1 d,22⟩)]
    ·let q:¬(d.first:Int)<(d.last:Int):=λz=>q (aje z)
     let efl:d.first=d.last:=∅
     erw[12,x,_,c.dx,112,c1.ins,aM T,T.jP,lF^_,12,c.aG,11,n,22,YC,pK ([hs.l]▸U)];let u:=c1.Fv YC gs1 hv l;let kn:∀b o,(∀xs,o≠.lst xs)->j b\o->upd j c.aG (.lst (I.set n .non)) b\o:=λb o w e=>by rw[ak (λz=>by cbv)];rwa[e]
     let L:eF A.aT (upd j c.aG (.lst (I.set n .non))) p i wa d:=⟨kn _ _ (by cbv) l.ins,kn _ _ (by cbv) l.wo⟩;let X:¬a.own r c.aG:=λz=>Z _ z h.oG
     let R2:i6 A.aB (upd j c.aG (.lst (I.set n .non))) r S a R ks B:=R1.keep (λb o hb e=>[ak (λz=>X (by cbv))]▸e) (λb xs e=>kn _ _ (by cbv) e);let ess:(F.set n (some d)).set n none=F.set n none:=List.set_set ..;rw[ess]at u;let UC:∀b o,¬O b->H b\o->upd j c.aG (.lst (I.set n .non)) b\o:=λb o G e=>by rw[ak (λz=>G ([z]▸h.oG))];cbv
     let M:∀b,upd j c.aG (.lst (I.set n .non)) b=none->H b=none:=λb z=>by
      cases e:H b with
      |none=>rfl
      |some o=>
       cases w:O b
       ·cases y:b=p
        ·rw[y,L.ins]at z;ext z
        ·let⟨o2,e2,_⟩:=u.th b ⟨w,y⟩;cbv
       ·rw[UC b o w e]at z;ext z
     change upd j c.aG _=H2 at u L R2 UC M ⊢;rwa[⟨12,x,c.dx,12,u.ins,fA ⋯,12,x,r,p,i,wa,c,S,a,R,ks,B,ws,nr,bs,F.set n none,ag,W,fp,_,n,d,2,u,R2,hB,Y,ci.pop.kill,ajv U,by rw[JR,ad.wh,ad.wo,ad.st],L,(λz=>z.2 rfl),V,t,efl,[ad.st]▸es,ad.ef,ad.er,[ad.wh,ad.wo]▸m.w _ D,[ad.wh,ad.st]▸m.n _ D,[ad.wo]▸m.k _ D,abN,[aji]▸YB,λS' a' R' i5 W' H' f3 c3 R3 o3 UD la rr em eL tr=>?_⟩];let o03:∀b,a'.own r b->a.own r b\/H b=none:=λb z=>(o3 b z).imp id (M b)
     rw[aji]at la;rwa[k S' a' R' _ i5 W' _ (B+ 1) H' (λb o G n2 e=>f3 b o (λz=>G z.1) n2 (UC b o G e)) c3 R3 o03 (λb z=>.inl z.1) (λb z y=>?_) UD rr em eL tr (.inr ⟨lv.2,la,aiS _⟩)];rcases o3 b z with w|w
     ·rwa[Y b w y]
     ·let⟨o2,e2,_⟩:=u.th b y;cbv
   ·rwa[bK (λ_=>?_) (λz=>absurd (by cbv) z)];erw[12,x,_,c.dx,112,h.ins,aM T,T.jP,lF^_,12,c.aG,11,n,22,hG,pK (by cbv)];let u:=h.Fv hG hs hv N;let X:¬a.own r c.aG:=λz=>Z _ z h.oG
    rwa[k S a R _ ag W _ B _ (λb o G _ e=>[ak (λz=>G ([z]▸h.oG))]▸e) u (J.keep (λb o hb e=>[ak (λz=>X (by cbv))]▸e) (λb xs e=>[ak (λz=>by cbv)]▸e)) (λb z=>.inl z) (λb z=>.inl z.1) Y (ci.pop.kill.done (ajv U) λb eb=>?_) (λ_ _ _ z=>z) rfl rfl (.refl S) (.inr ⟨(C6 f).2,33⟩)]
    cbv
def _root_.Lake.L2.Tr.trans {ws:Za3}{c:RS}(h:Tr ws n S T)(k:Tr ws n T c):Tr ws n S c:=by
 induction k with
 |refl=>exact h
 |step _ a b d=>exact .step d a b
inductive C7 (CR CG CC:Zs) (vs:Zb) (H:Hp) (Q:VK) (E_:XK):Prop
 |mk (x r:Zs) (c:KA) (S:RS) (a:RA) (R:Za2) (ks:Zg) (B:Nat) (ws:Za3) (nr:Nat) (bs:List (Nat×Zg×Nat)) (gs:Zf) (ag:Zh) (W:bN) (fp:List (Zg×Nat)) (O:Zs->Prop):vs=[↑x]->cF CG CC H x r c gs ag W ⇑S.bu fp O->i6 CR H r S a R ks B->B+ live gs<900000->(∀b,a.own r b->¬O b)->CI S bs gs ag W fY none->C5 ws nr ks bs->live gs* (2* ⇑bs+ 1)+ ⇑ag+ 2* ⇑bs<=1000000->(∀S' a' R' je W' O' B' H',(∀b o,¬O b->¬a.own r b->H b\o->H' b\o)->cF CG CC H' x r c je [] W' ⇑S'.bu fp O'->i6 CR H' r S' a' R' ks B'->(∀b,a'.own r b->a.own r b\/O b\/H b=none)->(∀b,O' b->O b\/a.own r b\/H b=none)->(∀b,a'.own r b->¬O' b)->CI S' bs je [] W' fY none->(∀a z b,R a z b->R' a z b)->S'.q=S.q->S'.L=S.L->Tr ws nr S S'->B'+ live je<=B+ live gs->Q .non H')->C7 CR CG CC vs H Q E_
def lW (T:Txt K mg A):T.iR.Ok mg P w base 8 (C7 A.aB A.aT A.aH):=by
 rwa[T.iR.on tH (λcC AA outer s H vs Q E hr h=>?_)]
 ·let⟨x,r,c,S,a,R,ks,B,ws,nr,bs,gs,ag,W,fp,O,rfl,h,hR,hB,dj,ci,hbs,hm,k⟩:=h
  refine⟨_,{bG (fU ajc (AH (0<<<1) (λ_=>rfl))
   {aZ (pm (pv 0) (aM T) T.lL (vh T) hr #[HK aiX PySem.F.slot_list_pop PySem.F.type_list_pop HL (0<<<1)])})},?_⟩
  let hgl:=ci.len;rwa[⟨λ_ H'=>Q .non H',5,λ_ _ q=>q⟩];erw[λm σ g=>∃j a2 R2 f d U F D,m=live f* (2* ⇑bs+ 1)+ ⇑d/\σ=#v[↑x]/\(∀b o,¬O b->¬a.own r b->H b\o->g b\o)/\cF A.aT A.aH g x r c f d U ⇑j.bu fp F/\i6 A.aB g r j a2 R2 ks D/\(∀b,a2.own r b->a.own r b\/O b\/H b=none)/\(∀b,F b->O b\/a.own r b\/H b=none)/\(∀b,a2.own r b->¬F b)/\CI j bs f d U fY none/\(∀a z b,R a z b->R2 a z b)/\j.q=S.q/\j.L=S.L/\Tr ws nr S j/\D+ live f<=B+ live gs/\live f* (2* ⇑bs+ 1)+ ⇑d+ 2* ⇑bs<=1000000,⟨_,S,a,R,gs,ag,W,O,B,22,λ_ _ _ _ e=>e,h,hR,λb z=>.inl z,λb z=>.inl z,dj,ci,λ_ _ _ z=>z,22,.refl S,aiS _,hm⟩];rintro m σ g ⟨j,a2,R2,f,d,U,F,D,rfl,rfl,f2,i,r2,M,C,t,v,V,N,G,L,J,CQ⟩;erw[12,x,_,c.dx,112,i.ins,aM T,T.lD,oz^_,!(aq (nI d)).isEmpty,.inl ⟨_,aD.of i.hA,2⟩];cases l:d=[]
  ·subst l;rwa[cU ?_];rwa[k j a2 R2 f U F D g f2 i r2 M C t v V N G L J]
  ·let u:=akE l;change d.getLast l=n at u;change d.dropLast=pre at u;subst u;rw[show (!(aq (nI (pre++[n]))).isEmpty)=true by unfold aq nI;simp];rwa[eX ?_];erw[_,λ_ _ z=>z];erw[12,x,c.dx,12,i.ins,fA ⋯,12,x,_,c.dx,112,i.ins,aM T,T.lD,oz^_,.inl ⟨21,aD.of i.hA⟩,c.aA,_,.int (n:Int),22,i.hA,5]
   ·rw[aI,bP,aiP];rwa[bU (eD (by show (pre++[n])[⇑pre+ 1 - 1]?\n;rw[Nat.add_sub_cancel,ai1 (aiS _),akH];rfl))]
   let Ur:(aq (nI (pre++[n]))).dropLast=aq (nI pre):=by rw[g9,ints_app];rwa[List.dropLast_concat]
   rw[Ur];let c3:=i.agenda pre;let noA:¬a2.own r c.aA:=λz=>t _ z i.oA
   let Z:∀b o,b≠c.aA->g b\o->upd g c.aA (.lst (aq (nI pre))) b\o:=λb o Y e=>by rw[ak Y];rwa[e]
   let r3:i6 A.aB (upd g c.aA (.lst (aq (nI pre)))) r j a2 R2 ks D:=r2.keep (λb o hb e=>Z b o (λz=>noA (by cbv)) e) (λb xs e=>Z b _ (λz=>by rw[z,i.hA]at e;ext e) e)
   let I:∀b,upd g c.aA (.lst (aq (nI pre))) b=none->g b=none:=λb z=>by
    cases e:b=c.aA
    ·rw[e,aj]at z;ext z
    ·rw[ak e]at z;rwa[z]
   change upd g c.aA _=H3 at c3 Z r3 I ⊢;let ln2:=v.len;rw[aiP]at CQ;have:⇑([n]:Zh)=1:=rfl
   let th2:∀b,g b=none->a.own r b\/O b\/H b=none:=λb z=>by
    cases w:a.own r b
    ·rwa[.inl w]
    ·cases w2:O b
     ·rwa[.inr (.inl w2)]
     ·rwa[.inr (.inr ?_)]
      cases e:H b with
      |none=>rfl
      |some o=>rw[f2 b o w2 w e]at z;ext z
   rwa[⟨x,r,c,j,a2,R2,ks,D,ws,nr,bs,f,pre,U,fp,F,n,2,c3,r3,3,t,v,hbs,3,λS4 a4 R4 p X W4 O4 B4 H4 f4 c4 r4 ow4 oo4 dj4 Fw rr4 em4 eL4 tr4 ms=>?_⟩];let ow:∀b,a4.own r b->a.own r b\/O b\/H b=none:=λb z=>(ow4 b z).elim (M b) λw=>th2 b (I b w)
   let oo:∀b,O4 b->O b\/a.own r b\/H b=none:=λb z=>(oo4 b z).elim (C b) λw=>by
    cbv
   let y:B4+ live p<=B+ live gs/\live p* (2* ⇑bs+ 1)+ ⇑X<live f* (2* ⇑bs+ 1)+ ⇑(pre++[n]):=by
    rw[aiP];rcases ms with ⟨e1,e2,e3⟩|⟨e1,e2,e3⟩
    ·rw[e1,e2,e3];rwa[J,3]
    ·rw[<-e1,al8];rwa[33]
   rwa[⟨_,y.2,S4,a4,R4,p,X,W4,O4,B4,22,λb o Y n2 e=>?_,c4,r4,ow,oo,dj4,Fw,λa z b q=>rr4 _ _ _ (V _ _ _ q),em4.trans N,eL4.trans G,L.trans tr4,y.1,by have:=y.2;rw[aiP]at this;ext⟩];rwa[f4 b o (λz=>?_) (λz=>?_) (Z b o (λz=>Y ?_) (f2 b o Y n2 e))]
   ·cbv
   ·cbv
   ·subst z;rcases C c.aA i.oA with w|w|w
    ·rwa[w]
    ·cbv
    cbv
theorem _root_.Lake.L2.CI.begin {bs:List (Nat×Zg×Nat)}{gs:Zf}{W:bN}{t:Nat->Int->Prop}(h:CI S bs gs B W t none){which m:Nat}{word:Zg}(D:word≠[])(l:m<S.q)(x:∀z∈word,-1000<=z/\z<=1000):CI S (bs++[(which,word,m)]) (gs++[some (zC which word m)]) (B++[⇑gs]) W t none:=by
 let E:=List.length_pos_iff.mpr D
 let old:∀{k:Nat} {y:Option Gg},(gs++[some (zC which word m)])[k]?\y->(k<⇑gs/\gs[k]?\y)\/(k=⇑gs/\y\zC which word m):=λ{k y} e=>by
  cases a:k<⇑gs
  ·rw[aiZ a]at e;rwa[.inl ⟨a,e⟩]
  ·rw[ai1 ∅]at e;have:=(aiO.mp e).1;let f:k=⇑gs:=by simp at this;ext
   subst f;rw[akH]at e;rwa[.inr ⟨2,(Za0 e).symm⟩]
 let c:∀{k:Nat},k<⇑gs->(bs++[(which,word,m)])[k]?=bs[k]?:=λ{k} a=>aiZ (by rw[<-h.len];rwa[a])
 rwa[⟨by rw[aiP,aiP,h.len];rfl,λk g e=>?_,λk b e G o=>?_,λk a=>?_,λr s k q=>?_,λk=>?_,λb n=>?_⟩]
 ·rcases old e with ⟨a,e⟩|⟨a,e⟩
  ·let⟨j,i,F⟩:=h.al k g e;rwa[[c a]▸j,i,F.imp (ajh _) id]
  ·ext e;rwa[⟨5,⟨ajj _,by show ⇑word - 1<⇑word;ext,l,l,l,25⟩,.inl (aiV _ (aiR.mpr a))⟩]
   ·rw[ai1 ([a,h.len]▸aiS _),a,h.len,akH];rfl
   ·show wk S.by _ (word.drop (⇑word - 1+ 1))=_;rw[show ⇑word - 1+ 1=⇑word by ext,amg];rfl
 ·rcases old e with ⟨a,e⟩|⟨a,e⟩
  ·rw[c a]at o;rwa[h.de k b e G o]
  ·ext e
 ·rw[aiP];rcases aiY.mp a with q|q
  ·have:=h.ab k q;show k<_+ 1;ext
  ·rw[aiR.mp q];show _<_+ 1;ext
 ·let⟨v,d,H,C,I,J,u⟩:=h.en r s k q;rwa[v,d,H,C,I,by rw[aiP];show d<_+ 1;ext,u]
 ·cases a:k<⇑gs
  ·let⟨p,q,j,i⟩:=h.sl k;rwa[⟨p,q,j,λg e=>i g ?_⟩];rw[aiZ a]at e;rwa[e]
  ·rwa[⟨((zC which word m).front,(zC which word m).z1),((zC which word m).bE,(zC which word m).z2),λr s w=>?_,λg e=>?_⟩]
   ·let⟨_,d,_,e,_,E,_⟩:=h.en r s k w;ext
   cbv
 ·rcases aiY.mp n with q|q
  ·rwa[h.bd b q]
  ·rw[aiR.mp q];rwa[x]
def cF.Xr {x:Zs}{l:KA}{gs:Zf}{W:bN}{hd:Nat}{Q:List (Zg×Nat)}{O:Zs->Prop}{dx X:Zs}{g:Gg}(h:cF a b H x c l gs B W hd Q O)(hG:H l.aG\.lst L)(r:qu a H L gs O)(np:H d=none)(s:av H I)(q:eF a I d dx X g):cF a b (upd I l.aG (.lst (L++[↑d]))) x c l (gs++[some g]) B W hd Q (IL O d):=by
 let k:∀f o,f≠l.aG->I f\o->upd I l.aG (.lst (L++[↑d])) f\o:=λf o n e=>by rw[ak n];rwa[e]
 let kn:∀f o,(∀Z,o≠.lst Z)->I f\o->upd I l.aG (.lst (L++[↑d])) f\o:=λf o w e=>k f o (λz=>by rw[z,s^hG]at e;cbv) e
 let fresh:∀(i:Nat),L[i]?≠some ↑d:=λi e=>by
  let t:i<⇑gs:=by rw[<-r.l];rwa[(aiO.mp e).1]
  cases U:gs[i]? with
  |none=>cbv
  |some y=>
   cases y with
   |none=>cases r.n i _ e U
   |some u=>
    let⟨T,_,_,F,G,_⟩:=r.s i _ u e U;ext F;have:=G.ins;cbv
 let old:∀{i:Nat} {v:V},(L++[↑d])[i]?\v->(i<⇑L/\L[i]?\v)\/(i=⇑L/\v=↑d):=λ{i v} e=>by
  cases R:i<⇑L
  ·rw[aiZ R]at e;rwa[.inl ⟨R,e⟩]
  ·rw[ai1 ∅]at e;have:=(aiO.mp e).1;let J:i=⇑L:=by simp at this;ext
   subst J;rw[akH]at e;rwa[.inr ⟨2,(Za0 e).symm⟩]
 rwa[⟨kn _ _ (by cbv) (s^h.ins),⟨_,aj,by rw[aiP,aiP,r.l];rfl,λi v F p=>?_,λi v u F p=>?_,λi j p' F p=>?_⟩,k _ _ h.ne.symm (s^h.hA),5,h.ne,.inl h.ox,.inl h.oG,.inl h.oA,λf C=>?_⟩]
 ·rcases old F with ⟨t,e⟩|⟨t,e⟩
  ·rw[aiZ (by rw[<-r.l];rwa[t])]at p;rwa[r.n i v e p]
  ·rw[t,r.l,ai1 (aiS _),akH]at p;cases Za0 p
 ·rcases old F with ⟨t,e⟩|⟨t,e⟩
  ·rw[aiZ (by rw[<-r.l];rwa[t])]at p;let⟨T,N,M,e3,G,Y⟩:=r.s i v u e p;rwa[T,N,M,e3,⟨kn _ _ (by cbv) (s^G.ins),kn _ _ (by cbv) (s^G.wo)⟩,.inl Y]
  ·rw[t,r.l,ai1 (aiS _),akH]at p;cases Za0 p;rwa[d,dx,X,e,⟨kn _ _ (by cbv) q.ins,kn _ _ (by cbv) q.wo⟩,.inr rfl]
 ·rcases old F with ⟨t,e⟩|⟨t,e⟩
  ·rcases old p with ⟨hj,S⟩|⟨hj,S⟩
   ·rwa[r.i i j p' e S]
   cbv
  cbv
 ·let⟨D,E,k1,k2⟩:=h.wt;rwa[D,E,(k1.same s).keep λf o C e=>by let⟨kv,q⟩:=(k1.same s).there C;cbv,λf C=>.inl (k2.o f C),k2.d,k2.e,k2.w]
 ·rcases C with C|C
  ·cases e:f=l.aG
   ·rwa[⟨_,by rw[e];rwa[aj],(by cbv),(by cbv),(by cbv),by cbv⟩]
   ·let⟨o,q,m⟩:=h.th f C;rwa[o,k _ _ e (s^q),m]
  ·rw[C];rwa[_,kn _ _ (by cbv) q.ins,(by cbv),(by cbv),(by cbv),by cbv]
noncomputable def nz (b:Nat)(a:Zg)(m:Nat):List (Nat×Zg×Nat):=if a=[] then [] else [(b,a,m)]
inductive Fx (CR CG CC:Zs) (vs:Zb) (H:Hp) (Q:VK) (E_:XK):Prop
 |mk (x r wa:Zs) (c:KA) (S:RS) (bs:List (Nat×Zg×Nat)) (gs:Zf) (ag:Zh) (W:bN) (hd:Nat) (fp:List (Zg×Nat)) (O:Zs->Prop) (Ex:Nat->Int->Prop) (which m:Nat) (word:Zg):vs=[↑x,.int which,↑wa,.int m]->cF CG CC H x r c gs ag W hd fp O->CI S bs gs ag W Ex none->H wa\.tup (aq word)->⇑word<=1000->(∀z∈word,-1000<=z/\z<=1000)->m<S.q->⇑bs<100000->⇑ag<=⇑bs->(∀je i5 O' H',Bt O H H'->(∀b,O b->O' b)->(∀b,O' b->O b\/H b=none)->cF CG CC H' x r c je i5 W hd fp O'->CI S (bs++nz which word m) je i5 W Ex none->⇑i5<=⇑(bs++nz which word m)->Q .non H')->Fx CR CG CC vs H Q E_
def ni (T:Txt K mg A):T.jj.Ok mg P w base 3 (Fx A.aB A.aT A.aH):=by
 rwa[T.jj.on uZ (λcC AA I s H vs Q E hr h=>?_)]
 ·let⟨x,r,X,c,S,bs,l,j,W,hd,fp,O,Ex,d,m,a,rfl,h,ci,g,D,F,hm,Z,N,k⟩:=h
  refine⟨_,{bG (bC (aO vz (2<<<0) ao (aV _))
   {aZ (cG aiX ai4 ai5 bM (0<<<1) #[(0<<<1)<<<0]),aZ (cG aiX ai4 ai5 bM (0<<<1) #[xP (uY T) (tL T) hr.Za5 rfl T.QF T.gE.b .nil gC #[1,2,3]])}
   bj)},?_⟩
  let hgl:=ci.len;rwa[⟨λ_ H'=>Q .non H',5,λ_ _ q=>q⟩];erw[12,X,12,.inr (bB.of g),112212];rwa[bK (λq=>?_) (λq=>?_)]
  ·let q:(0:Int)<(⇑(aq a):Int):=aja q;rw[aI]at q;let f:a≠[]:=λz=>by cbv
   let⟨gv,hG,hs⟩:=h.hG;erw[12,x,_,c.dx,112,h.ins,aM T,T.lD,oz^_,.inl ⟨21,aD.of h.hA⟩,12,x,_,c.dx,112,h.ins,aM T,T.jP,lF^_,c.aG,12,.inl (aD.of hG),c.aA,1122,h.hA,5]
   ·rw[aI,bP];rwa[aiW (show ⇑j<=100000 by omega) ⋯]
   let ea:aq (nI j)++[V.int (⇑gv:Int)]=aq (nI (j++[⇑l])):=by rw[g9,ints_app,hs.l];rfl
   rw[ea];let B:=h.agenda (j++[⇑l]);let C:∀b o,b≠c.aA->H b\o->upd H c.aA (.lst (aq (nI (j++[⇑l])))) b\o:=λb o n e=>by rw[ak n];rwa[e]
   let Y:∀b,upd H c.aA (.lst (aq (nI (j++[⇑l])))) b=none->H b=none:=λb z=>by
    cases e:b=c.aA
    ·rw[e,aj]at z;ext z
    ·rw[ak e]at z;rwa[z]
   change upd H c.aA _=L at B C Y ⊢;let v:=C _ _ (cf g h.hA (by cbv)) g;let⟨gv1,i,t⟩:=B.hG;rwa[⟨12,x,_,c.dx,112,B.ins,aM T,T.jP,lF^_,.inl ⟨21,aD.of i⟩,121212,λp R y G J=>?_⟩];let U:av L (upd (upd L R (.own p)) p (.ins A.aT R [])):=(av.upd G).trans (av.upd ([ak J.symm]▸y));rwa[⟨p,R,X,d,m,a,2,aj,U^v,3,D,λH3 f3 g3=>⟨25⟩⟩];let M:av L H3:=λb o e=>f3 b o (U^e) (aw e y)
   erw[c.aG,1122,M^i,([t.l]▸aiW (show ⇑l<=100000 by omega) ⋯)];let u:nz d a m=[(d,a,m)]:=ajb f;rwa[k _ _ (IL O p) _ (λb o n e=>?_) (λb z=>.inl z) (λb z=>z.imp id λw=>[w]▸Y p y) (B.Xr i t y M g3) ([u]▸ci.begin f hm F) (by rw[u,aiP,aiP];show _+ 1<=_+ 1;omega)];rw[ak (λz=>n ([z]▸h.oG))];rwa[M^(C b o (λz=>n ([z]▸h.oA)) e)]
  ·let q:¬(0:Int)<(⇑(aq a):Int):=λz=>q (aje z)
   rw[aI]at q;let f:a=[]:=List.length_eq_zero_iff.mp ∅;let u:nz d a m=[]:=ajg f;rwa[k l j O H (λ_ _ _ e=>e) (λb z=>z) (λb z=>.inl z) h ([u,ajp]▸ci) ([u,ajp]▸N)]
def gJ (a:List (Zg×Nat))(m:Nat):List (Nat×Zg×Nat):=a.flatMap λp=>nz p.2 p.1 m
def OD (w:Nat)(u:Zg)(m:Nat):⇑(nz w u m)<=1:=by
 unfold nz;split
 ·rwa[ajj _]
 ·rwa[aiS _]
theorem qv (m:Nat):∀a:List (Zg×Nat),⇑(gJ a m)<=⇑a
 |[]=>aiS _
 |p::l=>by
  have:=qv m l;have:=OD p.2 p.1 m;unfold gJ at *;rw[List.flatMap_cons,aiP,ajf];ext
def JW {a:List (Zg×Nat)}{p:Zg×Nat}(h:a[i]?\p)(m:Nat):gJ (a.take (i+ 1)) m=gJ (a.take i) m++nz p.2 p.1 m:=by
 unfold gJ;rw[akG,h,alD];show _++(nz p.2 p.1 m++[])=_;rw[ajp]
def UE {a:List (Zg×Nat)}{b:Zd×V}(h:(i3 a)[i]?\b):∃p,a[i]?\p/\b=(p.1.map Sum.inl,.int p.2):=by
 unfold i3 at h
 cbv
inductive JX (CR CG CC:Zs) (vs:Zb) (H:Hp) (Q:VK) (E_:XK):Prop
 |mk (x r:Zs) (c:KA) (S:RS) (bs:List (Nat×Zg×Nat)) (gs:Zf) (ag:Zh) (W:bN) (hd:Nat) (fp:List (Zg×Nat)) (O:Zs->Prop) (Ex:Nat->Int->Prop) (m:Nat):vs=[↑x,.int m]->cF CG CC H x r c gs ag W hd fp O->H c.aQ\.dT (i3 fp)->CI S bs gs ag W Ex none->(∀p∈fp,⇑p.1<=1000/\∀z∈p.1,-1000<=z/\z<=1000)->m<S.q->⇑bs+ ⇑fp<100000->⇑ag<=⇑bs->(∀je i5 O' H',Bt O H H'->(∀b,O b->O' b)->(∀b,O' b->O b\/H b=none)->cF CG CC H' x r c je i5 W hd fp O'->CI S (bs++gJ fp m) je i5 W Ex none->⇑i5<=⇑(bs++gJ fp m)->Q .non H')->JX CR CG CC vs H Q E_
def jf (T:Txt K mg A):T.fx.Ok mg P w base 4 (JX A.aB A.aT A.aH):=by
 rwa[T.fx.on gf (λcC AA outer s H vs Q E hr h=>?_)]
 ·let⟨x,r,c,S,bs,gs,ag,W,hd,f,O,Ex,m,rfl,h,I,ci,hfp,hm,Fy,UG,k⟩:=h
  refine⟨_,{sV (ck ajc rfl (WR (0<<<1) rfl rfl) (ja rfl (bX (cZ 2 gf.nd) (bX (cZ 3 gf.nd) hM)))
   {aZ (pm (pv 0) (aM T) T.jj (ni T) hr #[3,2,1])})},?_⟩
  let Z:¬O c.aQ:=h.JL I;let nxQ:x≠c.aQ:=cf h.ins I (by cbv);rwa[⟨c.aQ,_,I,trivial,12,x,_,c.dx,112,h.ins,aM T,T.Cr,MP^_,c.aQ,i3 f,2,I,λN=>?_⟩];let k0:∀b o,b≠c.aQ->H b\o->upd H c.aQ (.cz N (.dT (i3 f))) b\o:=λb o n e=>by rw[ak n];rwa[e]
  let h0:cF A.aT A.aH (upd H c.aQ (.cz N (.dT (i3 f)))) x r c gs ag W hd f O:=h.keep (λb o R e=>k0 b o (λz=>Z (by cbv)) e) (λb xs e=>k0 b _ (cf e I (by cbv)) e)
  refine SQ (d:=c.aQ) (o:=N) (kvs:=i3 f) (λi X B=>∃g a v v2 v3,X=#v[↑x,.int (m:Int),v2,v3]/\B c.aQ\.cz N (.dT (i3 f))/\(∀b o,b≠c.aQ->¬O b->H b\o->B b\o)/\(∀b,O b->v b)/\(∀b,v b->O b\/H b=none)/\cF A.aT A.aH B x r c g a W hd f v/\CI S (bs++gJ (f.take i) m) g a W Ex none/\⇑a<=⇑(bs++gJ (f.take i) m))
   ⟨gs,ag,O,none,none,2,aj,λb o n _ e=>k0 b o n e,λb z=>z,λb z=>.inl z,h0,by rw[List.take_zero];show CI S (bs++[]) _ _ _ _ _;rw[ajp];rwa[ci],by cbv⟩ (λi X B _ q0=>by let⟨_,_,_,_,_,_,q,_⟩:=q0;rwa[q]) ?_ ?_
  ·rintro i kv X B t kp sD nt D ⟨g,a,v,v2,v3,rfl,U,V,C,j,c5,u,l⟩;let⟨p,hp,rfl⟩:=UE sD;let hi:=(aiO.mp hp).1
   replace D:B kp\(.tup (aq p.1)):=by
    rw[D];show some (HO.tup (((p.1.map (Sum.inl:Int->Key)).map kV)))=_;rw[ajw];rfl
   let F:=av.upd (o:=.tup [↑kp,.int (p.2:Int)]) nt;erw[t,12,bB.of aj,21121122];change upd B t _=H6 at F ⊢;let R:=hfp p (aiN hp);let bl:=qv m (f.take i);rw[ajs]at bl;let c6:=c5.same F;rwa[⟨12,x,c.dx,12,c6.ins,fA ⋯,121212,x,r,kp,c,S,_,g,a,W,hd,f,v,Ex,p.2,m,p.1,2,c6,u,F^D,R.1,R.2,hm,by rw[aiP];ext,l,λY ag7 O7 H7 M le7 nw7 c7 J L=>?_⟩];let G:¬v c.aQ:=λz=>(j _ z).elim Z λq=>by cbv
   rw[ajy,<-JW hp]at J L;rwa[⟨Y,ag7,O7,112,M _ _ G (F^U),λb o n1 n2 e=>M b o (λz=>(j b z).elim n2 λq=>by cbv) (F^V b o n1 n2 e),λb z=>le7 b (C b z),λb z=>?_,c7,J,L⟩];rcases nw7 b z with w|w
   ·rwa[j b w]
   ·cases y:O b
    ·rwa[.inl y]
    ·rwa[.inr ?_]
     cases e:H b with
     |none=>rfl
     |some o=>
      cases y2:b=c.aQ
      ·rw[y2,F^U]at w;ext w
      ·rw[F^V b o y2 y e]at w;ext w
  ·rintro X B ⟨g,a,v,v2,v3,rfl,U,V,C,j,c5,u,l⟩;rw[show ⇑(i3 f)=⇑f by unfold i3;cbv,akq]at u l;let G:¬v c.aQ:=λz=>(j _ z).elim Z λq=>by cbv
   rwa[⟨N,U,k g a v _ (λb o n e=>?_) C j (c5.keep (λb o R e=>[ak (λz=>G (by cbv))]▸e) (λb xs e=>[ak (λz=>by cbv)]▸e)) u l⟩];cases z:b=c.aQ
   ·rw[z,aj,<-I,<-z];rwa[e]
   ·rw[ak z];rwa[V b o z n e]
noncomputable def UH (r:Zs):List (Str×V):=[("rooms",↑r)]
noncomputable def UI (r q:Zs):List (Str×V):=[("rooms",↑r),("rules",↑q)]
noncomputable def UJ (r q g:Zs):List (Str×V):=[("rooms",↑r),("rules",↑q),("goings",↑g)]
noncomputable def UK (r q g e:Zs):List (Str×V):=[("rooms",↑r),("rules",↑q),("goings",↑g),("agenda",↑e)]
noncomputable def UL (r q g e w:Zs):List (Str×V):=[("rooms",↑r),("rules",↑q),("goings",↑g),("agenda",↑e),("waiting",↑w)]
noncomputable def YH (r q g e w:Zs)(n:Int):List (Str×V):=[("rooms",↑r),("rules",↑q),("goings",↑g),("agenda",↑e),("waiting",↑w),("heard",.int n)]
def cz2 (r q:Zs):bR "rules" ↑q (UH r)=UI r q:=dU (by kernel_rfl)
def cz3 (r q g:Zs):bR "goings" ↑g (UI r q)=UJ r q g:=dU (by kernel_rfl)
def cz4 (r q g e:Zs):bR "agenda" ↑e (UJ r q g)=UK r q g e:=dU (by kernel_rfl)
def cz5 (r q g e w:Zs):bR "waiting" ↑w (UK r q g e)=UL r q g e w:=dU (by kernel_rfl)
def cz6 (r q g e w:Zs)(n:Int):bR "heard" (.int n) (UL r q g e w)=YH r q g e w n:=dU (by kernel_rfl)
def kat_nil {k:Zs}(h:H k\.dK []):ej H k (λ_=>none) (λ_ _=>none) (λ_ _ _=>false):=⟨⟨[],h,by simp,(λa z=>by ext z),λ_=>rfl⟩,(λ_ _ z=>by ext z),(λ_ _ _ z=>by ext z),(λ_ _ _ z=>by ext z),(λ_ _ _ z=>by ext z),(λ_ _ z=>by ext z),(λ_ _ _ z=>by ext z),(λ_ _ _ z=>by ext z),(λ_ _ _ _ z=>by ext z),(λ_ _ _ _ _ z=>by ext z)⟩
def dv (S:RS):Zh:=(~~~S.q).filter λc=>decide (S.aY[c]?\c)
def dM (a:List (Zg×Nat))(st:Zh):List (Nat×Zg×Nat):=st.flatMap λm=>gJ a m
def fT (a:Za3)(b i:Nat):List (Nat×Zg×Nat):=(~~~i).flatMap λj=>nz (b+ j) (a.getD j []) 0
theorem mn (a:List (Zg×Nat)):∀st:Zh,⇑(dM a st)<=⇑st* ⇑a
 |[]=>ajj _
 |m::st=>by
  have:=mn a st;have:=qv m a;unfold dM at *;rw[List.flatMap_cons,aiP,ajf,al8];ext
theorem sE (a:Za3)(b:Nat):∀i,⇑(fT a b i)<=i
 |0=>aiS _
 |i+ 1=>by
  have:=sE a b i;have:=OD (b+ i) (a.getD i []) 0;unfold fT at *;rw[aj9,alD,aiP];show _+ ⇑(nz _ _ 0++[])<=_;rw[ajp];ext
def sF:bN:=λ_ _ _=>false
def UM:CI S [] [] [] sF fY none:=⟨2,(λn g e=>by simp at e),(λn b e=>by simp at e),(λn z=>by ext z),(λr s n z=>by ext z),λn=>⟨(0,0),(0,0),(λr s z=>by ext z),λg e=>by simp at e⟩,(λb z=>by ext z)⟩
inductive JY (CR CG CC:Zs) (vs:Zb) (H:Hp) (Q:VK) (E_:XK):Prop
 |mk (x dx r ru pa:Zs) (S:RS) (a:RA) (R:Za2) (rs ps:Za3):vs=[↑x,↑r,↑ru,↑pa]->H x\.ins CC dx []->ay CR H r S a->Good S [] R->0<S.q->S.q<=2000->¬a.own r x->bW H ru rs->bW H pa ps->⇑rs<=400->⇑ps<=400->(∀u∈rs++ps,⇑u<=1000/\∀z∈u,-1000<=z/\z<=1000)->(∀fp,yE rs fp->S.q* ⇑fp+ ⇑ps<50000)->(∀c gs ag fp O H',(∀b o,H b\o->b≠x->H' b\o)->cF CG CC H' x r c gs ag sF ⇑S.bu fp O->H' c.aQ\.dT (i3 fp)->(∀b,O b->b=x\/H b=none)->CI S (dM fp (dv S)++fT ps ⇑rs ⇑ps) gs ag sF fY none->⇑ag<=⇑(dM fp (dv S)++fT ps ⇑rs ⇑ps)->yE rs fp->Q .non H')->JY CR CG CC vs H Q E_
def qT (T:Txt K mg A):T.fi.Ok mg P w base 5 (JY A.aB A.aT A.aH):=by
 rwa[T.fi.on fy (λcC AA outer s H vs Q E hr h=>?_)]
 ·let⟨x,L,r,ru,pa,S,a,R,rs,ps,rfl,hx,hR,gd,hm0,hm,Fz,xo,zE,oy,nT,YJ,C8,k⟩:=h
  refine⟨_,{cq (pv 0) (pv 1) rfl,cq (pv 0) (pc T.mZ (xl T) hr #[2]) rfl,cq (pv 0) (bT ah) rfl,cq (pv 0) (bT ah) rfl,cq (pv 0) fW rfl,cq (pv 0) ((1<<<1)<<<0) rfl,ck ajc rfl (cY (vY (pv 1) (aJ T) T.fb (gu T) hr)) (cZ 4 fy.nd)
    {aZ (pm (pv 0) (aM T) T.fx (jf T) hr #[4])},ck ajc rfl (IK rfl T.oF (pv 3) (2<<<0) rfl rfl) (ja rfl (bX (cZ 5 fy.nd) (bX (cZ 6 fy.nd) hM)))
    {aZ (pm (pv 0) (aM T) T.jj (ni T) hr #[5,6,ao])}},?_⟩
  rwa[uG ?_];intro CL uj lV kh iY ft fQ;let⟨UN,OG,FC⟩:=id xo;let⟨I,OI,UO⟩:=id zE
  let st:∀{H0:Hp} {fs gs:List (Str×V)},H0 x\.ins A.aH L fs->(∀b o,H b\o->b≠x->H0 b\o)->upd H0 x (.ins A.aH L gs) x\.ins A.aH L gs/\(∀b o,H b\o->b≠x->upd H0 x (.ins A.aH L gs) b\o)/\(∀b o,b≠x->H0 b\o->upd H0 x (.ins A.aH L gs) b\o)/\∀b,upd H0 x (.ins A.aH L gs) b=none->H0 b=none:=λ_ h=>⟨aj,λb o e n=>[ak n]▸h b o e n,λb o n e=>[ak n]▸e,λb z=>by
   cases e:b=x
   ·rw[e,aj]at z;ext z
   ·rw[ak e]at z;rwa[z]⟩
  let o0:∀b o,H b\o->b≠x->H b\o:=λb o e _=>e
  let UQ:ru≠x:=cf OG hx (by cbv);let UR:pa≠x:=cf OI hx (by cbv);erw[1212,x,_,L,12,hx,aM T,T.fm,(by show 0<1000;decide)];rw[show bR "rooms" ↑r []=UH r from rfl];obtain⟨x1,o1,-,n1⟩:=st (gs:=UH r) hx o0;change upd H x _=H1 at x1 o1 n1 ⊢;let YK:bW H1 ru rs:=⟨UN,o1 _ _ OG UQ,FC.1,λi q u e1 e2=>o1 _ _ (FC.2 i q u e1 e2) (cf (FC.2 i q u e1 e2) hx (by cbv))⟩;rwa[⟨12,ru,rs,2,YK,3,λq d H2 s2 nq hq JZ=>?_⟩];let x2:=s2^x1;let o2:∀b o,H b\o->b≠x->H2 b\o:=λb o e n=>s2^o1 b o e n
  let n2:∀b,H2 b=none->H b=none:=λb z=>n1 b (same_none s2 z)
  erw[12,x,_,L,12,x2,aM T,T.Cr,(by show 1<1000;decide)];rw[cz2];let J0:q≠x:=cf hq x2 (by cbv);let⟨x3,o3,k3,n3⟩:=st (gs:=UI r q) x2 o2;change upd H2 x _=X at x3 o3 k3 n3 ⊢;let q3:=k3 _ _ J0 hq;rwa[⟨ajj _,λg ng=>?_⟩];let M:=av.upd (o:=.lst []) ng;let g4:upd X g (.lst []) g\(.lst []):=aj;let n4:∀b,upd X g (.lst []) b=none->H b=none:=λb z=>n2 b (n3 b (same_none M z))
  let ng0:=n2 g (n3 g ng);change upd X g _=H4 at M g4 n4 ⊢;erw[12,x,_,L,12,M^x3,aM T,T.jP,(by show 2<1000;decide)];rw[cz3];let⟨x5,o5,k5,n5⟩:=st (gs:=UJ r q g) (M^x3) (λb o e n=>M^o3 b o e n);change upd H4 x _=H5 at x5 o5 k5 n5 ⊢;let J1:g≠x:=cf g4 (M^x3) (by cbv);let q5:=k5 _ _ J0 (M^q3);let g5:=k5 _ _ J1 g4;rwa[⟨ajj _,λe ne=>?_⟩];let s6:=av.upd (o:=.lst []) ne;let e6:upd H5 e (.lst []) e\(.lst []):=aj;let n6:∀b,upd H5 e (.lst []) b=none->H b=none:=λb z=>n4 b (n5 b (same_none s6 z))
  let J9:=n4 e (n5 e ne);let YL:g≠e:=aw g5 ne;change upd H5 e _=H6 at s6 e6 n6 ⊢;erw[12,x,_,L,12,s6^x5,aM T,T.lD,(by show 3<1000;decide)];rw[cz4];let⟨x7,o7,k7,n7⟩:=st (gs:=UK r q g e) (s6^x5) (λb o e n=>s6^o5 b o e n);change upd H6 x _=H7 at x7 o7 k7 n7 ⊢;let vU:e≠x:=cf e6 (s6^x5) (by cbv);let q7:=k7 _ _ J0 (s6^q5);let g7:=k7 _ _ J1 (s6^g5);let e7:=k7 _ _ vU e6;rwa[λw nw=>?_]
  let Y:=av.upd (o:=.dK []) nw;let w8:upd H7 w (.dK []) w\(.dK []):=aj;let n8:∀b,upd H7 w (.dK []) b=none->H b=none:=λb z=>n6 b (n7 b (same_none Y z))
  let nw0:=n6 w (n7 w nw);change upd H7 w _=H8 at Y w8 n8 ⊢;erw[12,x,_,L,12,Y^x7,aM T,T.j6,(by show 4<1000;decide)];rw[cz5];let⟨x9,o9,k9,n9⟩:=st (gs:=UL r q g e w) (Y^x7) (λb o e n=>Y^o7 b o e n);change upd H8 x _=H9 at x9 o9 k9 n9 ⊢;let UT:w≠x:=cf w8 (Y^x7) (by cbv);let R9:ay A.aB H9 r S a:=hR.keep (λb o hb e=>o9 b o e (λz=>Fz (by cbv))) (λb xs e=>o9 b _ e (cf e hx (by cbv)));erw[12,r,_,a.dx,112,R9.ins,aJ T,T.sj,sZ^_,a.aN,12,.inl (aD.of R9.hN),12,x,_,L,12,x9,aM T,T.m7,(by show 5<1000;decide)];rw[aI,bP,cz6];let⟨xa,oa,ka,na⟩:=st (gs:=YH r q g e w ⇑S.bu) x9 o9;change upd H9 x _=Ha at xa oa ka na ⊢;let up:∀b o,b≠x->H8 b\o->Ha b\o:=λb o n z=>ka b o n (k9 b o n z)
  let cA:cF A.aT A.aH Ha x r ⟨L,q,g,e,w⟩ [] [] sF ⇑S.bu d (λb=>b=x\/b=g\/b=e\/b=w):=by
   rwa[⟨xa,⟨[],up _ _ J1 (Y^g7),2,(λi v z=>by simp at z),(λi v u z=>by simp at z),(λi j p z=>by simp at z)⟩,up _ _ vU (Y^e7),⟨11,kat_nil (up _ _ UT w8),⟨λb hb=>?_,(λ_ _ z=>by ext z),(λ_ _ _ z=>by ext z),(λ_ _ _ z=>by ext z)⟩⟩,YL,.inl rfl,.inr (.inl rfl),.inr (.inr (.inl rfl)),λb hb=>?_⟩]
   ·rcases hb with z|⟨_,z⟩|⟨_,_,z⟩
    ·rwa[.inr (.inr (.inr z))]
    ·ext z
    ·ext z
   ·rcases hb with z|z|z|z
    ·rw[z];rwa[_,xa,(by cbv),(by cbv),(by cbv),by cbv]
    ·rw[z];rwa[_,up _ _ J1 (Y^g7),(by cbv),(by cbv),(by cbv),by cbv]
    ·rw[z];rwa[_,up _ _ vU (Y^e7),(by cbv),(by cbv),(by cbv),by cbv]
    ·rw[z];rwa[_,up _ _ UT w8,(by cbv),(by cbv),(by cbv),by cbv]
  let qa:=up _ _ J0 (Y^q7)
  let Oa:∀b,(b=x\/b=g\/b=e\/b=w)->b=x\/H b=none:=λb z=>by
   cbv
  let Ra:ay A.aB Ha r S a:=hR.keep (λb o hb e=>oa b o e (λz=>Fz (by cbv))) (λb xs e=>oa b _ e (cf e hx (by cbv)));let nA:∀b,Ha b=none->H b=none:=λb z=>n8 b (n9 b (na b z))
  obtain⟨O,eO⟩:∃O:Zs->Prop,O=λb=>b=x\/b=g\/b=e\/b=w:=⟨12⟩
  rw[<-eO]at cA;replace Oa:∀b,O b->b=x\/H b=none:=by rw[eO];rwa[Oa]
  clear eO;generalize ec:(⟨L,q,g,e,w⟩:KA)=c at cA;let qa:Ha c.aQ\(.dT (i3 d)):=by rw[<-ec];rwa[qa]
  clear g7 e7 w8 x9 o9 k9 n9 Y n8 x7 o7 k7 n7 s6 n6 e6 x5 o5 k5 n5 M g4 n4 x3 o3 k3 n3 x1 o1 n1 x2 o2 n2 up ka q7 q5 q3 g5 xa na R9 nw0 J9 ng0 nw ne ng YL vU J1 UT hq nq s2 J0 YK;let hfb:∀p∈d,⇑p.1<=1000/\∀z∈p.1,-1000<=z/\z<=1000:=λp hp=>YJ _ (ajh _ (aiN (JZ.a p hp)))
  let C8:=C8 d JZ;rwa[⟨12,r,a.dx,12,Ra.ins,cV _ _ _ ⋯,r,S,a,2,Ra,gd.wf,3,λl nl=>?_⟩];let sl:⇑(dv S)<=S.q:=ai0 (akS _ _) (by cbv);let stm:∀m∈dv S,m<S.q:=λm hm=>ajI.mp (aky.mp hm).1
  let YM:⇑(dv S)* ⇑d<=S.q* ⇑d:=akX _ sl;let sb:=av.upd (o:=.lst (aq (nI (dv S)))) nl;let hl:upd Ha l (.lst (aq (nI (dv S)))) l\(.lst (aq (nI (dv S)))):=aj;show ∃a_1,_;rw[show (~~~S.q).filter (λc=>decide (S.aY[c]?\c))=dv S from rfl];let UU:=nA l nl;let nlO:¬O l:=λz=>by let⟨o,e,_⟩:=cA.th l z;cbv
  change upd Ha l _=Hb at sb hl ⊢;let cB:=cA.same sb;erw[l,2,⟨_,aD.of hl⟩]
  refine eI (xs:=aq (nI (dv S))) (λi σ H2=>∃U D O2 v4,σ=#v[↑x,↑r,↑ru,↑pa,v4,none,none]/\(∀b o,¬O b->Hb b\o->H2 b\o)/\(∀b,O b->O2 b)/\(∀b,O2 b->O b\/Hb b=none)/\cF A.aT A.aH H2 x r c U D sF ⇑S.bu d O2/\CI S (dM d ((dv S).take i)) U D sF fY none/\⇑D<=⇑(dM d ((dv S).take i)))
   ⟨[],[],O,none,2,λ_ _ _ e=>e,λb z=>z,λb z=>.inl z,cB,UM,aiS _⟩ (λi σ H2 _ q0=>by let⟨_,_,_,_,_,f,_⟩:=q0;rwa[aD.of (f _ _ nlO hl)]) ?_ ?_
  ·rintro i v σ H2 hi ⟨U,D,O2,v4,rfl,f2,OB,uk,c2,C4,Ka⟩;let⟨z,rfl,hz⟩:=cH hi
   obtain⟨m,UX,rfl⟩:∃m,(dv S)[i]?\m/\z=(m:Int):=by
    unfold nI at hz
    cbv
   let J:=(aiO.mp UX).1;let nQ:¬O c.aQ:=cA.JL qa;let q2:=f2 _ _ nQ (sb^qa);let ll:=mn d ((dv S).take i);rw[ajs,ak6 ∅]at ll;let li:(i+ 1)* ⇑d<=⇑(dv S)* ⇑d:=akX _ J;rw[al8]at li;rwa[⟨12,x,c.dx,12,c2.ins,fA ⋯,12,x,r,c,S,_,U,D,sF,⇑S.bu,d,O2,fY,m,2,c2,q2,C4,hfb,stm m (aiN UX),3,Ka,λC B O3 X b3 YG N c3 F G=>?_⟩]
   let es:dM d ((dv S).take (i+ 1))=dM d ((dv S).take i)++gJ d m:=by
    unfold dM;rw[akG,UX,alD];show _++(gJ d m++[])=_;rw[ajp]
   rw[<-es]at F G;rwa[⟨C,B,O3,12,λb o n e=>b3 b o (λz=>(uk b z).elim n λy=>by cbv) (f2 b o n e),λb z=>YG b (OB b z),λb z=>?_,c3,F,G⟩];rcases N b z with y|y
   ·rwa[uk b y]
   ·cases y2:O b
    ·rwa[.inl y2]
    ·rwa[.inr ?_]
     cases e:Hb b with
     |none=>rfl
     |some o=>rw[f2 b o y2 e]at y;ext y
  rintro σ H2 ⟨U,D,O2,v4,rfl,f2,OB,uk,c2,C4,Ka⟩;rw[aI,bP,akq]at C4 Ka;let ll:=mn d (dv S);let UY:Hb pa\(.lst (I.map V.ref)):=sb^oa _ _ OI UR;let Z:∀{b o},H b\o->b≠x->¬O b:=λ{b o} e n z=>(Oa b z).elim n λy=>by cbv
  let abP:=f2 _ _ (Z OI UR) UY;let abQ:=f2 _ _ (Z OG UQ) (sb^oa _ _ OG UQ);let lr:⇑(UN.map V.ref)=⇑rs:=by rw[aiQ,FC.1]
  erw[1212,ru,12,.inl (aD.of abQ),pa,(⇑(UN.map V.ref):Int),2233,⟨_,aD.of abP⟩];rw[lr]
  refine Bc (xs:=I.map V.ref) (λi σ X=>∃C B O3 v5 v6,σ=#v[↑x,↑r,↑ru,↑pa,v4,v5,v6]/\(∀b o,¬O b->Hb b\o->X b\o)/\(∀b,O3 b->O b\/Hb b=none)/\cF A.aT A.aH X x r c C B sF ⇑S.bu d O3/\CI S (dM d (dv S)++fT ps ⇑rs i) C B sF fY none/\⇑B<=⇑(dM d (dv S)++fT ps ⇑rs i))
   ⟨U,D,O2,none,none,2,f2,uk,c2,by show CI S (_++[]) _ _ _ _ _;rw[ajp];rwa[C4],by show _<=⇑(_++[]);rw[ajp];rwa[Ka]⟩ (λi σ X _ q0=>by let⟨_,_,_,_,_,_,f,_⟩:=q0;rwa[aD.of (f _ _ (Z OI UR) UY)]) ?_ ?_
  ·rintro i v σ X t hi nt ⟨C,B,O3,v5,v6,rfl,f3,N,c3,F,G⟩
   let J:i<⇑I:=by
    have:=(aiO.mp hi).1;rw[aiQ]at this;rwa[this]
   let UZ:i<⇑ps:=by rw[<-UO.1];rwa[J]
   let g1:I[i]?\(I[i]'J):=aiL J
   let g2:ps[i]?\(ps[i]'UZ):=aiL UZ
   rw[ai6,g1]at hi;obtain rfl:V.ref (I[i]'J)=v:=Za0 hi;change I[i]'J=wa at g1;change ps[i]'UZ=u at g2;let sG:=UO.2 i wa u g1 g2;let YN:wa≠x:=cf sG hx (by cbv);let abR:=f3 _ _ (Z sG YN) (sb^oa _ _ sG YN);let M:=av.upd (o:=.tup [.int ((⇑rs:Int)+ (i:Int)),↑wa]) nt;erw[t,12,bB.of aj,21121122];change upd X t _=H4 at M ⊢;let c4:=c3.same M;let pl:=sE ps ⇑rs i;let YP:=YJ u (aiV _ (aiN g2));rwa[⟨12,x,c.dx,12,c4.ins,fA ⋯,1212,x,r,wa,c,S,_,C,B,sF,⇑S.bu,d,O3,fY,⇑rs+ i,(0),u,2,c4,F,M^abR,YP.1,YP.2,hm0,by rw[aiP];ext,G,λgs5 UB O5 H5 b5 le5 nw5 c5 Kb YQ=>?_⟩]
   let ep:fT ps ⇑rs (i+ 1)=fT ps ⇑rs i++nz (⇑rs+ i) u 0:=by
    unfold fT;rw[aj9,alD];show _++(nz (⇑rs+ i) (ps.getD i []) 0++[])=_;rw[ajp,aiT,g2];rfl
   rw[ajy,<-ep]at Kb YQ;rwa[⟨gs5,UB,O5,112,λb o n e=>b5 b o (λz=>(N b z).elim n λy=>by cbv) (M^f3 b o n e),λb z=>?_,c5,Kb,YQ⟩];rcases nw5 b z with y|y
   ·rwa[N b y]
   ·cases y2:O b
    ·rwa[.inl y2]
    ·rwa[.inr ?_]
     cases e:Hb b with
     |none=>rfl
     |some o=>rw[M^f3 b o y2 e]at y;ext y
  ·rintro σ X ⟨C,B,O3,v5,v6,rfl,f3,N,c3,F,G⟩;rw[aiQ,UO.1]at F G;rwa[k c C B d O3 X (λb o e n=>f3 b o (Z e n) (sb^oa b o e n)) c3 (f3 _ _ (cA.JL qa) (sb^qa)) (λb z=>?_) F G JZ];rcases N b z with y|y
   ·rwa[Oa b y]
   ·rwa[.inr (nA b (same_none sb y))]
def C9 {rs:Za3}{b:List (Zg×Nat)}(h:yE rs b):⇑b<=⇑rs:=by
 let c:(b.map (·.2)).Nodup:=by
  have:=h.n;unfold List.Nodup at this ⊢;rw[akw]at this ⊢
  exact this.imp_of_mem λ{p q} a d n e=>n (by
   let i:=h.a p a;let g:=h.a q d
   cbv)
 have:=lZ ⇑rs _ c λn f=>by
  let⟨p,a,rfl⟩:=ajz.mp f;rwa[(aiO.mp (h.a p a)).1]
 rw[aiQ]at this;rwa[this]
def xq {b:Nat×Zg×Nat}{w:Nat}(h:b∈nz w l m):b=(w,l,m)/\l≠[]:=by
 unfold nz at h
 cbv
def Hd {w:Nat}(h:l≠[]):(w,l,m)∈nz w l m:=by
 unfold nz;cbv
def QK {c:List (Zg×Nat)}{st:Zh}{a:Za3}{b:Nat×Zg×Nat}(h:b∈dM c st++fT a n ⇑a):(∃p∈c,b.1=p.2/\b.2.1=p.1/\b.2.2∈st)\/∃j u,a[j]?\u/\b=(n+ j,u,0):=by
 rcases aiY.mp h with q|q
 ·let⟨m,e,q⟩:=akr.mp q;let⟨p,d,q⟩:=akr.mp q;let⟨rfl,_⟩:=xq q;rwa[.inl ⟨p,d,22,e⟩]
 ·let⟨j,f,q⟩:=akr.mp q;let⟨rfl,_⟩:=xq q
  cbv
def ends {bs:List (Nat×Zg×Nat)}{d:Zf}{W:bN}(ci:CI S bs d [] W fY none)(x:Good S [] R){b:Nat×Zg×Nat}(p:b∈bs)(a:S.ax b.2.2=b.2.2):S8 S b.2.2 b.2.1:=by
 let⟨n,f⟩:=ajG p;let B:n<⇑d:=by rw[ci.len];rwa[(aiO.mp f).1]
 cases q:d[n]? with
 |none=>cbv
 |some y=>
  cases y with
  |none=>
   rcases ci.de n b q (by cbv) f with z|z
   ·rwa[absurd a z]
   ·rwa[.inl z]
  |some g=>
   let⟨e,c,z⟩:=ci.al n g q;rw[f]at e;obtain rfl:=Za0 e;rcases z with z|z|⟨lt,l,v⟩
   ·ext z
   ·ext z
   ·let⟨o,_,k,_,_,_,_,f1⟩:=ci.en _ _ _ l;let⟨s,_,j,_,_,_,_,f2⟩:=ci.en _ _ _ v;let k:o=g.front:=∅
    let j:s=g.bE:=∅
    subst k j;rcases f1 with ⟨t,u⟩|f1
    ·rcases f2 with ⟨m,r⟩|f2
     ·let i:=c.wf;let h:=c.wr;let a:S.ax g.start=g.start:=a;rw[a,t]at i;rw[a,m]at h;rwa[.inr ⟨g.first,g.last,g.front,g.bE,g.z1,-g.z2,lt,Gg.qB (by have:=c.ll;omega),Gg.at2 c.ll,i,u,h,[akv]▸r⟩]
     ·rwa[f2.elim]
    ·rwa[f1.elim]
inductive QL (CR CG CC:Zs) (vs:Zb) (H:Hp) (Q:VK) (E_:XK):Prop
 |mk (r ru pa:Zs) (S:RS) (a:RA) (R:Za2) (ks:Zg) (B:Nat) (rs ps:Za3):vs=[↑r,↑ru,↑pa]->i6 CR H r S a R ks B->0<S.q->B<800000->bW H ru rs->bW H pa ps->⇑rs<=400->⇑ps<=400->S.q* ⇑rs+ ⇑ps<=700->(∀u∈rs++ps,⇑u<=1000/\∀z∈u,(-1000<=z/\z<=1000)/\z∈ks/\-z∈ks)->(∀S' a' R' B' H',(∀b o,¬a.own r b->H b\o->H' b\o)->i6 CR H' r S' a' R' ks B'->(∀b,a'.own r b->a.own r b\/H b=none)->(∀a z b,R a z b->R' a z b)->S'.q=S.q->S'.L=S.L->Tr (rs++ps) ⇑rs S S'->Gs rs ps S'->B'<=B+ 700->Q .non H')->QL CR CG CC vs H Q E_
noncomputable def fD (z:Int):Int:=if z > 0 then 2* z - 2 else -2* z - 1
def Kc (k:Nat):fD (M12.st k)=k:=by
 unfold fD M12.st;cases h:k % 2=0
 ·rw[ajg h,ajg ∅];ext
 ·rw[ajb h,ajb ∅];ext
def QM:Sp:=λa H Q _=>∃z:Int,a=[.int z]/\Q (.int (fD z)) H
noncomputable def pN (l:Zg):V:=(l.head?.map V.int).getD .non
inductive U0 (C:Zs) (vs:Zb) (H:Hp) (Q:VK) (E_:XK):Prop
 |mk (r:Zs) (S:RS) (a:RA) (c:Nat):vs=[↑r,.int c]->ay C H r S a->c<⇑S.gaps->Q (pN (S.gap c)) H->U0 C vs H Q E_
def Eh (T:Txt K mg A):T.m2.Ok P w base 1 QM:=by
 rwa[T.m2.on Ec (λb f a s H d Q E e h=>?_) (len:=by rintro _ _ _ _ ⟨z,rfl,_⟩;rfl)]
 ·let⟨z,rfl,k⟩:=h
  refine⟨_,{bC (aO vz (pv 0) ao (aV _))
   {a9 (aL jT (aL mz ao (pv 0)) ao)}
   bj,a9 (aL jT (aL mz (eU dD ao) (pv 0)) ao)},?_⟩
  rwa[iC ?_];intro c;erw[12112212];unfold fD at k;rwa[bK (λh=>?_) (λh=>?_)]
  ·rw[ajg (aja h)]at k;rwa[121122,.inl ⟨44⟩,1122,k]
  ·rw[ajb (λq=>h (aje q))]at k;rwa[12121122,.inl ⟨44⟩,1122,k]
def iI (T:Txt K mg A):T.fN.Ok mg P w base 1 (U0 A.aB):=by
 rwa[T.fN.on lE (λy I m s H G Q E J h=>?_)]
 ·let⟨r,S,a,c,rfl,h,F,k⟩:=h
  erw[_,{sV (ck ajc rfl (WO ((0<<<1)|||1)) (cZ 2 lE.nd)
   {a9 (pv 2)}),a9 cJ}]
  rwa[iC ?_];intro v;let x:=xh F;let⟨p,B,l⟩:=h.rG.at x;erw[p,.dK (gK (S.gap c)),l,True.intro];rwa[⟨12,r,_,a.dx,112,h.ins,aJ T,T.si,sY^_,12,a.aG,11122,aD.of h.hG,dR B,p,gK (S.gap c),2,l,λo=>?_⟩]
  let back:upd (upd H p (.cz o (.dK (gK (S.gap c))))) p (.dK (gK (S.gap c)))=H:=by
   rw[Pg]
   funext b
   cases t:b=p
   ·rw[t,aj,l]
   ·rw[ak t]
  rwa[SN (d:=p) (o:=o) (kvs:=gK (S.gap c)) (λi g j=>g=#v[↑r,.int c,none]/\j=upd H p (.cz o (.dK (gK (S.gap c))))/\i=0) ⟨222⟩ (λi g j _ q=>[q.2.1]▸aj) ?_ ?_]
  ·rintro i C g j f ⟨rfl,rfl,rfl⟩
   let e:∃z,(S.gap c).head?\z/\kV C.1=.int z:=by
    unfold gK at f;rw[ai6]at f
    cases q:(S.gap c)[0]? with
    |none=>rw[q]at f;ext f
    |some z=>
     rw[q]at f;erw[z,[List.head?_eq_getElem?]▸q];rw[<-Za0 f];rfl
   let⟨z,D,n⟩:=e;rw[n];erw[12,o,aj];rw[back];have:pN (S.gap c)=.int z:=by unfold pN;rw[D];rfl
   rw[<-this];rwa[k]
  ·rintro g j ⟨rfl,rfl,e⟩;erw[o,aj];rw[back];have:S.gap c=[]:=akd (by unfold gK at e;cbv);let n:pN (S.gap c)=.non:=by rw[this];rfl
   show Q V.non H;rw[<-n];rwa[k]
noncomputable def eG:Pos:=⟨(167),(29),(167),(57)⟩
def iJ:Str:=(PyProof.Rows.envOfC "ByLetters.gap" (az j2) 0 0 .none).qual++"<lambda>"
def Kp (c:Zs)(H a:Hp):Prop:=∀b u,b≠c->H b\u->a b\u
def Kp.trans (c:Kp a H I)(b:Kp a I J):Kp a H J:=λx u n e=>b x u n (c x u n e)
def Kp.same (b:av H I):Kp a H I:=λx u _ e=>b x u e
def _root_.Lake.L2.du.same {pos:Pos}(h:du a pos x H)(s:av H I):du a pos x I:=h.keep λb u e _=>s b u e
def ip (S:RS)(L c:Nat)(z:Int):Prop:=c<S.q/\S.aY[c]?\c/\z∈bJ (2* L)/\S.by c z=none
def rk (w c:Nat)(z:Int):Zg:=if w=0 then [(c:Int),fD z] else if w=1 then [fD z,(c:Int)] else [-(c:Int),fD z]
def kQ (w:Nat)(S:RS)(L c:Nat)(z:Int):Prop:=ip S L c z/\∀a b,ip S L a b->HT.lexLt (rk w a b) (rk w c z)=false
structure GL (S:RS) (L:Nat):Prop where
 wf:S.Wf
 m:S.q<=100000
 l2:L<=200
 gp:∀c,c<S.q->S.aY[c]?\c->S.gap c=(bJ (2* L)).filter λz=>(S.by c z).isNone
inductive j9 (C Pt D:Zs) (w:Nat) (vs:Zb) (H:Hp) (Q:VK) (E_:XK):Prop
 |mk (o dx r:Zs) (S:RS) (a:RA) (L:Nat):vs=[↑o,↑r]->H o\.ins D dx []->ay C H r S a->GL S L->du Pt eG iJ H->((∀c z,¬ip S L c z)->∀H',Kp Pt H H'->du Pt eG iJ H'->Q .non H')->(∀(c:Nat) (z:Int),kQ w S L c z->∀t H',Kp Pt H H'->du Pt eG iJ H'->H' t\.tup [.int (c:Int),.int z]->Q ↑t H')->j9 C Pt D w vs H Q E_
def cu (S:RS):Zh:=(~~~S.q).filter λc=>decide (S.aY[c]?\c)
def gZ:n∈cu S↔n<S.q/\S.aY[n]?\n:=by
 unfold cu;rw[aky,ajI];simp
def yH (S:RS):(cu S).Pairwise (·< ·):=List.Pairwise.filter _ alZ
def Xs (n:Nat):(bJ n).Pairwise λa b=>fD a<fD b:=by
 unfold bJ;rw[akw];rwa[List.Pairwise.imp (λh=>?_) (alZ (n:=n))];rw[Kc,Kc];ext
def He (pw:l.Pairwise λa b=>fD a<fD b){z:Int}(h:l.head?\z):z∈l/\∀y∈l,fD z<=fD y:=by
 cases l with
 |nil=>ext h
 |cons x l=>
  let e:x=z:=Za0 h;subst e;rwa[⟨ai7,λy c=>?_⟩];rcases ai3.mp c with rfl|c
  ·rwa[Int.le_refl _]
  ·rwa[Int.le_of_lt ((List.pairwise_cons.mp pw).1 y c)]
def GL.head (g:GL S n)(hc:m<S.q)(h:S.aY[m]?\m):(∀z,(S.gap m).head?\z->ip S n m z/\∀y,ip S n m y->fD z<=fD y)/\((S.gap m).head?=none->∀y,¬ip S n m y):=by
 let e:=g.gp m hc h
 let mem:∀y,ip S n m y↔y∈S.gap m:=λy=>by
  rw[e,aky];constructor
  ·rintro ⟨_,_,d,c⟩;rwa[d,by rw[c];rfl]
  ·rintro ⟨d,c⟩;rwa[hc,h,d,by simpa using c]
 let pw:(S.gap m).Pairwise λa b=>fD a<fD b:=by rw[e];rwa[(Xs _).filter _]
 rwa[⟨λz hz=>?_,λi y f=>?_⟩]
 ·let⟨d,c⟩:=He pw hz;rwa[(mem z).mpr d,λy f=>c y ((mem y).mp f)]
 cbv
def eS (S:RS)(cs:Zh):Option (Nat×Int):=cs.findSome? λc=>(S.gap c).head?.map λz=>(c,z)
def Ei (h:eS S B=none):∀c∈B,(S.gap c).head?=none:=λc a=>by
 unfold eS at h;rw[List.findSome?_eq_none_iff]at h;have:=h c a
 cases q:(S.gap c).head? with
 |none=>rfl
 |some z=>cbv
theorem um {S:RS}:∀{cs:Zh} {c:Nat} {z:Int},eS S cs\(c,z)->∃i:Nat,cs[i]?\c/\(S.gap c).head?\z/\∀j b:Nat,j<i->cs[j]?\b->(S.gap b).head?=none
 |[],_,_,h=>by ext h
 |x::cs,c,z,h=>by
  unfold eS at h;rw[List.findSome?_cons]at h
  cases q:(S.gap x).head? with
  |some y=>
   rw[q]at h;let h:(x,y)=(c,z):=Za0 h;injection h with d a
   subst d a;rwa[(0),2,q,λj b e=>absurd e (Nat.not_lt_zero _)]
  |none=>
   rw[q]at h;let⟨i,d,a,g⟩:=um (cs:=cs) h;rwa[⟨i+ 1,d,a,λj b e f=>?_⟩]
   cases j with
   |zero=>rw[<-Za0 f];rwa[q]
   |succ j=>exact g j b ∅ f
inductive FD (C:Zs) (vs:Zb) (H:Hp) (Q:VK) (E_:XK):Prop
 |mk (r l:Zs) (S:RS) (a:RA) (cs:Zh):vs=[↑r,↑l]->ay C H r S a->H l\.lst (aq (nI cs))->(∀c∈cs,c<⇑S.gaps)->(eS S cs=none->Q .non H)->(∀(c:Nat) (z:Int),eS S cs\(c,z)->∀t,H t=none->Q ↑t (upd H t (.tup [.int (c:Int),.int z])))->FD C vs H Q E_
def Ej {cs:Zh}(d:cs[i]?\n)(a:eS S (cs.take i)=none):(∀z,(S.gap n).head?\z->eS S cs\(n,z))/\((S.gap n).head?=none->eS S (cs.take (i+ 1))=none):=by
 let e:cs.take (i+ 1)=cs.take i++[n]:=by rw[List.take_add_one,d];rfl
 constructor
 ·intro z b;let c:cs=cs.take (i+ 1)++cs.drop (i+ 1):=(List.take_append_drop _ _).symm;unfold eS at a ⊢;rw[c,e,ajy,List.findSome?_append,a,Option.none_or,ake,List.findSome?_cons,b];rfl
 ·intro b;unfold eS at a ⊢
  cbv
def uo (T:Txt K mg A):T.mG.Ok P w base 2 (FD A.aB):=by
 rwa[T.mG.on oJ (λD M m s H L Q E F h=>?_)]
 ·let⟨r,l,S,a,cs,rfl,h,n,J,u,p⟩:=h
  erw[_,{ck ajc rfl (cY (pv 1)) (cZ 2 oJ.nd)
   {bI 3 oJ.nd (pm (pv 0) (aJ T) T.fN (iI T) F #[2]),bC (aO oM (pv 3) cJ (aV _))
    {a9 (bO #[2,3])}
    bj},a9 cJ}]
  rwa[iC ?_];intro o;erw[12,l,2,⟨_,aD.of n⟩];rwa[eI (xs:=aq (nI cs)) (λi f j=>∃v k,f=#v[↑r,↑l,v,k]/\j=H/\eS S (cs.take i)=none) ⟨none,none,222⟩ (λi f j _ ζ=>by let⟨_,_,_,e,_⟩:=ζ;rwa[[e]▸aD.of n]) ?_ ?_]
  ·rintro i x f j G ⟨v,k,rfl,rfl,g⟩;let⟨z,rfl,C⟩:=cH G
   obtain⟨c,b,rfl⟩:∃c:Nat,cs[i]?\c/\z=(c:Int):=by
    unfold nI at C
    cbv
   let⟨B,I⟩:=Ej b g;erw[12,r,a.dx,12,h.ins,212,r,S,a,c,2,h,J c (aiN b)];erw[12212]
   cases d:(S.gap c).head? with
   |none=>
    let e:pN (S.gap c)=.non:=by unfold pN;rw[d];rfl
    rw[e];rwa[some (.int c),some .non,22,I d]
   |some y=>
    let e:pN (S.gap c)=.int y:=by unfold pN;rw[d];rfl
    rw[e];rwa[1212,Za4 2,λt q=>p c y (B y d) t q]
  ·rintro f j ⟨v,k,rfl,rfl,g⟩;rw[aI,bP,akq]at g;rwa[u g]
def Dc {a a' b b':Int}(h:a<a'\/a'=a/\b<=b'):HT.lexLt [a',b'] [a,b]=false:=by
 rw[HT.vE,HT.vE,HT.zM]
 cbv
def GA {c:Type}{R:c->c->Prop}{l:List c}(pw:l.Pairwise R){i j:Nat}{a b:c}(d:i<j)(f:l[i]?\a)(h:l[j]?\b):R a b:=by
 let⟨g,rfl⟩:=aiO.mp f;let⟨e,rfl⟩:=aiO.mp h;rwa[List.pairwise_iff_getElem.mp pw i j g e d]
def Dd (g:GL S n)(b:∀c,c∈cu S->c∈B)(h:eS S B=none):∀c z,¬ip S n c z:=λc z a=>(g.head a.1 a.2.1).2 (Ei h c (b c (gZ.mpr ⟨a.1,a.2.1⟩))) z a
def uq {w:Nat}{cs:Zh}(R:Nat->Nat->Prop)(g:GL S n)(k:∀m,m∈cs↔m∈cu S)(pw:cs.Pairwise R)(r:∀a b,R a b->∀y,HT.lexLt (rk w b y) (rk w a z)=false)(u:∀y,fD z<=fD y->HT.lexLt (rk w m y) (rk w m z)=false)(h:eS S cs\(m,z)):kQ w S n m z:=by
 let⟨i,f,p,s⟩:=um h;let o:=gZ.mp ((k m).mp (aiN f));let⟨t,v⟩:=(g.head o.1 o.2).1 z p;rwa[⟨t,λd e c=>?_⟩];let⟨j,l⟩:=ajG ((k d).mpr (gZ.mpr ⟨c.1,c.2.1⟩));rcases Nat.lt_trichotomy i j with q|q|q
 ·rwa[r m d (GA pw q f l) e]
 ·cbv
 ·rwa[absurd c ((g.head c.1 c.2.1).2 (s j d q l) e)]
def U1 (g:GL S n)(h:eS S (cu S)\(m,z)):kQ 0 S n m z:=
 uq (·< ·) g (λ_=>Iff.rfl) (yH S) (λa b d y=>Dc (.inl (by omega))) (λy c=>Dc (.inr ⟨rfl,c⟩)) h
def U2 (g:GL S n)(h:eS S (cu S).reverse\(m,z)):kQ 2 S n m z:=
 uq (λa b=>b<a) g (λm=>List.mem_reverse) (List.pairwise_reverse.mpr (yH S)) (λa b d y=>Dc (.inl (by omega))) (λy c=>Dc (.inr ⟨rfl,c⟩)) h
def sH (T:Txt K mg A):T.jN.Ok mg P w base 3 (j9 A.aB A.eR A.c9 0):=by
 rwa[T.jN.on CJ (λv D f s H C Q E k h=>?_)]
 ·let⟨o,G,r,S,a,L,rfl,F,h,g,j,p,n⟩:=h;erw[_,{a9 (pc T.mG (uo T) k #[1,vY (pv 1) (aJ T) T.fb (gu T) k])}];rwa[⟨1212,r,a.dx,12,h.ins,2,r,S,a,2,h,g.wf,g.m,λl x=>?_⟩];let d:av H (upd H l (.lst (aq (nI (cu S))))):=av.upd x;rwa[⟨r,l,S,a,cu S,2,h.same d,aj,λc B=>[g.wf.g]▸(gZ.mp B).1,λy=>p (Dd g (λ_ h=>h) y) _ (.same d) (j.same d),λc z q t m=>?_⟩];let i:=av.upd (o:=.tup [.int (c:Int),.int z]) m;rwa[n c z (U1 g q) t _ (.same λb u e=>i b u (d b u e)) ((j.same d).same i) aj]
def qO (T:Txt K mg A):T.iS.Ok mg P w base 3 (j9 A.aB A.eR A.cO 2):=by
 rwa[T.iS.on Ai (λC M i s H J Q E m h=>?_)]
 ·let⟨o,O,r,S,a,L,rfl,N,h,g,k,x,v⟩:=h;erw[_,{a9 (pc T.mG (uo T) m #[1,Gv rfl rfl T.jc rfl T.GW #[vY (pv 1) (aJ T) T.fb (gu T) m] rfl rfl])}];rwa[⟨1212,r,a.dx,12,h.ins,2,r,S,a,2,h,g.wf,g.m,λl D=>?_⟩];let F:av H (upd H l (.lst (aq (nI (cu S))))):=av.upd D;rwa[⟨l,12,aD.of aj,λn f=>?_⟩];let y:=av.upd (o:=.lst (aq (nI (cu S))).reverse) f;let d:av H (upd (upd H l (.lst (aq (nI (cu S))))) n (.lst (aq (nI (cu S))).reverse)):=λb u e=>y b u (F b u e)
  let p:(aq (nI (cu S))).reverse=aq (nI (cu S).reverse):=by unfold aq nI;rw[List.map_reverse,List.map_reverse]
  rwa[⟨r,n,S,a,(cu S).reverse,2,h.same d,by rw[<-p];rwa[aj],λc I=>[g.wf.g]▸(gZ.mp (List.mem_reverse.mp I)).1,λG=>x (Dd g (λ_ h=>List.mem_reverse.mpr h) G) _ (.same d) (k.same d),λc z B t q=>?_⟩];let j:=av.upd (o:=.tup [.int (c:Int),.int z]) q;rwa[v c z (U2 g B) t _ (.same λb u e=>j b u (d b u e)) ((k.same d).same j) aj]
def ki (S:RS)(cs:Zh):List (Nat×Int):=cs.filterMap λc=>(S.gap c).head?.map λz=>(c,z)
def yI:(n,z)∈ki S B↔n∈B/\(S.gap n).head?\z:=by
 unfold ki;rw[alN];constructor
 ·rintro ⟨b,a,e⟩
  cases q:(S.gap b).head? with
  |none=>rw[q]at e;ext e
  |some y=>
   cbv
 cbv
def U4 {cs:Zh}(h:cs.Pairwise (·< ·)):(ki S cs).Pairwise λp q=>p.1<q.1:=by
 unfold ki;rwa[List.pairwise_filterMap.mpr (h.imp λ{a b} e p c q d=>?_)]
 cases f:(S.gap a).head? with
 |none=>rw[f]at c;ext c
 |some y=>
  cases g:(S.gap b).head? with
  |none=>rw[g]at d;ext d
  |some x=>
   rw[f]at c;rw[g]at d;rw[<-Za0 c,<-Za0 d];rwa[e]
def MV {cs:Zh}(a:cs[i]?\n):ki S (cs.take (i+ 1))=ki S (cs.take i)++((S.gap n).head?.map λz=>(n,z)).toList:=by
 unfold ki;rw[show cs.take (i+ 1)=cs.take i++[n] by rw[List.take_add_one,a];rfl,List.filterMap_append,List.filterMap_cons,List.filterMap_nil];cases (S.gap n).head? <;> rfl
def U6 (g:GL S n)(h:(ki S (cu S))[i]?\(m,z))(r:∀j d c,(ki S (cu S))[j]?\(d,c)->fD z<=fD c/\(j<i->fD z<fD c)):kQ 1 S n m z:=by
 let⟨s,p⟩:=yI.mp (aiN h);let o:=gZ.mp s;rwa[⟨((g.head o.1 o.2).1 z p).1,λd c f=>?_⟩];let hd:=g.head f.1 f.2.1
 cases q:(S.gap d).head? with
 |none=>exact absurd f (hd.2 q c)
 |some y=>
  let B:=(hd.1 y q).2 c f;let⟨j,l⟩:=ajG (yI.mpr ⟨gZ.mpr ⟨f.1,f.2.1⟩,q⟩);let⟨u,t⟩:=r j d y l;rwa[Dc (a:=fD z) (b:=(m:Int)) (a':=fD c) (b':=(d:Int)) ?_];cases e:fD z<fD c
  ·rwa[.inl e]
  ·rwa[.inr ⟨35⟩];rcases Nat.lt_trichotomy i j with k|k|k
   ·have:m<d:=GA (U4 (yH S)) k h l;ext
   ·cbv
   ·have:=t k;ext
def U9 (g:GL S n)(h:ki S (cu S)=[]):∀c z,¬ip S n c z:=λc z a=>by
 let hd:=g.head a.1 a.2.1
 cases q:(S.gap c).head? with
 |none=>exact hd.2 q z a
 |some y=>
  have:=yI.mpr ⟨gZ.mpr ⟨a.1,a.2.1⟩,q⟩
  cbv
def nj (T:Txt K mg A)(Fy:kz mg base):dy P w K mg base (di P w) 6 A.oj A.j4 ["self","rooms"] (j9 A.aB A.eR A.bQ 1):=by
 rwa[T.hH.F.okT T.lam.code nh (λvs H Q E h=>?_) (λAA outer s H vs Q E hr h=>?_)]
 ·let⟨o,dx,r,S,a,L,rfl,_⟩:=h;rfl
 ·let⟨o,dx,r,S,a,L,rfl,ho,h,g,hT,kn,ks⟩:=h
  erw[_,{zS (iy:=2) nh.nd rfl (Or.inl rfl) (fns:=["rooms"]) (ixs:=[1]) (cl:=_) rfl (cY (vY (pv 1) (aJ T) T.fb (gu T) hr)) (cR [(_,_)] rfl ⟨22222,True.intro⟩ rfl) (λC s H ex=>(aO oM (pm (pv 1) (aJ T) T.fN (iI T) hr #[0]) cJ (aV _))) (λC s H ex=>(bO #[0,pm (pv 1) (aJ T) T.fN (iI T) hr #[0]])) (by intro _;rfl) rfl (by trivial),a9 (Qp (x:="gap") (k:=2) rfl rfl T.N5 (pv 2) rfl T.lam.hd rfl rfl Fy hr.Za5 (by ac_rfl) (λ_ _ _ _=>rfl) (λ_ _ _ _ _ _ FC=>xO (Eh T) (FC.mono ⋯) rfl T.m2.m T.m2.F.kp T.m2.b .nil gC #[aK (oS (K:=K) rfl) (pv 0) ao (λ_ _=>rfl)]) rfl rfl)}]
  rwa[iC ?_];intro fQ;rwa[⟨12,r,a.dx,12,h.ins,2,r,S,a,2,h,g.wf,g.m,λl hl=>?_⟩];let s1:av H (upd H l (.lst (aq (nI (cu S))))):=av.upd hl;let J:upd H l (.lst (aq (nI (cu S)))) l\(.lst (aq (nI (cu S)))):=aj;rw[show ((~~~S.q).filter λc=>decide (S.aY[c]?\c))=cu S from rfl];change upd H l (.lst (aq (nI (cu S))))=H1 at s1 J;let h1:=h.same s1;let R:=hT.same s1;let YR:⇑(cu S)<=S.q:=ai0 (akS _ _) (by cbv);let hgm:=g.m;let el:⇑(aq (nI (cu S)))=⇑(cu S):=by rw[aI,bP]
  erw[l,2,⟨_,aD.of J⟩];erw[λi m ys Z=>m=⇑(cu S) - i/\i<=⇑(cu S)/\av H1 Z/\∃d:Zn,ys=d.map V.ref/\⇑d<=i/\Each (λt (p:Nat×Int)=>Z t\.tup [.int (p.1:Int),.int p.2]) d (ki S ((cu S).take i)),⟨⇑(cu S),by simp,ajj _,λ_ _ e=>e,[],2,aiS _,2,λi p x e=>by simp at e⟩];rintro i m ys Z ⟨rfl,hi,G,d,rfl,OJ,B⟩;let N:=G^J;let h2:=h1.same G;cases U:i<⇑(cu S)
  ·rwa[.inr ⟨jX (aD.of N) i ∅,[aiQ]▸aiW (ai0 OJ (show i<=100000 by omega)) ⋯,λx H3 Va=>?_⟩];let⟨rfl,hx⟩:=iN (aD.of N) i x H3 ∅ Va;let⟨z,rfl,hz⟩:=cH hx
   obtain⟨c,X,rfl⟩:∃c:Nat,(cu S)[i]?\c/\z=(c:Int):=by
    unfold nI at hz
    cbv
   let mM:c<⇑S.gaps:=by rw[g.wf.g];rwa[(gZ.mp (aiN X)).1]
   let et:=MV (S:=S) X;erw[12,r,a.dx,12,h2.ins,212,r,S,a,c,2,h2,mM,212]
   cases hg:(S.gap c).head? with
   |none=>
    let e:pN (S.gap c)=.non:=by unfold pN;rw[hg];rfl
    rw[e];erw[⇑(cu S) - (i+ 1),32,U,G,d,23];rw[et,hg];simpa using B
   |some y=>
    let e:pN (S.gap c)=.int y:=by unfold pN;rw[hg];rfl
    rw[e];rwa[⟨1212,r,a.dx,12,h2.ins,212,r,S,a,c,2,h2,mM,Za4 2,λt hnt=>?_⟩];let v:=av.upd (o:=.tup [.int (c:Int),pN (S.gap c)]) hnt;erw[⇑(cu S) - (i+ 1),32,U,λb u q=>v b u (G b u q),d++[t],by cbv,by rw[aiP,ajY];ext];rw[et,hg];rwa[(B.imp λp x _ _ q=>v^q).snoc ?_];show upd H3 t _ t=_;rw[aj,e]
  ·let e:i=⇑(cu S):=∅
   subst e;rw[akq]at B;rwa[.inl ⟨by rw[<-el];rwa[gS (aD.of N)],[aiQ]▸ai0 OJ (ai0 (show ⇑(cu S)<=100000 by omega) ⋯),λD hD=>?_⟩];let v:=av.upd (o:=.lst (d.map V.ref)) hD;let YT:upd Z D (.lst (d.map V.ref)) D\(.lst (d.map V.ref)):=aj;change upd Z D (.lst (d.map V.ref))=H3 at v YT;let Y:av H H3:=λb u q=>v b u (G b u (s1 b u q))
   rwa[⟨12,D,d.map V.ref,λj=>fD ((ki S (cu S)).getD j (0,0)).2,2,aD.of YT,(R.same G).same v,λH4 YV k4=>⟨λj y M=>?_,λe=>?_,λj y M hb=>?_⟩⟩]
   ·let I:j<⇑(ki S (cu S)):=by rw[<-B.1,<-aiQ (f:=V.ref)];rwa[(aiO.mp M).1]
    let⟨t,O,q⟩:=B.at (aiL I);rw[ai6,O]at M;let e:=Za0 M;subst e
    let q4:H4 t=_:=k4 t _ (λz=>by
     let q3:=v^q;rcases (R.same G).same v with w|⟨_,_,_,_,w,_⟩
     ·rw[z,w]at q3;ext q3
     cbv) (v^q)
    rwa[⟨12,t,11122,bB.of q4,21252⟩]
    cbv
   ·have:d=[]:=List.map_eq_nil_iff.mp e;let e2:ki S (cu S)=[]:=akd (by rw[<-B.1,this];rfl);rwa[kn (U9 g e2) H4 (λb u n q=>k4 b u n (Y b u q)) YV]
   ·let I:j<⇑(ki S (cu S)):=by rw[<-B.1,<-aiQ (f:=V.ref)];rwa[(aiO.mp M).1]
    let F:=aiL I;change (ki S (cu S))[j]=p at F;let⟨t,O,q⟩:=B.at F;rw[ai6,O]at M;let e:=Za0 M;subst e;let q3:=v^q
    let q4:H4 t=_:=k4 t _ (λz=>by
     rcases (R.same G).same v with w|⟨_,_,_,_,w,_⟩
     ·cbv
     cbv) q3
    let kv:∀{n:Nat} {x:Nat×Int},(ki S (cu S))[n]?\x->fD ((ki S (cu S)).getD n (0,0)).2=fD x.2:=λ{n x} hx=>by cbv
    rwa[ks p.1 p.2 (U6 g F λn c' z' hn=>?_) t H4 (λb u n q=>k4 b u n (Y b u q)) YV q4];have:=hb n ([aiQ,B.1]▸(aiO.mp hn).1);dsimp only at this;rw[kv F,kv hn]at this;rwa[this]
noncomputable def Vb:Zh:=[114,111,111,109,115]
noncomputable def M3:Zh:=[108,101,116,116,101,114,115]
noncomputable def Vc:Zh:=[110,101,119,101,115,116]
def New (C:Zs)(H:Hp)(Q:VK):Prop:=∀x d,H x=none->H d=none->d≠x->Q ↑x (upd (upd H d (.own x)) x (.ins C d []))
def Kd (e c d a:Zs):Sp:=λb H Q E=>∃t:Zh,b=[.str (tx t)]/\(t=Vb\/t=M3\/t=Vc)/\(t=Vb->New c H Q)/\(t=M3->New d H Q)/\(t=Vc->New a H Q)
def jR {b:Zh}:(V.str (tx B)=V.str (tx b))↔B=b:=⟨λh=>HW (V.str.inj h),λh=>by rw[h]⟩
def Ek (T:Txt K mg A):dy P w K mg base (di P w) 1 A.wA A.wB ["name"] (Kd A.om A.c9 A.bQ A.cO):=by
 rwa[T.qg.F.TF Ed (λf H Q E h=>?_) (λj p a s H f Q E r h=>?_)]
 ·let⟨t,rfl,_⟩:=h;rfl
 ·let⟨t,rfl,m,g,b,n⟩:=h
  erw[_,{bC (aO dm (pv 0) (dS (l:=[114,111,111,109,115]) rfl) (aV _))
   {a9 (uJ T.Mt T.Mv T.Mu rfl T.QC)}
   bj,bC (aO dm (pv 0) (dS (l:=[108,101,116,116,101,114,115]) rfl) (aV _))
    {a9 (uJ T.Cy T.CB T.Cz rfl T.Eb)}
    bj,bC (aO dm (pv 0) (dS (l:=[110,101,119,101,115,116]) rfl) (aV _))
    {a9 (uJ T.Jp T.Jr T.Jq rfl T.L9)}
    bj,KG}]
  rwa[ju ?_];intro k o d;erw[12212];rwa[bK (λh=>?_) (λe=>?_)]
  ·rwa[g (jR.mp (aja h))]
  erw[12212];rwa[bK (λh=>?_) (λi=>?_)]
  ·rwa[b (jR.mp (aja h))]
  erw[12212];rwa[bK (λh=>?_) (λc=>?_)]
  ·rwa[n (jR.mp (aja h))]
  rwa[m.elim (λz=>e (aje (jR.mpr z))) λq=>q.elim (λz=>i (aje (jR.mpr z))) λz=>c (aje (jR.mpr z))]
def qw (h:ay a H b S O){d:Zs}{o:HO}(i:H d\o)(k:∀p q f,o≠.ins p q f)(j:∀c,o≠.lst c)(l:∀c,o≠.dK c):¬O.own b d:=λg=>by
 rcases g with q|q|q
 ·have:=h.ins;cbv
 ·let⟨c,e⟩:=h.NM q;cbv
 ·let⟨c,e⟩:=h.qA q;cbv
def QN (h:ay a H b S O){p:Zs}{d:Zb}(c:H p\.tup d):¬O.own b p:=qw h c (by cbv) (by cbv) (by cbv)
def QO {C:Zs}{x:Zs}(nx:H x=none)(c:H a=none)(d:a≠x)(k:∀b o,upd (upd H a (.own x)) x (.ins C a []) b\o->b≠x->I b\o)(g:∀b,O.own x b->b=x\/upd (upd H a (.own x)) x (.ins C a []) b=none):av H I/\∀b,O.own x b->H b=none:=by
 let f:av H (upd (upd H a (.own x)) x (.ins C a [])):=(av.upd c).trans (av.upd ([ak d.symm]▸nx));rwa[λb o e=>k b o (f^e) (aw e nx),λb z=>(g b z).elim (λe=>[e]▸nx) (same_none f)]
def OL (p:Zs)(H a:Hp):Prop:=∀q o,q≠p->H q\o->a q\o
def OL.upd {o:HO}:OL a H (upd H a o):=λq u n e=>[ak n]▸e
def _root_.Lake.L2.dw.but {rs:Zn}{rows:Za3}{w:Zs}(h:dw H rs rows)(b:OL w H I)(c:w∉rs):dw I rs rows:=⟨h.1,λi r ns a d=>b _ _ (λz=>c (by rw[<-z];rwa[aiN a])) (h.2 i r ns a d)⟩
def De {rows:Za3}(h:dw H F rows){r:Zs}(c:r∈F):∃d,H r\(.lst (aq d)):=by
 let⟨i,b,e⟩:=akD.mp c;let a:i<⇑rows:=by rw[<-h.1];rwa[b]
 rwa[_,h.2 i r _ (by rw[aiL b,e]) (aiL a)]
def _root_.Lake.L2.dw.snoc {rs:Zn}{rows:Za3}{ns:Zg}(h:dw H rs rows)(f:H a\.lst (aq ns)):dw H (rs++[a]) (rows++[ns]):=by
 rwa[⟨by rw[aiP,aiP,h.1];rfl,λi q e c b=>?_⟩];cases d:i<⇑rs
 ·rw[aiZ d]at c;rw[aiZ (by rw[<-h.1];rwa[d])]at b;rwa[h.2 i q e c b]
 ·rw[ai1 ∅]at c;rw[ai1 (by rw[<-h.1];omega)]at b;rw[aiR.mp (aiN c),aiR.mp (aiN b)];rwa[f]
def bz (S:RS)(k c:Nat):Nat:=(S.by c (M12.st k)).getD 0
inductive xr (C:Zs) (vs:Zb) (H:Hp) (Q:VK) (E_:XK):Prop
 |mk (r:Zs) (S:RS) (a:RA) (Z:Nat->Prop):vs=[↑r]->ay C H r S a->1<=S.L->S.L<=40->S.q<=300->⇑S.ways=S.q->Z 0->(∀c,Z c->c<S.q/\∀k,k<2* S.L->∃d,S.by c (M12.st k)=some d/\Z d)->(∀l N H',av H H'->H l=none->TabAt H' l (M24.uN (bz S) (2* S.L) (M24.bH (bz S) (2* S.L) 0 N))->⇑(M24.bH (bz S) (2* S.L) 0 N)=N->Q ↑l H')->xr C vs H Q E_
def vi (a:List (Key×V))(found:Zh):Prop:=⇑a<=⇑found/\∀c:Nat,bA a (Sum.inl (c:Int))=if c∈found then some (V.int (M24.ix found c:Int)) else none
def vi.one:vi [(Sum.inl 0,.int 0)] [0]:=⟨aiS _,λc=>by
 cases h:c=0
 ·subst h;rfl
 ·rw[ajb (λq=>h (aiR.mp q))];show bA (putK [] (Sum.inl 0) (.int 0)) (Sum.inl (c:Int))=none;rw[jq,ajb (λq=>by injection q with q;omega)];rfl⟩
def vi.put {c:List (Key×V)}{found:Zh}(h:vi c found)(nd:found.Nodup)(hc:n∉found):vi (putK c (Sum.inl (n:Int)) (.int (⇑found:Int))) (found++[n]):=by
 let g:(found++[n]).Nodup:=by
  rw[ajF];rwa[nd,by simp,λa i b j=>by cbv]
 rwa[⟨5,λf=>?_⟩]
 ·have:=dB c (Sum.inl (n:Int)) (.int (⇑found:Int));have:=h.1;rw[aiP,ajY];ext
 rw[jq];cases e:f=n
 ·subst e;rw[ajg rfl,ajg (aiV _ ai7),M24.T5 hc]
 ·rw[ajb (λq=>e (by injection q with q;omega)),h.2];cases d:f∈found
  ·rw[ajg d,ajg (ajh _ d),M24.BO g d]
  cbv
structure NS (H0 H:Hp) (lf d lr:Zs) (ts:Zn) (kvs:List (Key×V)) (found:Zh) (Tb:Za3):Prop where
 same:av H0 H
 f1:H lf\(.lst (aq (nI found)))
 d1:H d\(.dK kvs)
 nm:vi kvs found
 r1:H lr\(.lst (ts.map V.ref))
 r2:dw H ts Tb
 un:(lf::lr::ts).Nodup
 new:∀x∈lf::lr::ts,H0 x=none
 dn:H0 d=none
section
variable {H0 H H':Hp}{lf d lr:Zs}{ts:Zn}{kvs:List (Key×V)}{found:Zh}{Tb:Za3}
def NS.more (h:NS H0 H lf d lr ts kvs found Tb)(s:av H H'):NS H0 H' lf d lr ts kvs found Tb:=
 ⟨h.same.trans s,s^h.f1,s^h.d1,h.nm,s^h.r1,h.r2.same s,h.un,h.new,h.dn⟩
def NS.ne (h:NS H0 H lf d lr ts kvs found Tb):lf≠lr/\lf∉ts/\lr∉ts/\ts.Nodup:=by
 let a:=ajr.mp h.un
 cbv
def NS.add (h:NS H0 H lf d lr ts kvs found Tb)(nd:found.Nodup){c:Nat}(hc:c∉found):NS H0 (upd (upd H d (.dK (putK kvs (Sum.inl (c:Int)) (.int (⇑found:Int))))) lf (.lst (aq (nI found)++[.int (c:Int)]))) lf d lr ts (putK kvs (Sum.inl (c:Int)) (.int (⇑found:Int))) (found++[c]) Tb:=by
 let⟨j,k,n,m⟩:=h.ne;let dl:∀b g,H b\.lst g->b≠d:=λb g e=>cf e h.d1 (by cbv)
 rwa[⟨λb o e=>?_,55,h.nm.put nd hc,5,⟨h.r2.1,λi q ns f l=>?_⟩,h.un,h.new,h.dn⟩]
 ·rw[ak (aw e (h.new lf ai7)),ak (aw e h.dn)];rwa[h.same^e]
 ·rw[aj,g9,ints_app];rfl
 ·rw[ak (ajR (dl lf _ h.f1)),aj]
 ·rw[ak (ajR j),ak (dl lr _ h.r1)];rwa[h.r1]
 ·let a:=h.r2.2 i q ns f l;rw[ak (λe=>k (by rw[<-e];rwa[aiN f])),ak (dl q _ a)];rwa[a]
def NS.row (h:NS H0 H lf d lr ts kvs found Tb){q:Zs}{row:Zg}(f:H q\.lst (aq row))(p:H0 q=none)(c:q∉lf::lr::ts):NS H0 (upd H lr (.lst ((ts++[q]).map V.ref))) lf d lr (ts++[q]) kvs found (Tb++[row]):=by
 let⟨g,k,m,i⟩:=h.ne;simp only[ai3,not_or]at c;let⟨j,l,n⟩:=c;rwa[⟨λb o e=>?_,55,h.nm,aj,55,λx a=>?_,h.dn⟩]
 ·rw[ak (aw e (h.new lr (ajo _ ai7)))];rwa[h.same^e]
 ·rw[ak g];rwa[h.f1]
 ·rw[ak (cf h.d1 h.r1 (by cbv))];rwa[h.d1]
 ·rwa[dw.but (w:=lr) (h.r2.snoc f) OL.upd ?_]
  cbv
 ·cbv
 ·rw[<-ake,<-ake]at a;rcases aiY.mp a with a|a
  ·rwa[h.new x a]
  cbv
end
def El (T:Txt K mg A):T.numbered.Ok P w base 2 (xr A.aB):=by
 rwa[T.numbered.on gb (λcC AA outer s H vs Q E hr h=>?_)]
 ·let⟨r,S,a,Z,rfl,hR,lU,sv,hm,hw,Vd,hZ,k⟩:=h;let iZ:=eV hr
  erw[_,{bI 1 gb.nd (pc T.qf (uh T) hr #[0<<<1]),bI 2 gb.nd (bT #[ao]),bI 3 gb.nd (PD (Lb ao ao PB) rfl rfl (by simp) ⋯),bI 4 gb.nd (bT ah),bG (fU ajc (aO jU (4<<<0) (2<<<0) (aV _))
    {kK (iy:=5) gb.nd rfl (Or.inl rfl) (fns:=["rows","rooms","found"]) (ixs:=[4,0,2]) (cl:=_) rfl (cY (pv 1)) (cR [(_,_),(_,_),(_,_)] rfl ⟨222222222222222,True.intro⟩ rfl) (λC s H ex=>(pm (pv 2) (aJ T) T.iG (hX T) hr #[aK (Ba (K:=K) rfl) (pv 3) (bq (zO (K:=K) rfl) rfl T.cy ajl #[1]) (λ_ _=>rfl),0])),ck ajc rfl (cY (pv 5)) (cZ 6 gb.nd)
     {bG (bC (vo (y4 iZ (pv 6) (pv 3)))
      {jC iZ (pv 3) (pv 6) (2<<<0) rfl,aZ (cG aiX ai4 ai5 bM (pv 2) #[6])}
      bj)},aZ (cG aiX ai4 ai5 bM (pv 4) #[iD (fns:=["numbers"]) (ixs:=[3]) (cl:=_) rfl (cY (pv 5)) (cR [(_,_)] rfl ⟨22222,True.intro⟩ rfl) (λC s H ex=>(EJ iZ (pv 1) (pv 0) (λ_ _=>rfl)))])}),a9 (pv 4)}]
  rwa[kr ?_];intro lV kh iY ft fQ;rwa[⟨12,r,_,a.dx,112,hR.ins,aJ T,T.sg,vL^_,S.L,2,lU,3,λsl H1 s1 hs1=>?_⟩];rwa[⟨Za4 1,λu Ve=>?_⟩];generalize e_:upd H1 u _=H2;obtain⟨s2,FE⟩:_/\_\(.lst (aq (nI [0]))):=dP e_ Ve;intro d hd;erw[aj,[(Sum.inl 0,.int 0)],2,by show 1<=15;decide];generalize BD:upd (upd H2 d (.dK [])) d _=H3;let YW:H3 d\(.dK [(Sum.inl 0,.int 0)]):=by rw[<-BD,aj];rfl
  let s3:av H2 H3:=λb o e=>by rw[<-BD,ak (aw e hd),ak (aw e hd)];rwa[e]
  clear BD;rwa[⟨ajj _,λp Vf=>?_⟩];generalize e_:upd H3 p _=H4;obtain⟨s4,Ke⟩:_/\_\(.lst (([]:Zn).map V.ref)):=dP e_ Vf
  let B4:NS H1 H4 u d p [] [(Sum.inl 0,.int 0)] (M24.bH (bz S) (2* S.L) 0 0) (M24.iE (bz S) (2* S.L) 0 0):=by
   let Kf:H2 p=none:=s3.free Vf;let e:u≠p:=λz=>by cbv
   rwa[⟨(s2.trans s3).trans s4,(s3.trans s4) _ _ FE,s4^YW,vi.one,Ke,⟨2,λi r ns h1=>by simp at h1⟩,by simp[e],λx hx=>?_,s2.free hd⟩];simp only[ai3,ajA,akO]at hx;rcases hx with e|e
   ·rw[e];rwa[Ve]
   ·rw[e];rwa[s2.free Kf]
  clear s2 s3 s4 FE YW Ke Ve hd Vf
  let mM:∀y i,Z y->i<2* S.L->Z (bz S i y):=λy i hy B=>by
   let⟨d,e1,e2⟩:=(hZ y hy).2 i B;unfold bz;rw[e1];rwa[e2]
  let oZ:∀n,∀z∈M24.bH (bz S) (2* S.L) 0 n,Z z:=M24.o6 Vd mM;let Y:∀n,⇑(M24.bH (bz S) (2* S.L) 0 n)<=300:=λn=>ai0 (M11.jK S.q _ (M24.j1 _ _ _ n) λz R=>(hZ z (oZ n z R)).1) hm
  erw[λ e8 H'=>∃(N:Nat) (G:Zn) (f:List (Key×V)) (v5 M:Zc),e8=#v[↑r,↑sl,↑u,↑d,↑p,v5,M]/\NS H1 H' u d p G f (M24.bH (bz S) (2* S.L) 0 N) (M24.iE (bz S) (2* S.L) 0 N)/\⇑(M24.bH (bz S) (2* S.L) 0 N)=N,5]
  ·erw[λm σ H'=>∃(n:Nat) (G:Zn) (f:List (Key×V)) (v5 M:Zc),m=300 - n/\σ=#v[↑r,↑sl,↑u,↑d,↑p,v5,M]/\NS H1 H' u d p G f (M24.bH (bz S) (2* S.L) 0 n) (M24.iE (bz S) (2* S.L) 0 n)/\n<=⇑(M24.bH (bz S) (2* S.L) 0 n),⟨_,(0),[],_,none,none,22,B4,ajj _⟩];rintro m σ H5 ⟨n,G,f,v5,M,rfl,rfl,O,hn⟩;let hop:=Y n
   let U:⇑G=n:=by
    rw[O.r2.1];unfold M24.iE;rw[aiQ,ajs];ext
   erw[12,p,12,.inl (aD.of O.r1),12,u,12,.inl (aD.of O.f1),112212];rwa[bK (λh=>?_) (λh=>?_)]
   ·let lS:n<⇑(M24.bH (bz S) (2* S.L) 0 n):=by
     let h':(⇑(G.map V.ref):Int)<(⇑(aq (nI (M24.bH (bz S) (2* S.L) 0 n))):Int):=aja h;rw[aI,bP,aiQ,U]at h';ext
    clear h;let F:=aiL lS;change (M24.bH (bz S) (2* S.L) 0 n)[n]=c at F;let Kg:=oZ n c (aiN F);let hcm:=(hZ c Kg).1;erw[_,λ e8 H' h=>h];let R5:ay A.aB H5 r S a:=hR.same (s1.trans O.same);let D:=O.same^hs1;erw[12,sl,2,⟨_,aD.of D⟩];rwa[jB (aq ((~~~(2* S.L)).map M12.st)) (λv=>match v with|.int z=>.int (((S.by c z).getD 0:Nat):Int)|v=>v) (jX (aD.of D)) (iN (aD.of D)) (gS (aD.of D)) ([aI,aiQ,ajK]▸ai0 (show 2* S.L<=1000 by omega) ⋯) (λi v hv Rr J=>?_) (λlo Vg=>?_)]
    ·let⟨z,rfl,R⟩:=cH hv
     let B:i<2* S.L:=by
      have:=(aiO.mp R).1;rw[aiQ,ajK]at this;rwa[this]
     let ez:M12.st i=z:=Za0 ((su B).symm.trans R);let⟨dd,e1,e2⟩:=(hZ c Kg).2 i B;rw[ez]at e1;erw[12,r,a.dx,12,R5.ins,cV _ _ _ ⋯,1212,p,12,.inl (aD.of O.r1),u,11122,aD.of O.f1,([aiQ,U]▸cw (bU (eD F))),12,r,S,a,c,z,2,R5,[hw]▸hcm]
     cbv
    let eo:(aq ((~~~(2* S.L)).map M12.st)).map (λv=>match v with|.int z=>V.int (((S.by c z).getD 0:Nat):Int)|v=>v)=aq (nI ((~~~(2* S.L)).map λi=>bz S i c)):=by
     unfold aq nI;rw[ajw,ajw,ajw,ajw];rfl
    rw[eo];clear eo;generalize e_:upd H5 lo _=H6;let⟨s6,YX⟩:=dP e_ Vg;let n1:lo≠u:=λz=>by rw[z,O.f1]at Vg;ext Vg
    let Tn:∀i,i<2* S.L->((~~~(2* S.L)).map λi=>bz S i c)[i]?\(bz S i c):=λi B=>by rw[ai6,alC B];rfl
    erw[12,lo,2,⟨_,aD.of YX⟩];rwa[eI (xs:=aq (nI ((~~~(2* S.L)).map λi=>bz S i c))) (λi σ X=>∃(f:List (Key×V)) (M:Zc),σ=#v[↑r,↑sl,↑u,↑d,↑p,↑lo,M]/\NS H1 X u d p G f (M24.fG (bz S) c (M24.bH (bz S) (2* S.L) 0 n) i) (M24.iE (bz S) (2* S.L) 0 n)/\X lo\.lst (aq (nI ((~~~(2* S.L)).map λi=>bz S i c)))) ⟨f,M,2,O.more s6,YX⟩ (λi σ X _ ζ=>by let⟨_,_,_,_,h⟩:=ζ;rwa[aD.of h]) ?_ ?_]
    ·rintro i y σ X B ⟨f,M,rfl,g,l⟩
     let Vh:i<2* S.L:=by
      have:=(aiO.mp B).1;rw[aI,bP,aiQ,ajK]at this;rwa[this]
     rw[bU (eD (Tn i Vh))]at B;let ey:=Za0 B;subst ey
     let UG:⇑(M24.fG (bz S) c (M24.bH (bz S) (2* S.L) 0 n) i)<=300:=ai0 (M11.jK S.q _ (M24.oY (M24.j1 _ _ _ n) i) λz R=>by
      rcases M24.kA.mp R with q|⟨j,hj,rfl⟩
      ·rwa[(hZ z (oZ n z q)).1]
      ·rwa[(hZ _ (mM c j Kg (by omega))).1]) hm
     let Kh:(M24.fG (bz S) c (M24.bH (bz S) (2* S.L) 0 n) i).Nodup:=M24.oY (M24.j1 _ _ _ n) i;let zF:=M24.jL (bz S) c (M24.bH (bz S) (2* S.L) 0 n) i;change M24.fG (bz S) c (M24.bH (bz S) (2* S.L) 0 n) i=come at zF g UG Kh;rw[zF];clear zF;change bz S i c=o;rwa[⟨15,λ_ _ h=>h⟩];erw[1212,d,12,dz.k (k:=Sum.inl (o:Int)) g.d1,12];rw[g.nm.2 o];cases L:o∈come
     ·rw[ajg L];rwa[cU ⟨f,125,l⟩];unfold M24.add;rw[ajg L];rwa[g]
     ·rw[ajb L];rwa[eX ?_];let B8:=g.add Kh L;let abS:(⇑(aq (nI come)):Int)=(⇑come:Int):=by rw[aI,bP]
      erw[12,u,12,.inl (aD.of g.f1),1212,d,12,jY.k (k:=Sum.inl (o:Int)) g.d1 (aiW (show ⇑f<=300 by have:=g.nm.1;omega) ⋯)];let YY:upd X d (.dK (putK f (Sum.inl (o:Int)) (.int (⇑(aq (nI come)):Int)))) u\(.lst (aq (nI come))):=by rw[ak (cf g.f1 g.d1 (by cbv))];rwa[g.f1]
      erw[12,.inl ⟨21,aD.of YY⟩,12,u,1122,YY,5]
      ·rw[aI,bP];rwa[aiW UG ⋯]
      rw[abS];erw[putK f (Sum.inl (o:Int)) (.int (⇑come:Int)),125]
      ·unfold M24.add;rw[ajb L];rwa[B8]
      ·rw[ak n1,ak (cf l g.d1 (by cbv))];rwa[l]
    ·rintro σ X ⟨f,M,rfl,g,l⟩;rw[aI,bP,aiQ,ajK,<-M24.fZ F]at g;let ahs:=Y (n+ 1);let⟨t,ht⟩:=M24.uL (bz S) (2* S.L) 0 n;let Fs:n+ 1<=⇑(M24.bH (bz S) (2* S.L) 0 (n+ 1)):=by rw[ht,aiP];ext
     let hin:∀i,i<2* S.L->bz S i c∈M24.bH (bz S) (2* S.L) 0 (n+ 1):=λi B=>by rw[M24.fZ F];rwa[M24.kA.mpr (.inr ⟨i,B,2⟩)]
     erw[12,.inl ⟨21,aD.of g.r1⟩,12,lo,2,⟨_,aD.of l⟩];rwa[jB (aq (nI ((~~~(2* S.L)).map λi=>bz S i c))) (λv=>match v with|.int z=>.int ((M24.ix (M24.bH (bz S) (2* S.L) 0 (n+ 1)) z.toNat:Nat):Int)|v=>v) (jX (aD.of l)) (iN (aD.of l)) (gS (aD.of l)) ([aI,bP,aiQ,ajK]▸ai0 (show 2* S.L<=1000 by omega) ⋯) (λi v hv Rr J=>?_) (λlq I=>?_)]
     ·let⟨z,rfl,R⟩:=cH hv
      let B:i<2* S.L:=by
       have:=(aiO.mp R).1;rw[bP,aiQ,ajK]at this;rwa[this]
      let ez:((bz S i c:Nat):Int)=z:=Za0 ((eD (Tn i B)).symm.trans R);subst ez;let J:Rr (.int ((M24.ix (M24.bH (bz S) (2* S.L) 0 (n+ 1)) (((bz S i c:Nat):Int)).toNat:Nat):Int)) X:=J;rw[ajq]at J;rwa[⟨1212,d,125,J⟩];have:=dz.k (k:=Sum.inl ((bz S i c:Nat):Int)) g.d1;rw[g.nm.2,ajg (hin i B)]at this;rwa[this]
     let eo:(aq (nI ((~~~(2* S.L)).map λi=>bz S i c))).map (λv=>match v with|.int z=>V.int ((M24.ix (M24.bH (bz S) (2* S.L) 0 (n+ 1)) z.toNat:Nat):Int)|v=>v)=aq ((~~~(2* S.L)).map λi=>((M24.ix (M24.bH (bz S) (2* S.L) 0 (n+ 1)) (bz S i c):Nat):Int)):=by
      unfold aq nI;rw[ajw,ajw,ajw,ajw];rfl
     rw[eo];clear eo;generalize e_:upd X lq _=H8;let⟨s8,hq8⟩:=dP e_ I
     let nq:lq∉u::p::G:=by
      simp only[ai3,not_or];rwa[⟨λz=>?_,λz=>?_,λz=>?_⟩]
      ·rw[z,g.f1]at I;ext I
      ·rw[z,g.r1]at I;ext I
      ·let⟨ns,e⟩:=De g.r2 z
       cbv
     let B8:=(g.more s8).row hq8 (g.same.free I) nq;rw[<-M24.zu F]at B8;erw[p,1122,s8^g.r1,5]
     ·rw[aiQ,U];rwa[aiW (show n<=300 by omega) ⋯]
     rw[ajn]at B8;rwa[300 - (n+ 1),3,n+ 1,G++[lq],f,1122,B8,Fs]
   ·erw[n,G,f,112,O];let h':¬(⇑(G.map V.ref):Int)<(⇑(aq (nI (M24.bH (bz S) (2* S.L) 0 n))):Int):=λq=>h (aje q)
    rw[aI,bP,aiQ,U]at h';ext
  rintro e8 H' ⟨N,G,f,v5,M,rfl,B',hN⟩;rwa[⟨12,k p N H' (s1.trans B'.same) (s1.free (B'.new p (ajo _ ai7))) ⟨G,B'.r1,5⟩ hN⟩];rw[<-M24.BP hN];rwa[B'.r2]
inductive Ki (K:Za1) (vs:Zb) (H:Hp) (Q:VK) (E_:XK):Prop
 |mk (a:Zs) (ns:Zg) (k:Nat):vs=[↑a,.int k]->aD K H a (aq ns)->k<=1000->(∀z,Q (.int z) H)->Ki K vs H Q E_
def bx (T:Txt K mg A):T.bF.Ok P w base 1 (Ki K):=by
 rwa[T.bF.on wV (λi l c s H j Q E m h=>?_)]
 ·let⟨a,b,n,rfl,d,o,k⟩:=h
  refine⟨_,{bC (aO jU (pv 1) (0<<<0) (aV _))
   {a9 (0|||1)}
   bj,a9 ao},?_⟩
  rwa[iC ?_];intro f;erw[1212,a,12,.inl d,112212];rwa[bK (λh=>?_) (λh=>?_)]
  ·let g:(n:Int)<(⇑(aq b):Int):=aja h;rw[aI]at g;let e:b[n]?=some b[n]:=aiL ∅
   rwa[1212,a,11122,d,cw (bU e),k _]
  ·rwa[k _]
def QP:Sp:=λa H Q _=>∃n:Int,a=[.int n]/\Q (.bl true) H
def dQ (T:Txt K mg A):T.eB.Ok P w base 1 QP:=by
 rwa[T.eB.on Ah (λb e a s H c Q E d h=>?_) (len:=by rintro _ _ _ _ ⟨n,rfl,_⟩;rfl)]
 ·let⟨n,rfl,k⟩:=h;erw[_,{a9 (qW (bq gT rfl T.dH ajE #[0,iK (v:=.ty "int") rfl T.N6 PyProof.Rows.boot_int rfl]) (vp (Rc (bq gT rfl T.dH ajE #[0,iK (v:=.ty "bool") rfl T.T6 PyProof.Rows.boot_bool rfl]))))}];rwa[⟨1211112,.int n,iA K "int",12,eX ?_⟩];rwa[1211112,.int n,AW K,12,k]
structure CS (CR CG CC:Zs) (H:Hp) (x r:Zs) (q:KA) (S:RS) (a:RA) (R:Za2) (ks:Zg) (B:Nat) (rs ps:Za3) (fp:List (Zg×Nat)) (bs:List (Nat×Zg×Nat)) (gs:Zf) (ag:Zh) (W:bN) (O:Zs->Prop):Prop where
 c:cF CG CC H x r q gs ag W ⇑S.bu fp O
 q:H q.aQ\(.dT (i3 fp))
 rm:i6 CR H r S a R ks B
 dj:∀b,a.own r b->¬O b
 ci:CI S bs gs ag W fY none
 bo:C5 (rs++ps) ⇑rs ks bs
 pl:yE rs fp
 br:∀b∈bs,b.2.2<S.q
 ra:∀w∈rs,w≠[]->∀c,c<S.q->S.ax c=c->∃n,(n,w,c)∈bs
 pa:∀w∈ps,w≠[]->∃n,(n,w,0)∈bs
 ln:⇑bs<=S.q* ⇑fp+ ⇑ps
 wb:∀u∈rs++ps,⇑u<=1000/\∀z∈u,(-1000<=z/\z<=1000)/\z∈ks/\-z∈ks
def CS.Vi {CR:Zs}{x:Zs}{q:KA}{rs o:Za3}{p:List (Zg×Nat)}{bs:List (Nat×Zg×Nat)}{gs:Zf}{W:bN}{d:Zs->Prop}(h:CS CR a b H x c q S O R l n rs o p bs gs [] W d)(r:0<S.q):Gs rs o S:=by
 rwa[⟨λw j g hc m=>?_,λw j=>?_⟩]
 ·cases i:w=[]
  ·rw[i];rwa[.inl rfl]
  ·let⟨e,k⟩:=h.ra w j i g hc m;rwa[ends (b:=(e,w,g)) h.ci h.rm.g k m]
 ·cases i:w=[]
  ·rw[i];rwa[.inl rfl]
  ·let⟨e,k⟩:=h.pa w j i;rwa[ends (b:=(e,w,0)) h.ci h.rm.g k (by have:=(h.rm.g.el 0 r).1;rwa[Nat.le_zero.mp this])]
inductive FG (CR CG CC:Zs) (vs:Zb) (H:Hp) (Q:VK) (E_:XK):Prop
 |mk (x r:Zs) (q:KA) (S:RS) (a:RA) (R:Za2) (B:Nat) (rs ps:Za3) (fp:List (Zg×Nat)) (bs:List (Nat×Zg×Nat)) (gs:Zf) (W:bN) (O:Zs->Prop) (c:Nat) (z:Int):vs=[↑x,.int c,.int z]->CS CR CG CC H x r q S a R (bJ (2* S.L)) B rs ps fp bs gs [] W O->1<=S.L->S.L<=200->c<S.q->S.ax c=c->S.by c z=none->z∈bJ (2* S.L)-> -z∈bJ (2* S.L)->S.q<1000->(S.q+ 1)* ⇑fp+ ⇑ps<=700->B<800000->⇑S.bu+ S.stand<=800000->(∀S' a' R' bs' je W' O' B' H',(∀b o,¬O b->¬a.own r b->H b\o->H' b\o)->CS CR CG CC H' x r q S' a' R' (bJ (2* S.L)) B' rs ps fp bs' je [] W' O'->(∀b,a'.own r b\/O' b->a.own r b\/O b\/H b=none)->Tr (rs++ps) ⇑rs (S.make c z (bJ (2* S.L))) S'->S'.q=S.q+ 1->S'.L=S.L->B'<=B+ 702->Q .non H')->FG CR CG CC vs H Q E_
def xt (T:Txt K mg A):T.m4.Ok mg P w base 9 (FG A.aB A.aT A.aH):=by
 rwa[T.m4.on wX (λcC AA outer s H vs Q E hr h=>?_)]
 ·let⟨x,r,q,S,a,R,B,rs,ps,i,bs,gs,W,O,c,z,rfl,h,lU,sv,hc,ec,d,hz,D,hm,C8,hB,hwn,k⟩:=h
  refine⟨_,{aZ (pm (pv 0) (aM T) T.fx (jf T) hr #[pm (0<<<1) (aJ T) T.qm (Ak T) hr #[1,2]]),aZ (pm (pv 0) (aM T) T.fj (fS T) hr #[1,2]),aZ (vY (pv 0) (aM T) T.iR (lW T) hr)},?_⟩
  rwa[eQ ?_];intro ft fQ;let l:=h.rm.g;let rb:=h.rm.rb;let ok:=zD l h.rm.k ∅ (by have:=h.rm.l;omega) ∅ ∅;rwa[⟨12,x,q.dx,12,h.c.ins,fA ⋯,12,x,_,q.dx,112,h.c.ins,aM T,T.fm,gj^_,r,a.dx,12,h.rm.at_.ins,cV _ _ _ ⋯,1212,r,S,a,c,z,2,h.rm.at_,l.wf,lU,sv,hc,33,ok.sm.w,λa1 H1 V qB X=>?_⟩];let oT:∀b,O b->∃o,H b\o:=λb y=>by let⟨o,e,_⟩:=h.c.th b y;rwa[o,e]
  let tno:∀b Z,H b\.tup Z->H1 b\(.tup Z):=λb Z e=>V b _ (λy=>QN h.rm.at_ e y) e
  let c1:=h.c.keep (λb o y e=>V b o (λw=>h.dj b w y) e) tno;let q1:H1 q.aQ=_:=V _ _ (yF h.rm.at_ h.q) h.q;let ci1:=h.ci.make l hc ec d h.br (bJ (2* S.L))
  let Y:∀b,a1.own r b->¬O b:=λb y w=>by
   rcases X b y with v|v
   ·rwa[h.dj b v w]
   cbv
  let Oz:⇑bs+ ⇑i<=700:=by have:=h.ln;rw[al8,Nat.one_mul]at C8;ext
  rwa[⟨x,r,q,S.make c z (bJ (2* S.L)),bs,gs,[],W,⇑S.bu,i,O,_,S.q,2,c1,q1,ci1,λp hp=>?_,akc _,3,ajj _,λf j L H2 u OB G c2 J Ka=>?_⟩]
  ·have:=h.wb p.1 (ajh _ (aiN (h.pl.a p hp)));rwa[this.1,λy hy=>(this.2 y hy).1]
  let bl:=qv S.q i;let l2:⇑(bs++gJ i S.q)<=700:=by rw[aiP];ext
  let YZ:C5 (rs++ps) ⇑rs (bJ (2* S.L)) (bs++gJ i S.q):=by
   let nw:∀b∈gJ i S.q,(rs++ps)[b.1]?\b.2.1/\b.1<⇑rs:=λb d=>by
    let⟨p,hp,d⟩:=akr.mp d;let⟨rfl,_⟩:=xq d;let h1:=h.pl.a p hp
    cbv
   rwa[⟨λb d=>?_,λb d=>?_,λb d=>?_,λb d=>?_,3⟩]
   ·rwa[(aiY.mp d).elim (h.bo.w b) λy=>(nw b y).1]
   ·rwa[(aiY.mp d).elim (h.bo.n b) λy=>.inl (nw b y).2]
   ·rwa[(aiY.mp d).elim (h.bo.l b) λy=>(h.wb _ (aiN (nw b y).1)).1]
   ·rwa[(aiY.mp d).elim (h.bo.k b) λy z' D=>((h.wb _ (aiN (nw b y).1)).2 z' D).2]
  let g2:⇑f<=700:=by rw[J.len];rwa[l2]
  let JT:lG A.aT A.aH (S.make c z (bJ (2* S.L))) (bs++gJ i S.q) f W (λr s=>r=c/\s=z) (⇑j+ 2* ⇑f) x r q ⇑S.bu i L H2 j W:=⟨c2,J,λ_ _ _ z=>z,by have:=J.two;ext⟩;rwa[⟨12,x,q.dx,12,c2.ins,fA ⋯,1212,x,r,q,f,j,W,⇑S.bu,i,L,c,z,2,c2,JT.fits ∅,λns H3 t nd3 Vj c3=>?_⟩];let N:=JT.wake nd3 Vj c3;let UD:CI (S.make c z (bJ (2* S.L))) (bs++gJ i S.q) f (j++ns) (gB W c z) fY none:=N.i.ex λr' s' n' w' _ e=>absurd ⟨ajT Nat.cast e.1,e.2⟩ (dq.mp w').2
  let Y0:∀b,a1.own r b->¬L b:=λb y w=>by
   rcases G b w with v|v
   ·rwa[Y b y v]
   ·let⟨o,e⟩:=qB.there y;cbv
  let Y1:i6 A.aB H1 r (S.make c z (bJ (2* S.L))) a1 (eP R c z S.q) (bJ (2* S.L)) (B+ 2):=by
   let es:=Gz (c:=c) (z:=z) (g:=bJ (2* S.L)) l.wf;let M:(S.make c z (bJ (2* S.L))).bu=S.bu:=rfl;rwa[⟨qB,l.make hc ec d _,zt h.rm.w l.wf _ _ _,λa y b e=>?_,by show S.q+ 1<=_;ext,h.rm.l,5,by rw[M];ext⟩]
   ·rcases e with e|⟨_,e,_⟩|⟨_,e,_⟩
    ·rwa[h.rm.k _ _ _ e]
    ·rw[e];rwa[hz]
    ·rw[e];rwa[D]
   ·show ⇑(S.rows++[_])+ _<=_;rw[aiP,es];show ⇑S.rows+ 1+ _<=_;ext
  let rm3:=(Y1.keep (λb o y e=>u b o (Y b y) e) (λb Z e=>u b _ (c1.jm e) e)).keep (λb o y e=>t b o (Y0 b y) e) (λb Z e=>t b _ (c2.jm e) e);let lv:live f<=700:=ai0 List.countP_le_length g2;let hmul:live f* (2* ⇑(bs++gJ i S.q)+ 1)<=700* 1401:=aly lv ∅;let YB:⇑(j++ns)<=2100:=by have:=N.b;ext
  rwa[⟨12,x,q.dx,12,c3.ins,fA ⋯,x,r,q,S.make c z (bJ (2* S.L)),a1,eP R c z S.q,bJ (2* S.L),B+ 2,rs++ps,⇑rs,bs++gJ i S.q,f,j++ns,gB W c z,i,L,2,c3,rm3,3,Y0,UD,YZ,3,λS' a' R' je W' O' B' H' f' c' r' ow oo dj' ci' rr em eL tr Bx=>?_⟩];let I:S'.q=S.q+ 1:=em
  let out:∀{b o},¬O b->¬a.own r b->H b\o->H' b\o:=λ{b o} C F e=>by
   let U:=V b o F e;let e2:=u b o C U;let n3:¬L b:=λy=>(G b y).elim C λv=>by cbv
   rwa[f' b o n3 (λy=>(X b y).elim F λv=>by cbv) (t b o n3 e2)]
  let non:∀b,a1.own r b\/L b\/H3 b=none->a.own r b\/O b\/H b=none:=λb y=>by
   cases F:a.own r b
   ·rwa[.inl F]
   cases C:O b
   ·rwa[.inr (.inl C)]
   rwa[.inr (.inr ?_)]
   cases e:H b with
   |none=>rfl
   |some o=>
    exfalso
    let U:=V b o F e;let n3:¬L b:=λy=>(G b y).elim C λv=>by cbv
    rcases y with y|y|y
    ·cbv
    ·rwa[n3 y]
    ·rw[t b o n3 (u b o C U)]at y;ext y
  let lt:=Later.of l (l.make hc ec d (bJ (2* S.L))) jt (al1 _);let lt2:=Later.of Y1.g r'.g rr (alF em.symm);let el1:∀b,b<S.q->(S.make c z (bJ (2* S.L))).ax b=S.ax b:=λb lS=>(fL l.wf c z (bJ (2* S.L)) b).trans (ajb ∅)
  rwa[k S' a' R' (bs++gJ i S.q) je W' O' B' H' (λb o C F e=>out C F e) ⟨c',out (h.c.JL h.q) (yF h.rm.at_ h.q) h.q,r',dj',ci',YZ,h.pl,λb d=>?_,λw M m b d eb=>?_,λw M m=>?_,5,h.wb⟩ (λb y=>?_) tr I (eL.trans rfl) ∅]
  ·rw[I];rcases aiY.mp d with y|y
   ·have:=h.br b y;ext
   ·let⟨p,_,d⟩:=akr.mp y;let⟨rfl,_⟩:=xq d;rwa[akc _]
  ·cases e:b<S.q
   ·let U:=lt2.el b (by show b<S.q+ 1;omega);rw[el1 b e,eb]at U;let l1:=(l.el b e).1;let l2:=(r'.g.el (S.ax b) ∅).1;let⟨n,hn⟩:=h.ra w M m b e ∅
    cbv
   ·let e:b=S.q:=∅
    subst e;let⟨n,hn⟩:=h.pl.b w M;rwa[n,aiV _ (akr.mpr ⟨(w,n),hn,Hd m⟩)]
  ·let⟨n,hn⟩:=h.pa w M m
   cbv
  ·have:=h.ln;rw[aiP,I,al8,Nat.one_mul];ext
  cbv
def xu (T:Txt K mg A):yd K A.bD:=⟨T.G5,T.G6,T.G7,T.G8,T.G9,T.Hc⟩
noncomputable def zG (n:Nat)(l:Zs):List (Str×V):=[("made",.int n),("rows",↑l)]
inductive OO (C:Zs) (vs:Zb) (H:Hp) (Q:VK) (E_:XK):Prop
 |mk (x l:Zs) (n:Nat) (xs:Zb):vs=[↑x,.int n,↑l]->H x\XO x C none true->n<100000->H l\.lst xs->⇑xs<=1000000->(∀d l2 H',H d=none->H l2=none->d≠x->(∀b o,b≠x->H b\o->H' b\o)->H' x\XO x C (some d) true->H' d\XD d (zG n l2)->H' l2\.lst xs->l2≠x->Q .non H')->OO C vs H Q E_
def qU (T:Txt K mg A):T.dW.Ok mg P w base 1 (OO A.bD):=by
 rwa[T.dW.on qR (λL Y C s H X Q E Z h=>?_)]
 ·let⟨x,l,n,N,rfl,u,hn,F,I,k⟩:=h
  refine⟨_,{aZ (L6 (Fd T.wU T.dW.m.at_) ⟨T.abq,T.abr,T.abt⟩ rfl T.Ea #[0,Ie (ER (PH (pv 1)) (ER (dS (l:=[32,114,111,111,109,115,32,119,101,114,101,32,109,97,100,101,44,32,97,110,100,32,116,104,101,114,101,32,97,114,101,32,103,97,112,115,32,108,101,102,116]) rfl) Sl)) rfl] (by decide) rfl rfl rfl),E8 (pv 0) (pv 1) rfl,E8 (pv 0) (fK (AQ) rfl T.jc aj6 #[2]) rfl},?_⟩
  rwa[eQ ?_];intro S J;let U:=K8 (n:=(n:Int)) ∅ ∅;erw[1212,(n:Int),2312,by show 0+ _<=1000000;ext,1255,x,none,12,u]
  ·rw[ali];let e:∀m:Nat,m<=100->⇑(A0 (n:Int))+ m<=1000000:=λm O=>∅
   rwa[e _ ⋯]
  ·rw[ali,aiP];let e:∀m:Nat,m<=100->⇑(A0 (n:Int))+ m<=1000000:=λm O=>∅
   rwa[e _ ⋯]
  rwa[⟨1212,x,A.bD,none,true,2,u,xu T,T.yA,λd p=>?_⟩];let a:d≠x:=(aw u p).symm;let c:upd (upd H d (XD d [("made",V.int n)])) x (XO x A.bD (some d) true) x\(XO x A.bD (some d) true):=aj;let g:upd (upd H d (XD d [("made",V.int n)])) x (XO x A.bD (some d) true) d\(XD d [("made",V.int n)]):=by rw[ak a,aj]
  let B:∀b o,b≠x->H b\o->upd (upd H d (XD d [("made",V.int n)])) x (XO x A.bD (some d) true) b\o:=λb o v e=>by rw[ak v,ak (aw e p)];rwa[e]
  let v:∀b,upd (upd H d (XD d [("made",V.int n)])) x (XO x A.bD (some d) true) b=none->H b=none:=λb e=>by
   cases q:b=x
   ·cbv
   ·rw[ak q]at e;cases G:b=d
    ·rw[G];rwa[p]
    ·rw[ak G]at e;rwa[e]
  change upd (upd H d (XD d [("made",V.int n)])) x (XO x A.bD (some d) true)=M at c g B v ⊢;let D:l≠x:=cf F u (by intro z;cases z);rwa[⟨12,l,N,2,.inl (aD.of (B _ _ D F)),λi f=>?_⟩];generalize R:upd M i _=H2;let⟨t,y⟩:=dP R f;let j:i≠x:=(aw c f).symm;let r:i≠d:=(aw g f).symm;erw[12,x,A.bD,some d,true,2,t^c,xu T,T.Fh,_,a,t^g,by show 1<1000;decide];rw[show bR "rows" (V.ref i) [("made",V.int n)]=zG n i from dU (by kernel_rfl)];rwa[k d i _ p (v _ f) a (λb o q e=>?_) ?_ aj ?_ j]
  ·rw[ak (aw e p)];rwa[t^B b o q e]
  ·rw[ak a.symm];rwa[t^c]
  ·rw[ak r];rwa[y]
inductive Fl (rs ps:Za3) (L w lim:Nat):RS->Prop
 |start {S:RS}:Tr (rs++ps) ⇑rs (RS.new L (bJ (2* L))) S->Gs rs ps S->Fl rs ps L w lim S
 |next {S S':RS} {c:Nat} {z:Int}:Fl rs ps L w lim S->S.q<lim->kQ w S L c z->Tr (rs++ps) ⇑rs (S.make c z (bJ (2* L))) S'->Gs rs ps S'->Fl rs ps L w lim S'
def Kj (L:Nat)(u:Zg):Prop:=⇑u<=1000/\∀z∈u,z≠0/\z.natAbs<=L
def sI (d:n<=200){u:Zg}(h:Kj n u):⇑u<=1000/\∀z∈u,(-1000<=z/\z<=1000)/\z∈bJ (2* n)/\-z∈bJ (2* n):=by
 rwa[⟨h.1,λz c=>?_⟩];let⟨b,a⟩:=h.2 z c;rwa[3,iV.mpr ⟨b,a⟩,iV.mpr ⟨33⟩]
def sJ (h:S.aY[n]?\n):S.ax n=n:=by unfold RS.ax;rw[aiT,h];rfl
def Fl.ys {rs a:Za3}{w:Nat}(h:Fl rs a n w m S)(b:∀u∈rs++a,∀z∈u,z∈bJ (2* n)/\-z∈bJ (2* n)):∃R,YS S n (bJ (2* n)) R:=by
 induction h with
 |start t _=>
  let⟨R,y,_⟩:=YS.new.tr t b;rwa[R,y]
 |next _ _ l t _ i=>
  let⟨R,y⟩:=i;let⟨f,d,c,e⟩:=l.1;let⟨k,o⟩:=iV.mp c;let⟨j,g,_⟩:=(y.make f (sJ d) e c (iV.mpr ⟨33⟩)).tr t b;rwa[j,g]
def _root_.Lake.L2.YS.gl (y:YS S n (bJ (2* n)) R)(a:S.q<=100000)(d:n<=200):GL S n:=⟨y.g.wf,a,d,λc hc b=>y.gi.fin y.g (Js _) hc (sJ b)⟩
def Kp.at {pos:Pos}(k:Kp a H I)(t:du a pos x H){b:Zs}{u:HO}(e:H b\u)(n:∀c,u≠.fI c):I b\u:=k b u (λz=>by
 rcases t with w|⟨_,_,_,_,w,_⟩
 ·cbv
 cbv) e
def OQ (S:RS)(L w:Nat)(H:Hp)(v:V):Prop:=(v=.non/\∀c z,¬ip S L c z)\/∃(c:Nat) (z:Int) (t:Zs),v=↑t/\kQ w S L c z/\H t\(.tup [.int (c:Int),.int z])
def xA (b c a:Zs)(H:Hp)(o:Zs)(w:Nat):Prop:=∃d,(w=0/\H o\.ins b d [])\/(w=1/\H o\.ins c d [])\/(w=2/\H o\.ins a d [])
def xA.keep {w:Nat}(h:xA a b c H d w)(k:∀C e,H d\.ins C e []->I d\.ins C e []):xA a b c I d w:=by
 obtain⟨e,h|h|h⟩:=h
 ·rwa[e,.inl ⟨h.1,k^h.2⟩]
 ·rwa[e,.inr (.inl ⟨h.1,k^h.2⟩)]
 ·rwa[e,.inr (.inr ⟨h.1,k^h.2⟩)]
def Df {e r:Zs}{w:Nat}{Q:VK}{E:XK}(p:H d\.ins c e [])(h:ay a H r S O)(g:GL S n)(o:du b eG iJ H)(k:∀v i,Kp b H i->du b eG iJ i->OQ S n w i v->Q v i):j9 a b c w [↑d,↑r] H Q E:=
 ⟨d,e,r,S,O,n,2,p,h,g,o,λs i j l=>k _ i j l (.inl ⟨2,s⟩),λf z q t i j l m=>k _ i j l (.inr ⟨f,z,t,2,q,m⟩)⟩
def QQ {w:Nat}{Q:VK}{E:XK}(f:D[5]?\some ↑a)(i:D[6]?\some ↑b)(l:xA A.c9 A.bQ A.cO H a w)(h:ay A.aB H b S O)(g:GL S n)(j:du A.eR eG iJ H)(k:∀v c,Kp A.eR H c->du A.eR eG iJ c->OQ S n w c v->Q v c):
 By (kJ A.c9 "gap" (j9 A.aB A.eR A.c9 0) [] E (jo 5) (jg (jo 6) jW)) (By (kJ A.bQ "gap" (j9 A.aB A.eR A.bQ 1) [] E (jo 5) (jg (jo 6) jW)) (kJ A.cO "gap" (j9 A.aB A.eR A.cO 2) [] E (jo 5) (jg (jo 6) jW))) D H Q:=by
 obtain⟨d,⟨rfl,e⟩|⟨rfl,e⟩|⟨rfl,e⟩⟩:=l
 ·rwa[.inl ⟨_,f,a,d,12,e,21,i,Df e h g j k⟩]
 ·rwa[.inr (.inl ⟨_,f,a,d,12,e,21,i,Df e h g j k⟩)]
 ·rwa[.inr (.inr ⟨_,f,a,d,12,e,21,i,Df e h g j k⟩)]
def mq (w:Nat):Zh:=if w=0 then Vb else if w=1 then M3 else Vc
def kS (H:Hp)(l:Zs)(S:RS):Prop:=∃a:Zn,H l\.lst (a.map V.ref)/\Each (λp d=>bS H 4 ↑p d) a S.rows/\⇑S.rows<=1000000
inductive Kk (Pt cN cT:Zs) (vs:Zb) (H:Hp) (Q:VK) (E:XK):Prop
 |mk (ru pa:Zs) (L lim w:Nat) (rs ps:Za3):vs=[.int L,↑ru,↑pa,.int lim,.str (tx (mq w))]->w<3->1<=L->L<=40->1<=lim->lim<=300->bW H ru rs->bW H pa ps->(∀u∈rs++ps,Kj L u)->lim* ⇑rs+ ⇑ps<=700->⇑rs<=400->⇑ps<=400->du Pt eG iJ H->(∀t tb pp S N H',Kp Pt H H'->du Pt eG iJ H'->Fl rs ps L w lim S->(∀c z,¬ip S L c z)->H' t\.tup [↑tb,↑pp]->TabAt H' tb (M24.uN (bz S) (2* S.L) (M24.bH (bz S) (2* S.L) 0 N))->⇑(M24.bH (bz S) (2* S.L) 0 N)=N->kS H' pp S->Q ↑t H')->(∀d pp S H',Kp Pt H H'->du Pt eG iJ H'->Fl rs ps L w lim S->S.q=lim->(∃c z,kQ w S L c z)->H' d\XD d (zG S.q pp)->kS H' pp S->E ↑cT (some d) H')->Kk Pt cN cT vs H Q E
section
variable {CR CG CC:Zs}{H H':Hp}{x r:Zs}{q:KA}{S:RS}{a:RA}{R:Za2}{ks:Zg}{B:Nat}{rs ps:Za3}{fp:List (Zg×Nat)}{bs:List (Nat×Zg×Nat)}{gs:Zf}{ag:Zh}{W:bN}{O:Zs->Prop}
def CS.keep (h:CS CR CG CC H x r q S a R ks B rs ps fp bs gs ag W O)(f:∀b o,H b\o->(∀ps,o≠.fI ps)->H' b\o):CS CR CG CC H' x r q S a R ks B rs ps fp bs gs ag W O:=
 ⟨h.c.keep (λb o c e=>f b o e (by let⟨i,g,n⟩:=h.c.th b c;cbv)) (λb d e=>f b _ e (by cbv)),f _ _ h.q (by cbv),h.rm.keep (λb o c e=>f b o e (by
  intro ps z;rw[z]at e;rwa[qw h.rm.at_ e (by cbv) (by cbv) (by cbv) c])) (λb d e=>f b _ e (by cbv)),h.dj,h.ci,h.bo,h.pl,h.br,h.ra,h.pa,h.ln,h.wb⟩
def CS.tab (h:CS CR CG CC H x r q S a R ks B rs ps fp bs gs ag W O){d:Zs}{pos:Pos}{c:Str}(t:du d pos c H)(f:∀b o,¬O b->¬a.own r b->H b\o->H' b\o):du d pos c H':=by
 rwa[t.keep λb u e k=>f b u (λz=>?_) (λz=>?_) e]
 ·let⟨o,g,n⟩:=h.c.th b z
  cbv
 ·rcases k with ⟨ps,rfl⟩|⟨o,v,rfl⟩
  ·rwa[qw h.rm.at_ e (by cbv) (by cbv) (by cbv) z]
  ·rwa[qw h.rm.at_ e (by cbv) (by cbv) (by cbv) z]
end
structure xB (A:qL) (H0 H:Hp) (x r:Zs) (L lim w:Nat) (rs ps:Za3) (S:RS):Prop where
 k:Kp A.eR H0 H
 t:du A.eR eG iJ H
 cs:∃q a R B fp bs gs W O,CS A.aB A.aT A.aH H x r q S a R (bJ (2* L)) B rs ps fp bs gs [] W O/\(∀b,a.own r b\/O b->H0 b=none)/\B<=702* S.q
 f:Fl rs ps L w lim S
 m:S.q<=lim
 l:S.L=L
def xB.kp {H0:Hp}{x:Zs}{w:Nat}{rs f:Za3}(h:xB A H0 H x a n m w rs f S)(k:Kp A.eR H I)(t:du A.eR eG iJ I):xB A H0 I x a n m w rs f S:=by
 let⟨q,c,R,B,g,bs,gs,W,O,cs,i,j⟩:=h.cs;rwa[h.k.trans k,t,⟨q,c,R,B,g,bs,gs,W,O,cs.keep λb o e d=>k.at h.t e d,i,j⟩,h.f,h.m,h.l]
theorem FH (T:Txt K mg A)(Y:kz mg base):dy P w K mg base (di P w) 11 A.Jf A.Jg ["letters","rules","part","limit","order"] (Kk A.eR A.om A.bD):=by
 rwa[T.fill.TF my (λvs H Q E h=>?_) (λcC AA outer s H vs Q E M h=>?_)]
 ·let⟨ru,pa,L,i,I,rs,f,rfl,_⟩:=h;rfl
 ·let⟨ru,pa,L,i,I,rs,f,rfl,Yn,lU,sv,xm,Bw,xo,zE,aP,C8,oy,nT,hT,kq,ke⟩:=h
  erw[_,{bI 5 my.nd (xO (Ek T) (M.mono ⋯) rfl T.qg.m T.qg.F.kp T.qg.b .nil WY #[4]),bI 6 my.nd (xP (uX T) (tK T) (M.mono ⋯) rfl T.QD T.gF.b .nil gC #[0]),bI 7 my.nd (xP (qp T) (qT T) (M.mono ⋯) rfl T.Jk T.fi.b .nil gC #[6,1,2]),aZ (vY (pv 7) (aM T) T.iR (lW T) M),bI 8 my.nd (vS (kl (pv 5) (CD T) T.jN.m (sH T) (M.mono ⋯) T.jN.b .nil gC #[6]) (vS (kl (pv 5) (sk T) T.hH.m (nj T Y) (M.mono ⋯) T.hH.b .nil gC #[6]) (kl (pv 5) (zz T) T.iS.m (qO T) (M.mono ⋯) T.iS.b .nil gC #[6]))),bG (fU PassesOwn.leaving (aO oM (pv 8) cJ (aV _))
    {bC (aO vA (6<<<1) (pv 3) (aV _))
     {I9 (E:=E) (qU T) (M.mono ⋯) T.dW.b rfl rfl T.zy (Fd T.wU T.dW.m.at_) T.dW.m.fn T.G4 #[6<<<1,vY (pv 6) (aJ T) T.kP (pJ T) M] lvD rfl (by decide) (by decide) rfl rfl}
     bj,aZ (pm (pv 7) (aM T) T.m4 (xt T) M #[8&&&ao,8&&&ao]),bI 8 my.nd (vS (kl (pv 5) (CD T) T.jN.m (sH T) (M.mono ⋯) T.jN.b .nil gC #[6]) (vS (kl (pv 5) (sk T) T.hH.m (nj T Y) (M.mono ⋯) T.hH.b .nil gC #[6]) (kl (pv 5) (zz T) T.iS.m (qO T) (M.mono ⋯) T.iS.b .nil gC #[6])))}),a9 (bO #[pc T.numbered (El T) M #[6],vY (pv 6) (aJ T) T.kP (pJ T) M])}]
  rwa[pZ ?_];intro uj lV kh iY ft fQ;let OS:∀u∈rs++f,∀z∈u,z∈bJ (2* L)/\-z∈bJ (2* L):=λu hu z hz=>((sI ∅ (aP u hu)).2 z hz).2
  suffices main:∀o J,av H J->xA A.c9 A.bQ A.cO J o I->fQ { nx:=λ_ H'=>Q .non H',rt:=Q } #v[.int L,↑ru,↑pa,.int i,.str (tx (mq I)),↑o,none,none,none] J by
   let sm:∀{C x d:Zs},H x=none->H d=none->d≠x->av H (upd (upd H d (.own x)) x (.ins C d [])):=λ{C x d} nx nd G=>(av.upd nd).trans (av.upd ([ak G.symm]▸nx))
   rwa[⟨12,mq I,25,λe x d nx nd G=>main x _ (sm nx nd G) ⟨d,.inl ⟨5,aj⟩⟩,λe x d nx nd G=>main x _ (sm nx nd G) ⟨d,.inr (.inl ⟨5,aj⟩)⟩,λe x d nx nd G=>main x _ (sm nx nd G) ⟨d,.inr (.inr ⟨5,aj⟩)⟩⟩]
   all_goals rcases (show I=0\/I=1\/I=2 by omega) with rfl|rfl|rfl
   all_goals first|rfl|decide|rwa[absurd e (by decide)]
  intro o J s1 ho;let Y2:=hT.same s1;replace xo:=xo.same s1;replace zE:=zE.same s1;rwa[⟨12,λr dx nx Z G=>⟨r,dx,L,2,aj,lU,3,λra H2 k2 h2 Vk=>⟨25⟩⟩⟩];let⟨s2,Vl⟩:=QO (C:=A.aB) nx Z G k2 Vk;clear k2 Vk nx Z G;rwa[⟨121212,λx dx nx Z G=>?_⟩];let s0:av H2 (upd (upd H2 dx (.own x)) x (.ins A.aH dx [])):=(av.upd Z).trans (av.upd ([ak G.symm]▸nx));let OU:upd (upd H2 dx (.own x)) x (.ins A.aH dx []) x\(.ins A.aH dx []):=aj;let Fz:¬ra.own r x:=λz=>by let⟨o,e⟩:=h2.there z;cbv
  let n0:∀b,upd (upd H2 dx (.own x)) x (.ins A.aH dx []) b=none->H2 b=none:=λb z=>same_none s0 z
  change upd (upd H2 dx (.own x)) x (.ins A.aH dx [])=H3 at s0 OU n0 ⊢;let gd:=Bn L (bJ (2* L))
  let fit:∀D,yE rs D->1* ⇑D+ ⇑f<=700:=λD h=>by
   have:=akX ⇑rs xm;have:=C9 h;ext
  let sl:0+ (RS.new L (bJ (2* L))).stand<=1:=by rw[Nat.zero_add];rwa[C3 (RS.new L (bJ (2* L)))]
  let y0:=YS.new (L:=L) (ks:=bJ (2* L));let xC:i6 A.aB H2 r (RS.new L (bJ (2* L))) ra (λ_ _ _=>False) (bJ (2* L)) 1:=⟨h2,gd,y0.w,y0.k,by show 1<=2000;decide,by rw[tu];ext,sl,ai0 sl ⋯⟩;rwa[⟨x,dx,r,ru,pa,RS.new L (bJ (2* L)),ra,λ_ _ _=>False,rs,f,2,OU,h2.same s0,gd,Nat.one_pos,by show 1<=2000;decide,Fz,(xo.same s2).same s0,(zE.same s2).same s0,oy,nT,λu hu=>⟨(sI ∅ (aP u hu)).1,λz hz=>((sI ∅ (aP u hu)).2 z hz).1⟩,λD h=>by have:=fit D h;show 1* ⇑D+ ⇑f<50000;ext,λq gs ag D O H4 f4 c4 q4 o4 Fw Y3 hp=>⟨25⟩⟩];let hf:=fit D hp;let sd:⇑(dv (RS.new L (bJ (2* L))))<=1:=ai0 (akS _ _) ([ajK]▸aiS _);let YM:⇑(dv (RS.new L (bJ (2* L))))* ⇑D<=1* ⇑D:=akX _ sd;let l1:=mn D (dv (RS.new L (bJ (2* L))));let l2:=sE f ⇑rs ⇑f;let Y:⇑(dM D (dv (RS.new L (bJ (2* L))))++fT f ⇑rs ⇑f)<=1* ⇑D+ ⇑f:=by rw[aiP];ext
  let Y4:live gs<=⇑(dM D (dv (RS.new L (bJ (2* L))))++fT f ⇑rs ⇑f):=by rw[<-Fw.len];rwa[List.countP_le_length]
  let r4:i6 A.aB H4 r (RS.new L (bJ (2* L))) ra (λ_ _ _=>False) (bJ (2* L)) 1:=(xC.same s0).keep (λb o X e=>f4 b o e (λz=>Fz (by rw[<-z];rwa[X]))) (λb xs e=>f4 b _ e (cf e OU (by cbv)))
  let dj:∀b,ra.own r b->¬O b:=λb z y=>by
   let⟨o,e⟩:=(h2.same s0).there z
   cbv
  let bin:∀b∈dM D (dv (RS.new L (bJ (2* L))))++fT f ⇑rs ⇑f,((rs++f)[b.1]?\b.2.1/\(b.1<⇑rs\/b.2.2=0))/\b.2.2<1:=λb X=>by
   rcases QK X with ⟨p,BE,e1,e2,e3⟩|⟨j,u,hj,rfl⟩
   ·let h1:=hp.a p BE;let h2:=(aiO.mp h1).1;rw[e1,e2,aiZ h2];rwa[⟨h1,.inl h2⟩,ajI.mp (aky.mp e3).1]
   ·rwa[⟨by show (rs++f)[⇑rs+ j]?=_;rw[ai1 ∅,Nat.add_sub_cancel_left];rwa[hj],.inr rfl⟩,Nat.one_pos]
  let U:C5 (rs++f) ⇑rs (bJ (2* L)) (dM D (dv (RS.new L (bJ (2* L))))++fT f ⇑rs ⇑f):=
   ⟨λb X=>(bin b X).1.1,λb X=>(bin b X).1.2,λb X=>(aP _ (aiN (bin b X).1.1)).1,λb X z hz=>OS _ (aiN (bin b X).1.1) z hz,3⟩
  let Vm:∀w∈rs,w≠[]->∃n,(n,w,0)∈dM D (dv (RS.new L (bJ (2* L))))++fT f ⇑rs ⇑f:=λw hw tX=>by
   let⟨n,hn⟩:=hp.b w hw;let hcs:0∈dv (RS.new L (bJ (2* L))):=aky.mpr ⟨ajI.mpr Nat.one_pos,aje rfl⟩;rwa[n,ajh _ (akr.mpr ⟨(0),hcs,akr.mpr ⟨(w,n),hn,Hd tX⟩⟩)]
  let Vn:∀w∈f,w≠[]->∃n,(n,w,0)∈dM D (dv (RS.new L (bJ (2* L))))++fT f ⇑rs ⇑f:=λw hw tX=>by
   let⟨j,hj⟩:=ajG hw;rwa[⟨⇑rs+ j,aiV _ (akr.mpr ⟨j,ajI.mpr (aiO.mp hj).1,5⟩)⟩];rw[aiT,hj];rwa[Hd tX]
  change dM D (dv (RS.new L (bJ (2* L))))++fT f ⇑rs ⇑f=bs at Fw Y3 Y Y4 bin U Vm Vn;let hmul:live gs* (2* ⇑bs+ 1)<=700* 1401:=aly ∅ ∅;clear l1 l2 YM sd;rwa[⟨12,x,q.dx,12,c4.ins,fA ⋯,x,r,q,RS.new L (bJ (2* L)),ra,λ_ _ _=>False,bJ (2* L),(1),rs++f,⇑rs,bs,gs,ag,sF,D,O,2,c4,r4,3,dj,Fw,U,3,λS' a' R' je W' O' B' H5 f5 c5 r5 ow oo Y5 Kb rr em eL tr hb5=>?_⟩];let OV:S'.q=1:=em
  let IZ:∀b o,J b\o->H5 b\o:=λb o e=>by
   let e2:=s2^e
   let nO:¬O b:=λy=>by
    cbv
   rwa[f5 b o nO (λy=>by rw[Vl b y]at e;ext e) (f4 b o (s0^e2) (aw e2 nx))]
  let U5:∀b,a'.own r b\/O' b->J b=none:=λb y=>by
   let nn:ra.own r b\/O b\/H4 b=none->J b=none:=λy=>by
    rcases y with y|y|y
    ·rwa[Vl b y]
    ·cases e:J b with
     |none=>rfl
     |some u=>
      let e2:=s2^e
      cbv
    ·cases e:J b with
     |none=>rfl
     |some u=>
      let e2:=s2^e;rw[f4 b u (s0^e2) (aw e2 nx)]at y;ext y
   cbv
  let Vo:CS A.aB A.aT A.aH H5 x r q S' a' R' (bJ (2* L)) B' rs f D bs je [] W' O':=by
   rwa[⟨c5,f5 _ _ (c4.JL q4) (yF r4.at_ q4) q4,r5,Y5,Kb,U,hp,λb X=>[OV]▸(bin b X).2,λw hw tX c hc _=>?_,Vn,[OV]▸Y,λu hu=>sI ∅ (aP u hu)⟩];have:c=0:=∅
   subst this;rwa[Vm w hw tX]
  let Y6:xB A J H5 x r L i I rs f S':=⟨λb u _ e=>IZ b u e,Y2.same IZ,⟨q,a',R',B',D,bs,je,W',O',Vo,U5,by rw[OV];ext⟩,.start tr (Vo.Vi ∅),3,eL.trans rfl⟩;clear Vo U5 IZ hmul Vn Vm U bin dj r4 Y4 Y hf xC y0 sl c5 r5 ow oo Y5 Kb rr f5 hb5 OV em eL tr c4 q4 o4 Fw Y3 hp f4 OU Fz n0 s0 gd fit
  let look:∀{H5:Hp} {S:RS} {σ:St} {Qv:VK},xB A J H5 x r L i I rs f S->σ[5]?\some ↑o->σ[6]?\some ↑r->(∀v H6,xB A J H6 x r L i I rs f S->OQ S L I H6 v->Qv v H6)->(By (kJ A.c9 "gap" (j9 A.aB A.eR A.c9 0) [] (λ_ _ _=>False) (jo 5) (jg (jo 6) jW)) (By (kJ A.bQ "gap" (j9 A.aB A.eR A.bQ 1) [] (λ_ _ _=>False) (jo 5) (jg (jo 6) jW)) (kJ A.cO "gap" (j9 A.aB A.eR A.cO 2) [] (λ_ _ _=>False) (jo 5) (jg (jo 6) jW)))) σ H5 Qv:=λ{H5 S σ Qv} F e5 e6 kk=>by
   let⟨Ry,y⟩:=F.f.ys OS;let⟨q,a,R,B,D,bs,gs,W,O,cs,_⟩:=F.cs;rwa[QQ e5 e6 (ho.keep λC d e=>F.k.at Y2 e (by cbv)) cs.rm.at_ (y.gl (by have:=F.m;omega) ∅) F.t λv H6 k6 t6 an=>kk v H6 (F.kp k6 t6) an]
  rwa[look Y6 rfl rfl λv H6 Y7 an=>?_]
  clear Y6;erw[λ e8 H'=>∃S,e8=#v[.int L,↑ru,↑pa,.int i,.str (tx (mq I)),↑o,↑r,↑x,some .non]/\xB A J H' x r L i I rs f S/\∀c z,¬ip S L c z,5]
  ·erw[λm σ H'=>∃S v,m=i+ 1 - S.q/\σ=#v[.int L,↑ru,↑pa,.int i,.str (tx (mq I)),↑o,↑r,↑x,some v]/\xB A J H' x r L i I rs f S/\OQ S L I H' v,⟨_,S',v,22,Y7,an⟩];clear Y7 an;rintro m σ H7 ⟨S,v,rfl,rfl,F,an⟩;erw[12212];rcases an with ⟨rfl,hn⟩|⟨c,z,t,rfl,hl,ht⟩
   ·rwa[ic rfl ⟨S,rfl,F,hn⟩]
   rwa[bK (λ_=>?_) (λh=>absurd rfl h)];erw[_,λ e8 H' h=>h];let⟨Ry,y⟩:=F.f.ys OS;let⟨q,a,R,B,D,bs,gs,W,O,cs,n0,hB⟩:=F.cs;let hm:=F.m;let eL:=F.l;let rb:=cs.rm.rb;let wr:=y.wr;let hBm:B<=702* 300:=ai0 hB (Nat.mul_le_mul_left _ ∅);erw[12,r,_,a.dx,112,cs.rm.at_.ins,aJ T,T.pF,sW^_,12112212];rwa[bK (λh=>?_) (λh=>?_)]
   ·let h:(i:Int)<=(S.q:Int):=aja h;rwa[⟨12,r,_,a.dx,112,cs.rm.at_.ins,aJ T,T.pF,sW^_,12,r,a.dx,12,cs.rm.at_.ins,cV _ _ _ ⋯,r,S,a,2,cs.rm.at_,3,λp d hd e=>(y.d d hd).low e,λl qs H8 s8 nl Kl BJ=>?_⟩];intro xx Y8;let s9:=av.upd (o:=XO xx A.bD none true) Y8;let eln:⇑(qs.map V.ref)<=1000000:=by rw[aiQ,BJ.1];ext
    rwa[⟨xx,l,S.q,qs.map V.ref,2,aj,3,s9^Kl,eln,λd l2 H9 nd Fq Z f9 hx9 hd9 FI nlx=>⟨2,some d,hx9,5⟩⟩]
    let Vp:av H8 (del H9 xx):=λb u e=>by
     let nb:=aw e Y8;rw[rF nb];rwa[f9 b u nb (s9^e)]
    rwa[ke d l2 S _ (λb u nb e=>Vp^(s8^(F.k b u nb (s1^e)))) ((F.t.same s8).same Vp) F.f ∅ ⟨c,z,hl⟩ ([rF Z]▸hd9) ⟨qs,[rF nlx]▸FI,BJ.imp (λp d _ _ e=>e.same Vp),3⟩]
   let h:S.q<i:=Nat.lt_of_not_le λw=>h (aje ∅)
   let⟨g1,g2,g3,g4⟩:=hl.1;let⟨z1,z2⟩:=iV.mp g3;let Oz:⇑D<=⇑rs:=C9 cs.pl;let Ou:(S.q+ 1)* ⇑D<=i* ⇑rs:=aly h Oz;rw[<-eL]at cs;rwa[⟨12,x,q.dx,12,cs.c.ins,fA ⋯,12,t,11122,bB.of ht,212,t,11122,bB.of ht,2,x,r,q,S,a,R,B,rs,f,D,bs,gs,W,O,c,z,2,cs,33,g1,sJ g2,g4,[eL]▸g3,iV.mpr ⟨33⟩,3333,λS2 a2 R2 bs2 gs2 W2 O2 B2 H8 f8 Vq ow8 Y9 em8 el8 hb8=>?_⟩]
   let fl8:xB A J H8 x r L i I rs f S2:=by
    rw[eL]at Vq Y9;rwa[⟨λb u nb e=>f8 b u (λw=>by rw[n0 b (.inr w)]at e;ext e) (λw=>by rw[n0 b (.inl w)]at e;ext e) (F.k b u nb e),cs.tab F.t f8,⟨q,a2,R2,B2,D,bs2,gs2,W2,O2,Vq,λb w=>?_,by rw[em8];ext⟩,.next F.f h hl Y9 (Vq.Vi ∅),3,el8.trans eL⟩];rcases ow8 b w with v|v|v
    ·rwa[n0 b (.inl v)]
    ·rwa[n0 b (.inr v)]
    ·cases e:J b with
     |none=>rfl
     |some u=>
      let nP:b≠A.eR:=λw=>by
       rcases F.t with p|⟨_,_,_,_,p,_⟩
       ·rw[w,p]at v;ext v
       cbv
      rw[F.k b u nP e]at v;ext v
   rwa[look fl8 rfl rfl λv H9 fl9 an=>⟨i+ 1 - S2.q,3,S2,v,22,fl9,an⟩]
  rintro σ H7 ⟨S,rfl,F,hn⟩;let⟨Ry,y⟩:=F.f.ys OS;let⟨q,a,R,B,D,bs,gs,W,O,cs,n0,hB⟩:=F.cs;let hm:=F.m;let eL:=F.l;let rb:=cs.rm.rb;let g:=y.g;let hBm:B<=702* 300:=ai0 hB (Nat.mul_le_mul_left _ ∅);rwa[⟨12,r,S,a,λc=>c<S.q/\S.ax c=c,2,cs.rm.at_,333,g.wf.w,⟨y.m,by have:=(g.el 0 y.m).1;ext⟩,λc hc=>⟨hc.1,λk hk=>?_⟩,λtb N H8 s8 nt h8 hN=>?_⟩]
  ·cases e:S.by c (M12.st k) with
   |some d=>
    let⟨_,d2,_,d4⟩:=g.st _ _ _ e;rwa[d,2,d2,d4]
   |none=>
    rw[eL]at hk;rwa[absurd ⟨hc.1,5,aiN (su hk),e⟩ (hn c _)];rw[sx ([g.wf.e]▸hc.1),hc.2]
  rwa[⟨12,r,a.dx,12,(cs.rm.at_.same s8).ins,cV _ _ _ ⋯,r,S,a,2,cs.rm.at_.same s8,3,λp d hd e=>(y.d d hd).low e,λpp qs H9 s9 np hp9 BJ=>?_⟩];rwa[⟨Za4 2,λt nt=>?_⟩];let sA:=av.upd (o:=.tup [↑tb,↑pp]) nt;rwa[kq t tb pp S N _ (λb u nb e=>sA^(s9^(s8^(F.k b u nb (s1^e))))) (((F.t.same s8).same s9).same sA) F.f hn aj ((h8.same s9).same sA) hN ⟨qs,sA^hp9,BJ.imp (λp d _ _ e=>e.same sA),3⟩]
theorem words_of {H:Hp}{P:Zg->Prop}:∀{ps:Zn},(∀(i:Nat) (p:Zs),ps[i]?\p->∃w,H p\.tup (aq w)/\P w)->∃a,b6 H ps a/\∀w∈a,P w
 |[],_=>⟨[],⟨2,(λi p w e=>by simp at e)⟩,(λw g=>by ext g)⟩
 |p::ps,h=>by
  let⟨a,f,k⟩:=words_of (ps:=ps) λi q e=>h (i+ 1) q (by simpa using e)
  let⟨w,j,l⟩:=h 0 p rfl;rwa[⟨w::a,⟨by rw[ajf,ajf,f.1],λi q u c d=>?_⟩,λu b=>?_⟩]
  ·cases i with
   |zero=>ext c;ext d;rwa[j]
   |succ i=>exact f.2 i q u (by simpa using c) (by simpa using d)
  ·rcases ai3.mp b with rfl|b
   ·rwa[l]
   ·rwa[k u b]
def Vr:Sp:=λa H Q _=>∃(z:Int) (L:Nat),a=[.int z,.int L]/\1<=L/\L<=200/\∀s:Int,s≠0->s.natAbs<=L->Q (.int s) H
def sL (T:Txt K mg A):T.oq.Ok P w base 1 Vr:=by
 rwa[T.oq.on CF (λd j a s H g Q E l h=>?_) (len:=by rintro _ _ _ _ ⟨z,L,rfl,_⟩;rfl)]
 ·let⟨z,L,rfl,c,f,k⟩:=h
  erw[_,{bC (aO dm (aL bV (pv 0) ao) ao (aV _))
   {a9 (eU dD (aL cK ao (aL bV (aL dg (pv 0) ao) (pv 1))))}
   bj,a9 (aL cK ao (aL bV (aL dg (pv 0) ao) (pv 1)))}]
  rwa[iC ?_];intro b;let e:∀y:Int,0<=y % (L:Int)/\y % (L:Int)<L:=λy=>⟨akl _ ∅,aj5 _ ∅⟩
  let i:=e (z / 2);rwa[⟨121122,(by show (0:Int)<2;decide),212,bK (λh=>?_) (λh=>?_)⟩]
  ·refine⟨121122,⟨44⟩,121122,(by show (0:Int)<(L:Int);omega),112212,k _ ?_ ?_⟩ <;> ext
  ·refine⟨121122,⟨44⟩,12112231122,k _ ?_ ?_⟩ <;> ext
noncomputable def sM (n:Nat):Zb:=(~~~n).map λi:Nat=>V.int (i:Int)
def nk (n:Nat):⇑(sM n)=n:=by unfold sM;cbv
def FJ (h:i<n):(sM n)[i]?\(V.int (i:Int)):=by
 unfold sM;rw[ai6,alC h];rfl
def QR {x:V}(h:(sM n)[i]?\x):i<n/\x=V.int (i:Int):=by
 let a:i<n:=by
  have:=(aiO.mp h).1;rw[nk]at this;rwa[this]
 rw[FJ a]at h;rwa[a,(Za0 h).symm]
def xD {Q:VK}(g:Nat->Int)(h:n<=1000)(j:∀i:Nat,i<n->∀R:VK,R (.int (g i)) H->r (some (.int (i:Int))::D) H R)(c:∀a,H a=none->Q ↑a (upd H a (.lst (aq ((~~~n).map g))))):qZ r D Q (AB 0 n) H:=by
 rwa[jB (sM n) (λv=>match v with|.int z=>.int (g z.toNat)|v=>v) (λi b=>by rw[nk]at b;rwa[b]) (λi x l b y=>?_) ([nk]▸aiS _) ([nk]▸ai0 h ⋯) (λi x f R k=>?_) (λa d=>?_)]
 ·rw[nk]at b;let⟨o,m⟩:=y;erw[3];rw[FJ b]
  cbv
 ·let⟨b,rfl⟩:=QR f;rwa[j i b R ?_];have:R (V.int (g ((i:Int)).toNat)) H:=k;rw[ajq]at this;rwa[this]
 ·let e:((sM n).map λv=>match v with|.int z=>V.int (g z.toNat)|v=>v)=aq ((~~~n).map g):=by
   unfold sM aq;rw[ajw,ajw];rfl
  rw[e];rwa[c a d]
def vj {a:Za3}(h:b6 H F a){w:Zs}{c:Zb}{o:HO}(b:H w\.lst c):b6 (upd H w o) F a:=h.keep λp d e=>by
 rw[ak (cf e b (by cbv))];rwa[e]
noncomputable def sf (rows:Za3)(x:Nat)(s:Int):Nat:=if 0<s then ((rows.getD (s.natAbs - 1) []).getD x 0).toNat else (rows.getD (s.natAbs - 1) []).findIdx (λz=>z==(x:Int))
inductive yJ (vs:Zb) (H:Hp) (Q:VK) (E_:XK):Prop
 |mk (a wa:Zs) (rows:Za3) (p x:Nat) (w:Zg):vs=[↑a,.int x,↑wa]->TabAt H a rows->(∀r∈rows,M11.Pm p r)->x<p->p<=1000->H wa\.tup (aq w)->M11.ik ⇑rows w->⇑rows<=1000->Q (.int ((w.foldl (sf rows) x:Nat):Int)) H->yJ vs H Q E_
theorem FK:∀{r:Zg} {i:Nat} {x:Int},r.Nodup->r[i]?\x->r.findIdx (λz=>z==x)=i
 |[],i,x,_,h=>by simp at h
 |a::r,0,x,_,h=>by
  let e:a=x:=Za0 h;rw[al9,e];simp
 |a::r,i+ 1,x,c,h=>by
  let b:a≠x:=λz=>(ajr.mp c).1 ([z]▸aiN (l:=r) (i:=i) h)
  rw[al9,show (a==x)=false from ajd.mpr b,FK (ajr.mp c).2 h];rfl
def Dg {rows:Za3}{x:Nat}(h:0<z)(b:rows[z.natAbs - 1]?\l)(a:l[x]?\(n:Int)):sf rows x z=n:=by
 unfold sf;rw[ajg h,aiT,aiT,b,Option.getD_some,a,Option.getD_some];rfl
def Dh {rows:Za3}{x:Nat}(h:¬ 0<z)(b:rows[z.natAbs - 1]?\l)(c:l.Nodup)(a:l[n]?\(x:Int)):sf rows x z=n:=by
 unfold sf;rw[ajb h,aiT,b,Option.getD_some];rwa[FK c a]
def qP (T:Txt K mg A):T.mh.Ok P w base 1 yJ:=by
 rwa[T.mh.on jk (λZ AA J s H vs Q E hr h=>?_)]
 ·let⟨a,X,rows,p,x,w,rfl,N,M,hx,hp,o,G,oy,k⟩:=h
  erw[_,{ck ajc rfl (vw (pv 2)) (cZ 3 jk.nd)
   {bG (bC (aO vz (pv 3) ao (aV _))
    {bI 1 jk.nd ((0|||(aL jT (pv 3) ao))|||1)}
    {bI 1 jk.nd (cG aiX PySem.F.slot_list_index PySem.F.type_list_index qz (0|||(aL jT (eU dD (pv 3)) ao)) #[1])})},a9 (pv 1)}]
  rwa[iC ?_];intro Y;let⟨rs,m,g⟩:=id N;erw[12,X,2,⟨_,bB.of o⟩];rwa[eI (xs:=aq w) (λn u B=>∃v:Zc,u=#v[↑a,.int (((w.take n).foldl (sf rows) x:Nat):Int),↑X,v]/\B=H/\(w.take n).foldl (sf rows) x<p) ⟨none,22,hx⟩ (λn u B _ ζ=>by let⟨_,_,e,_⟩:=ζ;rwa[[e]▸bB.of o]) ?_ ?_]
  ·rintro n y u B hn ⟨v,rfl,rfl,b⟩;let⟨z,rfl,S⟩:=cH hn;let hs:=G z (aiN S)
   let d:(w.take (n+ 1)).foldl (sf rows) x=sf rows ((w.take n).foldl (sf rows) x) z:=by
    rw[akG,S,alr];rfl
   rw[d];change (w.take n).foldl (sf rows) x=pt at b ⊢;let U:z.natAbs - 1<⇑rows:=∅
   let l:rows[z.natAbs - 1]?=some rows[z.natAbs - 1]:=aiL U
   let L:z.natAbs - 1<⇑rs:=by rw[g.1];rwa[U]
   let t:rs[z.natAbs - 1]?=some rs[z.natAbs - 1]:=aiL L
   change rows[z.natAbs - 1]=row at l;change rs[z.natAbs - 1]=f at t;let c:=g.2 _ _ _ t l;let C:=M row (aiN l);rwa[⟨15,λ_ _ h=>h⟩];erw[12112212];rwa[bK (λh=>?_) (λh=>?_)]
   ·let I:(0:Int)<z:=aja h;let⟨j,D,r⟩:=C.at b
    let O:g6 (rs.map V.ref) (z - 1)\↑f:=by
     rw[show z - 1=((z.natAbs - 1:Nat):Int) by ext];rwa[dR t]
    erw[12121122,a,11,↑f,22,aD.of m,O,12,f,11122,aD.of c,cw (bU D)];rw[Dg I l D];rwa[122,r]
   ·let I:¬(0:Int)<z:=λq=>h (aje q)
    let⟨j,D,r⟩:=C.T3 b
    let O:g6 (rs.map V.ref) (-z - 1)\↑f:=by
     rw[show -z - 1=((z.natAbs - 1:Nat):Int) by ext];rwa[dR t]
    rwa[⟨1212121122,a,11,↑f,22,aD.of m,O,.inl ⟨21,aD.of c⟩,12,f,row,(pt:Int),22,c,aiN D,λi R _=>?_⟩];rw[Dh I l C.nd R]
    let F:i<p:=by
     have:=(aiO.mp R).1;rw[C.len]at this;rwa[this]
    rwa[122,F]
  ·rintro u B ⟨v,rfl,rfl,b⟩;rw[aI,akq];rwa[12,k]
def Hf {rows:Za3}{x:Nat}(d:∀r∈rows,M11.Pm n r)(e:x<n)(i:z≠0)(f:z.natAbs<=⇑rows):sf rows x z<n/\sf rows (sf rows x z) (-z)=x:=by
 let g:rows[z.natAbs - 1]?\(rows[z.natAbs - 1]'∅):=aiL ∅
 change rows[z.natAbs - 1]'∅=r at g;let c:=d r (aiN g);cases h:0<z
 ·let⟨j,a,b⟩:=c.at e;rw[Dg h g a];rwa[b,Dh ∅ ([Int.natAbs_neg]▸g) c.nd a]
 ·let⟨j,a,b⟩:=c.T3 e;rw[Dh h g c.nd a];rwa[b,Dg ∅ ([Int.natAbs_neg]▸g) a]
def xE {w:Zg}(h:M11.ik n (z::w)):(z≠0/\z.natAbs<=n)/\M11.ik n w:=⟨h z (ai7 ..),λx a=>h x (ajo _ a)⟩
theorem Hg {rows:Za3}{p:Nat}(a:∀r∈rows,M11.Pm p r):∀{w:Zg} {x:Nat},M11.ik ⇑rows w->x<p->w.foldl (sf rows) x<p
 |[],x,_,c=>c
 |s::w,x,e,c=>by
  let⟨d,b⟩:=xE e;rwa[Hg a (w:=w) b (Hf a c d.1 d.2).1]
theorem Dj {rows:Za3}{p:Nat}(a:∀r∈rows,M11.Pm p r):∀{w:Zg} {x y:Nat},M11.ik ⇑rows w->x<p->y<p->w.foldl (sf rows) x=w.foldl (sf rows) y->x=y
 |[],x,y,_,_,_,e=>e
 |s::w,x,y,d,g,f,e=>by
  let⟨b,c⟩:=xE d;let a1:=Hf a g b.1 b.2;let a2:=Hf a f b.1 b.2;have:=Dj a (w:=w) c a1.1 a2.1 e;rw[<-a1.2,<-a2.2,this]
def Vs:M11.Pm n (fH 0 n):=by
 rwa[⟨oR 0 n,5,λz d=>?_⟩]
 ·unfold fH;rwa[List.Pairwise.map _ (λa b (c:a≠b) (z:(0:Int)+ (a:Int)=0+ (b:Int))=>c ∅) amf]
 ·unfold fH at d;let⟨i,e,rfl⟩:=ajz.mp d;have:=ajI.mp e;ext
def Vt {f:Nat->Nat}{xs:Zh}(h:∀x∈xs,x<n)(a:∀x,x<n->M17.it f 60 x=x):xs.map (M17.it f 60)=xs.map (M17.it f 0):=ajN λx b=>a x (h x b)
noncomputable def gP (xs:Zh):Zg:=xs.map λx:Nat=>(x:Int)
def QS (xs:Zh):⇑(gP xs)=⇑xs:=by unfold gP;rw[aiQ]
theorem FL:∀{a ys:Zh},gP a=gP ys->a=ys
 |[],[],_=>rfl
 |[],_::_,h=>by ext h
 |_::_,[],h=>by ext h
 |x::a,y::ys,h=>by
  let b:(x:Int)::gP a=(y:Int)::gP ys:=h;injection b with d c
  rw[show x=y by ext,FL c]
def Vu (h:(gP B)[i]?\z):∃x,B[i]?\x/\z=(x:Int):=by
 unfold gP at h
 cbv
noncomputable def Av (f:Nat->Nat):V->V
 |.int z=>.int ((f z.toNat:Nat):Int)
 |v=>v
def zH (f:Nat->Nat)(xs:Zh):(aq (gP xs)).map (Av f)=aq (gP (xs.map f)):=by
 unfold aq gP;rw[ajw,ajw,ajw,ajw];rwa[ajN λx _=>?_]
 show V.int ((f ((x:Int)).toNat:Nat):Int)=V.int ((f x:Nat):Int);rw[ajq]
def zI {rows:Za3}(h:dw H F rows)(b:H a\.lst (aq l)):dw H (F++[a]) (rows++[l]):=h.snoc b
inductive FN (vs:Zb) (H:Hp) (Q:VK) (E_:XK):Prop
 |mk (z:Int) (m:Nat) (b:Bool):vs=[.int z,.int m,.bl b]->1<=m->m<=100->0<=z->(∀l r H',av H H'->H' l\.lst (aq r)->M11.Pm m r->Q ↑l H')->FN vs H Q E_
def Dl (d:n<m)(f:i<m)(h:(z+ (n:Int)) % (m:Int)=(z+ (i:Int)) % (m:Int)):n=i:=by
 let e:=Int.emod_emod_of_dvd (z+ (n:Int)) (Int.dvd_refl (m:Int));let b:(m:Int)∣(z+ (n:Int)) - (z+ (i:Int)):=Int.dvd_of_emod_eq_zero (by rw[Int.sub_emod,h,Int.sub_self];rfl);let⟨q,c⟩:=b
 let a:q=0:=by
  rwa[alx λg=>?_]
  have:(m:Int)<=((m:Int)* q).natAbs:=by
   rw[Int.natAbs_mul];have:1<=q.natAbs:=∅
   have:=Nat.mul_le_mul_left m this;rw[Nat.mul_one]at this;show (m:Int)<=((m* q.natAbs:Nat):Int);ext
  ext
 rw[a,Int.mul_zero]at c;ext
def OW {g:Nat->Int}(f:∀i,i<m->0<=g i/\g i<(m:Int))(k:∀i j,i<m->j<m->g i=g j->i=j):M11.Pm m ((~~~m).map g):=by
 rwa[⟨by cbv,5,λz l=>?_⟩]
 ·rwa[akw.mpr (alL ?_ amf)];intro a b e h d z;rwa[d (k a b (ajI.mp e) (ajI.mp h) z)]
 ·let⟨i,c,rfl⟩:=ajz.mp l;rwa[f i (ajI.mp c)]
def QT (h:l.Perm (fH 0 m)):M11.Pm m l:=by
 let a:M11.Pm m (fH 0 m):=Vs;rwa[by rw[h.length_eq,a.len],h.nodup_iff.mpr a.nd,λz b=>a.rg z (h.mem_iff.mp b)]
theorem erase_cons:∀{s:Zg} {k:Nat} {x:Int},s[k]?\x->(x::s.eraseIdx k).Perm s
 |[],k,x,h=>by simp at h
 |a::s,0,x,h=>by
  let e:a=x:=Za0 h;subst e;rwa[List.Perm.refl _]
 |a::s,k+ 1,x,h=>(List.Perm.swap a x (s.eraseIdx k)).trans ((erase_cons (s:=s) h).cons a)
def Hh {t:Zg}{k:Nat}{x:Int}(h:l[k]?\x):((t++[x])++l.eraseIdx k).Perm (t++l):=by
 rw[ajy];rwa[List.Perm.append_left t (erase_cons h)]
def Xt {k:Nat}(h:k<n):seqIndex? (k:Int) n\k:=(xS (pK h)).1
theorem xF:∀(ns:Zg) (k:Nat),(aq ns).eraseIdx k=aq (ns.eraseIdx k)
 |[],_=>rfl
 |a::ns,0=>rfl
 |a::ns,k+ 1=>by
  show V.int a::(aq ns).eraseIdx k=V.int a::aq (ns.eraseIdx k);rw[xF ns k]
def xG (T:Txt K mg A):T.m3.Ok P w base 1 FN:=by
 rwa[T.m3.on fP (λcC AA outer s H vs Q E hr h=>?_)]
 ·let⟨z,m,b,rfl,hm1,CQ,hz,k⟩:=h;let hu:=ama (eV hr)
  erw[_,{bI 3 fP.nd (aL bV (aL dg (pv 0) ao) (pv 1)),bG (bC (PW.pt (kT (cX (pv 2)) (jA (aO dm (aL bV (pv 0) ao) ao (aV _)))))
    {a9 (iD (fns:=["_law_many","_law_by"]) (ixs:=[1,3]) (cl:=_) rfl (gL rfl T.dX #[1]) (cR [(_,_),(_,_)] rfl ⟨2222222222,True.intro⟩ rfl) (λC s H ex=>(aL bV (aL jT (pv 2) (pv 0)) (pv 1))))}
    bj),bC (cX (pv 2))
    {a9 (iD (fns:=["_law_many","_law_by"]) (ixs:=[1,3]) (cl:=_) rfl (gL rfl T.dX #[1]) (cR [(_,_),(_,_)] rfl ⟨2222222222,True.intro⟩ rfl) (λC s H ex=>(aL bV (aL cK (pv 2) (pv 0)) (pv 1))))}
    bj,bI 4 fP.nd (qy rfl rfl T.jc rfl T.dX #[1]),bI 5 fP.nd (bT ah),bG (fU ajc (aO (EW hu) (pv 4) (bT ah) (aV _))
    {aZ (cG aiX ai4 ai5 bM (pv 5) #[cG aiX PySem.F.slot_list_pop PySem.F.type_list_pop K5 (pv 4) #[aL bV (pv 0) (4<<<0)]]),bI 0 fP.nd (aL dg (pv 0) (aL cK (4<<<0) ao))}),a9 (pv 5)}]
  rwa[pZ ?_];intro uj lV kh iY ft fQ;let b1:=akl (z / 2) (show (m:Int)≠0 by omega);let b2:=aj5 (z / 2) (show (0:Int)<(m:Int) by omega);erw[121122,⟨44⟩,1211223];obtain⟨y,hy⟩:∃y,z / 2 % (m:Int)=y:=⟨12⟩;rw[hy]at b1 b2;simp only[hy];erw[λ p q=>p=#v[.int z,.int m,.bl b,.int y,none,none]/\q=H,5]
  ·erw[1212];rwa[bK (λ_=>?_) (λ_=>cU ⟨22⟩)];erw[121122,(by show (0:Int)<2;decide),212];rwa[bK (λ_=>?_) (λ_=>⟨22⟩)];erw[12,(m:Int),233];rw[ajq];rwa[xD (λi=>(y - (i:Int)) % (m:Int)) ∅ (λi G R hR=>?_) (λD hD=>?_)]
   ·rwa[12121122121122,(by show (0:Int)<(m:Int);omega),hR]
   ·rwa[k D _ _ (av.upd hD) aj (OW (λi G=>⟨akl _ ∅,aj5 _ ∅⟩) λi j G hj e=>?_)]
    let e2:((y - (m:Int)+ 1)+ (((m - 1 - i:Nat)):Int)) % (m:Int)=((y - (m:Int)+ 1)+ (((m - 1 - j:Nat)):Int)) % (m:Int):=by
     rw[show (y - (m:Int)+ 1)+ (((m - 1 - i:Nat)):Int)=y - (i:Int) by ext,show (y - (m:Int)+ 1)+ (((m - 1 - j:Nat)):Int)=y - (j:Int) by ext];rwa[e]
    have:=Dl ∅ ∅ e2;ext
  rintro p q ⟨rfl,rfl⟩;erw[1212];rwa[bK (λ_=>?_) (λ_=>?_)]
  ·erw[12,(m:Int),233];rw[ajq];rwa[xD (λi=>(y+ (i:Int)) % (m:Int)) ∅ (λi G R hR=>?_) (λD hD=>?_)]
   ·rwa[121211221211223,hR]
   ·rwa[k D _ _ (av.upd hD) aj (OW (λi G=>⟨akl _ ∅,aj5 _ ∅⟩) λi j G hj e=>Dl G hj e)]
  rwa[⟨12,m,23,λd X=>?_⟩];let s1:av q (upd q d (.lst (aq (fH 0 m)))):=av.upd X;let h1:upd q d (.lst (aq (fH 0 m))) d\(.lst (aq (fH 0 m))):=aj;change upd q d _=Z at s1 h1 ⊢;rwa[⟨ajj _,λlt t=>?_⟩];let s2:av Z (upd Z lt (.lst [])):=av.upd t;let h2:upd Z lt (.lst []) lt\(.lst (aq [])):=aj;let L:d≠lt:=λe=>by rw[<-e,h1]at t;ext t
  let Vv:q lt=none:=s1.free t;change upd Z lt _=H2 at s2 h2 ⊢;erw[λ p l=>∃(g:Zg) (v0:Zc),p=#v[v0,.int m,.bl b,.int y,↑d,↑lt]/\av q l/\l lt\.lst (aq g)/\g.Perm (fH 0 m),5]
  ·erw[λn σ l=>∃(g a:Zg) (x:Int),n=⇑a/\σ=#v[.int x,.int m,.bl b,.int y,↑d,↑lt]/\av q l/\l lt\.lst (aq g)/\l d\.lst (aq a)/\(g++a).Perm (fH 0 m),⟨_,[],fH 0 m,z,22,s1.trans s2,h2,s2^h1,List.Perm.refl _⟩];rintro n σ l ⟨g,a,x,rfl,rfl,s3,v,hs3,I⟩;let hlen:=I.length_eq;rw[aiP,oR]at hlen;rwa[⟨12,ajj _,λJ he0=>?_⟩];let U:av l (upd l J (.lst [])):=av.upd he0;let h4:upd l J (.lst []) J\(.lst (aq [])):=aj;change upd l J _=Y at U h4 ⊢;let F:=U^v;let u:=U^hs3;erw[d,J,a,[],22,u,h4,12];cases r:a=[]
   ·rwa[ic r ?_];rw[r,ajp]at I;rwa[g,12,s3.trans U,F,I]
   ·let S:0<⇑a:=List.length_pos_iff.mpr r;rwa[bK (λ_=>?_) (λh=>?_)]
    ·erw[_,λ p q h=>h];let⟨f,hkk,B⟩:=fV x (n:=⇑a) S;let hx:a[f]?=some a[f]:=aiL B
     change a[f]=c at hx;let ekk:x % (⇑(aq a):Int)=(f:Int):=by rw[aI];rwa[hkk]
     erw[12,.inl ⟨21,aD.of F⟩,12,.inl ⟨21,aD.of u⟩,1212,d,12,.inl (aD.of u),1122,(by show (0:Int)<(⇑(aq a):Int);rw[aI];omega)];simp only[ekk];erw[d,_,(f:Int),f,.int c,22,u,33,Xt ([aI]▸B),bU hx];rw[xF];let M:upd Y d (.lst (aq (a.eraseIdx f))) lt\(.lst (aq g)):=by rw[ak (ajR L)];rwa[F]
     let O:upd Y d (.lst (aq (a.eraseIdx f))) d\(.lst (aq (a.eraseIdx f))):=aj;let nls:q d=none:=X;let s5:av q (upd Y d (.lst (aq (a.eraseIdx f)))):=λb o e=>by rw[ak (aw e nls)];rwa[U^s3^e]
     change upd Y d _=H5 at M O s5 ⊢;erw[lt,1122,M,5]
     ·rw[aI];rwa[aiW (show ⇑g<=100 by omega) ⋯]
     let Yi:⇑(a.eraseIdx f)=⇑a - 1:=List.length_eraseIdx_of_lt B;let N:upd H5 lt (.lst (aq g++[.int c])) d\(.lst (aq (a.eraseIdx f))):=by rw[ak L];rwa[O]
     erw[1212,d,12,.inl (aD.of N),11221122,⟨by show (0:Int)<(⇑(aq (a.eraseIdx f)):Int)+ 1;ext,by show (⇑(aq (a.eraseIdx f)):Int)+ 1<1073741824;rw[aI];ext⟩];rwa[⟨⇑(a.eraseIdx f),3,g++[c],a.eraseIdx f,122,λb o e=>?_,by rw[aj,ints_app];rfl,N,(Hh hx).trans I⟩];rw[ak (aw e Vv)];rwa[s5^e]
    ·rwa[absurd (by rw[ajx r];rfl) h]
  rintro p l ⟨g,v0,rfl,s3,v,I⟩;rwa[12,k lt g l s3 v (QT I)]
def Km {lt:Zs}{rs:Zn}(h:H a\.lst (aq l))(c:l≠[])(b:H lt\.lst (rs.map V.ref)):a≠lt:=λe=>by
 rw[e,b]at h;injection h with h
 injection h with h
 cases l with
 |nil=>exact c rfl
 |cons z l=>
  cases rs with
  |nil=>ext h
  |cons q rs=>ext h
def QV (p:Nat):fH 0 p=gP (~~~p):=by
 unfold fH gP;exact ajN λi _=>by show (0:Int)+ (i:Int)=(i:Int);ext
inductive Dm (vs:Zb) (H:Hp) (Q:VK) (E_:XK):Prop
 |mk (ta pa wa:Zs) (rows:Za3) (p:Nat) (xs:Zh) (w:Zg):vs=[↑ta,↑pa,↑wa]->TabAt H ta rows->(∀r∈rows,M11.Pm p r)->p<=6->H pa\.lst (aq (gP xs))->(∀x∈xs,x<p)->⇑xs<=6->H wa\.tup (aq w)->M11.ik ⇑rows w->⇑rows<=40->(∀(n:Nat) H',1<=n->n<=60->(∀x∈xs,M17.it (λx=>w.foldl (sf rows) x) n x=x)->(∀c,1<=c->c<n->¬ ∀x∈xs,M17.it (λx=>w.foldl (sf rows) x) c x=x)->av H H'->Q (.int (n:Int)) H')->Dm vs H Q E_
def pO (T:Txt K mg A):T.kM.Ok P w base 2 Dm:=by
 rwa[T.kM.on gG (λcC AA outer s H vs Q E hr h=>?_)]
 ·let⟨S,O,U,rows,p,xs,w,rfl,OX,B,FP,L,G,Y,sG,v,oy,k⟩:=h;let hu:=ama (eV hr)
  erw[_,{bI 3 gG.nd ao,kK (iy:=4) gG.nd rfl (Or.inl rfl) (fns:=["_law_word","_law_turns"]) (ixs:=[2,0]) (cl:=_) rfl (cY (pv 1)) (cR [(_,_),(_,_)] rfl ⟨2222222222,True.intro⟩ rfl) (λC s H ex=>(pc T.mh (qP T) hr #[2,0,1])),bG (fU ajc (aO (EW hu) (pv 4) (pv 1) (aV _))
    {kK (iy:=4) gG.nd rfl (Or.inl rfl) (fns:=["_law_word","_law_turns"]) (ixs:=[2,0]) (cl:=_) rfl (cY (pv 4)) (cR [(_,_),(_,_)] rfl ⟨2222222222,True.intro⟩ rfl) (λC s H ex=>(pc T.mh (qP T) hr #[2,0,1])),bI 3 gG.nd (aL cK (pv 3) ao)}),a9 (pv 3)}]
  rwa[ju ?_];intro iY ft fQ;obtain⟨f,hf⟩:∃f:Nat->Nat,f=λx=>w.foldl (sf rows) x:=⟨12⟩
  rw[<-hf]at k;let u:∀x,w.foldl (sf rows) x=f x:=λx=>by rw[hf]
  let M:∀x,x<p->f x<p:=λx a=>by rw[<-u];rwa[Hg B v a]
  let FE:∀x y,x<p->y<p->f x=f y->x=y:=λx y a I e=>by rw[<-u,<-u]at e;rwa[Dj B v a I e]
  let X:=Vt G (M17.Xh FP M FE);let hit:=λ(n:Nat) (x:Nat) (a:x<p)=>M17.tj M n x a
  let e0:xs.map (M17.it f 0)=xs:=(ajN λx _=>rfl).trans (List.map_id xs);let step:∀c,(xs.map (M17.it f c)).map f=xs.map (M17.it f (c+ 1)):=λc=>by rw[ajw];rwa[ajN λx _=>rfl]
  let lt:∀c,∀x∈xs.map (M17.it f c),x<p:=λc x a=>by
   let⟨y,I,rfl⟩:=ajz.mp a;rwa[hit c y (G y I)]
  let body:∀{j:Hp} {R:VK} {i c:Nat} {x:V},av H j->(aq (gP (xs.map (M17.it f c))))[i]?\x->R (Av f x) j->yJ [↑S,x,↑U] j R E0:=λ{j R i c x} s2 a N=>by
   let⟨z,rfl,hz⟩:=cH a;let⟨y,I,rfl⟩:=Vu hz;let hyp:=lt c y (aiN I);erw[S,U,rows,p,y,w,2,OX.same s2,B,hyp,3,s2^sG,v,3];let o:R (V.int ((f ((y:Nat):Int).toNat:Nat):Int)) j:=N;rw[ajq]at o;rw[u];rwa[o]
  let ln:∀c,⇑(aq (gP (xs.map (M17.it f c))))<=sizeLine:=λc=>by rw[aI,QS,aiQ];rwa[ai0 Y ⋯]
  let g:H O\(.lst (aq (gP (xs.map (M17.it f 0))))):=by rw[e0];rwa[L]
  erw[12,O,2,⟨_,aD.of g⟩];rwa[jB (aq (gP (xs.map (M17.it f 0)))) (Av f) (jX (aD.of g)) (iN (aD.of g)) (gS (aD.of g)) (ln 0) (λi x a R N=>⟨121212,body (av.refl H) a N⟩) (λb YR=>?_)];rw[zH,step];let s1:av H (upd H b (.lst (aq (gP (xs.map (M17.it f 1)))))):=av.upd YR;let o:upd H b (.lst (aq (gP (xs.map (M17.it f 1))))) b\(.lst (aq (gP (xs.map (M17.it f 1))))):=aj;change upd H b _=H1 at s1 o ⊢;erw[λ J j=>∃(b:Zs) (c:Nat),J=#v[↑S,↑O,↑U,.int (c:Int),↑b]/\av H j/\1<=c/\c<=60/\xs.map (M17.it f c)=xs/\(∀d,1<=d->d<c->xs.map (M17.it f d)≠xs),5]
  ·erw[λm σ j=>∃(b:Zs) (c:Nat),m=60 - c/\σ=#v[↑S,↑O,↑U,.int (c:Int),↑b]/\av H j/\j b\.lst (aq (gP (xs.map (M17.it f c))))/\1<=c/\c<=60/\(∀d,1<=d->d<c->xs.map (M17.it f d)≠xs),⟨_,b,(1),22,s1,o,aiS _,3,λd o r=>∅⟩];rintro m σ j ⟨b,c,rfl,rfl,s2,r,F,D,t⟩;erw[1212,b,O,1122,r,s2^L,12];cases e:gP (xs.map (M17.it f c))=gP xs
   ·rwa[ic e ⟨b,c,2,s2,F,D,FL e,t⟩]
   ·rwa[bK (λ_=>?_) (λh=>absurd (by rw[ajx e];rfl) h)]
    let hc3:c<60:=by
     rcases alJ c 60 with q|q
     ·rwa[q]
     ·rwa[absurd (by rw[show c=60 by ext,X,e0]) e]
    rwa[⟨_,λ_ _ h=>h,?_⟩];erw[12,b,2,⟨_,aD.of r⟩];rwa[jB (aq (gP (xs.map (M17.it f c)))) (Av f) (jX (aD.of r)) (iN (aD.of r)) (gS (aD.of r)) (ln c) (λi x a R N=>⟨121212,body s2 a N⟩) (λs3 Z=>?_)];rw[zH,step];rwa[⟨121122,60 - (c+ 1),3,s3,c+ 1,25,s2.trans (av.upd Z),aj,33,λd o r=>?_⟩]
    ·rw[show ((c+ 1:Nat):Int)=(c:Int)+ 1 by ext];rfl
    ·cases q:d=c
     ·rw[q];rwa[λz=>e (by rw[z])]
     ·rwa[t d o ∅]
  rintro J j ⟨b,c,rfl,s2,F,D,hxc,t⟩;rwa[⟨12,k c j F D (λx a=>?_) (λd o r z=>t d o r ((ajN λx a=>z x a).trans (List.map_id xs))) s2⟩];let⟨i,hi,rfl⟩:=akD.mp a;let h9:=ajT (λl=>l[i]?) hxc;simp only[ai6,aiL hi]at h9;rwa[Za0 h9]
def Kn {Q:VK}(lo:Int)(y:n<=1000)(t:∀(i:Nat) (c:Hp) (R:VK),i<n->(∀q,c q=none->R ↑q (upd c q (.tup (aq [lo+ (i:Int)]))))->r (some (.int (lo+ (i:Int)))::D) c R)
 (k:∀b c d,av H c->c b=none->b6 c d ((~~~n).map λi:Nat=>[lo+ (i:Int)])->Q ↑b (upd c b (.lst (d.map V.ref)))):qZ r D Q (AB lo n) H:=by
 erw[λi m ys c=>m=n - i/\i<=n/\∃d:Zn,ys=d.map V.ref/\av H c/\b6 c d ((~~~i).map λi:Nat=>[lo+ (i:Int)]),⟨n,by simp,ajj _,[],2,λ_ _ e=>e,⟨2,λi a u p=>by simp at p⟩⟩];rintro i m ys c ⟨rfl,v,d,rfl,s2,g⟩;let h:⇑d=i:=by have:=g.1;rw[aiQ,ajK]at this;rwa[this]
 cases f:i<n
 ·rwa[.inr ⟨f,[aiQ,h]▸aiW (show i<=1000 by omega) ⋯,λx o s=>?_⟩];let⟨rfl,rfl⟩:=s;rwa[t i o _ f λq j=>?_]
  erw[n - (i+ 1),32,f,d++[q],by cbv,s2.trans (av.upd j)];rw[aj9,ajn];rwa[(g.same (av.upd j)).snoc aj]
 ·let e:i=n:=∅
  subst e;rwa[.inl ⟨aiS _,[aiQ,h]▸ai0 (show i<=1000 by omega) ⋯,λb l=>k b c d s2 l g⟩]
def vk {f:Zn}{d e:Za3}(h:b6 H F d)(c:b6 H f e):b6 H (F++f) (d++e):=by
 rwa[⟨by rw[aiP,aiP,h.1,c.1],λi p w b a=>?_⟩];cases g:i<⇑F
 ·rw[aiZ g]at b;rw[aiZ (by rw[<-h.1];rwa[g])]at a;rwa[h.2 i p w b a]
 ·rw[ai1 ∅]at b;rw[ai1 (by rw[<-h.1];omega),<-h.1]at a;rwa[c.2 _ p w b a]
def Dq (w:Zg)(n:Nat):(List.replicate n (aq w)).flatten=aq ((List.replicate n w).flatten):=by
 induction n with
 |zero=>rfl
 |succ n a=>rw[akK,alp,a,akK,alp,ints_app]
def Dr {w:Zg}(h:z∈(List.replicate n w).flatten):z∈w:=by
 let⟨u,b,a⟩:=List.mem_flatten.mp h;rw[(List.mem_replicate.mp b).2]at a;rwa[a]
def zJ (w:Zg)(n:Nat):(List.replicate n w).flatten.length=⇑w* n:=by
 induction n with
 |zero=>rfl
 |succ n a=>rw[akK,alp,aiP,a,Nat.mul_succ];ext
theorem Ds {a:Type}(g:Nat->a->Nat)(w:List a):∀(n x:Nat),((List.replicate n w).flatten).foldl g x=M17.it (λx=>w.foldl g x) n x
 |0,x=>rfl
 |n+ 1,x=>by
  let e:=M17.wc (λx=>w.foldl g x) 1 n x;rw[show n+ 1=1+ n by ext,e,show 1+ n=n+ 1 by ext,akK,alp,alr,Ds g w n];rfl
def Ko (rows:Za3)(p:Nat)(u:Zg):Prop:=M11.ik ⇑rows u/\⇑u<=60/\∀x,x<p->u.foldl (sf rows) x=x
inductive FQ (vs:Zb) (H:Hp) (Q:VK) (E_:XK):Prop
 |mk (ta:Zs) (rows:Za3) (p:Nat) (z xC:Int):vs=[↑ta,.int ⇑rows,.int z,.int xC]->xC<=60->TabAt H ta rows->1<=⇑rows->⇑rows<=3->(∀r∈rows,M11.Pm p r)->p<=6->(∀l R H',av H H'->bW H' l R->(∀u∈R,Ko rows p u)->⇑R<=21->H l=none->Q ↑l H')->FQ vs H Q E_
def Al (T:Txt K mg A):T.qi.Ok P w base 3 FQ:=by
 rwa[T.qi.on df (λcC AA outer s H vs Q E hr h=>?_)]
 ·let⟨ta,rows,p,z0,xC,rfl,ahC,OX,lU,hL3,hpm,FP,k⟩:=h
  refine⟨_,{kK (iy:=4) df.nd rfl (Or.inl rfl) (fns:=[]) (ixs:=[]) (cl:=[]) rfl (kX rfl T.dX #[ao,aL cK (pv 1) ao]) (cR [] rfl True.intro rfl) (λC s H ex=>(bO #[0])),ck ajc rfl (kX rfl T.dX #[ao,aL cK (pv 1) ao]) (cZ 5 df.nd)
    {ck ajc rfl (kX rfl T.dX #[ao,5]) (cZ 6 df.nd)
     {bI 4 df.nd (aL oO (pv 4) (bT #[bO #[6,5],bO #[6,eU dD (pv 5)],bO #[6,5,eU dD (pv 6),eU dD (pv 5)]]))}},bI 7 df.nd (bT ah),ck ajc rfl (cY (pv 4)) (cZ 8 df.nd)
    {bI 9 df.nd (pc T.kM (pO T) hr #[0,qy rfl rfl T.jc rfl T.dX #[(0|||ao)<<<0],8]),bG (bC (PW.pt (kT (aO vz (aL bV (pv 2) ao) ao (aV _)) (jA (aO Nc (aL mz (8<<<0) (pv 9)) (pv 3) (aV _)))))
     {aZ (cG aiX ai4 ai5 bM (pv 7) #[aL EH (pv 8) (pv 9)]),bI 3 df.nd (aL jT (pv 3) (aL mz (8<<<0) (pv 9)))}
     bj),bI 2 df.nd (aL dg (pv 2) ao)},a9 (pv 7)},?_⟩
  rwa[uF ?_];intro kh iY ft fQ;let⟨Vw,abT,j⟩:=id OX;let M:0<⇑rows:=∅
  let c0:rows[0]?=some rows[0]:=aiL M
  let O:=hpm _ (aiN c0);change rows[0]=abU at c0 O;let d0:Vw[0]?\(Vw[0]'(by rw[j.1];omega)):=aiL (by rw[j.1];omega)
  change Vw[0]'([j.1]▸M)=Y at d0;let abV:=j.2 0 Y abU d0 c0;erw[121122,(1),(⇑rows:Int)+ 1,2,⟨3333⟩];rwa[Kn 1 (n:=((⇑rows:Int)+ 1 - 1).toNat) ∅ (λi H2 R hi hR=>⟨12,Za4 1,λq hq=>hR q hq⟩) (λc H1 a s1 hlw BJ=>?_)];let Vx:av H1 (upd H1 c (.lst (a.map V.ref))):=av.upd hlw;let h2:upd H1 c (.lst (a.map V.ref)) c\(.lst (a.map V.ref)):=aj;change upd H1 c _=H2 at Vx h2 ⊢;let N:=BJ.same Vx
  let hW0:∀u∈(List.range ((⇑rows:Int)+ 1 - 1).toNat).map (λi:Nat=>[(1:Int)+ (i:Int)]),M11.ik ⇑rows u/\⇑u<=4:=λu f=>by
   let⟨i,hi,rfl⟩:=ajz.mp f;have:=ajI.mp hi;rwa[λs g=>[aiR.mp g]▸⟨33⟩,by show 1<=4;decide]
  let Yb:⇑((List.range ((⇑rows:Int)+ 1 - 1).toNat).map (λi:Nat=>[(1:Int)+ (i:Int)]))<=3:=by rw[aiQ,ajK];ext
  change (List.range ((⇑rows:Int)+ 1 - 1).toNat).map (λi:Nat=>[(1:Int)+ (i:Int)])=W0 at N hW0 Yb;let s02:=s1.trans Vx;erw[121122,(2),(⇑rows:Int)+ 1,2,⟨3333⟩];rwa[gM (lo:=2) (n:=((⇑rows:Int)+ 1 - 2).toNat) (λi t D=>∃(c:Zs) (a:Zn) (d:Za3) (v5 I:Zc),t=#v[↑ta,.int (⇑rows:Int),.int z0,.int xC,↑c,v5,I,none,none,none]/\av H D/\D c\.lst (a.map V.ref)/\b6 D a d/\(∀u∈d,M11.ik ⇑rows u/\⇑u<=4)/\⇑d<=3+ 9* i) ⟨c,a,W0,none,none,2,s02,h2,N,hW0,3⟩ ?_ ?_]
  ·rintro i t D hi ⟨c,a,d,v5,I,rfl,s3,h3,t3,Vy,hl3⟩;erw[12,(1),2+ (i:Int),2,⟨3333⟩];rwa[gM (lo:=1) (n:=(2+ (i:Int) - 1).toNat) (λn t U=>∃(c:Zs) (a:Zn) (d:Za3) (I:Zc),t=#v[↑ta,.int (⇑rows:Int),.int z0,.int xC,↑c,.int (2+ (i:Int)),I,none,none,none]/\av H U/\U c\.lst (a.map V.ref)/\b6 U a d/\(∀u∈d,M11.ik ⇑rows u/\⇑u<=4)/\⇑d<=3+ 9* i+ 3* n) ⟨c,a,d,I,2,s3,h3,t3,Vy,3⟩ ?_ ?_]
   ·rintro n t U hn ⟨c,a,d,I,rfl,s4,h4,t4,Vz,hl4⟩;rwa[⟨121212,Za4 2,λq1 JC=>?_⟩];generalize e_:upd U q1 _=m;obtain⟨s5,a5⟩:_/\_\(.tup (aq [1+ (n:Int),2+ (i:Int)])):=dP e_ JC;rwa[⟨121212,Za4 2,λq2 CT=>?_⟩];generalize e_:upd m q2 _=H6;obtain⟨s6,a6⟩:_/\_\(.tup (aq [1+ (n:Int),-(2+ (i:Int))])):=dP e_ CT;rwa[⟨121212121212,Za4 4,λq3 hq3=>?_⟩];generalize e_:upd H6 q3 _=H7;obtain⟨s7,a7⟩:_/\_\(.tup (aq [1+ (n:Int),2+ (i:Int),-(1+ (n:Int)),-(2+ (i:Int))])):=dP e_ hq3;rwa[⟨Za4 3,λql CV=>?_⟩];generalize e_:upd H7 ql _=H8;obtain⟨s8,a8⟩:_/\_\(.lst ([q1,q2,q3].map V.ref)):=dP e_ CV;let VA:=((s5.trans s6).trans s7).trans s8
    let t8:b6 H8 [q1,q2,q3] [[1+ (n:Int),2+ (i:Int)],[1+ (n:Int),-(2+ (i:Int))],[1+ (n:Int),2+ (i:Int),-(1+ (n:Int)),-(2+ (i:Int))]]:=by
     let b0:b6 H8 [] []:=⟨2,λi p w h1=>by simp at h1⟩;rwa[((b0.snoc (s8^s7^s6^a5)).snoc (s8^s7^a6)).snoc (s8^a7)]
    let nT:⇑a=⇑d:=t4.1;rwa[⟨c,ql,1122,VA^h4,a8,5,λl9 FI=>?_⟩]
    ·rw[aiQ,aiQ];rwa[ai0 (show ⇑a+ 3<=1000 by omega) ⋯]
    erw[l9,a++[q1,q2,q3],112,(s4.trans VA).trans (av.upd FI),by rw[aj,ajn],(vk (t4.same VA) t8).same (av.upd FI),λu f=>?_]
    ·rcases aiY.mp f with f|f
     ·rwa[Vz u f]
     ·let ok:∀s:Int,s=1+ (n:Int)\/s=2+ (i:Int)\/s= -(1+ (n:Int))\/s= -(2+ (i:Int))->s≠0/\s.natAbs<=⇑rows:=λs g=>by
       rcases g with rfl|rfl|rfl|rfl
       ·rwa[⟨by ext,by ext⟩]
       ·rwa[⟨by ext,by ext⟩]
       ·rwa[⟨by ext,by ext⟩]
       ·rwa[⟨by ext,by ext⟩]
      simp only[ai3,ajA,akO]at f;rcases f with rfl|rfl|rfl
      ·rwa[⟨λs g=>ok s ?_,by show 2<=4;decide⟩];simp only[ai3,ajA,akO]at g;rcases g with h|h
       ·rwa[.inl h]
       ·rwa[.inr (.inl h)]
      ·rwa[⟨λs g=>ok s ?_,by show 2<=4;decide⟩];simp only[ai3,ajA,akO]at g;rcases g with h|h
       ·rwa[.inl h]
       ·rwa[.inr (.inr (.inr h))]
      ·rwa[⟨λs g=>ok s ?_,by show 4<=4;decide⟩];simp only[ai3,ajA,akO]at g;rwa[g]
    ·rw[aiP];simp only[ajf,akm];ext
   ·rintro t U ⟨c,a,d,I,rfl,s4,h4,t4,Vz,hl4⟩;rwa[c,a,d,112,s4,h4,t4,Vz,3]
  rintro t D ⟨c,a,d,v5,I,rfl,s3,h3,t3,Vy,hl3⟩;rwa[⟨ajj _,λF X=>?_⟩];let VB:av D (upd D F (.lst [])):=av.upd X;let h4:upd D F (.lst []) F\(.lst (([]:Zn).map V.ref)):=aj;change upd D F _=U at VB h4 ⊢;erw[12,c,2,⟨_,aD.of (VB^h3)⟩];rwa[eI (xs:=a.map V.ref) (λn t m=>∃(fs:Zn) (R:Za3) (zm v:Int) (v8 v9:Zc),t=#v[↑ta,.int (⇑rows:Int),.int zm,.int v,↑c,v5,I,↑F,v8,v9]/\av D m/\m F\.lst (fs.map V.ref)/\b6 m fs R/\(∀u∈R,Ko rows p u)/\⇑R<=n/\v<=60) ⟨[],[],z0,xC,none,none,2,VB,h4,⟨2,λi p w h1=>by simp at h1⟩,(λu f=>by ext f),ajj _,3⟩ (λn t m _ ζ=>by let⟨_,_,_,_,_,_,_,s,_⟩:=ζ;rwa[aD.of (s^h3)]) ?_ ?_]
  ·rintro n y t m hn ⟨fs,R,zm,v,v8,v9,rfl,s5,h5,t5,G,OY,Z⟩;rw[ai6]at hn
   let Fs:n<⇑a:=by
    cases e:a[n]? with
    |none=>rw[e]at hn;ext hn
    |some r=>cbv
   let g1:a[n]?=some a[n]:=aiL Fs
   rw[g1]at hn;let ey:V.ref a[n]=y:=Za0 hn;subst ey;change a[n]=wa at g1;let nT:⇑a=⇑d:=t3.1;let g2:d[n]?\(d[n]'∅):=aiL ∅
   change d[n]'∅=w at g2;let sG:=t3.2 n wa w g1 g2;let⟨Oy,Yh⟩:=Vy w (aiN g2);let VC:=s3.trans s5;let Xu:=VC^abT;rwa[⟨1212,ta,11,↑Y,22,aD.of Xu,dR (i:=0) d0,Y,12,.inl (aD.of (VC^abV)),p,by rw[aI,O.1],3,λlp OZ=>?_⟩];let J:av m (upd m lp (.lst (aq (fH 0 p)))):=av.upd OZ;let h6:upd m lp (.lst (aq (fH 0 p))) lp\(.lst (aq (fH 0 p))):=aj;change upd m lp _=H6 at J h6 ⊢;rw[QV]at h6;rwa[⟨12,ta,lp,wa,rows,p,List.range p,w,2,OX.same (VC.trans J),hpm,FP,h6,λx hx=>ajI.mp hx,[ajK]▸FP,J^s5^sG,Oy,3,λon H7 ho1 Vk VD _ s67=>?_⟩];let L:=J.trans s67;let l:=L^s5^sG;let h7:=L^h5;let t7:=t5.same L;let S:=s5.trans L;erw[λ e8 H'=>∃(fs:Zn) (R:Za3) (v:Int),e8=#v[↑ta,.int (⇑rows:Int),.int zm,.int v,↑c,v5,I,↑F,↑wa,.int (on:Int)]/\av D H'/\H' F\.lst (fs.map V.ref)/\b6 H' fs R/\(∀u∈R,Ko rows p u)/\⇑R<=n+ 1/\v<=60,5]
   ·rwa[⟨121122,(by show (0:Int)<3;decide),112212,bK (λ_=>?_) (λ_=>cU ⟨fs,R,v,2,S,h7,t7,G,3,Z⟩)⟩];rwa[⟨12,wa,12,.inr (bB.of l),121122,.inr ⟨33⟩,12112212,bK (λh=>?_) (λ_=>⟨fs,R,v,2,S,h7,t7,G,3,Z⟩)⟩];let hle:(⇑(aq w):Int)* (on:Int)<=v:=aja h;rw[aI]at hle
    let hmul:⇑w* on<=60:=by
     have:((⇑w* on:Nat):Int)=(⇑w:Int)* (on:Int):=Int.natCast_mul ..;ext
    rwa[⟨12,.inl ⟨21,aD.of h7⟩,1212,wa,1122,l,335,λq8 H8 B h8=>?_⟩]
    ·rw[aI,ajq];rwa[ai0 hmul ⋯]
    rw[ajq,Dq]at h8;let VF:=B^h7;let Oz:⇑fs=⇑R:=t5.1;erw[F,1122,VF,5]
    ·rw[aiQ];rwa[aiW (show ⇑fs<=1000 by omega) ⋯]
    let abW:upd H8 F (.lst (fs.map V.ref++[V.ref q8])) wa\(.tup (aq w)):=by
     rw[ak (cf (B^l) VF (by intro z;cases z))];rwa[B^l]
    erw[1212,wa,12,.inr (bB.of abW),121122,.inr ⟨33⟩,1122];erw[fs++[q8],R++[(List.replicate on w).flatten],12,λb o e=>[ak (aw e X)]▸B^S^e,by rw[aj,ajn];rfl,vj ((t7.same B).snoc h8) VF,λu f=>?_,by rw[aiP];simp only[ajf,akm];ext]
    ·rcases aiY.mp f with f|f
     ·rwa[G u f]
     ·rw[aiR.mp f];rwa[λs g=>Oy s (Dr g),by rw[zJ];ext,λx hx=>[Ds]▸VD x (ajI.mpr hx)]
    ·rw[aI];have:(0:Int)<=(⇑w:Int)* (on:Int):=Int.mul_nonneg ∅ ∅;ext
   rintro e8 H8 ⟨fs,R,v,rfl,s8,h8,t8,hR8,abX,abY⟩;rwa[121122,⟨44⟩,fs,R,_,v,112,s8,h8,t8,hR8,abX,abY]
  ·rintro t m ⟨fs,R,zm,v,v8,v9,rfl,s5,h5,t5,G,OY,Z⟩;let nT:⇑a=⇑d:=t3.1;rw[aiQ]at OY;rwa[12,k F R m (s3.trans s5) ⟨fs,h5,t5⟩ G ∅ (same_none s3 X)]
def VG (rows:Za3)(x:Nat)(u:Zg):Prop:=M11.ik ⇑rows u/\⇑u<=1000/\u.foldl (sf rows) x=x
inductive Kq (K:Za1) (vs:Zb) (H:Hp) (Q:VK) (E_:XK):Prop
 |mk (a ta:Zs) (ns:Zg) (rows:Za3) (p x:Nat):vs=[↑a,↑ta,.int ⇑rows,.int x]->aD K H a (aq ns)->⇑ns<=63->TabAt H ta rows->1<=⇑rows->⇑rows<=3->(∀r∈rows,M11.Pm p r)->p<=6->x<p->(∀l P H',av H H'->bW H' l P->(∀u∈P,VG rows x u)->⇑P<=3->Q ↑l H')->Kq K vs H Q E_
structure jS (H H':Hp) (l:Zs) (L n m:Nat) (Ws:Za3):Prop where
 s:av H H'
 f:H l=none
 h:bW H' l Ws
 w:∀u∈Ws,M11.ik L u/\⇑u<=m
 c:⇑Ws<=n
def jS.same {b:Za3}(h:jS H I a n m i b)(s:av I J):jS H J a n m i b:=⟨h.s.trans s,h.f,h.h.same s,h.w,h.c⟩
def jS.le {n' m':Nat}{b:Za3}(h:jS H I a n m i b)(e:m<=n')(d:i<=m'):jS H I a n n' m' b:=⟨h.s,h.f,h.h,λu c=>⟨(h.w u c).1,ai0 (h.w u c).2 d⟩,ai0 h.c e⟩
def jS.add {q:Zs}{f:Za3}{u:Zg}(h:jS H I a n m i f)(j:I q\.tup (aq u))(l:M11.ik n u/\⇑u<=i):∃c:Zn,I a\.lst (c.map V.ref)/\⇑c<=m/\jS H (upd I a (.lst (c.map V.ref++[↑q]))) a n (m+ 1) i (f++[u]):=by
 let⟨c,g,d⟩:=h.h;rwa[⟨c,g,[d.1]▸h.c,λb o e=>[ak (aw e h.f)]▸h.s^e,h.f,⟨c++[q],by rw[aj,ajn];rfl,vj (d.snoc j) g⟩,λv k=>?_,by rw[aiP];have:=h.c;show _+ 1<=_;ext⟩];rcases aiY.mp k with y|y
 ·rwa[h.w v y]
 ·rw[aiR.mp y];rwa[l]
def jS.ins {K:Za1}{b:Za3}(h:jS H I a n m i b):Nk K "list" ↑a I:=by
 let⟨d,c,_⟩:=h.h;rwa[.inl ⟨21,aD.of c⟩]
def Du (T:Txt K mg A):T.rY.Ok P w base 3 (Kq K):=by
 rwa[T.rY.on gH (λcC AA outer s H vs Q E M h=>?_)]
 ·let⟨a,Y,ns,rows,p,x,rfl,ha,hns,hT,lU,hL3,N,FP,J,k⟩:=h;let O:=ama (eV M)
  erw[_,{bI 4 gH.nd (aL bV (pc T.bF (bx T) M #[0,ao]) ao),bI 5 gH.nd (bT ah),bG (bC (PW.pt (eH (aO dm (pv 4) ao (aV _)) (i9 (aO dm (pv 4) ao (aV _)))))
    {aZ (cG aiX ai4 ai5 bM (pv 5) #[bO #[aL cK ao (aL bV (aL dg (pc T.bF (bx T) M #[0,ao]) ao) (pv 2))]])}
    bj),bG (bC (aO dm (pv 4) ao (aV _))
    {aZ (cG aiX ai4 ai5 bM (pv 5) #[bO #[(5|||ao)&&&ao,aL jT (eU dD ao) (aL bV (aL dg (pc T.bF (bx T) M #[0,ao]) ao) (pv 2))]])}
    bj),bG (bC (aO dm (pv 4) ao (aV _))
    {bI 6 gH.nd (bO ah),ck ajc rfl (cY (pV EE (pv 0) (oN ao) (oN ao))) (cZ 7 gH.nd)
     {bI 6 gH.nd (aL AX (pv 6) (bO #[pc T.oq (sL T) M #[aL bV (aL mz (pv 7) ao) ao,2]]))},bG (bC (aO (Pw O) (pv 6) (bO ah) (aV _))
     {aZ (cG aiX ai4 ai5 bM (pv 5) #[6])}
     bj)}
    bj),a9 (iD (fns:=["_law_turns","_law_first"]) (ixs:=[1,3]) (cl:=_) rfl (cY (pv 5)) (cR [(_,_),(_,_)] rfl ⟨2222222222,True.intro⟩ rfl) (λC s H ex=>(aL EH (pv 0) (pc T.kM (pO T) M #[1,bT #[2],0]))))}]
  rwa[kr ?_];intro lV kh iY ft fQ;rwa[⟨12,a,ns,(6),2,ha,4,λz=>⟨1122,(by show (0:Int)<4;decide),5⟩⟩];obtain⟨y,m⟩:∃y,z % 4=y:=⟨12⟩;rw[show V.int (z % 4)=V.int y from ajT V.int m];clear m;rwa[⟨ajj _,λl nl=>?_⟩];let Z:jS H (upd H l (.lst [])) l ⇑rows 0 1 []:=⟨av.upd nl,nl,⟨[],aj,2,λi p w h=>by simp at h⟩,(λu O=>by ext O),aiS _⟩;change upd H l _=H1 at Z ⊢;let md:∀z:Int,0<=z % (⇑rows:Int)/\z % (⇑rows:Int)<⇑rows:=λz=>⟨akl _ ∅,aj5 _ ∅⟩
  erw[λ d r=>∃g,d=#v[↑a,↑Y,.int ⇑rows,.int x,.int y,↑l,none,none]/\jS H r l ⇑rows 1 2 g/\(y=2->∃s,g=[[s]]),5]
  ·erw[12212];rwa[bK (λL=>eX ?_) (λL=>⟨12212,bK (λh2=>?_) (λh2=>⟨[],2,Z.le ⋯ ⋯,λe=>absurd (by rw[e];rfl) h2⟩)⟩)]
   all_goals
    rwa[⟨12,Z.ins,12,a,ns,(6),2,Z.s.seq ha,4,λz1=>⟨1122,⟨44⟩,12112231122,(Za4 1),λq hq=>?_⟩⟩];let sq:=av.upd (o:=.tup [.int (1+ z1 / 24 % (⇑rows:Int))]) hq;have:=md (z1 / 24);let⟨f,j,g2,g3⟩:=(Z.same sq).add (q:=q) (u:=[1+ z1 / 24 % (⇑rows:Int)]) aj ⟨λs F=>[aiR.mp F]▸⟨33⟩,aiS _⟩;rwa[l,1122,j,[aiQ]▸aiW (show ⇑f<=100 by omega) ⋯,12,g3.le ⋯ ⋯,λ_=>⟨12⟩]
  rintro d R ⟨g,rfl,X,m⟩;erw[λ d r=>∃g,d=#v[↑a,↑Y,.int ⇑rows,.int x,.int y,↑l,none,none]/\jS H r l ⇑rows 2 2 g,5]
  ·erw[12212];rwa[bK (λL=>?_) (λL=>⟨g,2,X.le ⋯ ⋯⟩)];let h1':V.int y=V.int 2:=aja L;let⟨s0,rfl⟩:=m (by injection h1');let⟨f,j,g2⟩:=id X.h
   obtain⟨S,rfl⟩:∃S,f=[S]:=by
    have:=g2.1
    match f,this with
    |[S],_=>rwa[S,2]
   let g3:R S\(.tup (aq [s0])):=g2.2 0 S _ rfl rfl;let hs0:=(X.w _ (aiR.mpr rfl)).1 s0 (aiR.mpr rfl);rwa[⟨12,X.ins,12,l,11122,aD.of j,2,S,11122,bB.of g3,21212,a,ns,(7),2,X.s.seq ha,4,λz1=>⟨1122,⟨44⟩,121122,(by show (0:Int)<(⇑rows:Int);omega),1122,(Za4 2),λq hq=>?_⟩⟩];let sq:=av.upd (o:=.tup [.int s0,.int (-1 - z1 / 192 % (⇑rows:Int))]) hq;have:=md (z1 / 192)
   let⟨f,j,g2,g3⟩:=(X.same sq).add (q:=q) (u:=[s0,-1 - z1 / 192 % (⇑rows:Int)]) aj ⟨λs F=>by
    rcases ai3.mp F with rfl|F
    ·rwa[hs0]
    ·rw[aiR.mp F];rwa[33],aiS _⟩
   rwa[l,1122,j,[aiQ]▸aiW (show ⇑f<=100 by omega) ⋯,12,g3]
  rintro d H3 ⟨Ws3,rfl,w3⟩;clear X m Z g;erw[λ d r=>∃g v6 I,d=#v[↑a,↑Y,.int ⇑rows,.int x,.int y,↑l,v6,I]/\jS H r l ⇑rows 3 63 g,5]
  ·erw[12212];rwa[bK (λL=>?_) (λL=>⟨Ws3,112,w3.le ⋯ ⋯⟩)];rwa[⟨ajj _,λt nt=>?_⟩];generalize e_:upd H3 t _=H4;obtain⟨st,qt⟩:_/\_\(.tup (aq [])):=dP e_ nt;rwa[⟨121212,a,12,(w3.s.trans st).seq ha,λb nb=>?_⟩]
   obtain⟨ms,em,hm⟩:∃ms:Zg,hY (aq ns) (some 8) (some 63)=aq ms/\⇑ms<=63:=by
    erw[(ns.drop (HT.cj ⇑(aq ns) 0 (some 8))).take (HT.cj ⇑(aq ns) ⇑(aq ns) (some 63) - HT.cj ⇑(aq ns) 0 (some 8)),by unfold hY aq;rw[List.map_take,List.map_drop]];rw[ajs,ajM];ext
   rw[em];generalize e_:upd H4 b _=H5;let⟨sb,qb⟩:=dP e_ nb;erw[b,2,⟨_,aD.of qb⟩];rwa[eI (xs:=aq ms) (λi σ r=>∃(t:Zs) (u:Zg) (I:Zc),σ=#v[↑a,↑Y,.int ⇑rows,.int x,.int y,↑l,↑t,I]/\av H5 r/\r t\.tup (aq u)/\⇑u=i/\M11.ik ⇑rows u) ⟨t,[],none,2,av.refl _,sb^qt,2,(λs F=>by ext F)⟩ (λi σ r _ ζ=>by let⟨_,_,_,_,s,_⟩:=ζ;rwa[aD.of (s^qb)]) ?_ ?_]
   ·rintro i v σ H6 B ⟨t,u,I,rfl,s6,q6,hl,O⟩;let⟨z1,rfl,hz⟩:=cH B;let Vh:=(aiO.mp hz).1;rwa[⟨12121122,.inr ⟨44⟩,1122,(by show (0:Int)<2147483647;decide),121,⇑rows,2,lU,3,λs L h2=>⟨(Za4 1),λu' nu=>?_⟩⟩];rwa[⟨t,u',1122,av.upd nu _ _ q6,aj,5,λp' H7 s7 e7=>?_⟩]
    ·rw[aI];rwa[ai0 (show ⇑u+ 1<=100 by omega) ⋯]
    rwa[⟨p',u++[s],12,s6.trans ((av.upd nu).trans s7),[ints_app]▸e7,by rw[aiP,hl];rfl,λx J=>?_⟩];rcases aiY.mp J with q|q
    ·rwa[O x q]
    ·rw[aiR.mp q];rwa[L,h2]
   rintro σ H6 ⟨t,u,I,rfl,s6,q6,hl,O⟩;rw[aI]at hl;let w6:=w3.same ((st.trans sb).trans s6);rwa[⟨λ d r=>∃g v6 I,d=#v[↑a,↑Y,.int ⇑rows,.int x,.int y,↑l,v6,I]/\jS H r l ⇑rows 3 63 g,5,λ_ _ z=>z⟩];rwa[⟨12,ajj _,λe0 J9=>?_⟩];let se:=av.upd (o:=.tup []) J9;let w7:=(w6.same se).le (n':=2) (m':=63) ⋯ ⋯;erw[t,e0,u,[],22,bB.of (se^q6),bB.of aj,12];rwa[bK (λ_=>?_) (λ_=>⟨1112,w7.le ⋯ ⋯⟩)];let⟨f,j,g2,g3⟩:=w7.add (q:=t) (u:=u) (se^q6) ⟨O,3⟩;rwa[12,w7.ins,12,l,1122,j,[aiQ]▸aiW (show ⇑f<=100 by omega) ⋯,1112,g3]
  rintro d H4 ⟨g,v6,I,rfl,w4⟩;let⟨f,j,g2⟩:=id w4.h;let CV:⇑f<=3:=by rw[g2.1];rwa[w4.c]
  erw[12,l,2,⟨_,aD.of j⟩];rwa[nK ⇑f (λi=>(f.map V.ref).getD i .non) (λR v i=>∃p,v=↑p/\∃w,R p\.tup (aq w)/\VG rows x w) (λH1 R v i s ζ=>by let⟨p,e,w,q,o⟩:=ζ;rwa[⟨p,e,w,s^q,o⟩]) (ai0 CV ⋯) (λi R s2 B=>jX (aD.of (s2^j)) i ([aiQ]▸B)) (λi v R H3 s2 B y=>?_) (λR s2=>?_) (λi H5 Rr B s5 kk=>?_) (λD H5 ys s5 hD Va M=>?_)]
  ·let⟨e1,e2⟩:=iN (aD.of (s2^j)) i v H3 ([aiQ]▸B) y;rwa[e1,by rw[aiT,e2];rfl]
  ·have:=gS (K:=K) (aD.of (K:=K) (s2^j));rw[aiQ]at this;rwa[this]
  ·let e1:f[i]?=some f[i]:=aiL B
   let e2:g[i]?\(g[i]'(by rw[<-g2.1];rwa[B])):=aiL (by rw[<-g2.1];rwa[B])
   change f[i]=wa at e1;generalize g[i]'(by rw[<-g2.1];rwa[B])=u at e2;let sG:=g2.2 i wa u e1 e2;let⟨G,iZ⟩:=w4.w u (aiN e2);rw[show (f.map V.ref).getD i .non=V.ref wa by rw[aiT,ai6,e1];rfl];rwa[⟨121212,(Za4 1),λl1 n1=>?_⟩];generalize e_:upd H5 l1 _=H6;obtain⟨s1,q1⟩:_/\_\(.lst (aq (gP [x]))):=dP e_ n1;let U:=s5.trans s1;rwa[⟨12,Y,l1,wa,rows,p,[x],u,2,(hT.same w4.s).same U,N,FP,q1,λy m=>[aiR.mp m]▸J,by show 1<=6;decide,U^sG,G,3,λn H7 hn1 Yy Vj hn4 s7=>?_⟩];let hf1:∀x,x<p->u.foldl (sf rows) x<p:=λx J=>Hg N G J
   let FE:∀x y,x<p->y<p->u.foldl (sf rows) x=u.foldl (sf rows) y->x=y:=λx y J m e=>Dj N G J m e
   let⟨c,rB,NP,hc3⟩:=M17.ring hf1 FE J
   let hn6:n<=6:=by
    rcases alJ c n with q|q
    ·rwa[absurd (λy m=>by rw[aiR.mp m];rwa[hc3]) (hn4 c rB q)]
    ·ext
   let hmul:⇑u* n<=1000:=ai0 (aly iZ hn6) (by decide);rwa[⟨wa,1122,s7^U^sG,335,λq8 H8 s8 h8=>?_⟩]
   ·rw[aI,ajq];rwa[ai0 hmul ⋯]
   rw[ajq,Dq]at h8;rwa[kk _ _ ((s1.trans s7).trans s8) ⟨q8,21,h8,λs F=>G s (Dr F),by rw[zJ];ext,[Ds]▸Vj x (aiR.mpr rfl)⟩]
  let⟨pP,rfl,O6⟩:=ti (P:=λ_ p=>∃w,H5 p\.tup (aq w)/\VG rows x w) ys 0 (λi v hv=>M i v hv);let⟨ps,tP,oP⟩:=words_of λi p e=>O6 i p e
  rwa[k D ps _ ((w4.s.trans s5).trans (av.upd hD)) ⟨pP,aj,tP.same (av.upd hD)⟩ oP (by rw[<-tP.1];rw[aiQ]at Va;omega)]
inductive Dv (Pt cT:Zs) (vs:Zb) (H:Hp) (Q:VK) (E_:XK):Prop
 |mk (ru pa:Zs) (L lim w:Nat) (ot:Zh) (rs ps:Za3):vs=[.int L,↑ru,↑pa,.int lim,.str (tx ot)]->(ot=mq w\/ot=[]/\w=0)->w<3->1<=L->L<=40->1<=lim->lim<=300->bW H ru rs->bW H pa ps->(∀u∈rs++ps,Kj L u)->lim* ⇑rs+ ⇑ps<=700->⇑rs<=400->⇑ps<=400->du Pt eG iJ H->(∀q t tb pp S N H',Kp Pt H H'->du Pt eG iJ H'->Fl rs ps L w lim S->(∀c z,¬ip S L c z)->H' q\.tup [↑t,.non]->H' t\.tup [↑tb,↑pp]->TabAt H' tb (M24.uN (bz S) (2* S.L) (M24.bH (bz S) (2* S.L) 0 N))->⇑(M24.bH (bz S) (2* S.L) 0 N)=N->kS H' pp S->Q ↑q H')->(∀q x d pp S H',Kp Pt H H'->du Pt eG iJ H'->Fl rs ps L w lim S->S.q=lim->(∃c z,kQ w S L c z)->H' q\.tup [.non,↑x]->H' x\XO x cT (some d) false->H' d\XD d (zG S.q pp)->kS H' pp S->Q ↑q H')->Dv Pt cT vs H Q E_
def kS.same (h:kS H a S)(s:av H I):kS I a S:=by
 let⟨b,f,c,g⟩:=h;rwa[b,s^f,c.imp (λp d _ _ e=>e.same s),g]
def yK (T:Txt K mg A)(u:kz mg base):T.oD.Ok P w base 12 (Dv A.eR A.bD):=by
 rwa[T.oD.on dZ (λcC AA outer s H vs Q E hr h=>?_)]
 ·let⟨ru,pa,L,f,n,ot,rs,ps,rfl,D,y,F,sv,xm,C,Y,Z,X,r,M,v,hT,kq,ke⟩:=h;let⟨tkd,hbd⟩:=T.fill.bd
  erw[_,{bI 5 dZ.nd cJ,bI 6 dZ.nd cJ,bG (Qx rfl rfl (TQ (aO dm (pv 4) (dS (l:=[]) rfl) (aV _)) (Fb (i:=5) dZ.nd rfl (Or.inl rfl) (BK (dvs:=[V.str (tx [114,111,111,109,115])]) (FH T u) hr.Za5 rfl T.fill.m T.fill.kp hbd (.cons ⟨12⟩ .nil) #[0,1,2,3])) (Fb (i:=5) dZ.nd rfl (Or.inl rfl) (BK (FH T u) hr.Za5 rfl T.fill.m T.fill.kp T.fill.b .nil #[0,1,2,3,4])))
    (TR (i:=7) dZ.nd rfl rfl rfl T.zy (λ_=>{bI 6 dZ.nd (pv 7)})
    TV (by decide))),a9 (bO #[5,6])}]
  rwa[ju ?_];intro iY ft fQ;erw[λ U g=>Kp A.eR H g/\du A.eR eG iJ g/\∃B O,U=#v[.int L,↑ru,↑pa,.int f,.str (tx ot),some B,some O,none]/\((∃t p b S N,B=↑t/\O=.non/\Fl rs ps L n f S/\(∀c z,¬ip S L c z)/\g t\.tup [↑p,↑b]/\TabAt g p (M24.uN (bz S) (2* S.L) (M24.bH (bz S) (2* S.L) 0 N))/\⇑(M24.bH (bz S) (2* S.L) 0 N)=N/\kS g b S)\/∃x d b S,B=.non/\O=↑x/\Fl rs ps L n f S/\S.q=f/\(∃c z,kQ n S L c z)/\g x\XO x A.bD (some d) false/\g d\XD d (zG S.q b)/\kS g b S),5]
  ·erw[12212];rwa[bK (λh=>?_) (λh=>?_)]
   ·let e:ot=[]:=jR.mp (aja h)
    let ew:n=0:=by
     rcases D with q|q
     ·rw[e]at q;rcases (show n=0\/n=1\/n=2 by omega) with rfl|rfl|rfl
      ·rfl
      ·rwa[absurd q (by decide)]
      ·rwa[absurd q (by decide)]
     ·rwa[q.2]
    subst ew;rwa[⟨12121212,ru,pa,L,f,(0),rs,ps,2,y,F,sv,xm,C,Y,Z,X,r,M,v,hT,λt p b S N g m t1 j J k a2 G I=>?_,λd b S g m t1 j R l1 k a2=>?_⟩]
    ·rwa[m,t1,↑t,.non,2,.inl ⟨t,p,b,S,N,22,j,J,k,a2,G,I⟩]
    ·rwa[⟨12,true,T.X2,eX λx nx=>⟨125⟩⟩];let a:=av.upd (o:=XO x A.bD (some d) false) nx;rwa[m.trans (.same a),t1.same a,.non,↑x,2,.inr ⟨x,d,b,S,22,j,R,l1,aj,a^k,a2.same a⟩]
   ·let e:ot=mq n:=D.elim id λq=>absurd (aje (jR.mpr q.1)) h
    subst e;rwa[⟨1212121212,ru,pa,L,f,n,rs,ps,2,y,F,sv,xm,C,Y,Z,X,r,M,v,hT,λt p b S N g m t1 j J k a2 G I=>?_,λd b S g m t1 j R l1 k a2=>?_⟩]
    ·rwa[m,t1,↑t,.non,2,.inl ⟨t,p,b,S,N,22,j,J,k,a2,G,I⟩]
    ·rwa[⟨12,true,T.X2,eX λx nx=>⟨125⟩⟩];let a:=av.upd (o:=XO x A.bD (some d) false) nx;rwa[m.trans (.same a),t1.same a,.non,↑x,2,.inr ⟨x,d,b,S,22,j,R,l1,aj,a^k,a2.same a⟩]
  rintro U H1 ⟨m,t1,B,O,rfl,cs⟩;rwa[⟨1212,Za4 2,λq nq=>?_⟩];let a:=av.upd (o:=.tup [B,O]) nq;rcases cs with ⟨t,p,b,S,N,rfl,rfl,j,J,k,a2,G,I⟩|⟨x,d,b,S,rfl,rfl,j,R,l1,a0,k,a2⟩
  ·rwa[kq q t p b S N _ (m.trans (.same a)) (t1.same a) j J aj (a^k) (a2.same a) G (I.same a)]
  ·rwa[ke q x d b S _ (m.trans (.same a)) (t1.same a) j R l1 aj (a^a0) (a^k) (a2.same a)]
def FT (K:Za1):Sp:=λe H Q _=>∃(a:Zs) (ns:Zg),e=[↑a]/\aD K H a (aq ns)/\⇑ns<=63/\∀(l f c d:Zs) (L x:Nat) (R P:Za3) b,av H b->b l\.tup [.int L,↑f,↑c,↑d,.int x]->1<=L->L<=3->bW b c R->bW b d P->(∀u∈R++P,Kj L u)->⇑R<=23->⇑P<=3->Q ↑l b
inductive Dw (vs:Zb) (H:Hp) (Q:VK) (E_:XK):Prop
 |mk (z:Int) (L m:Nat):vs=[.int z,.int L,.int m]->1<=L->L<=3->m<=12->(∀l w H',av H H'->H' l\.tup (aq w)->Kj L w->Q ↑l H')->Dw vs H Q E_
def VH (K:Za1):Sp:=FT K
def VJ (b:Bool):∃a:Int,g6 [V.int 36,V.int 60] (if b=true then 1 else 0)\.int a/\a<=60:=by
 ext b
 ·rwa[⟨(36),rfl,by decide⟩]
 ·rwa[⟨(60),rfl,by decide⟩]
def fV (z:Int){n:Nat}(h:0<n):∃x:Nat,z % (n:Int)=(x:Int)/\x<n:=by
 let a:=akl z (show (n:Int)≠0 by omega);let b:=aj5 z (show (0:Int)<(n:Int) by omega);rwa[(z % (n:Int)).toNat,33]
def pQ (T:Txt K mg A):T.kO.Ok P w base 2 Dw:=by
 rwa[T.kO.on dY (λB Y f s H X Q E G h=>?_)]
 ·let⟨z,L,m,rfl,g,S,hm,k⟩:=h
  erw[_,{bI 3 dY.nd (aL bV (pv 0) (aL cK (pv 2) ao)),bI 0 dY.nd (aL dg (pv 0) (aL cK (pv 2) ao)),bI 4 dY.nd (bO ah),ck ajc rfl (gL rfl T.dX #[3]) (cZ 5 dY.nd)
    {bI 4 dY.nd (aL AX (pv 4) (bO #[pc T.oq (sL T) G #[aL bV (pv 0) (aL mz ao (pv 1)),1]])),bI 0 dY.nd (aL dg (pv 0) (aL mz ao (pv 1)))},a9 (pv 4)}]
  rwa[uF ?_];intro D C R x;let⟨n,I,F⟩:=fV z (n:=m+ 1) ∅;let N:z % ((m:Int)+ 1)=(n:Int):=I;erw[121211221122,(by show (0:Int)<(m:Int)+ 1;omega)];rw[N];erw[121211221122,⟨33⟩];rwa[⟨ajj _,λl J=>?_⟩];erw[12,(n:Int),233];rw[ajq];rwa[gM (lo:=0) (n:=n) (λi p c=>∃(l:Zs) (y:Int) (w:Zg) (r:Zc),p=#v[.int y,.int L,.int m,.int n,↑l,r]/\av H c/\c l\.tup (aq w)/\⇑w=i/\∀s∈w,s≠0/\s.natAbs<=L) ⟨l,_,[],none,2,av.upd J,aj,2,λs o=>by ext o⟩ ?_ ?_]
  ·rintro i p c Z ⟨l,y,w,r,rfl,s2,d,a,j⟩;rwa[⟨1212121122,.inl ⟨44⟩,1122,(by show (0:Int)<2* (L:Int);omega),121,L,2,g,3,λs e o=>⟨Za4 1,λq u=>?_⟩⟩];rwa[⟨l,q,1122,(av.upd u) _ _ d,aj,ai0 (show ⇑(aq w)+ 1<=100 by rw[aI];omega) ⋯,λO U M v=>?_⟩];rw[show [V.int s]=aq [s] from rfl,<-ints_app]at v;erw[12121122,.inl ⟨44⟩,1122,⟨by show (0:Int)<2* (L:Int);ext,3⟩];rwa[⟨O,_,w++[s],12,s2.trans ((av.upd u).trans M),v,by rw[aiP,a];rfl,λt b=>?_⟩];rcases aiY.mp b with b|b
   ·rwa[j t b]
   ·rw[aiR.mp b];rwa[e,o]
  ·rintro p c ⟨l,y,w,r,rfl,s2,d,a,j⟩;rwa[12,k l w c s2 d ⟨3,j⟩]
def tM (T:Txt K mg A):T.kB.Ok P w base 3 (VH K):=by
 rwa[T.kB.on dO (λcC AA O s H vs Q E j h=>?_) (len:=by rintro _ _ _ _ ⟨a,B,rfl,_⟩;rfl)]
 ·let⟨a,B,rfl,F,hlen,k⟩:=h
  erw[_,{bI 1 dO.nd (aL cK ao (aL bV (aL dg (pc T.bF (bx T) j #[0,ao]) ao) ao)),bI 2 dO.nd (bT ah),ck ajc rfl (gL rfl T.dX #[aL bV (aL dg (pc T.bF (bx T) j #[0,ao]) ao) ao]) (cZ 3 dO.nd)
    {aZ (cG aiX ai4 ai5 bM (pv 2) #[pc T.kO (pQ T) j #[pc T.bF (bx T) j #[0,aL cK ao (pv 3)],1,ao]])},bI 4 dO.nd (bT ah),ck ajc rfl (gL rfl T.dX #[aL bV (pc T.bF (bx T) j #[0,ao]) ao]) (cZ 3 dO.nd)
    {aZ (cG aiX ai4 ai5 bM (pv 4) #[pc T.kO (pQ T) j #[pc T.bF (bx T) j #[0,aL cK ao (pv 3)],1,ao]])},a9 (bO #[1,bT ah,2,4,ao])}]
  rwa[kr ?_];intro lV kh iY ft fQ;rwa[⟨12,a,B,(0),2,F,3,λz=>⟨1122,⟨44⟩,1122,(by show (0:Int)<3;decide),11225⟩⟩]
  obtain⟨L,hz,g,t⟩:∃L:Nat,1+ z / 12 % 3=(L:Int)/\1<=L/\L<=3:=by
   let⟨x,hx,hxl⟩:=fV (z / 12) (n:=3) ⋯;rwa[1+ x,by rw[show z / 12 % 3=(x:Int) from hx];ext,33]
  rw[hz];rwa[⟨ajj _,λd D=>?_⟩];let X:jS H (upd H d (.lst [])) d L 0 1000 []:=⟨av.upd D,D,⟨[],aj,2,λi p w h=>by simp at h⟩,(λu C=>by ext C),aiS _⟩;change upd H d _=H1 at X ⊢;rwa[⟨12,a,B,(1),2,X.s.seq F,3,λz1=>?_⟩];let⟨n,hn,Fs⟩:=fV (z1 / 8) (n:=5) ⋯;erw[1122,⟨44⟩,1122,(by show (0:Int)<5;decide),(n:Int),ajT (λv=>[V.int v]) hn,33];rw[ajq];rwa[gM (lo:=0) (n:=n) (λi m r=>∃G e,m=#v[↑a,.int L,↑d,e,none]/\jS H r d L i 1000 G) ⟨[],none,2,X⟩ ?_ ?_]
  ·rintro i m r hi ⟨G,e,rfl,c⟩;rwa[⟨12,c.ins,12121122,a,B,2+ i,5,c.s.seq F,3,λy=>⟨12,y,L,(12),2,g,t,4,λq w H3 s3 h3 hw=>?_⟩⟩]
   ·show [V.ref a,V.int (2+ (0+ (i:Int)))]=[V.ref a,V.int ((2+ i:Nat):Int)];rw[show (2:Int)+ (0+ (i:Int))=((2+ i:Nat):Int) by ext]
   let⟨S,U,g2,Z⟩:=(c.same s3).add h3 ⟨hw.2,hw.1⟩;rwa[d,1122,U,[aiQ]▸aiW (show ⇑S<=100 by omega) ⋯,112,Z]
  rintro m r ⟨R,e,rfl,c⟩;rwa[⟨ajj _,λf I=>?_⟩];let b:jS r (upd r f (.lst [])) f L 0 1000 []:=⟨av.upd I,I,⟨[],aj,2,λi p w h=>by simp at h⟩,(λu C=>by ext C),aiS _⟩;change upd r f _=H3 at b ⊢;rwa[⟨12,a,B,(6),2,(c.s.trans b.s).seq F,3,λz6=>?_⟩];let⟨n2,Y,ahD⟩:=fV z6 (n:=3) ⋯;erw[1122,(by show (0:Int)<3;decide),(n2:Int),ajT (λv=>[V.int v]) Y,33];rw[ajq];rwa[gM (lo:=0) (n:=n2) (λi m M=>∃G e,m=#v[↑a,.int L,↑d,e,↑f]/\jS r M f L i 1000 G) ⟨[],e,2,b⟩ ?_ ?_]
  ·clear b;rintro i m M hi ⟨G,e,rfl,b⟩;rwa[⟨12,b.ins,12121122,a,B,8+ i,5,(c.s.trans b.s).seq F,3,λy=>⟨12,y,L,(8),2,g,t,4,λq w H5 J h5 hw=>?_⟩⟩]
   ·show [V.ref a,V.int (8+ (0+ (i:Int)))]=[V.ref a,V.int ((8+ i:Nat):Int)];rw[show (8:Int)+ (0+ (i:Int))=((8+ i:Nat):Int) by ext]
   let⟨S,U,g2,Z⟩:=(b.same J).add h5 ⟨hw.2,hw.1⟩;rwa[f,1122,U,[aiQ]▸aiW (show ⇑S<=100 by omega) ⋯,112,Z]
  clear b;rintro m M ⟨P,e,rfl,b⟩;rwa[⟨12,ajj _,λlt N=>⟨1212,Za4 5,λl nl=>?_⟩⟩];let J:=(av.upd (o:=.lst []) N).trans (av.upd (o:=.tup [.int L,↑lt,↑d,↑f,.int 0]) nl);let c2:=c.c;let c3:=b.c;rwa[k l lt d f L 0 R P _ ((c.s.trans b.s).trans J) aj g t ((c.h.same b.s).same J) (b.h.same J) (λu C=>(aiY.mp C).elim (λh=>⟨(c.w u h).2,(c.w u h).1⟩) λh=>⟨(b.w u h).2,(b.w u h).1⟩) ∅ ∅]
theorem QW:∀j:Nat,j<4->∃L:Nat,([V.int 2,V.int 1,V.int 2,V.int 3])[j]?\V.int (L:Int)/\1<=L/\L<=3
 |0,_=>⟨(2),244⟩
 |1,_=>⟨(1),244⟩
 |2,_=>⟨(2),244⟩
 |3,_=>⟨(3),244⟩
theorem vl {ws:Za3}(h:b6 H F ws)(k n:Nat):b6 H ((F.drop k).take n) ((ws.drop k).take n):=by
 rwa[⟨by rw[ajs,ajs,ajM,ajM,h.1],λi p w a c=>?_⟩];rw[List.getElem?_take]at a c;split at a
 ·rename_i b;rw[ajg b,List.getElem?_drop]at c;rw[List.getElem?_drop]at a;rwa[h.2 _ p w a c]
 ·ext a
theorem Kr {R:Za3}(f:H a\.lst (F.map V.ref))(c:b6 H F R)(e:H b\.tup (aq []))(i:Nat)(g:i<=⇑F):bW (upd H a (.lst ((F.map V.ref).take i++[↑b]++(F.map V.ref).drop i))) a (R.take i++[[]]++R.drop i):=by
 let t1:b6 H (F.take i) (R.take i):=by have:=vl c 0 i;rwa [List.drop_zero,List.drop_zero]at this
 let d:b6 H (F.drop i) (R.drop i):=by
  have:=vl c i (⇑F - i)
  rwa [akN ([ajM]▸aiS _),akN ([ajM,c.1]▸aiS _)]at this
 rwa[⟨F.take i++[b]++F.drop i,by rw[aj,ajn,ajn,List.map_take,List.map_drop];rfl,vj (vk (t1.snoc e) d) f⟩]
def Am (T:Txt K mg A):T.qj.Ok P w base 4 (FT K):=by
 rwa[T.qj.on cI (λcC AA outer s H vs Q E t h=>?_) (len:=by rintro _ _ _ _ ⟨a,p,rfl,_⟩;rfl)]
 ·let⟨a,p,rfl,B,hlen,k⟩:=h
  erw[_,{bC (aO dm (aL bV (aL dg (pc T.bF (bx T) t #[0,ao]) ao) ao) ao (aV _))
   {a9 (pc T.kB (tM T) t #[0])}
   bj,bI 1 cI.nd (mw dm (aL bV (pc T.bF (bx T) t #[0,ao]) ao) ao (aV _)),bI 2 cI.nd (aL cK ao (aL bV (aL dg (pc T.bF (bx T) t #[0,ao]) ao) ao)),bG (bC (cX (pv 1))
    {bI 2 cI.nd (aL cK ao (aL bV (aL dg (pc T.bF (bx T) t #[0,ao]) ao) ao))}
    bj),bI 3 cI.nd ((bT (ae ao (ae ao (ae ao (ae ao ah hJ) hJ) hJ) hJ))|||(aL bV (pc T.bF (bx T) t #[0,ao]) ao)),bI 4 cI.nd (bT ah),ck ajc rfl (gL rfl T.dX #[3]) (cZ 5 cI.nd)
    {aZ (cG aiX ai4 ai5 bM (pv 4) #[pc T.m3 (xG T) t #[aL bV (pc T.bF (bx T) t #[0,aL cK ao (pv 5)]) ao,2,1]])},bI 6 cI.nd (aL bV (pc T.bF (bx T) t #[0,ao]) ao),bG (bC (cX (pv 1))
    {bI 6 cI.nd ao}
    bj),bI 7 cI.nd (aL bV (aL dg (pc T.bF (bx T) t #[0,ao]) ao) (pv 2)),bI 8 cI.nd (pc T.qi (Al T) t #[4,3,6,(bT #[ao,ao])|||(fK Ii rfl T.N6 PyProof.Rows.boot_int #[mw dm (aL bV (pc T.bF (bx T) t #[0,ao]) ao) ao (aV _)])]),bG (bC (aO dm (aL bV (pc T.bF (bx T) t #[0,ao]) ao) ao (aV _))
    {aZ (cG aiX PySem.F.slot_list_insert PySem.F.type_list_insert xY (pv 8) #[aL bV (aL dg (pc T.bF (bx T) t #[0,ao]) ao) (aL cK (8<<<0) ao),bO ah])}
    bj),bG (bC (PW.pt (kT (aO dm (aL bV (pc T.bF (bx T) t #[0,ao]) ao) ao (aV _)) (jA (aO ib (aL bV (pc T.bF (bx T) t #[0,ao]) ao) ao (aV _)))))
    {bI 8 cI.nd (aL oO (pv 8) (pV EE (pv 8) xR (oN ao)))}
    bj),a9 (bO #[3,4,8,pc T.rY (Du T) t #[0,4,3,7],7])}]
  rwa[IE ?_];intro ahE ahF ahG ahH u_9 Ul CL uj lV kh iY ft fQ;rwa[⟨12,a,p,(1),2,B,3,λz=>⟨1122,⟨44⟩,1122,(by show (0:Int)<2;decide),212,bK (λ_=>⟨12,a,p,2,B,hlen,k⟩) λ_=>?_⟩⟩];rwa[⟨12,a,p,(0),2,B,3,λz0=>?_⟩];erw[1122,(by show (0:Int)<2;decide),2];rwa[⟨12,a,p,(0),2,B,3,λz1=>?_⟩];erw[1122,⟨44⟩,1122,(by show (0:Int)<4;decide),1122];let a1:=akl (z1 / 2) (show (4:Int)≠0 by decide);let a2:=aj5 (z1 / 2) (show (0:Int)<4 by decide);erw[λ c v=>∃(m:Nat) (pl:Bool),c=#v[↑a,.bl pl,.int m,none,none,none,none,none,none]/\v=H/\1<=m/\m<=6,5]
  ·erw[1212];rwa[bK (λ_=>?_) (λ_=>?_)]
   ·rwa[⟨12,a,p,(0),2,B,3,λz2=>?_⟩];erw[1122,⟨44⟩,1122,(by show (0:Int)<6;decide),1122];let c1:=akl (z2 / 2) (show (6:Int)≠0 by decide);let c2:=aj5 (z2 / 2) (show (0:Int)<6 by decide);rwa[⟨(1+ z2 / 2 % 6).toNat,decide (V.int (z0 % 2)=V.int 0),5233⟩];rw[show (((1+ z2 / 2 % 6).toNat:Nat):Int)=1+ z2 / 2 % 6 by ext];rfl
   ·rwa[⟨(2+ z1 / 2 % 4).toNat,decide (V.int (z0 % 2)=V.int 0),5233⟩];rw[show (((2+ z1 / 2 % 4).toNat:Nat):Int)=2+ z1 / 2 % 4 by ext];rfl
  rintro c v ⟨m,pl,rfl,rfl,hm1,CQ⟩;rwa[⟨Za4 4,λq hq=>?_⟩];let sq:av v (upd v q (.lst [V.int 2,V.int 1,V.int 2,V.int 3])):=av.upd hq;let hqq:upd v q (.lst [V.int 2,V.int 1,V.int 2,V.int 3]) q\(.lst [V.int 2,V.int 1,V.int 2,V.int 3]):=aj;change upd v q _=H1 at sq hqq ⊢;rwa[⟨12,a,p,(1),2,sq.seq B,3,λz2=>?_⟩];let⟨j,hj,hjl⟩:=fV z2 (n:=4) ⋯;let⟨L,hL,U,X⟩:=QW j hjl;erw[1122,(by show (0:Int)<4;decide),q,11,.int (L:Int),22,aD.of hqq,(by show g6 _ (z2 % 4)=_;rw[show z2 % 4=(j:Int) from hj];rwa[cw hL])];rwa[⟨ajj _,λlt lS=>?_⟩];let s2:av H1 (upd H1 lt (.lst [])):=av.upd lS;let h2:upd H1 lt (.lst []) lt\(.lst (([]:Zn).map V.ref)):=aj;let Vv:v lt=none:=sq.free lS;change upd H1 lt _=H2 at s2 h2 ⊢;erw[12,(L:Int),233];rwa[gM (lo:=0) (n:=((L:Int)).toNat) (λi σ M=>∃(rs:Zn) (rows:Za3) (v5:Zc),σ=#v[↑a,.bl pl,.int m,.int L,↑lt,v5,none,none,none]/\av v M/\M lt\.lst (rs.map V.ref)/\dw M rs rows/\⇑rows=i/\(∀r∈rows,M11.Pm m r)) ⟨[],[],none,2,sq.trans s2,h2,⟨2,λi r p h1=>by cbv⟩,2,by simp⟩ ?_ ?_]
  ·rintro i σ M hi ⟨rs,rows,v5,rfl,s3,h3,D,G,F⟩;let Vh:i<L:=∅
   rwa[⟨12,.inl ⟨21,aD.of h3⟩,12121122,a,p,2+ i,5,s3.seq B,3,λz3=>?_⟩]
   ·cbv
   let c1:=akl z3 (show (720:Int)≠0 by decide);rwa[⟨1122,(by show (0:Int)<720;decide),1212,z3 % 720,m,pl,2,hm1,3,c1,λr row H4 J h4 hP=>?_⟩];let Y:=J^h3;let tX:r≠lt:=Km h4 (λz=>by have:=hP.len;rw[z]at this;simp at this;omega) Y;erw[lt,1122,Y,5]
   ·rw[aiQ,D.1,G];rwa[aiW (show i<=3 by omega) ⋯]
   rwa[⟨rs++[r],rows++[row],12,λb o e=>[ak (aw e Vv)]▸J^s3^e,by rw[aj,ajn];rfl,⟨(zI (D.same J) h4).1,λi' q' ms e1 e2=>?_⟩,by rw[aiP,G];rfl,λr' hr'=>?_⟩]
   ·let FU:=(zI (D.same J) h4).2 i' q' ms e1 e2
    let hnm:ms≠[]:=λz=>by
     let O8:ms∈rows++[row]:=aiN e2
     let hPm:M11.Pm m ms:=by
      rcases aiY.mp O8 with y|y
      ·rwa[F ms y]
      ·rw[aiR.mp y];rwa[hP]
     have:=hPm.len;rw[z]at this;simp at this;ext
    rw[ak (Km FU hnm Y)];rwa[FU]
   ·rcases aiY.mp hr' with y|y
    ·rwa[F r' y]
    ·rw[aiR.mp y];rwa[hP]
  rintro σ M ⟨rs,rows,v5,rfl,s3,h3,D,G,F⟩;rw[ajq]at G;subst G;let hT:TabAt M lt rows:=⟨rs,h3,D⟩;rwa[⟨12,a,p,(5),2,s3.seq B,3,λz5=>⟨1122,(by show (0:Int)<531441;decide),5⟩⟩];erw[λ c v=>∃mk:Int,c=#v[↑a,.bl pl,.int m,.int ⇑rows,↑lt,v5,.int mk,none,none]/\v=M,5]
  ·erw[1212];rwa[bK (λ_=>⟨122⟩) (λ_=>⟨122⟩)]
  rintro c H3' ⟨mk,rfl,e3⟩;replace e3:=e3.symm;subst e3;rwa[⟨12,a,p,(6),2,s3.seq B,3,λz6=>?_⟩];let⟨x,hx,hxl⟩:=fV (z6 / 4) (n:=m) ∅;erw[1122,⟨44⟩,121122,(by show (0:Int)<(m:Int);omega)];rw[show V.int ((z6 / 4) % (m:Int))=V.int (x:Int) from ajT V.int hx];rwa[⟨121212,Za4 2,λq2 N=>⟨12,a,p,(7),2,(s3.trans (av.upd N)).seq B,3,λz9=>⟨1122,(by show (0:Int)<8;decide),2125⟩⟩⟩];let⟨rm,hat,hrm⟩:=VJ (decide (V.int (z9 % 8)=V.int 6));rwa[⟨q2,11122,aD.of aj,hat,lt,rows,m,mk,rm,2,hrm,hT.same (av.upd N),U,X,F,CQ,λC R H4 J S d I Z=>?_⟩];replace Z:M C=none:=(av.upd N).free Z;replace J:=(av.upd N).trans J;erw[λ c v=>∃R,c=#v[↑a,.bl pl,.int m,.int ⇑rows,↑lt,v5,.int mk,.int x,↑C]/\av M v/\bW v C R/\(∀u∈R,Ko rows m u)/\⇑R<=22,5]
  ·rwa[⟨12,a,p,(5),2,(s3.trans J).seq B,3,λz7=>⟨1122,(by show (0:Int)<4;decide),212,bK (λ_=>?_) (λ_=>⟨R,2,J,S,d,3⟩)⟩⟩];let⟨f,g1,g2⟩:=S;let CV:⇑f<=21:=by rw[g2.1];rwa[I]
   rwa[⟨12,.inl ⟨21,aD.of g1⟩,12,a,p,(6),2,(s3.trans J).seq B,3,λz8=>⟨1122,⟨44⟩,12,C,12,.inl (aD.of g1),11221122,(by show (0:Int)<(⇑(f.map V.ref):Int)+ 1;omega),ajj _,λe0 J9=>?_⟩⟩];let⟨i,hi,ND⟩:=fV (z8 / 24) (n:=⇑f+ 1) ∅;let se:=av.upd (o:=.tup []) J9;erw[C,_,i,↑e0,25,se^g1,[aiQ]▸aiW (show ⇑f<=100 by omega) ⋯,by rw[aiQ];ext,3]
   ·cbv
   rwa[⟨R.take i++[[]]++R.drop i,2,λb o e=>[ak (aw e Z)]▸se^J^e,Kr (se^g1) (g2.same se) aj i ∅,λu g=>?_,by rw[aiP,aiP,ajs,ajM];show _+ 1+ _<=_;ext⟩];rcases aiY.mp g with g|g
   ·rcases aiY.mp g with g|g
    ·rwa[d u (List.mem_of_mem_take g)]
    ·rw[aiR.mp g];rwa[(λs hs=>by ext hs),by show 0<=60;decide,λx _=>rfl]
   ·rwa[d u (List.mem_of_mem_drop g)]
  rintro c H5 ⟨R,rfl,s5,S,d,I⟩;erw[λ c v=>∃C R,c=#v[↑a,.bl pl,.int m,.int ⇑rows,↑lt,v5,.int mk,.int x,↑C]/\av M v/\bW v C R/\(∀u∈R,Ko rows m u)/\⇑R<=23,5]
  ·rwa[⟨12,a,p,(5),2,(s3.trans s5).seq B,3,λz7=>⟨1122,(by show (0:Int)<4;decide),212,bK (λ_=>?_) (λ_=>cU ⟨C,R,2,s5,S,d,3⟩)⟩⟩];rwa[⟨12,a,p,(7),2,(s3.trans s5).seq B,3,λz7=>⟨1122,(by show (0:Int)<8;decide),212,bK (λ_=>?_) (λ_=>⟨C,R,2,s5,S,d,3⟩)⟩⟩];let⟨f,g1,g2⟩:=S;rwa[⟨121212,C,12,aD.of g1,λb nb=>?_⟩];let sb:=av.upd (o:=.lst (hY (f.map V.ref) none (some 1))) nb
   obtain⟨i,n,e,hn⟩:∃i n:Nat,hY (f.map V.ref) none (some 1)=((f.drop i).take n).map V.ref/\n<=1:=by
    erw[11,by unfold hY;rw[List.map_take,List.map_drop]];have:=HT.xQ ⇑(f.map V.ref) ⇑(f.map V.ref) 1;rw[show ((1:Nat):Int)=1 from rfl]at this;rw[this];ext
   let eb:upd H5 b (.lst (hY (f.map V.ref) none (some 1))) b\(.lst (((f.drop i).take n).map V.ref)):=by rw[aj,e]
   change upd H5 b _=H6 at sb eb ⊢;let g3:=g2.same sb;let CV:⇑f<=22:=by rw[g2.1];rwa[I]
   rwa[⟨C,b,1122,sb^g1,eb,5,λl9 n9=>?_⟩]
   ·rw[aiQ,aiQ,ajs];rwa[ai0 (show ⇑f+ min n _<=100 by omega) ⋯]
   let s9:=av.upd (o:=.lst (f.map V.ref++((f.drop i).take n).map V.ref)) n9;rwa[⟨l9,R++(R.drop i).take n,2,(s5.trans sb).trans s9,⟨f++(f.drop i).take n,by rw[aj,ajn],(vk g3 (vl g3 i n)).same s9⟩,λu g=>?_,by rw[aiP,ajs];ext⟩]
   cbv
  rintro c H6 ⟨lr',R,rfl,s6,S,d,I⟩;rwa[⟨12121212121212,a,lt,p,rows,m,x,2,(s3.trans s6).seq B,hlen,hT.same s6,U,X,F,CQ,hxl,λpa P H7 s7 hP O hPl=>?_⟩];rwa[⟨12,Za4 5,λl nl=>?_⟩];rwa[k l lt lr' pa ⇑rows x R P _ (((s3.trans s6).trans s7).trans (av.upd nl)) aj U X ((S.same s7).same (av.upd nl)) (hP.same (av.upd nl)) (λu g=>?_) I hPl];rcases aiY.mp g with g|g
  ·rwa[⟨ai0 (d u g).2.1 (by decide),(d u g).1⟩]
  ·rwa[⟨(O u g).2.1,(O u g).1⟩]
def QX (K:Za1):Sp:=λe H Q _=>∃(a:Zs) (f:Zg),e=[↑a]/\aD K H a (aq f)/\∀l c o b d,av H d->d l\.tup [.int ((b:Nat):Int),.str (tx c)]->(c=mq o\/c=[]/\o=0)->o<3->1<=b->b<=24->Q ↑l d
def An (T:Txt K mg A):T.qk.Ok P w base 2 (QX K):=by
 rwa[T.qk.on jl (λC O r s H N Q E G h=>?_) (len:=by rintro _ _ _ _ ⟨a,u,rfl,_⟩;rfl)]
 ·let⟨a,u,rfl,L,k⟩:=h
  erw[_,{bI 1 jl.nd (pc T.bF (bx T) G #[0,ao]),bI 2 jl.nd ((bT (ae ao (ae ao (ae ao (ae ao ah hJ) hJ) hJ) hJ))|||(aL bV (aL dg (pv 1) ao) ao)),bG (bC (aO dm (aL bV (pv 1) ao) ao (aV _))
    {bI 2 jl.nd (aL cK ao (aL bV (aL dg (pv 1) ao) ao))}
    bj),a9 (bO #[2,(bT (ae (dS (l:=[114,111,111,109,115]) rfl) (ae (dS (l:=[108,101,116,116,101,114,115]) rfl) (ae (dS (l:=[110,101,119,101,115,116]) rfl) (ae (dS (l:=[]) rfl) ah hJ) hJ) hJ) hJ))|||(aL bV (aL dg (pv 1) ao) ao)])}]
  rwa[ju ?_];intro D M B;rwa[⟨12,a,u,(7),2,L,4,λz=>?_⟩];rwa[⟨Za4 4,λq t=>⟨121122,⟨44⟩,1122,(by show (0:Int)<4;decide),5⟩⟩]
  obtain⟨b,c,j,d⟩:∃b:Nat,g6 [V.int 12,V.int 12,V.int 12,V.int 24] (z / 2 % 4)\.int (b:Int)/\1<=b/\b<=24:=by
   rcases (show z / 2 % 4=0\/z / 2 % 4=1\/z / 2 % 4=2\/z / 2 % 4=3 by omega) with e|e|e|e
   ·rwa[⟨(12),by rw[e];rfl,by decide,by decide⟩]
   ·rwa[⟨(12),by rw[e];rfl,by decide,by decide⟩]
   ·rwa[⟨(12),by rw[e];rfl,by decide,by decide⟩]
   ·rwa[⟨(24),by rw[e];rfl,by decide,by decide⟩]
  rwa[⟨q,_,_,_,rfl,rfl,aD.of aj,c,?_⟩];let s1:=av.upd (o:=.lst [V.int 12,V.int 12,V.int 12,V.int 24]) t;change upd H q _=F at s1 ⊢;erw[λ g v=>∃b:Nat,g=#v[↑a,.int z,.int b]/\v=F/\1<=b/\b<=24,5]
  ·rwa[⟨121122,(by show (0:Int)<2;decide),212,bK (λ_=>?_) (λ_=>⟨b,22,j,d⟩)⟩];erw[121122,⟨44⟩,1122,(by show (0:Int)<12;decide),1122];let⟨x,I,y⟩:=fV (z / 2) (n:=12) ⋯;rw[show z / 2 % 12=(x:Int) from I,show (1:Int)+ (x:Int)=((1+ x:Nat):Int) by ext];rwa[1+ x,2233]
  clear j d c;rintro g v ⟨b,rfl,rfl,j,d⟩;rwa[⟨12,Za4 4,λq t=>⟨121122,⟨44⟩,1122,(by show (0:Int)<4;decide),5⟩⟩]
  obtain⟨i,f,c,p,m⟩:∃(i:Zh) (f:Nat),g6 [V.str (tx [114,111,111,109,115]),V.str (tx [108,101,116,116,101,114,115]),V.str (tx [110,101,119,101,115,116]),V.str (tx [])] (z / 48 % 4)\.str (tx i)/\(i=mq f\/i=[]/\f=0)/\f<3:=by
   rcases (show z / 48 % 4=0\/z / 48 % 4=1\/z / 48 % 4=2\/z / 48 % 4=3 by omega) with e|e|e|e
   ·rwa[⟨_,(0),by rw[e];rfl,.inl rfl,by decide⟩]
   ·rwa[⟨_,(1),by rw[e];rfl,.inl rfl,by decide⟩]
   ·rwa[⟨_,(2),by rw[e];rfl,.inl rfl,by decide⟩]
   ·rwa[⟨_,(0),by rw[e];rfl,.inr ⟨rfl,rfl⟩,by decide⟩]
  rwa[⟨q,_,_,_,rfl,rfl,aD.of aj,c,Za4 2,λl J=>?_⟩];rwa[k l i f b _ (s1.trans ((av.upd t).trans (av.upd J))) aj p m j d]
def Ks (h:z∈bJ (2* n)): -z∈bJ (2* n):=by
 let⟨b,a⟩:=iV.mp h;rwa[iV.mpr ⟨33⟩]
def Fl.mL {rs d:Za3}(h:Fl rs d n m i S)(b:∀u∈rs++d,∀z∈u,z∈bJ (2* n)/\-z∈bJ (2* n))(q:1<=i):S.q<=i/\S.L=n:=by
 rwa[⟨5,by let⟨R,y⟩:=h.ys b;rwa[y.l]⟩]
 cases h with
 |start t _=>
  let⟨_,_,a,_⟩:=YS.new.tr t b;let a:S.q=1:=a;ext
 | @next g _ c z f p l t _=>
   let⟨R,y⟩:=f.ys b;let⟨o,j,e,k⟩:=l.1;let⟨_,_,a,_⟩:=(y.make o (sJ j) k e (Ks e)).tr t b;let a:S.q=g.q+ 1:=a;ext
def ia (c:Nat)(z:Int):Zd:=[Sum.inl (c:Int),Sum.inl z]
def k3 (a:Nat)(z:Int)(b:Nat):Zd:=[Sum.inl (a:Int),Sum.inl z,Sum.inl (b:Int)]
def Dx:ia n z=ia m y↔n=m/\z=y:=by
 unfold ia;constructor
 ·intro h;injection h with b a
  injection a with a _
  rwa[by have:=Sum.inl.inj b;ext,Sum.inl.inj a]
 ·rintro ⟨rfl,rfl⟩;rfl
def ny:k3 n z i=k3 m y j↔n=m/\z=y/\i=j:=by
 unfold k3;constructor
 ·intro h;injection h with c a
  injection a with a b
  injection b with b _
  rwa[by have:=Sum.inl.inj c;ext,Sum.inl.inj a,by have:=Sum.inl.inj b;ext]
 ·rintro ⟨rfl,rfl,rfl⟩;rfl
structure WD (kvs:List (Zd×V)) (W:Za2):Prop where
 k:∀p∈kvs,∃a z b,p.1=k3 a z b/\W a z b
 v:∀a z b,W a z b->(bA kvs (k3 a z b)).isSome=true
 n:(kvs.map (·.1)).Nodup
def yL {b:List (Zd×V)}{k:Zd}(h:bA b k\q):∃p∈b,p.1=k:=by
 unfold bA at h;let⟨a,c,rfl⟩:=ajV.mp h;let d:=List.find?_some c;rwa[a,List.mem_of_find?_eq_some c,by simpa using d]
def WD.iff {c:List (Zd×V)}{W:Za2}(h:WD c W)(a:Nat)(z:Int)(b:Nat):(bA c (k3 a z b)).isSome=true↔W a z b:=by
 constructor
 ·intro e;let⟨v,i⟩:=akh.mp e;let⟨p,d,f⟩:=yL i;let⟨j,l,k,g,w⟩:=h.k p d;let⟨rfl,rfl,rfl⟩:=ny.mp (f.symm.trans g);rwa[w]
 ·rwa[h.v a z b]
def p5 {c:List (Zd×V)}{k:Zd}{v:V}(i:(c.map (·.1)).Nodup):((putK c k v).map (·.1)).Nodup/\∀p∈putK c k v,p.1=k\/∃q∈c,q.1=p.1:=by
 unfold putK;split
 ·rwa[⟨5,λp d=>?_⟩]
  ·rw[ajw]
   have:((λx:Zd×V=>x.1) ∘ λg:Zd×V=>if g.1=k then (g.1,v) else g)=λx=>x.1:=by
    funext p
    show (if p.1=k then (p.1,v) else p).1=p.1;split <;> rfl
   rw[this];rwa[i]
  ·let⟨q,f,rfl⟩:=ajz.mp d;split <;> rwa[.inr ⟨q,f,2⟩]
 ·rename_i j;rwa[⟨5,λp d=>?_⟩]
  ·rw[ajn];rwa[ajF.mpr ⟨i,by simp,λa l b m e=>j ?_⟩];let⟨q,f,rfl⟩:=ajz.mp l;have:b=k:=by simpa using m
   rwa[ame.mpr ⟨q,f,aje (e.trans this)⟩]
  ·rcases aiY.mp d with h|h
   ·rwa[.inr ⟨p,h,rfl⟩]
   ·rw[aiR.mp h];rwa[.inl rfl]
def WD.put {c:List (Zd×V)}{W:Za2}(h:WD c W)(a:Nat)(z:Int)(b:Nat)(v:V):WD (putK c (k3 a z b) v) (λx s y=>W x s y\/(x=a/\s=z/\y=b)):=by
 let⟨n,g⟩:=p5 (k:=k3 a z b) (v:=v) h.n;rwa[⟨λp o=>?_,λx s y f=>?_,n⟩]
 ·rcases g p o with e|⟨q,l,e⟩
  ·rwa[⟨a,z,b,e,.inr ⟨rfl,rfl,rfl⟩⟩]
  ·let⟨m,j,i,r,w⟩:=h.k q l;rwa[m,j,i,by rw[<-e,r],.inl w]
 ·rw[jq];split
  ·rfl
  ·rename_i d;rcases f with f|⟨rfl,rfl,rfl⟩
   ·rwa[h.v x s y f]
   ·rwa[absurd rfl d]
def WD.congr {c:List (Zd×V)}{W:Za2}(h:WD c W)(e:∀a z b,W a z b↔R a z b):WD c R:=
 ⟨λp d=>by let⟨a,z,b,f,w⟩:=h.k p d;rwa[⟨a,z,b,f,(e a z b).mp w⟩],λa z b w=>h.v a z b ((e a z b).mpr w),h.n⟩
inductive zK (vs:Zb) (H:Hp) (Q:VK) (E_:XK):Prop
 |mk (a x y:Nat):vs=[.int a,.int x,.int y]->Q (.int ((if a=y then x else a:Nat):Int)) H->zK vs H Q E_
def QY (m n:Nat):decide (V.int (m:Int)=V.int (n:Int))=decide (m=n):=by
 rw[ajQ,ajt,ajt];rwa[λh=>by injection h with h;ext,λh=>by rw[h]]
def kb (T:Txt K mg A):T.iF.Ok P w base 1 zK:=by
 rwa[T.iF.on wW (λc g b s H e Q E f h=>?_)]
 ·let⟨a,x,y,rfl,k⟩:=h
  erw[_,{bC (aO dm (pv 0) (pv 2) (aV _))
   {a9 (pv 1)}
   bj,a9 (pv 0)}]
  rwa[iC ?_];intro d;erw[1212212];rw[QY];cases h:a=y
  ·rw[ajg h]at k;rw[aje h];rwa[eX ⟨12,k⟩]
  ·rw[ajb h]at k;rw[ajx h];rwa[cU ⟨12,k⟩]
def atB:Dt->Bool
 |.i _=>true
 |.s _=>true
 |_=>false
def dV:Dt->V
 |.i n=>.int n
 |.s l=>.str (tx l)
 |_=>.non
def Kt {ds:List Dt}(h:bS H 4 ↑a (.t ds))(g:ds.all atB=true):H a\(.tup (ds.map dV)):=by
 cases h with
 | @t _ _ c _ k j l=>
   rw[k]
   congr 2
   rwa[aku λi=>?_]
   rw[ai6]
   cases e:ds[i]? with
   |none=>
    rw[akW]at e;rw[aju ∅];rfl
   |some d=>
    let f:i<⇑c:=by rw[j];rwa[(aiO.mp e).1]
    let b:=List.all_eq_true.mp g d (aiN e);let q:=l i _ d (aiL f) e;rw[aiL f];change c[i]=v at q
    cases q with
    |i=>rfl
    |s=>rfl
    |_=>ext b
def Xv (h:bS H 4 ↑a (gA n z m i)):H a\(.tup [.str (tx [109,101,101,116]),.int n,.int z,.int m,.int i]):=Kt h rfl
def abZ (h:bS H 4 ↑a (lu n z m)):H a\(.tup [.str (tx [110,101,119]),.int n,.int z,.int m]):=Kt h rfl
def Kp.words {pos:Pos}(k:Kp a H I)(t:du a pos x H){l:Zs}{ws:Za3}(h:bW H l ws):bW I l ws:=by
 let⟨b,c,d⟩:=h;rwa[b,k.at t c (by cbv),d.keep λp f e=>k.at t e (by cbv)]
def Hi {rs:Zn}(h:(rs.map V.ref)[i]?\q):∃r,rs[i]?\r/\q=↑r:=by
 rw[ai6]at h
 cases e:rs[i]? with
 |none=>rw[e]at h;ext h
 |some r=>rw[e]at h;rwa[r,2,(Za0 h).symm]
inductive Dy (vs:Zb) (H:Hp) (Q:VK) (E_:XK):Prop
 |mk (e:Zs) (E:Zh) (c:Nat):vs=[↑e,.int c]->H e\.lst (aq (nI E))->E[c]?\c->Q (.bl true) H->Dy vs H Q E_
def iW (T:Txt K mg A):T.hO.Ok P w base 2 Dy:=by
 rwa[T.hO.on yB (λf l a s H j Q E g h=>?_)]
 ·let⟨e,E,c,rfl,b,d,k⟩:=h;erw[_,{a9 (qW (pc T.eB (dQ T) g #[1]) (qW (KQ Nc jU ao (pv 1) (0<<<0) (by with_unfolding_all rfl)) (vp (mw dm (0|||1) (pv 1) (aV _)))))}];let i:c<⇑E:=(aiO.mp d).1;rwa[⟨12,c,2,true,2,eX ?_⟩];rwa[⟨121122,true,ajT V.bl (aje ∅),eX ?_⟩];rwa[⟨12,e,12,.inl (aD.of b),1122,true,ajT V.bl (aje (by rw[aI,bP];omega)),eX ?_⟩];erw[1212,e,11122,aD.of b,cw (bU (eD d)),122];rw[aje rfl];rwa[k]
inductive Ku (vs:Zb) (H:Hp) (Q:VK) (E_:XK):Prop
 |mk (d e p:Zs) (kvs:List (Zd×V)) (E:Zh) (W:Za2) (c u v:Nat) (z:Int):vs=[↑d,↑e,↑p]->H d\.dT kvs->H e\.lst (aq (nI E))->H p\.tup [.str (tx [109,101,101,116]),.int c,.int z,.int u,.int v]->WD kvs W->u<v->E[u]?\u->E[v]?\v->W c z u->W c z v->(∀H',av H H'->Q (.bl true) H')->Ku vs H Q E_
def Dz (T:Txt K mg A):T.r0.Ok P w base 3 Ku:=by
 rwa[T.r0.on CH (λL V j s H U Q E g h=>?_)]
 ·let⟨d,e,p,C,E,W,c,u,v,z,rfl,q,B,y,x,N,M,O,J,S,k⟩:=h;let f:=eV g
  erw[_,{bG (bC (PW.pt (eH (aO ib (2<<<0) ao (aV _)) (eH (fJ (cX (pc T.hO (iW T) g #[1,2&&&ao]))) (eH (fJ (cX (pc T.hO (iW T) g #[1,2&&&ao]))) (i9 (aO vA (2&&&ao) (2&&&ao) (aV _)))))))
   {a9 fu}
   bj),bG (bC (PW.pt (eH (fJ (cX (pc T.eB (dQ T) g #[2&&&ao]))) (i9 (fJ (cX (pc T.eB (dQ T) g #[2&&&ao]))))))
    {a9 fu}
    bj),a9 (qW (Ho (vH f (bO #[2&&&ao,2&&&ao,2&&&ao]) (pv 0))) (vp (Ho (vH f (bO #[2&&&ao,2&&&ao,2&&&ao]) (pv 0)))))}]
  rwa[eQ ?_];intro R F;let a:bB K H p [.str (tx [109,101,101,116]),.int (c:Int),.int z,.int (u:Int),.int (v:Int)]:=bB.of y;rwa[⟨15,λ_ _ h=>h⟩];rwa[⟨12,p,12,.inr a,212,ic rfl ?_⟩];rwa[⟨1212,p,11122,a,2,e,E,u,2,B,M,true,2,cU ?_⟩];rwa[⟨1212,p,11122,a,2,e,E,v,2,B,O,true,2,cU ?_⟩];erw[12,p,11122,a,212,p,11122,a,2112212];rw[ajx (show ¬((u:Int)>=(v:Int)) by omega)];rwa[cU ?_];rwa[⟨15,λ_ _ h=>h⟩];rwa[⟨12,p,11122,a,2,c,2,true,2,cU ?_⟩];rwa[⟨12,p,11122,a,2,z,2,true,2,cU ?_⟩];rwa[⟨12,p,11122,a,212,p,11122,a,212,p,11122,a,2,(Za4 3),λD m=>?_⟩];generalize n:upd H D _=t;let⟨s3,o⟩:=dP n m;let b:bB K t p [.str (tx [109,101,101,116]),.int (c:Int),.int z,.int (u:Int),.int (v:Int)]:=bB.of (s3^y);erw[12,d,12,dz.t (k:=k3 c z u) (s3^q) o,12];rw[x.v c z u J];rwa[eX ?_];rwa[⟨12,p,11122,b,212,p,11122,b,212,p,11122,b,2,(Za4 3),λG i=>?_⟩];generalize n:upd t G _=I;let⟨r,l⟩:=dP n i;erw[12,d,12,dz.t (k:=k3 c z v) (r^s3^q) l];rw[x.v c z v S];rwa[k I (s3.trans r)]
def QZ {xs:Zb}{x:V}(a:⇑xs=n+ 1)(h:xs[n]?\x):g6 xs (-1)\x:=by
 unfold g6 tU;rw[ajb ⋯,ajg ∅];show xs[((-1:Int)+ (⇑xs:Int)).toNat]?=_
 rw[show ((-1:Int)+ (⇑xs:Int)).toNat=n by ext];rwa[h]
inductive Kv (vs:Zb) (H:Hp) (Q:VK) (E_:XK):Prop
 |mk (wl d e p q:Zs) (ws:Za3) (nr:Nat) (kvs:List (Zd×V)) (E:Zh) (W:Za2) (which m:Nat) (word:Zg) (sN:Zh):vs=[↑wl,.int nr,↑d,↑e,↑p]->bW H wl ws->H d\.dT kvs->H e\.lst (aq (nI E))->H p\.tup [.str (tx [114,117,108,101]),.int which,↑q,.int m]->H q\.tup (aq (nI sN))->WD kvs W->ws[which]?\word->⇑sN=⇑word+ 1->sN[0]?=sN[⇑word]?->(which<nr\/sN[0]?\0)->(∀x∈sN,E[x]?\x)->m<⇑word->(∀(i a b:Nat) (y:Int),i≠m->word[i]?\y->sN[i]?\a->sN[i+ 1]?\b->W a y b)->(∀H',av H H'->Q (.bl true) H')->Kv vs H Q E_
def DB (T:Txt K mg A):T.rZ.Ok P w base 3 Kv:=by
 rwa[T.rZ.on gI (λcC AA outer s H vs Q E hr h=>?_)]
 ·let⟨D,d,e,p,q,ws,nr,kvs,E,W,f,m,word,g,rfl,⟨X,u,I⟩,hd,he,hp,hq,hW,U,N,VL,JS,O,hm,Ic,k⟩:=h;let iZ:=eV hr
  erw[_,{bG (bC (PW.pt (eH (aO ib (4<<<0) ao (aV _)) (eH (fJ (cX (pc T.eB (dQ T) hr #[4&&&ao]))) (eH (fJ (cX (pc T.eB (dQ T) hr #[4&&&ao]))) (i9 (fJ (cX (bq gT rfl T.dH ajE #[4&&&ao,iK (v:=.ty "tuple") rfl T.mx akn rfl]))))))))
   {a9 fu}
   bj),bI 5 gI.nd (4&&&ao),bI 6 gI.nd (4&&&ao),bG (bC (PW.pt (eH (aO jU (pv 5) ao (aV _)) (eH (aO vA (pv 5) (0<<<0) (aV _)) (eH (aO jU (4&&&ao) ao (aV _)) (i9 (aO vA (4&&&ao) ((0|||5)<<<0) (aV _)))))))
    {a9 fu}
    bj),bG (bC (PW.pt (eH (aO ib (6<<<0) (aL cK ((0|||5)<<<0) ao) (aV _)) (eH (aO ib (6&&&ao) (6&&&(eU dD ao)) (aV _)) (i9 (PW.pt (kT (aO vA (pv 5) (pv 1) (aV _)) (jA (aO ib (6&&&ao) ao (aV _)))))))))
    {a9 fu}
    bj),ck ajc rfl (vw (pv 6)) (cZ 7 gI.nd)
    {bC (fJ (cX (pc T.hO (iW T) hr #[3,7])))
     {a9 fu}
     bj},ck ajc rfl (Lz rfl T.oF (0|||5) rfl) (ja rfl (bX (cZ 8 gI.nd) (bX (cZ 9 gI.nd) hM)))
    {bG (bC (PW.pt (kT (aO ib (pv 8) (4&&&ao) (aV _)) (jA (vo (y4 iZ (bO #[6&&&8,9,6&&&(aL cK (pv 8) ao)]) (pv 2))))))
     {a9 fu}
     bj)},a9 fu}]
  rwa[uG ?_];intro CL uj lV kh iY ft fQ;let B:bB K H p [.str (tx [114,117,108,101]),.int (f:Int),↑q,.int (m:Int)]:=bB.of hp;let o:bB K H q (aq (nI g)):=bB.of hq;let VM:f<⇑ws:=(aiO.mp U).1;obtain⟨wp,Z⟩:∃wp,X[f]?\wp:=⟨_,aiL (by rw[I.1];omega)⟩
  let M:=I.2 _ _ _ Z U;let G:bB K H wp (aq word):=bB.of M;let OZ:⇑(aq (nI g))=⇑g:=by rw[aI,bP]
  obtain⟨c0,F⟩:∃c0,g[0]?\c0:=⟨_,aiL ∅⟩
  let L:g6 (aq (nI g)) (0:Int)\(.int (c0:Int)):=cw (j:=0) (bU (eD F));let atL:g6 (aq (nI g)) (-1)\(.int (c0:Int)):=QZ (n:=⇑word) (by rw[OZ,N]) (bU (eD (by rw[<-VL];rwa[F])));let C:g6 (X.map V.ref) (f:Int)\↑wp:=dR Z;rwa[⟨15,λ_ _ h=>h⟩];rwa[⟨12,p,12,.inr B,212,ic rfl ?_⟩];rwa[⟨12,p,11122,B,2,f,2,true,2,cU ?_⟩];rwa[⟨12,p,11122,B,2,m,2,true,2,cU ?_⟩];rwa[⟨12,p,11122,B,211112,.tup hq,iA K "tuple",true,2,cU ?_⟩];erw[12,p,11122,B,2];erw[12,p,11122,B,2];rwa[⟨15,λ_ _ h=>h⟩];rwa[⟨12112212,bK (λh=>absurd (aja h) ∅) λ_=>?_⟩];rwa[⟨1212,D,12,.inl (aD.of u),112212,bK (λh=>absurd (aja h) (by rw[aiQ,I.1];omega)) λ_=>?_⟩];rwa[⟨12,p,11122,B,2112212,bK (λh=>absurd (aja h) ∅) λ_=>?_⟩];rwa[⟨12,p,11122,B,21212,D,11122,aD.of u,C,wp,12,.inr G,112212,bK (λh=>absurd (aja h) (by rw[aI];omega)) λ_=>?_⟩];erw[λ Y H'=>Y=#v[↑D,.int (nr:Int),↑d,↑e,↑p,.int (f:Int),↑q,none,none,none]/\H'=H,5]
  ·rwa[⟨12,q,12,.inr o,1212,D,11122,aD.of u,C,wp,12,.inr G,1122212,ic (by rw[OZ,N,aI];rfl) ?_⟩];rwa[⟨12,q,11122,o,L,1212,q,11122,o,atL,212,ic rfl ?_⟩];rwa[⟨1212112212,bK (λh=>?_) λ_=>⟨22⟩⟩];let h:(f:Int)>=(nr:Int):=aja h;rwa[⟨12,q,11122,o,L,212,ic ?_ ⟨22⟩⟩];rcases JS with h'|h'
   ·ext
   ·rw[F]at h';rw[Za0 h'];rfl
  rintro Y H0 ⟨rfl,rfl⟩;erw[12,q,2,⟨_,o⟩];rwa[eI (xs:=aq (nI g)) (λi r S=>∃v7,r=#v[↑D,.int (nr:Int),↑d,↑e,↑p,.int (f:Int),↑q,v7,none,none]/\S=H0) ⟨none,22⟩ (λi r S _ ζ=>by let⟨_,_,e⟩:=ζ;rwa[[e]▸o]) ?_ ?_]
  ·rintro i x r S hx ⟨v7,rfl,rfl⟩;let⟨y,rfl,hy⟩:=cH hx;let⟨c,hc,rfl⟩:=ajz.mp (aiN hy);rwa[1212,e,E,c,2,he,O c hc,true,2,cU ⟨122⟩]
  rintro r S ⟨v7,rfl,rfl⟩;erw[1212,D,11122,aD.of u,C,wp,2,⟨_,G⟩];rwa[Bc (xs:=aq word) (λi r J=>∃v8 v9,r=#v[↑D,.int (nr:Int),↑d,↑e,↑p,.int (f:Int),↑q,v7,v8,v9]/\av S J) ⟨none,none,2,λ_ _ e=>e⟩ (λi r J _ ζ=>by let⟨_,_,_,s⟩:=ζ;rwa[bB.of (s^M)]) ?_ ?_]
  ·rintro i x r J t hx nt ⟨v8,v9,rfl,s3⟩;let⟨y,rfl,hy⟩:=cH hx;generalize e_:upd J t _=H4;let⟨s4,ht4⟩:=dP e_ nt;let l:=s3.trans s4;let hiw:i<⇑word:=(aiO.mp hy).1;obtain⟨a,ha⟩:∃a,g[i]?\a:=⟨_,aiL ∅⟩
   obtain⟨b,hb⟩:∃b,g[i+ 1]?\b:=⟨_,aiL ∅⟩
   let sq4:bB K H4 p _:=bB.of (l^hp);let z:bB K H4 q _:=bB.of (l^hq);erw[t,12,bB.of ht4,21121122];rwa[⟨15,λ_ _ h=>h⟩];erw[1212,p,11122,sq4,2212];cases R:i=m
   ·subst R;rwa[ic rfl ⟨112,l⟩]
   ·rwa[bK (λ_=>?_) λ_=>⟨112,l⟩]
    rwa[⟨1212,q,11122,z,cw (bU (eD ha)),1212121122,q,11122,z,(cw (j:=i+ 1) (bU (eD hb)):g6 _ ((i:Int)+ 1)=_),(Za4 3),λt3 nt3=>?_⟩];generalize e_:upd H4 t3 _=H5;let⟨s5,ht5⟩:=dP e_ nt3;erw[12,d,12,dz.t (k:=k3 a y b) (s5^l^hd) ht5,12];rw[hW.v a y b (Ic i a b y R hy ha hb)];rwa[cU ⟨112,l.trans s5⟩]
  rintro r J ⟨v8,v9,rfl,s3⟩;rwa[k J s3]
inductive Kw (vs:Zb) (H:Hp) (Q:VK) (E_:XK):Prop
 |mk (L:Nat) (d e p:Zs) (kvs:List (Zd×V)) (E:Zh) (W:Za2) (c:Nat) (z:Int):vs=[.int L,↑d,↑e,↑p]->H d\.dT kvs->H e\.lst (aq (nI E))->H p\.tup [.str (tx [110,101,119]),.int c,.int z,.int ⇑E]->WD kvs W->E[c]?\c->z≠0->z.natAbs<=L->(∀b,¬W c z b)->⇑E<=1000->(∀H',av H H'->Q (.bl true) H')->Kw vs H Q E_
def Em (T:Txt K mg A):T.uW.Ok P w base 3 Kw:=by
 rwa[T.uW.on Ef (λZ AA y s H vs Q E g h=>?_)]
 ·let⟨L,d,e,p,n,E,W,c,z,rfl,M,B,F,X,hc,r,Y,j,R,k⟩:=h;let u:=eV g;let hu:=ama (eV g)
  erw[_,{bG (bC (PW.pt (eH (aO ib (3<<<0) ao (aV _)) (eH (fJ (cX (pc T.hO (iW T) g #[2,3&&&ao]))) (eH (fJ (cX (pc T.eB (dQ T) g #[3&&&ao]))) (i9 (aO ib (3&&&ao) (2<<<0) (aV _)))))))
   {a9 fu}
   bj),bG (bC (PW.pt (eH (aO dm (3&&&ao) ao (aV _)) (eH (aO vz (bq KR rfl T.Xl PyProof.Rows.boot_abs #[3&&&ao]) (pv 0) (aV _)) (i9 (fJ (cX (pc T.eB (dQ T) g #[3&&&ao])))))))
    {a9 fu}
    bj),a9 (mw (PN hu) (vV (fns:=["_law_ways","_law_row"]) (ixs:=[1,3]) (cl:=_) rfl (gL rfl T.dX #[2<<<0]) (cR [(_,_),(_,_)] rfl ⟨2222222222,True.intro⟩ rfl) (λC s H ex=>(vo (vH u (bO #[aK (oS (K:=K) rfl) (pv 2) ao (λ_ _=>rfl),aK (oS (K:=K) rfl) (pv 2) ao (λ_ _=>rfl),0]) (pv 1)))) (λC s H ex=>(pv 0))) (bT ah) (aV _))}]
  rwa[eQ ?_];intro ft O;let a:bB K H p [.str (tx [110,101,119]),.int (c:Int),.int z,.int (⇑E:Int)]:=bB.of F;rwa[⟨15,λ_ _ h=>h⟩];rwa[⟨12,p,12,.inr a,212,ic rfl ?_⟩];rwa[⟨1212,p,11122,a,2,e,E,c,2,B,hc,true,2,cU ?_⟩];rwa[⟨12,p,11122,a,2,z,2,true,2,cU ?_⟩];rwa[⟨12,p,11122,a,212,e,12,.inl (aD.of B),212,ic (by rw[aI,bP]) ?_⟩];rwa[⟨15,λ_ _ h=>h⟩];rwa[⟨12,p,11122,a,2212,bK (λh=>absurd (V.int.inj (aja h)) r) λ_=>?_⟩];rwa[⟨12,p,11122,a,2,z,212112212,bK (λh=>absurd (aja h) ∅) λ_=>?_⟩];rwa[⟨12,p,11122,a,212,true,2,cU ?_⟩];erw[12,e,12,.inl (aD.of B),(⇑E:Int),by rw[aI,bP],33];rw[ajq];erw[λi m ys I=>m=⇑E - i/\i<=⇑E/\ys=[]/\av H I,⟨⇑E,by simp,ajj _,2,λ_ _ e=>e⟩];rintro i m ys I ⟨rfl,hi,rfl,s2⟩;cases b:i<⇑E
  ·rwa[.inr ⟨b,4,λx U v=>?_⟩];let⟨rfl,rfl⟩:=v;let f:bB K U p [.str (tx [110,101,119]),.int (c:Int),.int z,.int (⇑E:Int)]:=bB.of (s2^F);rwa[⟨12,p,11122,f,212,p,11122,f,212,Za4 3,λt nt=>?_⟩];let J:=av.upd (o:=.tup [.int (c:Int),.int z,.int (0+ (i:Int))]) nt;erw[12,d,12,dz.t (k:=k3 c z i) (J^s2^M) (by rw[aj,Int.zero_add];rfl)];rw[show (bA n (k3 c z i)).isSome=false from Bool.eq_false_iff.mpr λq=>j i ((X.iff c z i).mp q)];rwa[false,2,⇑E - (i+ 1),32,b,2,s2.trans J]
  ·let e:i=⇑E:=∅
   subst e;rwa[.inl ⟨aiS _,ajj _,λD S=>⟨ajj _,λl hl=>?_⟩⟩];let N:=av.upd (o:=.lst []) S;let G:=av.upd (o:=.lst []) hl;rwa[⟨D,l,[],[],22,G^aj,aj,k _ ((s2.trans N).trans G)⟩]
inductive Kx (ws:Za3) (nr L:Nat):Zh->(Za2)->Dt->Zh->(Za2)->Prop
 |old {E E1:Zh} {W W1:Za2} {row:Dt}:One ws nr E W row E1 W1->Kx ws nr L E W row E1 W1
 |new {E:Zh} {W:Za2} {c:Nat} {z:Int}:E[c]?\c->z≠0->z.natAbs<=L->(∀b,¬W c z b)->Kx ws nr L E W (lu c z ⇑E) (E++[⇑E]) (eP W c z ⇑E)
def Xw (h:bS H 4 ↑a (ky n B m)):∃q,H a\.tup [.str (tx [114,117,108,101]),.int n,↑q,.int m]/\H q\(.tup (aq (nI B))):=by
 cases h with
 | @t _ _ o _ r g b=>
   let⟨C,s,y,k,rfl⟩:=args_is4 (show ⇑o=4 from g);let f:=b 0 C _ rfl rfl;let p:=b 1 s _ rfl rfl;let D:=b 2 y _ rfl rfl;let u:=b 3 k _ rfl rfl;ext f;ext p;ext u
   cases D with
   | @t _ j us _ v l E=>
     erw[j,r];rw[v]
     congr 2
     rwa[aku λi=>?_]
     unfold aq nI;rw[ai6,ai6];rw[aiQ]at l
     cases d:B[i]? with
     |none=>rw[aju (by have:=akW.mp d;omega)];rfl
     |some c=>
      let z:i<⇑us:=by have:=(aiO.mp d).1;ext
      let e:=aiL z;have:=E i _ _ e (by rw[ai6,d];rfl);rw[e];change us[i]=x at this;ext this;rfl
theorem zL {e f:Za3}{us:Zn}(b:b6 H us e)(g:b6 H F f)(j:H a=none):bW (upd H a (.lst (us.map V.ref++F.map V.ref))) a (e++f):=by
 let s:=av.upd (o:=.lst (us.map V.ref++F.map V.ref)) j;rwa[⟨us++F,by rw[aj,ajn],by rw[aiP,aiP,b.1,g.1],λi p w c d=>s _ _ ?_⟩];cases h:i<⇑us
 ·rw[aiZ h]at c;rw[aiZ (by rw[<-b.1];rwa[h])]at d;rwa[b.2 i p w c d]
 ·rw[ai1 ∅]at c;rw[ai1 (by rw[<-b.1];omega),<-b.1]at d;rwa[g.2 _ p w c d]
def OnQ (H:Hp)(d e:Zs)(n:Nat)(i:Zh)(j:Za2)(Q:VK):Prop:=∀f g h a c,(∀b u,b≠d->H b\u->c b\u)->(∃u,c d\u)->c f\.tup [↑g,↑h]->c g\.dT a->c h\.lst (aq (nI i))->(g=d\/H g=none)->(h=e\/H h=none)->WD a j->⇑a<=n+ 2->Q ↑f c
inductive VN (vs:Zb) (H:Hp) (Q:VK) (E_:XK):Prop
 |mk (L:Nat) (ru pa st p d e:Zs) (rs ps:Za3) (kvs:List (Zd×V)) (E E':Zh) (W W':Za2) (row:Dt):vs=[.int L,↑ru,↑pa,↑st,↑p]->bW H ru rs->bW H pa ps->⇑rs+ ⇑ps<=1000->H st\.tup [↑d,↑e]->H d\.dT kvs->H e\.lst (aq (nI E))->WD kvs W->bS H 4 ↑p row->Kx (rs++ps) ⇑rs L E W row E' W'->⇑kvs<=10000000->⇑E<=1000->OnQ H d e ⇑kvs E' W' Q->VN vs H Q E_
def xH {b:Zh}(h:B≠b):¬(V.str (tx B)=V.str (tx b)):=λz=>h (HW (V.str.inj z))
theorem Hj (T:Txt K mg A):T.yz.Ok P w base 4 VN:=by
 rwa[T.yz.on dJ (λcC AA outer s H vs Q E hr h=>?_)]
 ·let⟨L,ru,pa,st,p,d,e,rs,ps,f,E,E',W,W',row,rfl,⟨us,xo,O9⟩,⟨vs,zE,IV⟩,oy,Ic,hd,he,hW,Z,S,hkl,VP,k⟩:=h;let iZ:=eV hr
  erw[_,{kU (pv 3) (ja rfl (bX (cZ 5 dJ.nd) (bX (cZ 6 dJ.nd) hM))),bG (bC (PW.pt (eH (fJ (cX (bq gT rfl T.dH ajE #[4,iK (v:=.ty "tuple") rfl T.mx akn rfl]))) (i9 (aO jU (4<<<0) ao (aV _)))))
    {a9 cJ}
    bj),bG (bC (PW.pt (kT (aO dm (4&&&ao) (dS (l:=[109,101,101,116]) rfl) (aV _)) (jA (cX (pc T.r0 (Dz T) hr #[5,6,4])))))
    {bI 7 dJ.nd pX,sV (ck ajc rfl (NK (pv 5)) (ja rfl (bX (cZ 8 dJ.nd) (bX (cZ 9 dJ.nd) (bX (cZ 10 dJ.nd) hM))))
     {jC iZ (pv 7) (bO #[pc T.iF (kb T) hr #[8,4&&&ao,4&&&ao],9,pc T.iF (kb T) hr #[10,4&&&ao,4&&&ao]]) fu rfl}),a9 (bO #[7,iD (fns:=["_law_row"]) (ixs:=[4]) (cl:=_) rfl (cY (pv 6)) (cR [(_,_)] rfl ⟨22222,True.intro⟩ rfl) (λC s H ex=>(pc T.iF (kb T) hr #[0,aK (oS (K:=K) rfl) (pv 1) ao (λ_ _=>rfl),aK (oS (K:=K) rfl) (pv 1) ao (λ_ _=>rfl)]))])}
    bj),bI 11 dJ.nd cJ,bG (bC (PW.pt (kT (aO dm (4&&&ao) (dS (l:=[110,101,119]) rfl) (aV _)) (jA (cX (pc T.uW (Em T) hr #[0,5,6,4])))))
    {bI 6 dJ.nd (aL oO (pv 6) (bT #[4&&&ao])),bI 11 dJ.nd (bO #[4&&&ao,4&&&ao,4&&&ao])}
    bj),bG (bC (PW.pt (kT (aO dm (4&&&ao) (dS (l:=[114,117,108,101]) rfl) (aV _)) (jA (cX (pc T.rZ (DB T) hr #[aL oO (pv 1) (pv 2),1<<<0,5,6,4])))))
    {bI 11 dJ.nd (bO #[(4&&&ao)&&&(4&&&ao),((aL oO (pv 1) (pv 2))|||(4&&&ao))&&&(4&&&ao),(4&&&ao)&&&(aL cK (4&&&ao) ao)])}
    bj),bC (aO kY (pv 11) cJ (aV _))
    {a9 cJ}
    bj,jC iZ (pv 5) (pv 11) fu rfl,jC iZ (pv 5) (bO #[11&&&ao,eU dD (11&&&ao),11&&&ao]) fu rfl,a9 (bO #[5,6])}]
  rwa[Lq ?_];intro u_9 Ul CL uj lV kh iY ft fQ;erw[12,st,12,bB.of Ic,21121122]
  let tail:∀(t I:Zs) (c g:Nat) (z:Int) (E1:Zh) (N:Hp),av H N->N t\.tup ((k3 c z g).map kV)->N I\.lst (aq (nI E1))->(I=e\/H I=none)->OnQ H d e ⇑f E1 (eP W c z g) Q->uj { nx:=λ_ J=>Q .non J,rt:=Q } #v[.int L,↑ru,↑pa,↑st,↑p,↑d,↑I,none,none,none,none,↑t] N:=λt I c g z E1 N s1 ht U oe kk=>by
   rwa[⟨12212,bK (λh=>by have:=aja h;ext this) λ_=>?_⟩];let JF:=s1^hd;let td:t≠d:=λe=>by rw[e,JF]at ht;ext ht
   let xm:=dB f (k3 c z g) (.bl true);erw[1212,d,12,jY.t (k:=k3 c z g) JF ht (aiW hkl ⋯)];let k1:∀b u,b≠d->N b\u->upd N d (.dT (putK f (k3 c z g) (.bl true))) b\u:=λb u n e=>by rw[ak n];rwa[e]
   let hd2:upd N d (.dT (putK f (k3 c z g) (.bl true))) d\(.dT (putK f (k3 c z g) (.bl true))):=aj;change upd N d (.dT (putK f (k3 c z g) (.bl true)))=H2 at k1 hd2 ⊢;let VQ:bB K H2 t [.int (c:Int),.int z,.int (g:Int)]:=bB.of (k1 _ _ td ht);rwa[⟨1212,t,11122,VQ,212,t,11122,VQ,21212,t,11122,VQ,2,Za4 3,λt2 nt2=>?_⟩];let s3:=av.upd (o:=.tup [.int (g:Int),.int (-z),.int (c:Int)]) nt2;let Ot:upd H2 t2 (.tup [.int (g:Int),.int (-z),.int (c:Int)]) t2\(.tup ((k3 g (-z) c).map kV)):=aj;change upd H2 t2 (.tup [.int (g:Int),.int (-z),.int (c:Int)])=H3 at s3 Ot ⊢;let Bw:=dB (putK f (k3 c z g) (.bl true)) (k3 g (-z) c) (.bl true);erw[d,12,jY.t (k:=k3 g (-z) c) (s3^hd2) Ot (aiW (show _<=10000001 by omega) ⋯)];let VR:∀b u,b≠d->N b\u->upd H3 d (.dT (putK (putK f (k3 c z g) (.bl true)) (k3 g (-z) c) (.bl true))) b\u:=λb u n e=>by rw[ak n];rwa[s3^k1 _ _ n e]
   let R:upd H3 d (.dT (putK (putK f (k3 c z g) (.bl true)) (k3 g (-z) c) (.bl true))) d\(.dT (putK (putK f (k3 c z g) (.bl true)) (k3 g (-z) c) (.bl true))):=aj;change upd H3 d (.dT (putK (putK f (k3 c z g) (.bl true)) (k3 g (-z) c) (.bl true)))=H4 at VR R ⊢;let ed:I≠d:=λz=>by rw[z,JF]at U;ext U
   rwa[⟨1212,Za4 2,λs5 ns5=>?_⟩];let s6:=av.upd (o:=.tup [↑d,↑I]) ns5;rwa[kk s5 d I _ _ (λb u n e=>s6^(VR b u n (s1^e))) ⟨_,s6^R⟩ aj (s6^R) (s6^VR _ _ ed U) (.inl rfl) oe (((hW.put c z g (.bl true)).put g (-z) c (.bl true)).congr λa y b=>?_) ∅];unfold eP;constructor
   ·rintro ((h|h)|h)
    ·rwa[.inl h]
    ·rwa[.inr (.inl h)]
    ·rwa[.inr (.inr h)]
   ·rintro (h|h|h)
    ·rwa[.inl (.inl h)]
    ·rwa[.inl (.inr h)]
    ·rwa[.inr h]
  rcases S with S | @⟨_,c,z,hc,hz0,hzL,Yo⟩
  ·cases S with
   | @meet c u v z huv hu hv iu iv=>
     let G:=Xv Z;let B:∀{J:Hp},J p\.tup [.str (tx [109,101,101,116]),.int (c:Int),.int z,.int (u:Int),.int (v:Int)]->bB K J p [.str (tx [109,101,101,116]),.int (c:Int),.int z,.int (u:Int),.int (v:Int)]:=λh=>bB.of h
     rwa[⟨15,λ_ _ h=>h⟩];rwa[⟨1211112,.tup G,iA K "tuple",true,2,cU ?_⟩];rwa[⟨12,p,12,.inr (B G),112212,bK (λh=>absurd (aja h) (by show ¬((5:Nat):Int)<4;decide)) λ_=>?_⟩];rwa[⟨15,λ_ _ h=>h⟩];rwa[⟨12,p,11122,B G,2212,bK (λ_=>?_) λh=>absurd (aje rfl) h⟩];rwa[⟨121212,d,e,p,f,E,W,c,u,v,z,2,hd,he,G,hW,huv,hu,hv,iu,iv,λH3 F=>⟨true,2,eX ?_⟩⟩];intro td DC;let s4:=av.upd (o:=.dT []) DC;let DE:upd H3 td (.dT []) td\(.dT []):=aj;let xI:d≠td:=aw (F^hd) DC;let VS:H td=none:=F.free DC;change upd H3 td (.dT [])=H4 at s4 DE ⊢;let VW:=F.trans s4;let R:=VW^hd;rwa[⟨d,.dT f,R,True.intro,12,d,f,2,R,λo=>?_⟩];let kf:∀b x,b≠d->H4 b\x->upd H4 d (.cz o (.dT f)) b\x:=λb x n e=>by rw[ak n];rwa[e]
     let hf:upd H4 d (.cz o (.dT f)) d\(.cz o (.dT f)):=aj;change upd H4 d (.cz o (.dT f))=H5 at kf hf ⊢;let Hk:=kf _ _ (ajR xI) DE;let pd:p≠d:=λz=>by rw[z,hd]at G;ext G
     let hp5:=kf _ _ pd (VW^G);let ptd:p≠td:=λz=>by rw[z,VS]at G;ext G
     let' MX:Nat->St->Hp->Prop:=λi σ H6=>∃v6 v7 v8 tk,σ=#v[.int L,↑ru,↑pa,↑st,↑p,↑d,↑e,↑td,v6,v7,v8,none]/\(∀b x,b≠td->H5 b\x->H6 b\x)/\H6 td\.dT tk/\⇑tk<=i/\WD tk (λa s b=>∃j p a1 b1,j<i/\f[j]?\p/\p.1=k3 a1 s b1/\a=e9 u v a1/\b=e9 u v b1)
     rwa[Iu (o:=o) (kvs:=f) MX ⟨none,none,none,[],2,λ_ _ _ e=>e,Hk,aiS _,⟨(λp G=>by ext G),(λa z b h=>by let⟨j,_,_,_,hj,_⟩:=h;omega),aj8⟩⟩ (λi σ H6 _ ζ=>by let⟨_,_,_,_,_,kk,_⟩:=ζ;rwa[kk _ _ xI hf]) ?_ ?_]
     ·intro i kv σ H6 pk sD Ky Y;rwa[mK ?_];intro q_;let⟨v6,v7,v8,tk,rfl,kk,vD,OJ,xJ⟩:=Y;dsimp only[q_];clear q_;let⟨a,s,b,ek,hw⟩:=hW.k kv (aiN sD);let hi:i<⇑f:=(aiO.mp sD).1;let BE:H6 pk\(.tup [.int (a:Int),.int s,.int (b:Int)]):=by rw[ek]at Ky;rwa[Ky]
      let Pa:=B (kk _ _ ptd hp5);erw[pk,12,bB.of BE,21121121122];rwa[⟨121212,p,11122,Pa,212,p,11122,Pa,2,a,u,v,2121212,p,11122,Pa,212,p,11122,Pa,2,b,u,v,2,(Za4 3),λt nt=>?_⟩];let s7:=av.upd (o:=.tup [.int ((e9 u v a:Nat):Int),.int s,.int ((e9 u v b:Nat):Int)]) nt;let VX:upd H6 t (.tup [.int ((e9 u v a:Nat):Int),.int s,.int ((e9 u v b:Nat):Int)]) t\(.tup ((k3 (e9 u v a) s (e9 u v b)).map kV)):=aj;erw[td,12,jY.t (k:=k3 (e9 u v a) s (e9 u v b)) (s7^vD) VX (aiW (show ⇑tk<=10000000 by omega) ⋯)];let nT:=dB tk (k3 (e9 u v a) s (e9 u v b)) (.bl true);rwa[⟨11112,λx o nx e=>?_,aj,3,(xJ.put (e9 u v a) s (e9 u v b) (.bl true)).congr λa' s' b'=>?_⟩]
      ·rw[ak nx];rwa[s7^kk x o nx e]
      ·constructor
       ·rintro (⟨j,p,a1,b1,hj,q⟩|⟨rfl,rfl,rfl⟩)
        ·rwa[j,p,a1,b1,3,q]
        ·rwa[i,kv,a,b,3,sD,ek,22]
       ·rintro ⟨j,p,a1,b1,hj,q1,q2,q3,q4⟩;cases Um:j=i
        ·subst Um;rw[sD]at q1;obtain rfl:=Za0 q1;let⟨rfl,rfl,rfl⟩:=ny.mp (ek.symm.trans q2);rwa[.inr ⟨q3,2,q4⟩]
        ·rwa[.inl ⟨j,p,a1,b1,3,q1,q2,q3,q4⟩]
     ·intro σ H6 Y;rwa[mK ?_];intro q_;let⟨v6,v7,v8,tk,rfl,kk,vD,OJ,xJ⟩:=Y;dsimp only[q_];clear q_;erw[o,kk _ _ xI hf]
      let same:av H (upd H6 d (.dT f)):=λb x e=>by
       cases hb:b=d
       ·subst hb;rw[aj];rw[hd]at e;rwa[e]
       ·rw[ak hb];rwa[kk b x (λz=>by rw[z]at e;have:=F^e;rw[DC]at this;ext this) (kf b x hb (VW^e))]
      let yM:upd H6 d (.dT f) td\(.dT tk):=by rw[ak (ajR xI)];rwa[vD]
      change upd H6 d (.dT f)=H7 at same yM ⊢;let Pb:=same^he;let sq7:=B (same^G);erw[12];erw[12,e,2,⟨_,aD.of Pb⟩];rwa[jB (aq (nI E)) (λw=>match w with|.int q=>.int ((e9 u v q.toNat:Nat):Int)|w=>w) (jX (aD.of Pb)) (iN (aD.of Pb)) (gS (aD.of Pb)) ([aI,bP]▸ai0 VP ⋯) (λi w hw Rr hR=>?_) (λD nD=>?_)]
      ·let⟨q,rfl,hq⟩:=cH hw;unfold nI at hq;rw[ai6]at hq
       cases hE:E[i]? with
       |none=>rw[hE]at hq;ext hq
       |some a=>
        rw[hE]at hq;obtain rfl:(a:Int)=q:=Za0 hq;erw[1212,p,11122,sq7,212,p,11122,sq7,2,a,u,v,2];rwa[hR]
      let eE:((aq (nI E)).map λw=>match w with|.int q=>V.int ((e9 u v q.toNat:Nat):Int)|w=>w)=aq (nI (E.map (e9 u v))):=by
       unfold aq nI;rw[ajw,ajw,ajw,ajw];rwa[ajN λa _=>?_]
       show V.int ((e9 u v (a:Int).toNat:Nat):Int)=V.int ((e9 u v a:Nat):Int);rw[ajq]
      rw[eE];let s8:=av.upd (o:=.lst (aq (nI (E.map (e9 u v))))) nD;let hD8:upd H7 D (.lst (aq (nI (E.map (e9 u v))))) D\(.lst (aq (nI (E.map (e9 u v))))):=aj;let nDH:H D=none:=same.free nD;change upd H7 D (.lst (aq (nI (E.map (e9 u v)))))=H8 at s8 hD8 ⊢
      let hWn:WD tk (LR u v W):=xJ.congr λa s b=>by
       constructor
       ·rintro ⟨j,p,a1,b1,hj,q1,q2,rfl,rfl⟩;let⟨a2,s2,b2,e2,w2⟩:=hW.k p (aiN q1);let⟨rfl,rfl,rfl⟩:=ny.mp (q2.symm.trans e2);rwa[11,w2,22]
       ·rintro ⟨a3,b3,r,e3,e4⟩;let⟨w,hw⟩:=akh.mp (hW.v _ s _ r);let⟨p,G,ep⟩:=yL hw;let⟨j,hj⟩:=ajG G;rwa[j,p,11,(aiO.mp hj).1,hj,ep,e3.symm,e4.symm]
      rwa[⟨(Za4 2),λt nt=>?_⟩];let s9:=av.upd (o:=.tup [↑td,↑D]) nt;rwa[k t td D tk _ (λb u _ e=>s9^s8^same^e) ⟨_,s9^s8^same^hd⟩ aj (s9^s8^yM) (s9^hD8) (.inr VS) (.inr nDH) hWn ∅]
   | @rule M m c g word sN z VY nT VL JS ab0 hmz JZ Uq ab1=>
     let⟨q,G,hq⟩:=Xw Z;let B:∀{J:Hp},av H J->bB K J p [.str (tx [114,117,108,101]),.int (M:Int),↑q,.int (m:Int)]:=λs=>bB.of (s^G)
     let sqq:∀{J:Hp},av H J->bB K J q (aq (nI sN)):=λs=>bB.of (s^hq)
     let s0:av H H:=λ_ _ e=>e
     let VM:M<⇑(rs++ps):=(aiO.mp VY).1;let Ss:m<⇑word:=(aiO.mp hmz).1
     let fits:⇑(us.map V.ref)+ ⇑(vs.map V.ref)<=sizeLine:=by
      rw[aiQ,aiQ,O9.1,IV.1];rwa[ai0 oy ⋯]
     rwa[⟨15,λ_ _ h=>h⟩];rwa[⟨1211112,.tup G,iA K "tuple",true,2,cU ?_⟩];rwa[⟨12,p,12,.inr (B s0),112212,bK (λh=>absurd (aja h) (by show ¬((4:Nat):Int)<4;decide)) λ_=>?_⟩];rwa[⟨15,λ_ _ h=>h⟩];rwa[⟨12,p,11122,B s0,2212,bK (λh=>absurd (aja h) (xH ⋯)) λ_=>?_⟩];rwa[⟨15,λ_ _ h=>h⟩];rwa[⟨12,p,11122,B s0,2212,bK (λh=>absurd (aja h) (xH ⋯)) λ_=>?_⟩]
     let' ab2:St->Hp->Prop:=λ e8 J=>∃t,e8=#v[.int L,↑ru,↑pa,↑st,↑p,↑d,↑e,none,none,none,none,↑t]/\av H J/\J t\(.tup ((k3 c z g).map kV))
     erw[ab2,5]
     ·rwa[Bp ?_];intro D_0;rwa[⟨12,p,11122,B s0,2212,bK (λ_=>?_) λh=>absurd (aje rfl) h⟩];rwa[⟨1212,ru,pa,1122,xo,zE,fits,λwl nwl=>?_⟩];let hwc:=zL O9 IV nwl;let s1:=av.upd (o:=.lst (us.map V.ref++vs.map V.ref)) nwl;change upd H wl (.lst (us.map V.ref++vs.map V.ref))=N at hwc s1 ⊢;rwa[⟨12,ru,12,.inl (aD.of (s1^xo)),121212,wl,d,e,p,q,rs++ps,⇑rs,f,E,W,M,m,word,sN,(by rw[aiQ,O9.1];rfl),hwc,s1^hd,s1^he,s1^G,s1^hq,hW,VY,nT,VL,JS,ab0,Ss,ab1,λH2 s2=>⟨true,2,eX ?_⟩⟩];let O:=s1.trans s2;erw[12,p,11122,B O,212,p,11122,B O,2,q,11122,sqq O,cw (bU (eD JZ))];rwa[⟨1212,ru,pa,1122,O^xo,O^zE,fits,λw2 uk=>?_⟩];let⟨wps,hw2,VZ⟩:=zL (O9.same O) (IV.same O) uk;let s3:=av.upd (o:=.lst (us.map V.ref++vs.map V.ref)) uk;change upd H2 w2 (.lst (us.map V.ref++vs.map V.ref))=H3 at hw2 VZ s3 ⊢;let F:=O.trans s3;obtain⟨wp,hwp⟩:∃wp,wps[M]?\wp:=⟨_,aiL ([VZ.1]▸VM)⟩
      erw[12,p,11122,B F,2,w2,11122,aD.of hw2,dR hwp,12,p,11122,B F,2,wp,11122,bB.of (VZ.2 _ _ _ hwp VY),cw (bU hmz)];rwa[⟨12,p,11122,B F,212,p,11122,B F,21122,q,11122,sqq F,(cw (j:=m+ 1) (bU (eD Uq)):g6 _ ((m:Int)+ 1)=_),Za4 3,λt nt=>⟨t,25,aj⟩⟩];rwa[F.trans (av.upd nt)]
     rintro e8 N ⟨t,rfl,s1,ht⟩;rwa[tail t e c g z _ N s1 ht (s1^he) (.inl rfl) k]
  ·let G:=abZ Z;let B:∀{J:Hp},av H J->bB K J p [.str (tx [110,101,119]),.int (c:Int),.int z,.int (⇑E:Int)]:=λs=>bB.of (s^G)
   let s0:av H H:=λ_ _ e=>e
   rwa[⟨15,λ_ _ h=>h⟩];rwa[⟨1211112,.tup G,iA K "tuple",true,2,cU ?_⟩];rwa[⟨12,p,12,.inr (B s0),112212,bK (λh=>absurd (aja h) (by show ¬((4:Nat):Int)<4;decide)) λ_=>?_⟩];rwa[⟨15,λ_ _ h=>h⟩];rwa[⟨12,p,11122,B s0,2212,bK (λh=>absurd (aja h) (xH ⋯)) λ_=>?_⟩]
   let' ab3:St->Hp->Prop:=λ e8 J=>∃t I,e8=#v[.int L,↑ru,↑pa,↑st,↑p,↑d,↑I,none,none,none,none,↑t]/\av H J/\J t\.tup ((k3 c z ⇑E).map kV)/\J I\.lst (aq (nI (E++[⇑E])))/\H I=none
   erw[ab3,5]
   ·rwa[Bp ?_];intro D_0;rwa[⟨12,p,11122,B s0,2212,bK (λ_=>?_) λh=>absurd (aje rfl) h⟩];rwa[⟨12121212,L,d,e,p,f,E,W,c,z,2,hd,he,G,hW,hc,hz0,hzL,Yo,VP,λN s1=>⟨true,2,eX ?_⟩⟩];rwa[⟨1212,p,11122,B s1,2,(Za4 1),λl nl=>?_⟩];let s2:=av.upd (o:=.lst [.int (⇑E:Int)]) nl;rwa[⟨e,l,1122,s2^s1^he,aj,([aI,bP]▸ai0 (Nat.add_le_add_right VP 1) ⋯),λI n1=>?_⟩];let s3:=av.upd (o:=.lst (aq (nI E)++[.int (⇑E:Int)])) n1;let X:=(s1.trans s2).trans s3;let he3:upd (upd N l (.lst [.int (⇑E:Int)])) I (.lst (aq (nI E)++[.int (⇑E:Int)])) I\(.lst (aq (nI (E++[⇑E])))):=by rw[aj,g9,ints_app];rfl
    let nn:H I=none:=(s1.trans s2).free n1;change upd (upd N l (.lst [.int (⇑E:Int)])) I (.lst (aq (nI E)++[.int (⇑E:Int)]))=H3 at X he3 ⊢;rwa[⟨12,p,11122,B X,212,p,11122,B X,212,p,11122,B X,2,Za4 3,λt nt=>⟨t,I,2,X.trans (av.upd nt),aj,av.upd nt _ _ he3,nn⟩⟩]
   intro e8 N Y;rwa[mK ?_];intro q_;let⟨t,I,rfl,s1,ht,U,n1⟩:=Y;dsimp only[q_];clear q_;rwa[⟨15,λ_ _ h=>h⟩];rwa[⟨12,p,11122,B s1,2212,bK (λh=>absurd (aja h) (xH ⋯)) λ_=>?_⟩];rwa[tail t I c _ z _ N s1 ht U (.inr n1) k]
inductive ur (ws:Za3) (nr L:Nat):Zh->(Za2)->List Dt->Zh->(Za2)->Prop
 |nil {E:Zh} {W W':Za2}:(∀a z b,W a z b↔W' a z b)->ur ws nr L E W [] E W'
 |cons {E E1 E2:Zh} {W0 W W1 W2:Za2} {row:Dt} {ms:List Dt}:(∀a z b,W0 a z b↔W a z b)->Kx ws nr L E W row E1 W1->ur ws nr L E1 W1 ms E2 W2->ur ws nr L E W0 (row::ms) E2 W2
def goN {d:Za3}{p j:Zh}{W l:Za2}{f i:List Dt}(h:Go d n B W f p R):∀{g:Za2},(∀a z b,g a z b↔W a z b)->(∀q,(∀a z b,q a z b↔R a z b)->ur d n m p q i j l)->ur d n m B g (f++i) j l:=by
 induction h with
 |nil e=>exact λc k=>k _ λa z b=>(c a z b).trans (e a z b)
 |cons o _ r=>exact λc k=>.cons c (.old o) (r (λ_ _ _=>Iff.rfl) k)
def V0 (g:Good S [] R){c:Nat}{z:Int}{f:Zg}(h:c<S.q)(j:S.by c z=none){W:Za2}(d:∀a z b,W a z b↔S.by a z=some b)(a:Nat)(y:Int)(b:Nat):eP W c z S.q a y b↔(S.make c z f).by a y=some b:=by
 rw[BL g.wf h];unfold eP;rw[d];let i:S.by a y=some b->a<S.q:=λe=>(g.st _ _ _ e).1
 cbv
def Fl.pap {rs j:Za3}{w:Nat}(h:Fl rs j n w m S)(o:∀u∈rs++j,∀z∈u,z∈bJ (2* n)/\-z∈bJ (2* n)):∀{E2:Zh} {W2:Za2} {ns:List Dt},(∀d,(∀a z b,d a z b↔S.by a z=some b)->ur (rs++j) ⇑rs n S.aY d ns E2 W2)->ur (rs++j) ⇑rs n [0] (λ_ _ _=>False) (S.rows++ns) E2 W2:=by
 induction h with
 |start t _=>
  intro E2 W2 ns k;let y:=YS.new (L:=n) (ks:=bJ (2* n));let⟨F,g,_,_,v,e,go⟩:=Aq t o y.g y.w y.k;rw[e];rwa[goN go (λa z b=>⟨False.elim,λζ=>?_⟩) λd f=>k d λa z b=>(f a z b).trans g.mJ.symm];let⟨_,_,r,_⟩:=ζ;rwa[r]
 | @next S I c z hf x C t _ D=>
   intro E2 W2 ns k;let⟨R,y⟩:=hf.ys o;let⟨s,q,p,l⟩:=C.1;let⟨E,G⟩:=iV.mp p;let i:=y.make s (sJ q) l p (Ks p);let⟨F,g,_,_,v,e,go⟩:=Aq t o i.g i.w i.k;rw[e,show (S.make c z (bJ (2* n))).rows=S.rows++[lu c z S.q] from rfl,ajy,ajy];rwa[D λd f=>?_]
   let el:⇑S.aY=S.q:=y.g.wf.e;rw[<-el];rwa[.cons (λ_ _ _=>Iff.rfl) (.new q E G λb B=>by rw[(f^_).mp B]at l;ext l) ?_];rw[el];rwa[goN go (λa z b=>(V0 y.g s l f a z b).trans i.g.mJ) λd f=>k d λa z b=>(f a z b).trans g.mJ.symm]
structure WK (kv:List (Zd×V)) (by_:Nat->Int->Zi):Prop where
 v:∀a z,bA kv (ia a z)=(by_ a z).map λb:Nat=>V.int (b:Int)
structure KN (tk:List (Zd×V)) (kvs:List (Zd×V)) (i:Nat):Prop where
 a:∀c z v,bA tk (ia c z)\v->∃j p b,j<i/\kvs[j]?\p/\p.1=k3 c z b/\v=V.int ((b:Nat):Int)
 b:∀j p c z b,j<i->kvs[j]?\p->p.1=k3 c z b->bA tk (ia c z)\(.int ((b:Nat):Int))
def MY {a:Type}:∀{l:List a} {i j:Nat} {x:a},l.Nodup->l[i]?\x->l[j]?\x->i=j:=λ{l i j x} h b c=>
 (al7 (aiO.mp b).1 h).mp (b.trans c.symm)
def KN.none {tk d:List (Zd×V)}{by_:Nat->Int->Zi}(hW:WD d (λa z b=>by_ a z\b)){i c b:Nat}{z:Int}{p:Zd×V}(h:KN tk d i)(m:d[i]?\p)(e:p.1=k3 c z b)(l:by_ c z\b):bA tk (ia c z)=none:=by
 cases q:bA tk (ia c z) with
 |none=>rfl
 |some v=>
  exfalso
  let⟨j,o,s,t,f,k,_⟩:=h.a _ _ _ q;let⟨u,z1,r,n,g⟩:=hW.k o (aiN f);let⟨rfl,rfl,rfl⟩:=ny.mp (k.symm.trans n);rw[l]at g;obtain rfl:=Za0 g;have:=MY hW.n (i:=i) (j:=j) (x:=k3 c z b) ([ai6,m]▸ajT some e) ([ai6,f]▸ajT some k);ext
def KN.put {tk d:List (Zd×V)}{by_:Nat->Int->Zi}(hW:WD d (λa z b=>by_ a z\b)){i c b:Nat}{z:Int}{p:Zd×V}(h:KN tk d i)(t:d[i]?\p)(e:p.1=k3 c z b)(C:by_ c z\b):KN (putK tk (ia c z) (.int (b:Int))) d (i+ 1):=by
 rwa[⟨λk l v g=>?_,λj m k l n x f s=>?_⟩]
 ·rw[jq]at g;cases q:ia k l=ia c z
  ·rw[ajg q]at g;let⟨rfl,rfl⟩:=Dx.mp q;rwa[i,p,b,3,t,e,(Za0 g).symm]
  ·rw[ajb q]at g;let⟨j,m,n,x,r⟩:=h.a _ _ _ g;rwa[j,m,n,3,r]
 ·rw[jq];cases q:ia k l=ia c z
  ·rw[ajg q];let⟨rfl,rfl⟩:=Dx.mp q;let⟨D,z1,B,u,y⟩:=hW.k m (aiN f);let⟨rfl,rfl,rfl⟩:=ny.mp (s.symm.trans u)
   cbv
  ·rw[ajb q];cases o:j=i
   ·subst o;rw[t]at f;obtain rfl:=Za0 f;let⟨rfl,rfl,rfl⟩:=ny.mp (e.symm.trans s);rwa[absurd rfl q]
   ·rwa[h.b j m k l n ∅ f s]
def KN.done {tk c:List (Zd×V)}{by_:Nat->Int->Zi}(hW:WD c (λa z b=>by_ a z\b))(h:KN tk c ⇑c):WK tk by_:=by
 rwa[⟨λa z=>?_⟩]
 cases q:by_ a z with
 |some b=>
  let⟨v,l⟩:=akh.mp (hW.v a z b q);let⟨p,d,e⟩:=yL l;let⟨j,f,i⟩:=List.getElem_of_mem d;rwa[h.b j p a z b f (by rw[aiL f,i]) e]
 |none=>
  cases r:bA tk (ia a z) with
  |none=>rfl
  |some v=>
   let⟨j,p,b,f,d,e,_⟩:=h.a _ _ _ r;let⟨n,z1,m,k,g⟩:=hW.k p (aiN d);let⟨rfl,rfl,rfl⟩:=ny.mp (e.symm.trans k);rw[q]at g;ext g
structure NB (H0 H:Hp) (lc lt:Zs) (ts:Zn) (come:Zh) (rows:Za3):Prop where
 s:av H0 H
 c:H lc\(.lst (aq (nI come)))
 t:H lt\(.lst (ts.map V.ref))
 r:dw H ts rows
 n:(lc::lt::ts).Nodup
 f:∀x∈lc::lt::ts,H0 x=none
section
variable {H0 H H':Hp}{lc lt lr:Zs}{ts:Zn}{come:Zh}{rows:Za3}
def NB.more (h:NB H0 H lc lt ts come rows)(k:av H H'):NB H0 H' lc lt ts come rows:=⟨h.s.trans k,k^h.c,k^h.t,h.r.same k,h.n,h.f⟩
def NB.keep (h:NB H0 H lc lt ts come rows){o:HO}(a:H0 lr=none):av H0 (upd H lr o):=λb x e=>by
 rw[ak (aw e a)];rwa[h.s^e]
def NB.rest (h:NB H0 H lc lt ts come rows){o:HO}(n:lr∉ts):dw (upd H lr o) ts rows:=⟨h.r.1,λi r ns a b=>by
 rw[ak (λz=>n (by rw[<-z];rwa[aiN a]))];rwa[h.r.2 i r ns a b]⟩
def NB.oT (h:NB H0 H lc lt ts come rows){o:HO}(a:H0 lr=none)(n:lr∉lc::lt::ts):NB H0 (upd H lr o) lc lt ts come rows:=by
 simp only[ai3,not_or]at n;rwa[h.keep a,[ak (ajR n.1)]▸h.c,[ak (ajR n.2.1)]▸h.t,h.rest n.2.2,h.n,h.f]
def NB.add (h:NB H0 H lc lt ts come rows)(y:Nat):NB H0 (upd H lc (.lst (aq (nI come)++[.int (y:Int)]))) lc lt ts (come++[y]) rows:=by
 let n:=ajr.mp h.n;let n1:=n.1;simp only[ai3,not_or]at n1;rwa[h.keep (h.f lc ai7),by rw[aj,g9,ints_app];rfl,[ak (ajR n1.1)]▸h.t,h.rest n1.2,h.n,h.f]
def NB.push (h:NB H0 H lc lt ts come rows){row:Zg}(i:H lr\.lst (aq row))(k:H0 lr=none)(n:lr∉lc::lt::ts):NB H0 (upd H lt (.lst (ts.map V.ref++[↑lr]))) lc lt (ts++[lr]) come (rows++[row]):=by
 let d:=ajr.mp h.n;let n1:=d.1;let n2:=ajr.mp d.2;let c:=n;simp only[ai3,not_or]at n1 c;rwa[⟨h.keep (h.f lt (ajo _ ai7)),[ak n1.1]▸h.c,by rw[aj,ajn];rfl,(h.rest n2.1).snoc ([ak c.2.1]▸i),5,λx f=>?_⟩]
 ·rw[<-ake,<-ake];rwa[ajF.mpr ⟨h.n,by simp,λa g b j e=>n (by rw[aiR.mp j]at e;rwa[e ▸ g])⟩]
 ·rw[<-ake,<-ake]at f;rcases aiY.mp f with q|q
  ·rwa[h.f x q]
  cbv
end
inductive Kz (vs:Zb) (H:Hp) (Q:VK) (E_:XK):Prop
 |mk (d:Zs) (kvs:List (Zd×V)) (S:RS) (L:Nat) (Z:Nat->Prop):vs=[↑d,.int L]->H d\.dT kvs->(WD kvs (λa z b=>S.by a z=some b))->⇑kvs<=10000000->1<=L->L<=40->S.q<=300->Z 0->(∀c,Z c->c<S.q/\∀k,k<2* L->∃d,S.by c (M12.st k)=some d/\Z d)->(∀l N H',av H H'->TabAt H' l (M24.uN (bz S) (2* L) (M24.bH (bz S) (2* L) 0 N))->⇑(M24.bH (bz S) (2* L) 0 N)=N->Q ↑l H')->Kz vs H Q E_
def vm (T:Txt K mg A):T.lJ.Ok P w base 1 Kz:=by
 rwa[T.lJ.on b8 (λcC AA outer s H vs Q E hr h=>?_)]
 ·let⟨d,g,S,L,Z,rfl,hd,hW,hkl,lU,sv,hm,Vd,hZ,k⟩:=h;let iZ:=eV hr
  erw[_,{bI 2 b8.nd pX,sV (ck ajc rfl (NK (pv 0)) (ja rfl (bX (cZ 3 b8.nd) (bX (cZ 4 b8.nd) (bX (cZ 5 b8.nd) hM))))
    {bC (vo (vH iZ (bO #[3,4]) (pv 2)))
     {a9 cJ}
     bj,jC iZ (pv 2) (bO #[3,4]) (pv 5) rfl}),bI 6 b8.nd (bT #[ao]),bI 7 b8.nd (bT ah),bG (fU ajc (aO jU (7<<<0) (6<<<0) (aV _))
    {bI 8 b8.nd (bT ah),ck ajc rfl (kX rfl T.dX #[ao,aL cK (pv 1) ao]) (cZ 9 b8.nd)
     {ck ajc rfl (cY (bT #[9,eU dD (pv 9)])) (cZ 4 b8.nd)
      {bI 5 b8.nd (A6 iZ (pv 2) (bO #[6|||(7<<<0),4]) ⟨2222⟩),bC (aO kY (pv 5) cJ (aV _))
       {a9 cJ}
       bj,bG (bC (aO Gj (pv 5) (pv 6) rfl)
       {aZ (cG aiX ai4 ai5 bM (pv 6) #[5])}
       bj),aZ (cG aiX ai4 ai5 bM (pv 8) #[cG aiX PySem.F.slot_list_index PySem.F.type_list_index qz (pv 6) #[5]])}},aZ (cG aiX ai4 ai5 bM (pv 7) #[8])}),a9 (pv 7)}]
  rwa[kr ?_];intro lV kh iY ft fQ;intro td DC;generalize e_:upd H td _=H4;let⟨s4,DE⟩:=dP e_ DC;let xI:d≠td:=aw hd DC;let Io:=s4^hd;rwa[⟨d,.dT g,Io,True.intro,12,d,g,2,Io,λo=>?_⟩];let kf:∀b x,b≠d->H4 b\x->upd H4 d (.cz o (.dT g)) b\x:=λb x n e=>by rw[ak n];rwa[e]
  let hf:upd H4 d (.cz o (.dT g)) d\(.cz o (.dT g)):=aj;change upd H4 d _=H5 at kf hf ⊢;let Hk:=kf _ _ (ajR xI) DE;rwa[Iu (o:=o) (kvs:=g) (λi C U=>∃v5 v6 v7 tk,C=#v[↑d,.int L,↑td,v5,v6,v7,none,none,none,none]/\(∀b x,b≠td->H5 b\x->U b\x)/\U td\.dT tk/\⇑tk<=i/\KN tk g i) ⟨none,none,none,[],2,λ_ _ _ e=>e,Hk,aiS _,⟨λc z v h=>(by ext h),λj p c z b hj=>∅⟩⟩ (λi C U _ ζ=>by let⟨_,_,_,_,_,kk,_⟩:=ζ;rwa[kk _ _ xI hf]) ?_ ?_]
  ·rintro i kv C U pk sD Ky ⟨v5,v6,v7,tk,rfl,kk,vD,M,xJ⟩;let⟨a,s,b,ek,hw⟩:=hW.k kv (aiN sD);let hi:i<⇑g:=(aiO.mp sD).1;let BE:U pk\(.tup [.int (a:Int),.int s,.int (b:Int)]):=by rw[ek]at Ky;rwa[Ky]
   erw[pk,12,bB.of BE,21121121122];rwa[⟨1212,(Za4 2),λt nt=>?_⟩];generalize e_:upd U t _=H7;let⟨s7,VX⟩:=dP e_ nt;erw[12,td,12,dz.t (k:=ia a s) (s7^vD) VX,12];rw[xJ.none hW sD ek hw];rwa[cU ?_];rwa[⟨12121212,(Za4 2),λt8 nt8=>?_⟩];generalize e_:upd H7 t8 _=H8;let⟨s8,ht8⟩:=dP e_ nt8;let s68:=s7.trans s8;erw[td,12,jY.t (k:=ia a s) (s68^vD) ht8 (aiW (show ⇑tk<=10000000 by omega) ⋯)];let nT:=dB tk (ia a s) (.int (b:Int));rwa[⟨11112,λx o nx e=>?_,aj,3,xJ.put hW sD ek hw⟩];rw[ak nx];rwa[s68^kk x o nx e]
  rintro C U ⟨v3,v4,v5,tk,rfl,kk,vD,M,xJ⟩;erw[o,kk _ _ xI hf]
  let same:av H (upd U d (.dT g)):=λb x e=>by
   cases hb:b=d
   ·subst hb;rw[aj];rw[hd]at e;rwa[e]
   ·rw[ak hb];rwa[kk b x (λz=>by cbv) (kf b x hb (s4^e))]
  let yM:upd U d (.dT g) td\(.dT tk):=by rw[ak (ajR xI)];rwa[vD]
  change upd U d _=H0 at same yM ⊢;let hWK:=xJ.done hW;clear kk hf kf xJ Hk DE Io s4;rwa[⟨Za4 1,λl nc=>?_⟩];generalize e_:upd H0 l _=H1;obtain⟨s1,rB⟩:_/\_\(.lst (aq (nI [0]))):=dP e_ nc;rwa[⟨ajj _,λlt nt=>?_⟩];let s2:=av.upd (o:=.lst []) nt
  let B2:NB H0 (upd H1 lt (.lst [])) l lt [] (M24.bH (bz S) (2* L) 0 0) (M24.iE (bz S) (2* L) 0 0):=by
   rwa[⟨s1.trans s2,s2^rB,aj,⟨2,λi r ns h1=>by simp at h1⟩,by simp[aw rB nt],λx hx=>?_⟩];simp only[ai3,ajA,akO]at hx;rcases hx with e|e
   ·rw[e];rwa[nc]
   ·rw[e];rwa[s1.free nt]
  change upd H1 lt _=H2 at B2 ⊢;clear s1 s2 rB nt
  let mM:∀y i,Z y->i<2* L->Z (bz S i y):=λy i hy hi=>by
   let⟨d,e1,e2⟩:=(hZ y hy).2 i hi;unfold bz;rw[e1];rwa[e2]
  let oZ:∀n,∀z∈M24.bH (bz S) (2* L) 0 n,Z z:=M24.o6 Vd mM;let V1:∀n,⇑(M24.bH (bz S) (2* L) 0 n)<=300:=λn=>ai0 (M11.jK S.q _ (M24.j1 _ _ _ n) λz hz=>(hZ z (oZ n z hz)).1) hm
  erw[λ R H'=>∃(N:Nat) (D:Zn) (w3 I O w8 w9:Zc),R=#v[↑d,.int L,↑td,w3,I,O,↑l,↑lt,w8,w9]/\NB H0 H' l lt D (M24.bH (bz S) (2* L) 0 N) (M24.iE (bz S) (2* L) 0 N)/\⇑(M24.bH (bz S) (2* L) 0 N)=N,5]
  ·erw[λm C H'=>∃(n:Nat) (D:Zn) (w3 I O w8 w9:Zc),m=300 - n/\C=#v[↑d,.int L,↑td,w3,I,O,↑l,↑lt,w8,w9]/\NB H0 H' l lt D (M24.bH (bz S) (2* L) 0 n) (M24.iE (bz S) (2* L) 0 n)/\n<=⇑(M24.bH (bz S) (2* L) 0 n),⟨_,(0),[],1111122,B2,ajj _⟩];rintro m C H3 ⟨n,D,w3,I,O,w8,w9,rfl,rfl,B3,hn⟩;let hop:=V1 n
   let M:⇑D=n:=by
    rw[B3.r.1];unfold M24.iE;rw[aiQ,ajs];ext
   erw[12,lt,12,.inl (aD.of B3.t),12,l,12,.inl (aD.of B3.c),112212];rwa[bK (λh=>?_) (λh=>?_)]
   ·let lS:n<⇑(M24.bH (bz S) (2* L) 0 n):=by
     let h':(⇑(D.map V.ref):Int)<(⇑(aq (nI (M24.bH (bz S) (2* L) 0 n))):Int):=aja h;rw[aI,bP,aiQ,M]at h';ext
    clear h;let hx:=aiL lS;change (M24.bH (bz S) (2* L) 0 n)[n]=c at hx;let Kg:=oZ n c (aiN hx);erw[_,λ R H' h=>h];rwa[⟨ajj _,λF nr=>?_⟩];let s4:=av.upd (o:=.lst []) nr;let Ke:upd H3 F (.lst []) F\(.lst (aq [])):=aj;let UU:H0 F=none:=B3.s.free nr
    let Kf:F∉l::lt::D:=by
     simp only[ai3,not_or];rwa[⟨λz=>?_,λz=>?_,λz=>?_⟩]
     ·rw[z,B3.c]at nr;ext nr
     ·rw[z,B3.t]at nr;ext nr
     ·let⟨ns,e⟩:=De B3.r z
      cbv
    let B4:=B3.more s4;change upd H3 F _=H4 at Ke B4 ⊢;clear s4 nr;let nlc:F≠l:=λz=>Kf ([z]▸ai7)
    let hor:∀m,m<=2* L->∃t,M24.bH (bz S) (2* L) 0 (n+ 1)=M24.fG (bz S) c (M24.bH (bz S) (2* L) 0 n) m++t:=λm hm=>by
     let⟨t,e⟩:=M55.zv (f:=bz S) (x:=c) (come:=M24.bH (bz S) (2* L) 0 n) (m:=m) (2* L - m);rw[show m+ (2* L - m)=2* L by ext,<-M24.fZ hx]at e;rwa[t,e]
    erw[121122,(1),(L:Int)+ 1,2,⟨3333⟩];rwa[gM (lo:=1) (n:=((L:Int)+ 1 - 1).toNat) (λi C H5=>∃I O w9:Zc,C=#v[↑d,.int L,↑td,w3,I,O,↑l,↑lt,↑F,w9]/\NB H0 H5 l lt D (M24.fG (bz S) c (M24.bH (bz S) (2* L) 0 n) (2* i)) (M24.iE (bz S) (2* L) 0 n)/\H5 F\.lst (aq ((~~~(2* i)).map λj=>((M24.ix (M24.bH (bz S) (2* L) 0 (n+ 1)) (bz S j c):Nat):Int)))) ⟨1112,B4,Ke⟩ ?_ ?_]
    ·rintro i C H5 hi ⟨I,O,w9,rfl,B5,J⟩;let hiL:i<L:=∅
     rwa[⟨121212,Za4 2,λll G=>?_⟩];let s6:=av.upd (o:=.lst [.int (1+ (i:Int)),.int (-(1+ (i:Int)))]) G;let V2:upd H5 ll (.lst [.int (1+ (i:Int)),.int (-(1+ (i:Int)))]) ll\(.lst [.int (1+ (i:Int)),.int (-(1+ (i:Int)))]):=aj;let B6:=B5.more s6;let hr6:=s6^J;let ab4:ll≠F:=λz=>by rw[z,J]at G;ext G
     let ab5:ll≠l:=λz=>by rw[z,B5.c]at G;ext G
     change upd H5 ll _=U at V2 B6 hr6 ⊢;clear s6 G B5 J;erw[ll,2,⟨_,aD.of V2⟩];rwa[eI (xs:=[.int (1+ (i:Int)),.int (-(1+ (i:Int)))]) (λj C H7=>∃I O:Zc,C=#v[↑d,.int L,↑td,w3,I,O,↑l,↑lt,↑F,.int (1+ (i:Int))]/\NB H0 H7 l lt D (M24.fG (bz S) c (M24.bH (bz S) (2* L) 0 n) (2* i+ j)) (M24.iE (bz S) (2* L) 0 n)/\H7 F\.lst (aq ((~~~(2* i+ j)).map λj=>((M24.ix (M24.bH (bz S) (2* L) 0 (n+ 1)) (bz S j c):Nat):Int)))/\H7 ll\.lst [.int (1+ (i:Int)),.int (-(1+ (i:Int)))]) ⟨112,B6,hr6,V2⟩ (λj C H7 _ ζ=>by let⟨_,_,_,_,_,e⟩:=ζ;rwa[aD.of e]) ?_ ?_]
     ·rintro j y C H7 hj ⟨I,O,rfl,B7,B,V3⟩
      let hjj:j<2/\y=.int (M12.st (2* i+ j)):=by
       let hj2:j<2:=(aiO.mp hj).1;erw[hj2];unfold M12.st;rcases (show j=0\/j=1 by omega) with rfl|rfl
       ·rw[ajg (by omega)];rw[<-Za0 hj]
        congr 1
        ext
       ·rw[ajb ∅];rw[<-Za0 hj]
        congr 1
        ext
      let⟨hj2,rfl⟩:=hjj;let BF:2* i+ j<2* L:=∅
      clear hj;let ab6:2* i+ (j+ 1)=2* i+ j+ 1:=rfl;rw[ab6];change 2* i+ j=m at BF B7 B ⊢;let⟨b,eb,_⟩:=(hZ c Kg).2 m BF;let ebF:bz S m c=b:=by unfold bz;rw[eb];rfl
      let⟨u,eu⟩:=M24.p9 (bz S) c (M24.bH (bz S) (2* L) 0 n) m;let Kh:(M24.fG (bz S) c (M24.bH (bz S) (2* L) 0 n) m).Nodup:=M24.oY (M24.j1 _ _ _ n) m;let hcn:(M24.fG (bz S) c (M24.bH (bz S) (2* L) 0 n) m)[n]?\c:=by rw[eu,aiZ lS];rwa[hx]
      let⟨t1,Y⟩:=hor (m+ 1) BF;let hlen:=V1 (n+ 1);let zF:=M24.jL (bz S) c (M24.bH (bz S) (2* L) 0 n) m;rw[ebF]at zF;rw[aj9,ajn,List.map_singleton,ebF,ints_app];let X:=M24.j1 (bz S) (2* L) 0 (n+ 1);rw[zF]at Y;rw[zF];rw[Y]at X hlen;rw[Y];rw[Y]at B;change M24.fG (bz S) c (M24.bH (bz S) (2* L) 0 n) m=come at zF B7 Kh hcn Y X hlen B ⊢;rw[aiP]at hlen;let oy:⇑((~~~m).map λj=>((M24.ix (M24.add come b++t1) (bz S j c):Nat):Int))<=80:=by rw[aiQ,ajK];ext
      change ((~~~m).map λj=>((M24.ix (M24.add come b++t1) (bz S j c):Nat):Int))=row at B oy ⊢;let Tt:=M24.BO X (M24.yg.mpr (.inr rfl));rw[Tt];let hbm:b∈M24.add come b:=M24.yg.mpr (.inr rfl);rwa[⟨12,td,2,.inr ⟨_,.inl (B7.s^yM)⟩,1212,lt,12,.inl (aD.of B7.t),l,11122,aD.of B7.c,([aiQ,M]▸cw (bU (eD hcn))),12,Za4 2,λt nt=>?_⟩];let s8:=av.upd (o:=.tup [.int (c:Int),.int (M12.st m)]) nt;erw[_,dz.t (k:=ia c (M12.st m)) (s8^B7.s^yM) aj];rw[hWK.v,eb];let B8:=B7.more s8;let V4:=s8^B;let Kl:=s8^V3;change upd H7 t _=H8 at B8 V4 Kl ⊢;clear s8 nt B7 B V3;rwa[⟨12212,bK (λh=>by have:=aja h;ext this) λ_=>?_⟩];erw[λ R H'=>R=#v[↑d,.int L,↑td,w3,.int (M12.st m),.int (b:Int),↑l,↑lt,↑F,.int (1+ (i:Int))]/\NB H0 H' l lt D (M24.add come b) (M24.iE (bz S) (2* L) 0 n)/\H' F\.lst (aq row)/\H' ll\.lst [.int (1+ (i:Int)),.int (-(1+ (i:Int)))],5]
      ·erw[1212,(b:Int),l,nI come,22,B8.c,12]
       let O8:(b:Int)∈nI come↔b∈come:=by
        unfold nI;rw[ajz];rwa[λ⟨a,h1,h2⟩=>by rw[<-Int.ofNat.inj h2];rwa[h1],λh=>⟨b,h,2⟩]
       unfold M24.add;cases hb:b∈come
       ·rw[aje (O8.mpr hb),ajg hb];rwa[cU ⟨2,B8,V4,Kl⟩]
       ·rw[ajx (λz=>hb (O8.mp z)),ajb hb];rwa[eX ⟨12,.inl ⟨21,aD.of B8.c⟩,12,l,1122,B8.c,55⟩]
        ·rw[aI,bP]
         have:⇑come<=300:=by
          unfold M24.add at hlen;rw[ajb hb,aiP]at hlen;ext
         rwa[aiW this ⋯]
        ·rwa[2,B8.add b,[ak nlc]▸V4,[ak ab5]▸Kl]
      rintro R H9 ⟨rfl,B9,hr9,FI⟩;rwa[⟨12,.inl ⟨21,aD.of hr9⟩,12,.inl ⟨21,aD.of B9.c⟩,12,l,nI (M24.add come b),b,22,B9.c,5,λq hq _=>?_⟩]
      ·rwa[ajz.mpr ⟨b,hbm,2⟩]
      let eq:M24.ix (M24.add come b) b=q:=by
       unfold nI at hq;rw[ai6]at hq
       cases FU:(M24.add come b)[q]? with
       |none=>rw[FU]at hq;ext hq
       |some a=>
        rw[FU]at hq;obtain rfl:a=b:=Int.ofNat.inj (Za0 hq);rwa[M24.As (M24.Jd Kh a) FU]
      rw[eq];erw[F,1122,hr9,5]
      ·rw[aI];rwa[aiW oy ⋯]
      rwa[112,B9.oT UU Kf,aj,[ak ab4]▸FI]
     ·rintro C H7 ⟨I,O,rfl,B7,B,V3⟩;rwa[1112,B7,B]
    rintro C H5 ⟨I,O,w9,rfl,B5,J⟩;rw[show ((L:Int)+ 1 - 1).toNat=L by ext,<-M24.fZ hx]at B5;rw[show ((L:Int)+ 1 - 1).toNat=L by ext]at J;let B8:=B5.push J UU Kf;rw[<-M24.zu hx]at B8;erw[12,.inl ⟨21,aD.of B5.t⟩,12,lt,1122,B5.t,5]
    ·rw[aiQ,M];rwa[aiW (show n<=300 by omega) ⋯]
    let⟨t,et⟩:=M24.uL (bz S) (2* L) 0 n;rwa[300 - (n+ 1),3,n+ 1,D++[F],1111122,B8,by rw[et,aiP];ext]
   ·erw[n,D,111112,B3];let h':¬(⇑(D.map V.ref):Int)<(⇑(aq (nI (M24.bH (bz S) (2* L) 0 n))):Int):=λq=>h (aje q)
    rw[aI,bP,aiQ,M]at h';ext
  rintro R H' ⟨N,D,w3,I,O,w8,w9,rfl,B',hN⟩;rwa[⟨12,k lt N H' (same.trans B'.s) ⟨D,B'.t,5⟩ hN⟩];rw[<-M24.BP hN];rwa[B'.r]
def V5 {a:Za3}{E:Zh}{W:Za2}{row:Dt}(h:Kx a n m E W row B R):⇑E<=⇑B:=by
 rcases h with h|_
 ·cases h <;> simp
 ·simp
def ur.len {ws:Za3}{E:Zh}{W:Za2}{a:List Dt}(h:ur ws n m E W a B R):⇑E<=⇑B:=by
 induction h with
 |nil=>exact aiS _
 |cons _ o _ b=>exact ai0 (V5 o) b
def V6 (T:Txt K mg A)(Fy:kz mg base):T.law.Ok P w base 13 (Au K A.eR):=by
 rwa[T.law.on fq (λcC AA outer s H vs Q E hr h=>?_) (len:=by rintro _ _ _ _ ⟨a,ns,rfl,_⟩;rfl)]
 ·let⟨a,ns,rfl,ha,hns,hP,k⟩:=h;let iZ:=eV hr
  erw[_,{kU (pc T.qj (Am T) hr #[0]) (ja rfl (bX (cZ 1 fq.nd) (bX (cZ 2 fq.nd) (bX (cZ 3 fq.nd) (bX (cZ 4 fq.nd) (bX (cZ 5 fq.nd) hM)))))),kU (pc T.qk (An T) hr #[0]) (ja rfl (bX (cZ 6 fq.nd) (bX (cZ 7 fq.nd) hM))),kU (pc T.oD (yK T Fy) hr #[1,3,4,6,7]) (ja rfl (bX (cZ 8 fq.nd) (bX (cZ 9 fq.nd) hM))),bG (bC (aO kY (pv 9) cJ (aV _))
    {bG (bC (PW.pt (eH (fJ (cX (bq gT rfl T.dH ajE #[8,iK (v:=.ty "tuple") rfl T.mx akn rfl]))) (i9 (aO ib (8<<<0) ao (aV _)))))
     {a9 fu}
     bj),bI 10 fq.nd (8&&&ao)}
    {bI 10 fq.nd (yf (pv 9) rfl)}),bC (fJ (cX (bq gT rfl T.dH ajE #[10,iK (v:=.ty "list") rfl T.jc aj6 rfl])))
    {a9 fu}
    bj,bI 11 fq.nd (bO #[pX,bT #[ao]]),ck ajc rfl (cY (pv 10)) (cZ 12 fq.nd)
    {bI 11 fq.nd (pc T.yz (Hj T) hr #[1,3,4,11,12]),bC (aO kY (pv 11) cJ (aV _))
     {a9 fu}
     bj},bC (aO oM (pv 9) cJ (aV _))
    {a9 (qW (pc T.eB (dQ T) hr #[yf (pv 9) rfl]) (vp (mw dm (yf (pv 9) rfl) ((11&&&ao)<<<0) (aV _))))}
    bj,a9 (mw (PV iZ) (pc T.lJ (vm T) hr #[11&&&ao,1]) (8&&&ao) (aV _))}]
  rwa[Bo ?_];intro Ul CL uj lV kh iY ft fQ;let ha:aD K H a (aq ns):=ha;rwa[⟨12,a,ns,2,ha,hns,λq ta ra pa L x R P_ H1 s1 hq lU hL3 wR wP ok OY hPl=>?_⟩];erw[q,12,bB.of hq,21121121121121122];rwa[⟨12,a,ns,2,s1.seq ha,λq2 ot o B H2 s2 CT hot VD xm ab7=>?_⟩];erw[q2,12,bB.of CT,21121122];replace wR:=wR.same s2;replace wP:=wP.same s2;let hT:du A.eR eG iJ H2:=.inl ((s1.trans s2) _ _ hP);clear s1 s2 hq CT H1 ha;let fit:B* ⇑R+ ⇑P_<=700:=by have:=aly ab7 OY;ext
  let G:∀u∈R++P_,∀z∈u,z∈bJ (2* L)/\-z∈bJ (2* L):=λu hu z hz=>((sI ∅ (ok u hu)).2 z hz).2
  let go:∀vf vr r S F,Kp A.eR H2 F->kS F r S->Fl R P_ L o B S->S.q<=24->⇑S.aY=S.q->(∀st d e f n D,av F D->D st\.tup [↑d,↑e]->D d\.dT f->D e\.lst (aq (nI S.aY))->WD f (λa z b=>S.by a z=some b)->⇑f<=10000000->CL { nx:=λ_ H'=>Q .non H',rt:=Q } #v[↑a,.int L,↑ta,↑ra,↑pa,.int x,.int B,.str (tx ot),some vf,some vr,↑r,↑st,n] D)->kh { nx:=λ_ H'=>Q .non H',rt:=Q } #v[↑a,.int L,↑ta,↑ra,↑pa,.int x,.int B,.str (tx ot),some vf,some vr,↑r,none,none] F:=λvf vr r S F k1 hpp f1 hm he kk=>by
   let⟨qs,hl,O6,oy⟩:=hpp;replace wR:=k1.words hT wR;replace wP:=k1.words hT wP;let hgo:=f1.pap G (E2:=S.aY) (W2:=λa z b=>S.by a z=some b) (ns:=[]) λW' h'=>.nil h'
   rw[ajp]at hgo;rwa[⟨1211112,.lst hl,iA K "list",true,2,cU ?_⟩];intro d nd;let s4:=av.upd (o:=.dT []) nd;let m:upd F d (.dT []) d\(.dT []):=aj;change upd F d (.dT [])=D at s4 m ⊢;rwa[⟨Za4 1,λe ne=>?_⟩];let s5:=av.upd (o:=.lst [.int 0]) ne;let C:upd D e (.lst [.int 0]) e\(.lst (aq (nI [0]))):=aj;replace m:=s5^m;change upd D e (.lst [.int 0])=H5 at s5 m C ⊢;rwa[⟨Za4 2,λst nst=>?_⟩];let s6:=av.upd (o:=.tup [↑d,↑e]) nst;let j:upd H5 st (.tup [↑d,↑e]) st\(.tup [↑d,↑e]):=aj;replace m:=s6^m;replace C:=s6^C;let Y:=(s4.trans s5).trans s6;change upd H5 st (.tup [↑d,↑e])=H6 at Y m C j ⊢;clear s4 s5 s6 ne nst;let ll:⇑(qs.map V.ref)=⇑S.rows:=by rw[aiQ,O6.1]
   erw[12,r,2,⟨_,aD.of (Y^hl)⟩]
   let' MX:Nat->St->Hp->Prop:=λi σ I=>∃st d e f E W n,σ=#v[↑a,.int L,↑ta,↑ra,↑pa,.int x,.int B,.str (tx ot),some vf,some vr,↑r,↑st,n]/\av F I/\F d=none/\I st\.tup [↑d,↑e]/\I d\.dT f/\I e\.lst (aq (nI E))/\WD f W/\ur (R++P_) ⇑R L E W (S.rows.drop i) S.aY (λa z b=>S.by a z=some b)/\⇑f<=2* i
   rwa[eI (xs:=qs.map V.ref) MX ⟨st,d,e,[],[0],λ_ _ _=>False,none,2,Y,nd,j,m,C,⟨λp hp=>(by ext hp),λa z b h=>h.elim,aj8⟩,hgo,aiS _⟩ (λi σ I _ ζ=>by let⟨_,_,_,_,_,_,_,_,s,_⟩:=ζ;rwa[aD.of (s^hl)]) ?_ ?_]
   ·intro i y σ I hi V7;rwa[mK ?_];intro q_;let⟨st,d,e,f,E,W,n,rfl,X,nd,j,hd,M,hW,O,U⟩:=V7;dsimp only[q_];clear q_;dsimp only[lX];rwa[Lp ?_];intro D_0 w_1;let⟨p,hp,rfl⟩:=Hi hi;let ND:i<⇑S.rows:=by rw[<-ll];rwa[(aiO.mp hi).1]
    let J:=(O6.2 i p _ hp (aiL ND)).same X;rw[akV ND]at O;change S.rows[i]=row at J O;let hlen:=O.len
    cases O with
    | @cons _ E1 _ _ W0 W1 _ _ _ ab8 ab9 hg'=>
    rwa[⟨1212121212,L,ra,pa,st,p,d,e,R,P_,f,E,E1,W0,W1,row,2,wR.same X,wP.same X,3,j,hd,M,hW.congr ab8,J,ab9,33,λBv d2 e2 MR H8 k8 _ aca hd8 he8 od _ hW8 hk8=>?_⟩];rwa[⟨12212,bK (λh=>by have:=aja h;ext this) λ_=>?_⟩];rwa[⟨Bv,d2,e2,MR,E1,W1,12,λb u eb=>k8 b u (aw eb nd) (X^eb),5,aca,hd8,he8,hW8,hg',3⟩];rcases od with rfl|q
    ·rwa[nd]
    ·rwa[X.free q]
   intro σ I V7;rwa[mK ?_];intro q_;let⟨st,d,e,f,E,W,n,rfl,X,nd,j,hd,M,hW,O,U⟩:=V7;dsimp only[q_];clear q_;rw[ll,amg]at O;rw[ll]at U
   cases O with
   |nil h=>exact kk st d e f n I X j hd M (hW.congr h) ∅
  rwa[⟨1212121212,ra,pa,L,B,o,ot,R,P_,2,hot,VD,lU,3,xm,3,wR,wP,ok,fit,33,hT,λq t tb r S N H' k1 t1 f1 g1 a0 Z a2 a3 a4=>?_,λq y dd r S H' k1 t1 f1 m1 l1 a0 Z a2 a3=>?_⟩]
  ·let⟨hm,eL⟩:=f1.mL G xm;let⟨Rr,ys⟩:=f1.ys G;rw[eL]at a2 a3;erw[q,12,bB.of a0,21121122];rwa[⟨15,λ_ _ h=>h⟩];rwa[⟨12212,bK (λ_=>?_) λh=>absurd rfl h⟩];rwa[⟨15,λ_ _ h=>h⟩];rwa[⟨1211112,.tup Z,iA _ _,true,2,cU ?_⟩];rwa[⟨12,t,12,.inr (bB.of Z),212,ic rfl ?_⟩];erw[12,t,11122,bB.of Z,2];rwa[go _ _ r S H' k1 a4 f1 ∅ ys.g.wf.e λst d e f n D s4 j hd he hW U=>?_]
   rwa[⟨12212,bK (λh=>absurd h ⋯) λ_=>?_⟩];let g:=ys.g;rwa[⟨12,st,11122,bB.of j,212,d,f,S,L,λc=>c<S.q/\S.ax c=c,2,hd,hW,U,lU,33,⟨ys.m,by have:=(g.el 0 ys.m).1;ext⟩,λc hc=>⟨hc.1,λk U=>?_⟩,λl N' H5 s5 hl hN'=>?_⟩]
   ·cases e:S.by c (M12.st k) with
    |none=>
     have:=nU g.wf hc.1;rw[hc.2]at this;rwa[absurd ⟨hc.1,this,aiN (su U),e⟩ (g1 c (M12.st k))]
    |some d=>
     let⟨_,h1,_,h2⟩:=g.st _ _ _ e;rwa[d,2,h1,h2]
   let eN:=M24.QB hN' a3;rw[eN]at hl;let s45:=s4.trans s5;erw[12,t,11122,bB.of (s45^Z),2,l,tb,1122,hl,a2.same s45];rw[aje rfl];rwa[k _]
  ·let⟨Rr,ys⟩:=f1.ys G;erw[q,12,bB.of a0,21121122];rwa[⟨15,λ_ _ h=>h⟩];rwa[⟨12212,bK (λh=>by have:=aja h;ext this) λ_=>?_⟩];erw[12,y,A.bD,dd,false,zG S.q r,↑r,2,Z,a2,xu T,T.Fh,2];rwa[go _ _ r S H' k1 a3 f1 ∅ ys.g.wf.e λst d e f n D s4 j hd he hW U=>?_]
   rwa[⟨12212,bK (λ_=>?_) λh=>absurd rfl h⟩];let b1:=s4^Z;let b2:=s4^a2;rwa[⟨12,y,A.bD,dd,false,zG S.q r,12,b1,b2,xu T,T.yA,212,true,2,eX ?_⟩];erw[12,y,A.bD,dd,false,zG S.q r,12,b1,b2,xu T,T.yA,2];erw[12,st,11122,bB.of j,2,e,12,.inl (aD.of he),2];rw[aI,bP,ys.g.wf.e,aje rfl];rwa[k _]
end
def all_mk {l:PySem.W.OpenLaw}(p:M "law"=some ↑a)
 {b g f m d i j n h:Zs}
 {o k:Zs}
 {f1 f2 f3 f4 f5 f6 f7 f8 f9 Jy S F f13 f14 Ol y O f18 f19 f20 r f22 X V f25 f26 G f28 W f30 f31 f32 f33 f34 f35 f36 C f38 H f40 f41 f42 f43 f44 f45 f46 f47 f48 I f50 L Z f53 f54 B f56 P f58 f59 f60 f61:Zs} {d1 d2 d3 d4 d5 d6 d7 d8 d9 d10 E d12 u d14 d15 Q d17 x z d20 d21 d22 d23 d24 d25 d26 d27 d28 d29 d30 d31 Y d33 d34 N A d37 d38 D d40 d41 U d43 d44 d45 d46 d47 d48 R d50 d51 d52 t d54 d55 d56 d57 d58 d59 J q:FuncData}
 (T:Txt K M ⟨f1,d1,f2,d2,f3,d3,f4,d4,f5,d5,f6,d6,f7,d7,f8,d8,f9,d9,Jy,d10,S,E,F,d12,f13,u,f14,d14,Ol,d15,y,Q,O,d17,f18,x,f19,z,f20,d20,r,d21,f22,d22,X,d23,V,d24,f25,d25,f26,d26,G,d27,f28,d28,W,d29,f30,d30,f31,d31,f32,Y,f33,d33,f34,d34,f35,N,f36,A,C,d37,f38,d38,H,D,f40,d40,f41,d41,f42,U,f43,d43,f44,d44,f45,d45,f46,d46,f47,d47,f48,d48,I,R,f50,d50,L,d51,Z,d52,f53,t,f54,d54,B,d55,f56,d56,P,d57,f58,d58,f59,d59,f60,J,f61,q,b,g,f,m,d,i,j,n,h,o,k⟩)
 :∃fd:FuncData,(∃fd2 c,LamAt K fd2 c k)/\(∀(s:Zu) (v:Zt),BindsTo s fd ⟨[v],[]⟩ [("_law_script",v)])/\∀base:Heap,K.In base->base.Ns mainGlobals M->kz M base->dy l.prog w K M base (di l.prog w) 13 a fd ["_law_script"] (Au K k):=by
 let e:=p.symm.trans T.law.m;ext e;let⟨kV,doc,pm,an,cC,ct,e⟩:=T.law.fd;rwa[_,⟨11,T.lam⟩,λs v=>[e]▸.of_eq rfl,λbase _ _ Fy=>V6 T Fy]
def walk {l:PySem.W.OpenLaw}{loose:Zp}{XP:(Str->Zl)->Heap->Prop}{j:World->Heap->Prop}{d:DefRec}{K:Params->Za1}(r:l.most\63)(g:d.params.defaults=[])
 (p:∀(w:World) (h:Heap),j w h->(K w.params).In h/\h.get? a\(PySem.W.tabObj #[]))
 (F:∀(w:World) (e:Str->Zl) (i:Zs) (h:Heap),(K w.params).In h->h.Ns mainGlobals e->e d.name\↑i->
  ∃fd:FuncData,(∃fd2 c,LamAt (K w.params) fd2 c a)/\(∀(s:Zu) (u:Zt),BindsTo s fd ⟨[u],[]⟩ [("_law_script",u)])/\∀base:Heap,(K w.params).In base->base.Ns mainGlobals e->kz e base->dy l.prog w (K w.params) e base (di l.prog w) 13 i fd ["_law_script"] (Au (K w.params) a)):
 PySem.W.WalkO P loose XP j l.row.toRowW d [] (λf o=>PySem.call f o):=
 L2.LK (n:=63) (k:=13) (x:="_law_script") (CX:=λw=>(di l.prog w)) (sp:=λw=>Au (K w.params) a) r ⋯ g ⟨244⟩ p F (λ_ _ b m q t v=>⟨b,m,2,v,q,t,λ_=>rfl⟩) λ_ _ _ _ _ z=>NZ z
end K34
end Lake
open PySem PySem.W PyProof.Rows
namespace PySem.W.Fast
universe tw15173743339194464061 tw17853548395629727974 tw900255803936534414 tw1740003714816536522 tw16423591678156596963 tw1924798465007742394 tw18101200623358301035 tw5535409694474455487 tw16986750704380749099 tw8779244739540375903 tw10315557206055476508 tw5412924094077130694 tw2624138284202883515 tw18323635868208642320 tw16349284687553844704 tw2601726543707132732 tw12537594433574383183 tw14939841606859661819 tw1995432617734951513 tw12582315044248241010 tw15375466141733241639 tw8380216427636895424 tw17183356443645758690 tw10686066508402276347 tw10033808936999513244 tw3989987208376986188 tw7918447642888174596 tw5040537403373567535 tw713745267456039034 tw7832836800360023439 tw14059526429814943814 tw1364935246952109040 tw14201645525385924337 tw4564403272302314230 tw8792861780305182731 tw1581568624927933433 tw1343984014769525708 tw11958149931269281059 tw14848377663962113803 tw18084303999201746662 tw14051401385366134358 tw3564781288018582665 tw3737990436957928920 tw4303703751996281222 tw3124914596105454738 tw2420382710771496749 tw12918428325635250638 tw16876955972882348507 tw2081623194256873546 tw983034810963348844 tw300857249912005752 tw3119173440437396899 tw5801582004556840204 tw13314619883871923514 tw7093482360089773317 tw6508419726280244570 tw15918946371762919538 tw16070749669280578782 tw4629912405577762521 tw13626826579199985527 tw5440034947576490466 tw6064128904771883455 tw8747813706307650712 tw14629293754317490983 tw14577712980432239432 tw3408484656997709981 tw6490344767244128515 tw9251797667701423068 tw6631051082705762266 tw11123064133774636394 tw13746344448845524782 tw13232055791938925057 tw68392077410426131 tw380947196537068055 tw11559695473413166224 tw4936107665288136972 tw15343162986523411723 tw15476435995496601972 tw841236389921731674 tw8185549971090416130 tw4968854350311834473 tw2960956653568683184 tw15305838024877969320 tw4436244294384525765 tw4574691945831756500 tw10440059696974653110 tw7618938507597981587 tw16226233286002723995 tw10003284043330042493 tw4970262920450714726 tw15753632248644348812 tw1215057547802347495 tw8418703365844217446 tw2160710046960646197 tw15248942558903113063 tw7365278381782240121 tw14148927111177962859 tw5755697191638485623 tw12321955763032670179 tw10071623898044264725 tw1489819663257423480 tw17598385432119159300 tw10816719053034625663 tw5161897960702785104 tw15254221018063015463 tw9838321576221870567 tw6824868825758072808 tw996546338632176647 tw17253261145345899393 tw8105964771934225831 tw9661443617549283269 tw200066960764156541 tw6035320591623756402 tw13605261554921750371 tw5606019756938274990 tw3017941068033990754 tw11544436302169570721 tw16966658536267131139 tw11990441935650967515 tw5253499748067410231 tw9128993308531016190 tw14407198777149627368 tw4011153200206559786 tw5768838917210348546 tw8890826063073501047 tw15327040517803969222 tw17566810156539149709 tw3016132789978259718 tw13278772237836766581 tw9127927067946731538 tw2918027595556876324 tw12528184956775688243 tw1870739527886990163 tw13753439209381818042 tw9473643229514874484 tw2637925948649714522 tw16047919025203613872 tw2679943071817723250 tw2729333576553239939 tw3105259385024981484 tw17418132395134341323 tw11539194228832661723 tw8150408429065816537 tw180274963262872217 tw15550994072586591827 tw7945274227883601069 tw11124559676388088782 tw16143412382333756914 tw17604294112943444563 tw8996388180892660702 tw6201802212902586000 tw13412214888768679770 tw4133223121442325508 tw8038540926710260790 tw11222519739234391481 tw5824551288519738952 tw17368425354882024987 tw1145766020524418468 tw5756392877725641180 tw7102342066749893719 tw8812591706771829794 tw6621310857870199422 tw18059766660991551602 tw8077926985103821789 tw1390363309093522905 tw2885905094180186776 tw6096059664604225496 tw2736029612296743862 tw7793569319377014795 tw13606921469844058917 tw11090794301814353652 tw15444043450785624877 tw12135099460349227124 tw17644035220242145006 tw12343296021513706888 tw14733234389314764104 tw3238407328533794405 tw14922931529693686011 tw5822615874459673228 tw5478774673157128249 tw366820791725778361 tw3502721892886377585 tw6226578654699646478 tw469340392076862025 tw4564674038020413274 tw11031841397935083239 tw6256814951654496508 tw4969215931153552147 tw2019793935505591666 tw10936117934086038971 tw12820289774774891441 tw9523006683095588659 tw9761437658530276009 tw1837014250600869757 tw16807983002396864739 tw15063251141147006226 tw5098882924728985820 tw14707157870118632015 tw3765823752737587286 tw11740079679621088422 tw10578980219885565822 tw3796243942098635402 tw7863362064839439475 tw2203581174997754132 tw5783974923821576017 tw8682379575127165117 tw3277607025326602368 tw828877138762195074 tw5937392200990128597 tw4958350931212522253 tw9804162395476829755 tw8338346287714481528 tw690830134051141507 tw3741776137426255239 tw15670644093857715959 tw14283117495776022526 tw12762124175667687598 tw15847383173273229979 tw6931889145337923468 tw10711888294329686742 tw15848778293714768462 tw12252631887145786412 tw17086185326242096717 tw3918813334148351911 tw12312462684413159630 tw16957425214317479230 tw12072123679422424059 tw8335795088980702861 tw3781957465804771771 tw10457425342507834410 tw9892029504675768187 tw5977630943757920845 tw17002233042614092244 tw3395256841669744352 tw13235094054835876102 tw10699103128587232834 tw5890458788651269748 tw4395002003330152196 tw6132842820116576688 tw7622920343177594556 tw9961221973611570535 tw815639697498800922 tw6518440493163542374 tw5905427672181164852 tw5893250925963972715 tw16908458760919658732 tw16620844241020881438 tw16614525047894006264 tw15642442527250728379 tw14006523615182893507 tw13779809502417847067 tw13659626714205099946 tw13629762268993683377 tw11916568031132621208 tw10698563759216735604 tw10013311283033880534 tw12852389009209483289 tw13461958757079191573 tw12457944554484297672 tw14275039863443961786 tw9802541971536543326 tw9090012098179209950 tw826450383079135709 tw467414585701661839 tw17436986596259656898 tw15710176295384356400 tw15145740989858573068 tw14868820487311713409 tw12483354677506051353 tw12063147231010518340 tw11767443103722184959 tw9188745697322710136 tw946017541440187234 tw5705736252518843738 tw4596199127936304803 tw4429004876592974343 tw2744743730080872780 tw7216831890930797389 tw15459686656529243421 tw9375595225909319025 tw8792069210274910161 tw8722265096255765748 tw8570963774426110781 tw8111722947771455194 tw7267038808556712580 tw7170024602792486953 tw7089268463602504496 tw6794617401345537366 tw6212375739167369212 tw6198996518878895051 tw4272238676957969992 tw2993448011098668211 tw18439104057813230323 tw18215981098976708060 tw18028068353771074803 tw17867210954915029787 tw16817949618655172413 tw16788692355721135311 tw15515349016410242869 tw15312280080573711208 tw13296856455506937456 tw12900999744969989145 tw11195190775501447591 tw10074381005223425899 tw4585445973215177063 tw8437593728715859910 tw1624131567816539348 tw17083756895969418396 tw3346392755380146192 tw10263823697644367969 tw88586558378147082 tw3939276364643651290 tw17733935011589722116 tw15938596692717382057 tw12020246770978146021 tw11919670387699656922 tw10776808056429827173 tw8193454400881017288 tw6090909200233828080 tw13023306077922500192 tw6519375251407494562 tw15667053866082073723 tw15648338894131685347 tw17447819140120498773 tw67325279216470758 tw12862461457226675137 tw14117463093748940769 tw12397642690659160245 tw11243039683636468374 tw967702882660111158 tw7171885221026911633 tw18366781353887988468 tw17889182830401016436 tw15501924698365357031 tw15343603790361235835 tw4911213244363151515 tw3736575408420916092 tw11161387279411039373 tw6958947331797076658 tw4795717067107377983 tw4774199502831700931 tw3755529830843693481 tw2809753662052985480 tw2668913775971156750 tw17603576757204529587 tw17452734320209007016 tw5322712575292686533 tw1540192796727139107 tw13334540435209581154 tw4844548183223549674 tw16260360258344807468 tw7935013877936836904 tw7783139099087676932 tw7427604735936068983 tw674603428876088443 tw3268838045034617641 tw14398146098046750125 tw14243250523238220792 tw12517174474029364466 tw11396031998781281255 tw10543484959284701184 tw14210947245082220992 tw13786231817887498976 tw1000091257885433371 tw5086213042985013541 tw11488406412534917957 tw9989856006936624272 tw9934308739010575832 tw9902590871939021585 tw9770522060717617011 tw9639029115593670534 tw9489397336984719312 tw943515453266606023 tw9019301978767388372 tw8886303279865066086 tw8812734126119977162 tw8584314914171530109 tw8572011462000828338 tw8480125520088972586 tw8413490517399958955 tw8303490679726351815 tw8190763338239292026 tw8001207545040825375 tw7911121337671954807 tw7884052246623111206 tw7792436305192147425 tw774216939577715728 tw759021826740589653 tw7524168694949530094 tw7433159754898198210 tw7043501466685851911 tw7027694847199363493 tw6947575250746582820 tw685873184110704080 tw665643934715076996 tw6649683035772483142 tw6605383426984519071 tw654843508298602162 tw627612678356831102 tw6003424733348166813 tw591032774132342852 tw5850732516732344911 tw5617434082339496907 tw5501066785933055183 tw549309692929041165 tw4969585254387634145 tw4935477174879534857 tw4864815603325514668 tw4834214647135229521 tw4652263990656094558 tw4594535255432131965 tw4402334163461186595 tw4177101579825249849 tw4009132637479258490 tw3992921113442212219 tw3826218148733498548 tw3775876477902485355 tw3648355255552540996 tw3620401144743722841 tw3497989926449718109 tw3174858661085371062 tw3072348601087391784 tw2997528898823398760 tw2941386370117343210 tw2802648614825628882 tw2794437987928205440 tw268732250054129034 tw2223243933573113037 tw2059389811295004472 tw2043636183444007399 tw2030333383334008717 tw18268621452552627039 tw182466316469661928 tw18093940240392745881 tw1808410485921583526 tw18071889978077808138 tw17922182444160854228 tw17814790235544935385 tw17618456118655494477 tw17271938353005988813 tw17118602662262168589 tw17106689218948759658 tw16902740618153645650 tw16886986965555442597 tw16829032893816683925 tw16697230753858216283 tw16351290361479577548 tw15964899413421425934 tw15931883162835833043 tw15907961561204799640 tw15624368529610048973 tw15127068988611204653 tw15033720768634516190 tw14967531893639500952 tw14707830927995943407 tw14389553101804824991 tw14325709298917424541 tw14283285997897109385 tw14233954678039440891 tw14198831633506300911 tw13975449396849630430 tw13901782429604549654 tw1389692371042181465 tw13873257183849296102 tw13847037363428810688 tw1373960172480142761 tw13651250375803430842 tw13626367361287334451 tw13548398617629590799 tw13409026626218060362 tw13377653630460517319 tw13157908515811888486 tw12885830366470335952 tw12759384924387860573 tw12705482577680920677 tw12589792690432279202 tw12531893245410498099 tw12526304596841602233 tw12517334617098993834 tw12249658893846055181 tw12192362420606573380 tw12123174700999855188 tw12080712101204139779 tw11866318088119042297 tw11621253600740555514 tw115974033139915334 tw11425728877333412745 tw11374336284958240015 tw11321474108803125856 tw10976581073182266432 tw10968813092405765672 tw10939320230496398499 tw1089966921799999782 tw10892996753443462835 tw10795034013838212290 tw10793123470390111395 tw10438620457900162301 tw10337033042479205294 tw1012452192029343478
end PySem.W.Fast
end
open Lake
set_option maxRecDepth 100000 in
set_option maxHeartbeats 0 in
theorem PySem.Challenge.cw_cosetyard_k34_whole_paper_walked_holds : PySem.Challenge.rw_cosetyard_k34_whole_paper_walked.Holds := by
  w_on; o_law; k_head;(case hw => w_witness2)
  k_fill
  refine K34.walk (l := PySem.Challenge.rw_cosetyard_k34_whole_paper_walked) rfl rfl (fun w h Y => ⟨PySem.W.km_in_of Y, PySem.W.km_tabs_of Y _ (List.Mem.head _)⟩) ?F
  case F =>
    intro w mg fa h KX G hmg
    refine' K34.all_mk hmg ⟨?D1,?D2,?D3,?D4,?D5,?D6,?D7,?D8,?D9,?D10,?D11,?D12,?D13,?D14,?D15,?D16,?D17,?D18,?D19,?D20,?D21,?D22,?D23,?D24,?D25,?D26,?D27,?D28,?D29,?D30,?D31,?D32,?D33,?D34,?D35,?D36,?D37,?D38,?D39,?D40,?D41,?D42,?D43,?D44,?D45,?D46,?D47,?D48,?D49,?D50,?D51,?D52,?D53,?D54,?D55,?D56,?D57,?D58,?D59,?D60,?D61,?z1,?z2,?z3,?z4,?z5,?z6,?z7,?z8,?z9,?z10,?z11,?z12,?z13,?y_YardError,?y_NoOrder,?y_TooMany,?y_Order,?y_ByLetters,?y_Newest,?y_Rooms,?y_Going,?y_Closing,_,_,_,_,_,_,_,_,_,_,_,_,_,_,_,_,_,_,_,_,_,_,_,_,_,_,_,_,_,_,_,_,_,_,_,_,_,_,_,_,_,_,_,_,_,_,_,_,_,_,_,_,_,_,_,_,_,_,_,_,_,_,_,_,_,_,_,_,_,_,_,_,_,_,_,_,_,_,_,_,_,?w_lam⟩
    all_goals try dsimp only
    (case y_YardError|y_NoOrder|y_TooMany|y_Order|y_ByLetters|y_Newest|y_Rooms|y_Going|y_Closing => refine' PySem.W.mg_of KX G ?a;(case a => k_is))
    (case D1|D14|D15|D16|D19|D24|D28 => refine' L2.Def.of KX G ?_ ?_ ?_ ?_ (fun _ _ _ _ _ _ _ hl => by obtain ⟨_, _, _, rfl⟩ := L2.args_is3 hl; rfl);all_goals try k_is)
    (case D2|D3|D4|D5|D6|D8|D9|D12|D20|D21|D23|D31 => refine' L2.Def.of KX G ?_ ?_ ?_ ?_ (fun _ _ _ _ _ _ _ hl => by obtain ⟨_, rfl⟩ := L2.args_is1 hl; rfl);all_goals try k_is)
    (case D7|D11|D13|D25|D30 => refine' L2.Def.of KX G ?_ ?_ ?_ ?_ (fun _ _ _ _ _ _ _ hl => by obtain ⟨_, _, rfl⟩ := L2.args_is2 hl; rfl);all_goals try k_is)
    (case D10 => refine' L2.DDef.of KX G ?_ ?_ ?_ ?_ ?_ (fun _ _ _ _ _ _ _ hl => by obtain ⟨_, _, _, _, _, rfl⟩ := L2.args_is5 hl; exact ⟨_, rfl, rfl⟩) (fun _ _ _ _ _ _ _ hl => by obtain ⟨_, _, _, _, rfl⟩ := L2.args_is4 (Nat.succ.inj hl); exact ⟨_, rfl, rfl⟩);all_goals try k_is)
    (case D17|D18|D26 => refine' L2.Def.of KX G ?_ ?_ ?_ ?_ (fun _ _ _ _ _ _ _ hl => by obtain ⟨_, _, _, _, rfl⟩ := L2.args_is4 hl; rfl);all_goals try k_is)
    (case D22|D27|D29 => refine' L2.Def.of KX G ?_ ?_ ?_ ?_ (fun _ _ _ _ _ _ _ hl => by obtain ⟨_, _, _, _, _, rfl⟩ := L2.args_is5 hl; rfl);all_goals try k_is)
    (case D32|D35|D37|D41|D58 => refine' L2.MDef.of ?_ ?_ ?_ ?_ ?_ (fun _ _ _ _ _ _ _ hl => by obtain ⟨_, _, _, _, rfl⟩ := L2.args_is4 hl; rfl);all_goals try k_is)
    (case D33|D34|D36|D40|D42|D45|D47|D48|D49|D50|D54|D57 => refine' L2.MDef.of ?_ ?_ ?_ ?_ ?_ (fun _ _ _ _ _ _ _ hl => by obtain ⟨_, _, rfl⟩ := L2.args_is2 hl; rfl);all_goals try k_is)
    (case D38|D44|D55|D56 => refine' L2.MDef.of ?_ ?_ ?_ ?_ ?_ (fun _ _ _ _ _ _ _ hl => by obtain ⟨_, rfl⟩ := L2.args_is1 hl; rfl);all_goals try k_is)
    (case D39|D43|D46|D51|D53|D59|D61 => refine' L2.MDef.of ?_ ?_ ?_ ?_ ?_ (fun _ _ _ _ _ _ _ hl => by obtain ⟨_, _, _, rfl⟩ := L2.args_is3 hl; rfl);all_goals try k_is)
    (case D52 => refine' L2.MDef.of ?_ ?_ ?_ ?_ ?_ (fun _ _ _ _ _ _ _ hl => by obtain ⟨_, _, _, _, _, rfl⟩ := L2.args_is5 hl; rfl);all_goals try k_is)
    (case D60 => refine' L2.MDef.of ?_ ?_ ?_ ?_ ?_ (fun _ _ _ _ _ _ _ hl => by obtain ⟨_, _, _, _, _, _, rfl⟩ := L2.args_is6 hl; rfl);all_goals try k_is)
    (case z1|z2|z3|z4|z5|z6|z7|z8|z9|z10|z11|z12|z13 => refine' PySem.W.mg_none_of KX G ?a;(case a => k_is))
    (case w_lam => refine' L2.LamAt.mk ?e ?h ?n;(case e => rfl);(case h => kernel_rfl);(case n => kernel_rfl))
    all_goals first|k_is|kit_is|kts_exm|kernel_rfl
