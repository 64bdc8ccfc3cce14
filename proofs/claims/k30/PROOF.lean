import PyProof.Rows.All
import Wide.All
import OpenK.AllK
import Wide.FinOn
import Lean
import PyProof.EqAt
import PyProof.EqKinds
import PyProof.TupleCall
import PyProof.FString
import OpenK.KOwn
import KE.KTryMore
import PyProof.NsDelKeeps
import PyProof.StrBlock2
import PyProof.AutoListH
import KE.KIntText
import PyProof.Rows.StrIntSpec
import KE.KRevIter
import PyProof.StrWalks
import PyProof.CompUse
import PyProof.NeKinds
import PyProof.Rows.Range3
import PyProof.Rows.EnumRows
import PyProof.ConsumeWalk
import PyProof.Rows.SeqGen
import PyProof.StrLawsRepr
import PyProof.ZipIter
import PyProof.Rows.FactsT2
import PyProof.EnumMake
import PyProof.DictWalks
import PyProof.DictTruth
import PyProof.ListRange
import PyProof.ListStr
import PyProof.TupleOfGen
import PyProof.TupleOfSeq
import PyProof.MinMaxWalk
import PyProof.WalkInts
import KE.KSortAsk
import PyProof.MeetsSeq3
import KE.KRevSl
import PyProof.Rows.SeqMore
import PyProof.ListMulRoad
import PyProof.Rows.SumAny
import PyProof.SeqI3
import PyProof.AttrMissSeq
import KE.KDictOf
import PyProof.Rows.StrCut
import PyProof.Rows.StrSplitCount
import PyProof.DictItems
import PyProof.Rows.SortWalk
import PySem.Challenge.RW_cosetyard_k30_one_letter
set_option Elab.async false
set_option linter.all false
set_option maxRecDepth 100000
set_option maxHeartbeats 4000000
section
local macro_rules|`(tactic|decide)=>`(tactic|decide +kernel)
local macro_rules|`(tactic|ac_rfl)=>`(tactic|exact⟨rfl,rfl,rfl,by decide,rfl,by decide,by decide⟩)
theorem Y.{u}{α:Sort u}{a:α}:a=a:=rfl
abbrev Za0:=@Option.some.inj
abbrev Za1:=PySem.W.Frag
abbrev Za2:=Nat->Int->Nat->Prop
abbrev Za3:=List (List Int)
theorem Za4 (n:Nat)(h:n<=PySem.sizeLine:=by decide):n<=PySem.sizeLine:=h
abbrev ab1:=@PySem.wpAny_bind
abbrev ab2:=@PySem.Heap.get?_push_of_some
abbrev ab3:=@List.getElem?_eq_getElem
abbrev ab4:=@List.mem_of_getElem?
abbrev ab5:=@List.getElem?_eq_some_iff
abbrev ab6:=@List.length_append
abbrev ab7:=@PySem.wpAny_pure
abbrev ab8:=@List.mem_append_right
abbrev ab9:=@List.length_map
abbrev aca:=@Nat.le_refl
abbrev acb:=@List.mem_singleton
abbrev acd:=@List.getD_eq_getElem?_getD
abbrev ace:=@Nat.lt_of_le_of_lt
abbrev acf:=@PySem.Heap.get?_push_size
abbrev acg:=@PySem.Heap.lt_size
abbrev ach:=@List.mem_append
abbrev aci:=@List.mem_cons
abbrev acj:=@beq_eq_false_iff_ne
abbrev ack:=@List.mem_cons_self
abbrev acm:=@if_neg
abbrev acn:=@List.getElem?_append_left
abbrev aco:=@List.getElem?_map
abbrev acp:=@List.getElem?_append_right
abbrev acq:=@PySem.F.plainAttrs_list
abbrev acr:=@Nat.le_trans
abbrev acs:=@List.size_toArray
abbrev acu:=@List.mem_append_left
abbrev acv:=@if_pos
abbrev acw:=@Nat.lt_of_lt_of_le
abbrev acx:=@List.length_set
abbrev acy:=@decide_eq_true
abbrev acz:=@Nat.ne_of_lt
abbrev acA:=@PySem.F.slot_list_append
abbrev acB:=@PySem.F.type_list_append
abbrev acC:=@List.length_cons
abbrev acD:=@List.append_nil
abbrev acE:=@PyProof.Rows.boot_isinstance
abbrev acF:=@Nat.zero_le
abbrev acG:=@List.mem_cons_of_mem
abbrev acH:=@PySem.PassesOwn.never
abbrev acI:=@of_decide_eq_true
abbrev acJ:=@List.getElem?_of_mem
abbrev acK:=@List.nodup_cons
abbrev acL:=@PySem.Heap.get?_update_self
abbrev acM:=@PySem.Heap.get?_update_other
abbrev acN:=@List.getElem?_eq_none
abbrev acO:=@PyProof.Rows.boot_list
abbrev acP:=@Bool.false_ne_true
abbrev acQ:=@List.length_take
abbrev acR:=@List.map_append
abbrev acS:=@decide_eq_true_iff
abbrev acT:=@List.getElem?_set_self
abbrev acU:=@decide_eq_false
abbrev acV:=@PySem.wpAny_newObj_type
abbrev acW:=@PySem.wpAny_mono
abbrev acX:=@PySem.boot_len
abbrev acY:=@Int.toNat_natCast
abbrev acZ:=@List.nodup_append
abbrev ac0:=@List.not_mem_nil
abbrev ac1:=@PySem.wpAny_holding
abbrev ac2:=@PySem.Calls.spliced_cons
abbrev ac3:=@PySem.wpAny_callSpecial?_slot
abbrev ac4:=@PySem.wpAny_field
abbrev ac5:=@congrArg
abbrev ac6:=@PySem.Calls.callWith_builtin
abbrev ac7:=@List.map_map
abbrev ac8:=@PySem.wpAny_call_entry
abbrev ac9:=@PyProof.Rows.slot_tuple_getitem
abbrev ada:=@List.length_singleton
abbrev adb:=@List.append_assoc
abbrev ade:=@Nat.ne_of_gt
abbrev adf:=@Option.map_eq_some_iff
abbrev adg:=@Nat.lt_irrefl
abbrev adh:=@PySem.wpAny_Call_Name_kw
abbrev adi:=@List.map_cons
abbrev adj:=@PySem.wpAny_setField_rec
abbrev adk:=@PyProof.Rows.callWith_type1
abbrev adl:=@List.mem_map
abbrev adn:=@Ne.symm
abbrev ado:=@PySem.F.plainAttrs_dict
abbrev adp:=@List.getElem?_set_ne
abbrev adq:=@List.mem_range
abbrev ads:=@Bool.eq_iff_iff
abbrev adt:=@PySem.W.kia_one
abbrev adu:=@Nat.lt_succ_self
abbrev adv:=@List.eq_nil_of_length_eq_zero
abbrev adw:=@PySem.F.slot_dict_itemiterator_next
abbrev adx:=@PySem.mem_of_lookup
abbrev ady:=@PySem.Heap.SameBut.update
abbrev adz:=@Nat.lt_succ_of_lt
abbrev adA:=@List.length_range
abbrev adB:=@PySem.F.slot_dict_keyiterator_next
abbrev adC:=@PySem.Obj.data_mapFields
abbrev adD:=@List.countP_append
abbrev adE:=@PySem.Calls.evalArgs_plain
abbrev adF:=@PySem.codeAny_call_builtin
abbrev adG:=@List.take_length
abbrev adH:=@List.mem_flatMap
abbrev adI:=@Array.getElem?_eq_some_iff
abbrev adJ:=@PySem.Calls.spliced_nil
abbrev adK:=@List.map_congr_left
abbrev adL:=@PySem.Heap.size_push
abbrev adM:=@List.nodup_nil
abbrev adN:=@List.mem_filter
abbrev adO:=@PySem.F.slot_dict_get
abbrev adP:=@List.range_succ
abbrev adQ:=@List.countP_singleton
abbrev adR:=@PySem.wpAny_typeNameOfWhole_itemiter
abbrev adS:=@List.take_append_drop
abbrev adT:=@PySem.wpAny_typeNameOfWhole_keyiter
abbrev adU:=@Int.neg_neg
abbrev adV:=@List.dropLast_concat_getLast
abbrev adW:=@PySem.F.slot_dict_setdefault
abbrev adX:=@PyProof.Rows.boot_tuple
abbrev adY:=@Nat.sub_self
abbrev adZ:=@PySem.wpAny_truthy_bool
abbrev ad0:=@PySem.wpAny_dictEntries
abbrev ad1:=@Array.length_toList
abbrev ad2:=@List.filter_sublist
abbrev ad3:=@PySem.F.slot_tuple_iterator_next
abbrev ad4:=@PySem.F.excBase_ValueError
abbrev ad5:=@List.length_drop
abbrev ad6:=@Bool.and_eq_true
abbrev ad7:=@List.lookup_cons
abbrev ad8:=@List.length_filter_le
abbrev ad9:=@PySem.tupleKind_room_in1
abbrev aea:=@PySem.Obj.isFreed_of_fields
abbrev aeb:=@List.countP_le_length
abbrev aec:=@List.take_succ
abbrev aed:=@PySem.wpAny_setField
abbrev aee:=@List.mem_or_eq_of_mem_set
abbrev aef:=@PySem.wpAny_typeNameOf_itemiter
abbrev aeg:=@List.getElem_toArray
abbrev aeh:=@Nat.mul_le_mul_right
abbrev aei:=@PySem.wpAny_execs_nil
abbrev aej:=@PySem.wpAny_passesOwn
abbrev aek:=@PySem.wpAny_pyIter_list
abbrev ael:=@List.length_nil
abbrev aem:=@PySem.wpAny_Call_method
abbrev aen:=@PySem.wpAny_loadPart'
abbrev aeo:=@PySem.wpAny_typeNameOf_keyiter
abbrev aep:=@PySem.wpAny_updateSeq
abbrev aeq:=@not_false_eq_true
abbrev aer:=@List.length_erase_of_mem
abbrev aes:=@Nat.min_eq_left
abbrev aeu:=@PySem.codeAny_mono
abbrev aev:=@PySem.wpAny_typeOf
abbrev aew:=@PySem.call_meetsIn
abbrev aex:=@Nat.le_succ
abbrev aey:=@Int.toNat_of_nonneg
abbrev aez:=@PySem.plainId_quiet
abbrev aeA:=@List.mem_map_of_mem
abbrev aeB:=@List.cons_append
abbrev aeC:=@PySem.F.plain_min_loop
abbrev aeD:=@PySem.wpAny_call
abbrev aeE:=@PySem.wpAny_seqItems
abbrev aeF:=@PySem.F.entry_dict_get
abbrev aeG:=@List.find?_cons_of_neg
abbrev aeH:=@PySem.W.callWith_K
abbrev aeI:=@Bool.false_eq_true
abbrev aeJ:=@Nat.le_of_eq
abbrev aeK:=@List.length_replicate
abbrev aeL:=@Array.getElem?_toList
abbrev aeM:=@List.nil_append
abbrev aeN:=@List.find?_cons
abbrev aeO:=@PySem.F.slot_dict_pop
abbrev aeP:=@PySem.F.slot_enumerate_next
abbrev aeQ:=@PySem.F.slot_enumerate_iter
abbrev aeR:=@PySem.wpAny_notOrdered_dict
abbrev aeS:=@PySem.wpAny_dictEpoch
abbrev aeT:=@PySem.wpAny_standAt
abbrev aeU:=@List.ext_getElem?
abbrev aeV:=@or_false
abbrev aeW:=@Decidable.not_not
abbrev aeX:=@List.pairwise_map
abbrev aeY:=@PySem.wpAny_loadPart_at
abbrev aeZ:=@List.mem_iff_getElem
abbrev ae0:=@PySem.Around.under_plainId
abbrev ae1:=@List.drop_eq_getElem_cons
abbrev ae2:=@Nat.min_eq_right
abbrev ae3:=@PySem.W.hideAll_get
abbrev ae4:=@List.flatMap_append
abbrev ae5:=@Option.isSome_iff_exists
abbrev ae6:=@List.getElem?_take_of_lt
abbrev ae7:=@Nat.lt_trans
abbrev ae8:=@Nat.lt_or_ge
abbrev ae9:=@Nat.le_total
abbrev afa:=@Nat.zero_add
abbrev afb:=@List.mem_filterMap
abbrev afc:=@Bool.or_eq_true
abbrev afd:=@PySem.wpAny_attempt
abbrev afe:=@PySem.codeAny_builtin
abbrev aff:=@if_false
abbrev afg:=@PySem.wpAny_ite_split
abbrev afh:=@Nat.max_eq_left
abbrev afi:=@List.filter_cons_of_pos
abbrev afj:=@PySem.W.cellsFrom_some
abbrev afk:=@Array.getElem?_eq_none
abbrev afl:=@Option.map_eq_none_iff
abbrev afm:=@PyProof.Rows.boot_dict
abbrev afn:=@beq_iff_eq
abbrev afo:=@PySem.wpAny_rule
abbrev afp:=@PySem.wpAny_letGo
abbrev afq:=@List.filter_congr
abbrev afr:=@Nat.add_mul
abbrev afs:=@Int.emod_eq_of_lt
abbrev aft:=@PySem.wpAny_tryCatch
abbrev afu:=@Nat.le_of_lt
abbrev afv:=@Nat.max_eq_right
abbrev afw:=@List.countP_cons
abbrev afx:=@Int.dvd_sub
namespace L2
open PySem PySem.Spec PyProof.Rows
abbrev Key:=Sum Int Str
def rP:Key->Value->Bool
 |.inl k,v=>Value.isInt k v
 |.inr x,v=>Value.isStrOf x v
def UX (w:World):Key->Int
 |.inl k=>hashInt k
 |.inr x=>hashStr w x
theorem dG:∀{k:Key} {v:Value},rP k v=true->(∃i t,k=Sum.inl i/\v=Value.int i t)\/(∃x t,k=Sum.inr x/\v=Value.str x t)
 |.inl i,v,h=>by
  obtain⟨t,e⟩:=Value.isInt_shape (k:=i) (v:=v) h;exact .inl ⟨i,t,Y,e⟩
 |.inr x,v,h=>by
  obtain⟨t,e⟩:=Value.isStrOf_shape (x:=x) (v:=v) h;exact .inr ⟨x,t,Y,e⟩
theorem Dx (i:Int)(t:Tok):rP (.inl i) (.int i t)=true:=by simp[rP,Value.isInt]
theorem Dy (x:Str)(t:Tok):rP (.inr x) (.str x t)=true:=by simp[rP,Value.isStrOf]
theorem Md (a b:Int):decide ((Sum.inl a:Key)=Sum.inl b)=(a==b):=by
 grind
theorem Mf (a b:Str):decide ((Sum.inr a:Key)=Sum.inr b)=decide (a=b):=by
 grind
theorem Mg (a:Int)(b:Str):decide ((Sum.inl a:Key)=Sum.inr b)=false:=acU (λq=>nomatch q)
theorem Mh (a:Str)(b:Int):decide ((Sum.inr a:Key)=Sum.inl b)=false:=acU (λq=>nomatch q)
def bO (c:Program)(w:World):PySem.KeyKind c w Key where
 is:=rP
 hash:=UX w
 inj:=λv a b m f=>by
  rcases dG m with ⟨i,t,rfl,rfl⟩|⟨x,t,rfl,rfl⟩
  ·rcases dG f with ⟨j,u,rfl,e⟩|⟨y,u,rfl,e⟩
   ·grind
   grind
  ·rcases dG f with ⟨j,u,rfl,e⟩|⟨y,u,rfl,e⟩
   ·exact nomatch e
   grind
 byValue:=λk v h=>by
  rcases dG h with ⟨i,t,rfl,rfl⟩|⟨x,t,rfl,rfl⟩ <;> rfl
 pyHash:=λd h=>by
  rcases dG d with ⟨i,t,rfl,rfl⟩|⟨x,t,rfl,rfl⟩
  ·exact wpAny_pyHash_int h
  ·exact wpAny_pyHash_str h
 eqBool:=λg d h=>by
  rcases dG g with ⟨i,t,rfl,rfl⟩|⟨x,t,rfl,rfl⟩
  ·rcases dG d with ⟨j,u,rfl,rfl⟩|⟨y,u,rfl,rfl⟩
   ·rw[Md]at h;exact wpAny_eqBool_int h
   ·rw[Mg]at h;exact SeqAt.EqAt.int_str i t y u _ _ _ _ h
  ·rcases dG d with ⟨j,u,rfl,rfl⟩|⟨y,u,rfl,rfl⟩
   ·rw[Mh]at h;exact SeqAt.EqAt.str_int x t j u _ _ _ _ h
   ·rw[Mf]at h;exact wpAny_eqBool_str h
 «strs»:=λk x t v h=>by
  rcases dG h with ⟨i,u,rfl,e⟩|⟨y,u,rfl,e⟩
  ·exact nomatch e
  ·injection e with l _
   subst l;cases v <;> rfl
theorem AG (a:Program)(w:World)(i:Int)(t:Tok):(bO a w).is (.inl i) (.int i t)=true:=Dx i t
theorem AH (a:Program)(w:World)(x:Str)(t:Tok):(bO a w).is (.inr x) (.str x t)=true:=Dy x t
end L2
variable {n m i j:Nat}{a b c d:PySem.Addr}{z y:Int}{v u:PySem.Value}{x f:PySem.Str}{e:PySem.Expr}{p:PySem.Pos}{K:Za1}{Q E:PySem.Value->PySem.Shared->Prop}{s t:PySem.Shared}{P:PySem.Program}{w:PySem.World}{h g:PySem.Heap}{R:Za2}{A:PySem.Around}{o:List (PySem.Addr×PySem.Obj)}{M:PySem.Str->Option PySem.Value}{l:List Int}{N:List PySem.Value}{B:List Nat}{W:Za3}{U:Unit->PySem.Shared->Prop}{C:List PySem.Expr}{F:List PySem.Addr}{Z:List PySem.Str}
namespace L2
open PySem PySem.Spec PyProof.Rows
inductive V where
 |non|bl (b:Bool)|int (i:Int)|str (x:Str)|mw (b:Array UInt8)|yy (b:UInt64)|ref (a:Addr)|ty (n:String)
 deriving DecidableEq
def RelV:V->Value->Prop
 |.non,u=>u=Value.none
 |.bl b,u=>u=Value.bool b
 |.int i,u=>∃t,u=Value.int i t
 |.str x,u=>∃t,u=Value.str x t
 |.mw b,u=>∃t,u=Value.bytes b t
 |.yy b,u=>∃t,u=Value.float b t
 |.ref a,u=>u=Value.ref a
 |.ty n,u=>u=Value.type n
abbrev Vals:List V->List Value->Prop:=Paired RelV
theorem Vals.length {xs:List V}{us:List Value}(r:Vals xs us):xs.length=us.length:=Paired.length r
theorem Vals.get:∀{b:List V} {a:List Value} {i:Nat} {x:V},Vals b a->b[i]?=some x->∃u,a[i]?=some u/\RelV x u
 |_,_,_,_,.nil,e=>by simp at e
 |_,_,0,_,.cons r _,e=>by simp at e;subst e;exact⟨_,Y,r⟩
 |_,_,i+ 1,x,.cons _ t,e=>by
  obtain⟨u,d,c⟩:=Vals.get (i:=i) (x:=x) t (by simpa using e);exact⟨u,by simpa using d,c⟩
theorem Vals.set {x:V}(r:RelV x u):∀{xs:List V} {us:List Value} (i:Nat),Vals xs us->Vals (xs.set i x) (us.set i u)
 |_,_,_,.nil=>.nil
 |_,_,0,.cons _ t=>.cons r t
 |_,_,i+ 1,.cons q t=>.cons q (Vals.set r i t)
theorem Vals.append:∀{b ys:List V} {a ws:List Value},Vals b a->Vals ys ws->Vals (b++ys) (a++ws)
 |_,_,_,_,.nil,s=>s
 |_,_,_,_,.cons r t,s=>.cons r (Vals.append t s)
theorem Vals.take:∀{xs:List V} {us:List Value} (n:Nat),Vals xs us->Vals (xs.take n) (us.take n)
 |_,_,0,_=>.nil
 |_,_,_+ 1,.nil=>.nil
 |_,_,n+ 1,.cons r t=>.cons r (Vals.take n t)
theorem Vals.drop:∀{xs:List V} {us:List Value} (n:Nat),Vals xs us->Vals (xs.drop n) (us.drop n)
 |_,_,0,r=>r
 |_,_,_+ 1,.nil=>.nil
 |_,_,n+ 1,.cons _ t=>Vals.drop n t
def dY:Option V->Option Value->Prop
 |some v,some u=>RelV v u
 |none,none=>True
 |_,_=>False
def KV {a:Type}:List (a×V)->List (a×Value)->Prop:=Paired λ(p:a×V) (q:a×Value)=>p.1=q.1/\RelV p.2 q.2
def kV:Key->V
 |.inl i=>.int i
 |.inr x=>.str x
inductive HO where
 /-- a list -/
 |lst (xs:List V)
 /-- a tuple (never changes) -/
 |tup (xs:List V)
 /-- a dict whose keys are ints and texts;one whose keys are tuples of ints and texts (the empty one is both) -/
 |dK (kvs:List (Key×V))|dT (kvs:List (List Key×V))
 /-- a set of ints:its members,its size -/
 |set (S:Int->Bool) (n:Nat)
 /-- an instance of the class at C,its dict at dx,its attributes -/
 |ins (C dx:Addr) (fs:List (Str×V))
 /-- the dict of the instance at x -/
 |own (x:Addr)
 /-- the dict of an exception -/
 |xd (fs:List (Str×V))
 /-- a bound method,f of x -/
 |met (f x:Addr)
 /-- a range object lo,lo+ 1,.. below hi -/
 |Dz (lo hi:Int)
 /-- a thing that is known to the object (the script;a dict while a loop walks it):read,never written while it is so -/
 |cL (o:Obj) (u:HO)
 /-- a code object's table -/
 |e9 (ps:Array Value)
 /-- any other thing,by what is true of its one object (a def of aaG own:aaQ a S n:=HO.ext λh=>..) -/
 |ext (φ:Heap->Prop)
abbrev Hp:=Addr->Option HO
def upd (H:Hp)(a:Addr)(o:HO):Hp:=λb=>if b=a then some o else H b
theorem ah {H:Hp}{o:HO}:upd H a o a=some o:=by unfold upd;grind
theorem ai {H:Hp}{o:HO}(h:b≠a):upd H a o b=H b:=by unfold upd;rw[acm h]
theorem Kq {H:Hp}{o u:HO}:upd (upd H a o) a u=upd H a u:=by
 funext b;unfold upd;grind
theorem b6 {H:Hp}{o u:HO}(h:H a=some o)(c:H b=some u)(d:o≠u):a≠b:=by
 grind
theorem au {H:Hp}{o:HO}(h:H a=some o)(c:H b=none):a≠b:=by
 grind
section
variable (P:Program) (w:World)
def bU (H:Hp)(h:Heap)(a:Addr):HO->Prop
 |.lst xs=>xs.length<=sizeLine/\∃(b:List Value) (n:Nat),Vals xs b/\h.get? a=some { cls:=.type "list",data:=.seq b.toArray n }
 |.tup xs=>xs.length<=sizeLine/\∃b:List Value,Vals xs b/\IsTup h a b.toArray
 |.dK c=>c.length<=sizeLine/\(a==sysModules)=false/\∃i,KV c i/\h.DictOf (bO P w) a i
 |.dT c=>c.length<=sizeLine/\(a==sysModules)=false/\∃xs:List (List Key×Addr×Value),
  Paired (λ(p:List Key×V) (q:List Key×Addr×Value)=>p.1=q.1/\H q.2.1=some (.tup (p.1.map kV))/\RelV p.2 q.2.2) c xs/\
  ∃o l m,h.get? a=some o/\o.ExactDict/\o.data=.dict l m/\l.toList=xs.map (entryOfKey (tupleKind (bO P w)))/\(xs.map (·.1)).Nodup
 |.set S n=>h.SetOf (intKind P w) a S n
 |.ins C e fs=>H e=some (.own a)/\fs.length<=1000/\e≠a/\h.get? a=some (PySem.W.instObj C e)/\
  ∃d,h.Ns1 e d/\(∀f,dY (fs.lookup f) (d f))/\PySem.Within d (fs.map (·.1))
 |.own _=>∃o,h.get? a=some o
 |.xd fs=>∃d,h.Ns1 a d/\∀f,dY (fs.lookup f) (d f)
 |.Dz lo r=>∃t u v,h.get? a=some { cls:=.type "range",data:=.fields #[.int lo t,.int r u,.int 1 v] }
 |.cL o u=>h.get? a=some o/\bU H h a u
 |.e9 s=>h.get? a=some { cls:=.none,data:=.fields s }
 |.met f x=>h.get? a=some (PySem.W.methodObj (.ref f) (.ref x))
 |.ext g=>g h/\(∃o,h.get? a=some o)/\∀j k:Heap,g j->(∀o,j.get? a=some o->k.get? a=some o)->g k
def dw (H:Hp)(h:Heap):Prop:=∀a o,H a=some o->bU P w H h a o
end
section
variable {P:Program}{w:World}{H H':Hp}{h h':Heap}{a:Addr}{o:HO}
theorem bU.lt (x:bU P w H h a o):a<h.objs.size:=by
 cases o with
 |lst c=>obtain⟨_,_,_,_,e⟩:=x;exact acg e
 |tup c=>obtain⟨_,_,_,p⟩:=x;exact p.lt
 |dK b=>obtain⟨_,_,_,_,o,_,_,e,_⟩:=x;exact acg e
 |dT b=>obtain⟨_,_,_,_,o,_,_,e,_⟩:=x;exact acg e
 |set S n=>obtain⟨o,_,_,_,e,_⟩:=x;exact acg e
 |ins C dx fs=>obtain⟨_,_,_,e,_⟩:=x;exact acg e
 |own y=>obtain⟨_,e⟩:=x;exact acg e
 |xd fs=>obtain⟨_,⟨_,_,_,e,_⟩,_⟩:=x;exact acg e
 |Dz lo g=>obtain⟨_,_,_,e⟩:=x;exact acg e
 |cL i u=>obtain⟨e,_⟩:=x;exact acg e
 |e9 j=>exact acg (show h.get? a=some _ from x)
 |met f y=>exact acg (show h.get? a=some _ from x)
 |ext d=>obtain⟨_,⟨_,e⟩,_⟩:=x;exact acg e
theorem Paired.Gn {g e:Type}{F G:g->e->Prop}:∀{d:List g} {c:List e},Paired F d c->(∀a b,F a b->G a b)->Paired G d c
 |_,_,.nil,_=>.nil
 |_,_,.cons r t,f=>.cons (f _ _ r) (Paired.Gn t f)
theorem bU.eX (x:bU P w H h a o)(k:∀b u,(b=a\/H b=some (.own a))->h.get? b=some u->h'.get? b=some u)
 (I:∀b,H b=some (.own a)->H' b=some (.own a)) (G:∀b m,H b=some (.tup m)->H' b=some (.tup m)):bU P w H' h' a o:=by
 induction o with
 |lst m=>obtain⟨z,l,n,r,e⟩:=x;exact⟨z,l,n,r,k _ _ (.inl Y) e⟩
 |tup m=>obtain⟨z,l,r,g,e,c⟩:=x;exact⟨z,l,r,g,k _ _ (.inl Y) e,c⟩
 |dK A=>obtain⟨z,y,E,r,g,j,i,e,c⟩:=x;exact⟨z,y,E,r,g,j,i,k _ _ (.inl Y) e,c⟩
 |dT A=>
  obtain⟨z,y,m,r,g,j,i,e,c⟩:=x;exact⟨z,y,m,Paired.Gn r λp q z=>⟨z.1,G _ _ z.2.1,z.2.2⟩,g,j,i,k _ _ (.inl Y) e,c⟩
 |set S n=>obtain⟨g,j,i,t,e,c⟩:=x;exact⟨g,j,i,t,k _ _ (.inl Y) e,c⟩
 |ins C dx fs=>
  obtain⟨d,z,ne,e,B,⟨s,j,i,J,c⟩,r⟩:=x;exact⟨I _ d,z,ne,k _ _ (.inl Y) e,B,⟨s,j,i,k _ _ (.inr d) J,c⟩,r⟩
 |own y=>obtain⟨g,e⟩:=x;exact⟨g,k _ _ (.inl Y) e⟩
 |xd fs=>obtain⟨B,⟨s,j,i,e,c⟩,r⟩:=x;exact⟨B,⟨s,j,i,k _ _ (.inl Y) e,c⟩,r⟩
 |Dz lo L=>obtain⟨t,u,v,e⟩:=x;exact⟨t,u,v,k _ _ (.inl Y) e⟩
 |cL g u F=>obtain⟨e,q⟩:=x;exact⟨k _ _ (.inl Y) e,F q⟩
 |e9 D=>
  have e:h.get? a=some { cls:=.none,data:=.fields D }:=x;show h'.get? a=some { cls:=.none,data:=.fields D };exact k a _ (.inl Y) e
 |met f y=>
  have e:h.get? a=some (PySem.W.methodObj (.ref f) (.ref y)):=x;show h'.get? a=some (PySem.W.methodObj (.ref f) (.ref y));exact k a _ (.inl Y) e
 |ext M=>obtain⟨p,⟨o,e⟩,st⟩:=x;exact⟨st _ _ p λo q=>k _ _ (.inl Y) q,⟨o,k _ _ (.inl Y) e⟩,st⟩
theorem dw.lt (x:dw P w H h)(e:H a=some o):a<h.objs.size:=(x a o e).lt
theorem dw.fresh (x:dw P w H h)(e:h.objs.size<=a):H a=none:=by
 cases q:H a with
 |none=>rfl
 |some u=>exact absurd (acw (x.lt q) e) (adg _)
theorem dw.kept (x:dw P w H h)(k:∀b u,h.get? b=some u->h'.get? b=some u):dw P w H h':=λa o e=>
 (x a o e).eX (λb u _ q=>k b u q) (λ_ q=>q) λ_ _ q=>q
theorem dw.laid (x:dw P w H h)(k:∀b u,h.get? b=some u->h'.get? b=some u)(g:h.objs.size<=a)(new:bU P w (upd H a o) h' a o):dw P w (upd H a o) h':=λb u e=>by
 have d:=x.fresh g;by_cases f:b=a
 ·subst f;rw[ah]at e;grind
 ·rw[ai f]at e;exact(x b u e).eX (λc v _ q=>k c v q) (λc q=>by rw[ai (au q d)];exact q) λc i q=>by rw[ai (au q d)];exact q
end
def Rd (H:Hp)(a:Addr)(u:HO):Prop:=H a=some u\/∃o,H a=some (.cL o u)
theorem Rd.ok {H:Hp}{u:HO}(r:Rd H a u)(x:dw P w H h):bU P w H h a u:=by
 rcases r with r|⟨o,r⟩
 ·exact x a u r
 ·obtain⟨_,q⟩:=x a _ r;exact q
def sM:Option HO->Prop
 |some (.lst _)=>True
 |some (.dK _)=>True
 |some (.dT _)=>True
 |some (.set _ _)=>True
 |some (.ins _ _ _)=>True
 |some (.ext _)=>True
 |_=>False
section
variable {P:Program}{w:World}{H:Hp}{h h':Heap}{x e:Addr}{o':HO}
theorem dw.write (ok:dw P w H h)(mu:sM (H x))(l:e=x\/H e=some (.own x))(k:∀b u,b≠e->h.get? b=some u->h'.get? b=some u)(g:∃u,h'.get? e=some u)
 (new:bU P w (upd H x o') h' x o'):dw P w (upd H x o') h':=λb u q=>by
 have a:∀c y,H c=some (.own y)->c≠x:=λc y r z=>by subst z;rw[r]at mu;exact mu
 have iI:∀c d,H c=some (.tup d)->c≠x:=λc d r z=>by subst z;rw[r]at mu;exact mu
 by_cases i:b=x
 ·subst i;rw[ah]at q;grind
 ·rw[ai i]at q;by_cases f:b=e
  ·have j:H b=some (.own x):=by
    rcases l with z|z
    ·grind
    ·rw[f];exact z
   rw[q]at j;cases j;obtain⟨v,m⟩:=g;exact⟨v,by grind⟩
  ·refine(ok b u q).eX (λc v hc r=>k c v ?_ r) (λc r=>by rw[ai (a c b r)];exact r) λc d r=>by rw[ai (iI c d r)];exact r
   grind
end
structure Un (fs ex:List Addr) (H H':Hp) (h h':Heap):Prop where
 keep:∀b o,h.get? b=some o->H b=none->b∉fs->b∉ex->h'.get? b=some o
 slot:∀b o,h.get? b=some o->H b=none->b∈fs->b∉ex->∃sl,h'.get? b=some { o with slots:=sl }
 free:∀b o,h.get? b=some o->H b=none->b∉ex->H' b=none
 there:∀b o,h.get? b=some o->b∉ex->∃o',h'.get? b=some o'
 gN:∀b xs,H b=some (.tup xs)->H' b=some (.tup xs)
 fW:∀b o u,H b=some (.cL o u)->H' b=some (.cL o u)
 gO:∀b ps,H b=some (.e9 ps)->∃more,H' b=some (.e9 (ps++more))
section
variable {fs ex:List Addr}{H H1:Hp}{h h1 h':Heap}{a x e:Addr}{o:HO}
theorem Un.any (u:Un fs ex H H1 h h1){b:Addr}{c:Obj}(q:h.get? b=some c)(n:H b=none)(f:b∉ex):∃sl,h1.get? b=some { c with slots:=sl }:=by
 by_cases d:b∈fs
 ·exact u.slot b c q n d f
 ·exact⟨c.slots,u.keep b c q n d f⟩
theorem Un.kept (k:∀b u,h.get? b=some u->h'.get? b=some u):Un fs ex H H h h':=
 ⟨λb c q _ _ _=>k b c q,λb c q _ _ _=>⟨c.slots,k b c q⟩,λ_ _ _ n _=>n,λb c q _=>⟨c,k b c q⟩,λ_ _ q=>q,λ_ _ _ q=>q,λ_ d q=>⟨#[],by rw[q];simp⟩⟩
theorem Un.refl:Un fs ex H H h h:=Un.kept λ_ _ q=>q
theorem Un.laid (k:∀b u,h.get? b=some u->h'.get? b=some u)(f:h.objs.size<=a)(c:H a=none):Un fs ex H (upd H a o) h h' where
 keep:=λb u q _ _ _=>k b u q
 slot:=λb u q _ _ _=>⟨u.slots,k b u q⟩
 free:=λb u q n _=>by rw[ai (acz (acw (acg q) f))];exact n
 there:=λb u q _=>⟨u,k b u q⟩
 gN:=λb d q=>by rw[ai (au q c)];exact q
 fW:=λb u d q=>by rw[ai (au q c)];exact q
 gO:=λb g q=>⟨#[],by rw[ai (au q c),q];simp⟩
theorem Un.write (mu:sM (H x))(j:e=x\/H e=some (.own x))(k:∀b u,b≠e->h.get? b=some u->h'.get? b=some u)(g:∃u,h'.get? e=some u):Un fs ex H (upd H x o) h h':=by
 have i:∀b,H b=none->b≠x:=λb n z=>by subst z;rw[n]at mu;exact mu
 have d:∀b,H b=none->b≠e:=λb n z=>by
  grind
 have c:∀b u,H b=some u->¬sM (some u)->b≠x:=λb u q nm z=>by grind
 refine⟨λb u q n _ _=>k b u (d b n) q,λb u q n _ _=>⟨u.slots,k b u (d b n) q⟩,λb u q n _=>by rw[ai (i b n)];exact n,λb u q _=>?_,
  λb f q=>by rw[ai (c b _ q λz=>z)];exact q,λb u f q=>by rw[ai (c b _ q λz=>z)];exact q,λb l q=>⟨#[],by rw[ai (c b _ q λz=>z),q];simp⟩⟩
 grind
end
def IE (h:Heap)(H:Hp):List Addr:=(List.range h.objs.size).filter λa=>(H a).isSome
def oS (h:Heap)(H:Hp):Heap:=PySem.W.hideAll h (IE h H)
theorem DB (h:Heap)(H:Hp):(oS h H).objs.size=h.objs.size:=PySem.W.hideAll_size _ _
theorem tS {H:Hp}{o:Obj}(e:h.get? b=some o)(n:H b=none):(oS h H).get? b=some o:=
 ae3 _ e λa=>by
  have q:(H b).isSome=true:=(adN.mp a).2
  grind
theorem Kr {H:Hp}{o:Obj}(e:(oS h H).get? b=some o):h.get? b=some o/\H b=none:=by
 have a:h.get? b=some o:=PySem.W.of_hideAll (IE h H) e;refine⟨a,?_⟩
 cases q:H b with
 |none=>rfl
 |some x=>
  have c:b∈IE h H:=adN.mpr ⟨adq.mpr (acg a),by simp[q]⟩;have z:(oS h H).get? b=none:=PySem.W.hideAll_none (IE h H) c
  grind
def Ks (g h:Heap)(L:Addr):List (Addr×Obj):=(List.range h.objs.size).filterMap λa=>if a=L\/(g.get? a).isSome=true then none else (h.get? a).map λo=>(a,o)
def rest (g h:Heap)(L d:Addr):List (Addr×Obj):=(Ks g h L).filter λp=>decide (p.1≠d)
end L2
variable {H I J:L2.Hp}{q:L2.V}{L:List L2.V}
namespace L2
open PySem PySem.Spec PyProof.Rows
structure Mod (K:Za1) (mg:Str->Option Value) (base:Heap):Prop where
 uB:K.In base
 glob:base.Ns mainGlobals mg
 blt:∃mb,base.Ns builtinsNs mb/\∀x:Str,x≠"__name__"->mb x=bootBuiltins x
 nolimit:base.NoLimit
structure Cx where
 prog:Program
 w:World
 K:Za1
 mg:Str->Option Value
 base:Heap
 A:Around
 N:List Str
 dR:Shared
 tT:Hp
 env:Env
 outer:List Env
 stack:List Env
 ex:List Addr
 fn:Str->Bool
 calm:Bool
 pn:List (Addr×Obj)
 xe:Value->Shared->Prop
def cx (l:List Env):List Addr:=l.filterMap (·.frame)
abbrev Cx.fs (X:Cx):List Addr:=cx X.outer
def Mi (sc:Scope)(x:Str):Prop:=sc.names.lookup x=some .local\/sc.names.lookup x=some .cell\/sc.names.lookup x=some .free
def Loc (sc:Scope)(x:Str):Prop:=sc.names.lookup x=some .local\/sc.names.lookup x=some .cell
def Look (env:Env)(h:Heap)(m:Str->Option Value)(x:Str)(u:Value):Prop:=
 (env.kindOf x=some .local/\m x=some u)\/((env.kindOf x=some .cell\/env.kindOf x=some .free)/\∃c,env.cells.lookup x=some c/\h.IsCell c (some u))
structure Cx.Ok (X:Cx):Prop where
 mod:Mod X.K X.mg X.base
 kind:X.env.scope.kind=.function
 glob:X.env.globals=mainGlobals
 blt:X.env.builtins=builtinsNs
 above:X.dR.heap.objs.size<=X.env.locals
 inj:∀x y c,X.env.cells.lookup x=some c->X.env.cells.lookup y=some c->x=y
 has:∀x,(X.env.kindOf x=some .cell\/X.env.kindOf x=some .free)->∃c,X.env.cells.lookup x=some c
 yz:∀x c,X.fn x=true->X.env.cells.lookup x=some c->X.dR.heap.objs.size<=c
 hd:X.calm=true->X.A.handled=none
 frames:X.A.frames=some X.stack
 A8:X.stack=X.outer\/(X.stack=X.env::X.outer/\X.env.frame=some X.env.locals)
 IG:∀b∈X.ex,b≠X.env.locals/\∀x c,X.env.cells.lookup x=some c->c≠b
 bs:∀b o,X.base.get? b=some o->X.dR.heap.get? b=some o/\X.tT b=none
 qw:X.base.objs.size<=X.dR.heap.objs.size
 tU:∀b o,X.base.get? b=some o->b∉X.ex
 wu:∀b∈X.ex,b∉X.fs
 iJ:X.dR.heap.FunFrames X.base X.outer
 sN:∀b∈X.fs,X.tT b=none
structure Inv (X:Cx) (pins:List (Addr×Obj)) (σ:List (Option V)) (H:Hp) (s:Shared):Prop where
 ok:X.Ok
 os:s.os=X.dR.os
 bare:AllBare s.gens
 base:Un X.fs X.ex X.tT H X.dR.heap s.heap
 loc:∃m,s.heap.Ns X.env.locals m/\∀(i:Nat) (x:Str) (v:V),X.N[i]?=some x->σ[i]?=some (some v)->Mi X.env.scope x->∃u,RelV v u/\Look X.env s.heap m x u
 cell:∀x c,X.env.cells.lookup x=some c->∃v,s.heap.IsCell c v
 free:H X.env.locals=none
 fX:∀x c,X.env.cells.lookup x=some c->H c=none
 pin:∀p∈X.pn++pins,s.heap.get? p.1=some p.2/\H p.1=none/\p.1≠X.env.locals/\p.1∉X.fs/\∀v,p.2.data≠.cell v
 aL:dw X.prog X.w H s.heap
 len:σ.length=X.N.length
section
variable {X:Cx}{pins:List (Addr×Obj)}{σ:List (Option V)}{H H':Hp}{s:Shared}{h':Heap}
theorem Cx.Ok.UY (ok:X.Ok){b:Addr}{o:Obj}(e:X.base.get? b=some o):b∉X.fs:=λa=>by
 have:=(ok.iJ.mem a).1
 grind
theorem Inv.bs (I:Inv X pins σ H s):∀b o,X.base.get? b=some o->s.heap.get? b=some o/\H b=none:=λb o e=>
 ⟨I.base.keep b o (I.ok.bs b o e).1 (I.ok.bs b o e).2 (I.ok.UY e) (I.ok.tU b o e),I.base.free b o (I.ok.bs b o e).1 (I.ok.bs b o e).2 (I.ok.tU b o e)⟩
theorem Inv.bk (I:Inv X pins σ H s):∀b o,X.base.get? b=some o->s.heap.get? b=some o:=λb o e=>(I.bs b o e).1
theorem Inv.mod (I:Inv X pins σ H s):Mod X.K X.mg X.base:=I.ok.mod
theorem Inv.cZ (I:Inv X pins σ H s):X.K.In s.heap:=I.ok.mod.uB.keeps I.bk
theorem Inv.lt (I:Inv X pins σ H s):X.env.locals<s.heap.objs.size:=let ⟨_,a,_⟩:=I.loc;a.lt
theorem Inv.sz (I:Inv X pins σ H s):X.dR.heap.objs.size<=s.heap.objs.size:=acr I.ok.above (afu I.lt)
theorem Inv.Cq (I:Inv X pins σ H s){a:Addr}(h:s.heap.objs.size<=a):a∉X.fs:=λc=>by
 obtain⟨_,o,b,_⟩:=I.ok.iJ.mem c;exact absurd (acw (acg b) (acr I.sz h)) (adg _)
theorem Inv.kH (I:Inv X pins σ H s):∀x c,X.env.cells.lookup x=some c->c≠X.env.locals:=λx c e z=>by
 obtain⟨v,o,f,hd⟩:=I.cell x c e;obtain⟨m,⟨d,g,h,b,a,_⟩,_⟩:=I.loc
 grind
theorem Inv.iJ (I:Inv X pins σ H s):s.heap.FunFrames X.base X.outer:=by
 have all:∀(l:List Env),(∀b∈cx l,b∈X.fs)->X.dR.heap.FunFrames X.base l->s.heap.FunFrames X.base l:=by
  intro l
  induction l with
  |nil=>intro _ _;trivial
  |cons env r m=>
   intro f i;obtain⟨k,⟨L,o,d,j,g,hd⟩,h⟩:=i;have a:L∈X.fs:=f L (by unfold cx;grind);obtain⟨sl,e⟩:=I.base.slot L o g (I.ok.sN L a) a λz=>I.ok.wu L z a
   exact⟨k,⟨L,_,d,j,e,hd⟩,m (λb c=>f b (by unfold cx;rw[List.filterMap_cons,d];exact acG _ c)) h⟩
 exact all X.outer (λ_ c=>c) I.ok.iJ
theorem Inv.stack (I:Inv X pins σ H s):s.heap.FunFrames X.base X.stack:=by
 rcases I.ok.A8 with e|⟨e,b⟩
 ·rw[e];exact I.iJ
 ·rw[e];obtain⟨m,a,_⟩:=I.loc;refine .cons (by rw[I.ok.kind];decide) b a ?_ I.iJ;exact Heap.get?_none_of_le (acr I.ok.qw I.ok.above)
theorem Inv.yA (I:Inv X pins σ H s):∀b∈cx X.stack,b∈X.env.locals::X.fs:=λb a=>by
 rcases I.ok.A8 with e|⟨e,c⟩
 ·grind
 ·rw[e]at a;unfold cx at a;rw[List.filterMap_cons,c]at a;exact a
theorem Inv.nk (I:Inv X pins σ H s):∀b∈cx X.stack,H b=none:=λb a=>by
 rcases aci.mp (I.yA b a) with e|a
 ·rw[e];exact I.free
 ·obtain⟨_,o,c,_⟩:=I.ok.iJ.mem a;exact I.base.free b o c (I.ok.sN b a) λz=>I.ok.wu b z a
theorem Inv.step {g':Array GenState}{t':Nat}{d':Drawn}{ch:List Addr}(I:Inv X pins σ H s)
 (f:∀b∈ch,(b∈X.ex\/X.dR.heap.objs.size<=b)/\b≠X.env.locals/\(∀x c,X.env.cells.lookup x=some c->c≠b)/\∀p∈X.pn++pins,p.1≠b)
 (keep:∀b o,b≠X.env.locals->b∉X.fs->b∉ch->s.heap.get? b=some o->H b=none->h'.get? b=some o)
 (slot:∀b o,b≠X.env.locals->b∈X.fs->b∉ch->s.heap.get? b=some o->H b=none->∃sl,h'.get? b=some { o with slots:=sl }) (free:∀b o,b∉ch->s.heap.get? b=some o->H b=none->H' b=none)
 (there:∀b o,b∉ch->s.heap.get? b=some o->∃A,h'.get? b=some A)
 (gN:∀b t,H b=some (.tup t)->H' b=some (.tup t)) (fW:∀b o u,H b=some (.cL o u)->H' b=some (.cL o u)) (gO:∀b C,H b=some (.e9 C)->∃more,H' b=some (.e9 (C++more)))
 (ns:∀m,s.heap.Ns X.env.locals m->h'.Ns X.env.locals m) (aL:dw X.prog X.w H' h') (N:AllBare g'):
 Inv X pins σ H' { s with heap:=h',gens:=g',drawn:=d',toks:=t' }:=by
 have B:∀b o,X.dR.heap.get? b=some o->b≠X.env.locals:=λb o e=>acz (acw (acg e) I.ok.above)
 have h:∀b o,X.dR.heap.get? b=some o->b∉X.ex->b∉ch:=λb o e a w=>by
  rcases (f b w).1 with z|z
  ·exact a z
  ·exact absurd (acw (acg e) z) (adg _)
 have cellK:∀x c,X.env.cells.lookup x=some c->∀v,s.heap.IsCell c v->h'.IsCell c v:=λx c e v ⟨o,y,hd⟩=>by
  have g:c∉ch:=λz=>(f c z).2.2.1 x c e rfl
  by_cases hc:c∈X.fs
  ·obtain⟨sl,q⟩:=slot c o (I.kH x c e) hc g y (I.fX x c e);exact⟨_,q,hd⟩
  ·exact⟨o,keep c o (I.kH x c e) hc g y (I.fX x c e),hd⟩
 refine⟨I.ok,I.os,N,⟨λb o e n w a=>?_,λb o e n w a=>?_,λb o e n a=>?_,λb o e a=>?_,λb t e=>gN b t (I.base.gN b t e),λb o t e=>fW b o t (I.base.fW b o t e),λb C e=>?_⟩,?_,λx c e=>?_,?_,λx c e=>?_,λp F=>?_,aL,I.len⟩
 ·exact keep b o (B b o e) w (h b o e a) (I.base.keep b o e n w a) (I.base.free b o e n a)
 ·obtain⟨sl,j⟩:=I.base.slot b o e n w a;obtain⟨D,E⟩:=slot b _ (B b o e) w (h b o e a) j (I.base.free b o e n a);exact⟨D,E⟩
 ·obtain⟨A,j⟩:=I.base.there b o e a;exact free b A (h b o e a) j (I.base.free b o e n a)
 ·obtain⟨A,j⟩:=I.base.there b o e a;exact there b A (h b o e a) j
 ·obtain⟨O,j⟩:=I.base.gO b C e
  grind
 ·obtain⟨m,M,L⟩:=I.loc;refine⟨m,ns m M,λi x v j E J=>?_⟩;obtain⟨u,r,l⟩:=L i x v j E J;refine⟨u,r,?_⟩;rcases l with l|⟨k,c,e,z⟩
  ·exact .inl l
  ·exact .inr ⟨k,c,e,cellK x c e _ z⟩
 ·obtain⟨v,z⟩:=I.cell x c e;exact⟨v,cellK x c e v z⟩
 ·obtain⟨m,⟨o,_,_,y,_⟩,_⟩:=I.loc;exact free _ o (λz=>(f _ z).2.1 Y) y I.free
 ·obtain⟨v,o,y,hd⟩:=I.cell x c e;exact free c o (λz=>(f c z).2.2.1 x c e Y) y (I.fX x c e)
 ·obtain⟨e,n,ne,G,d⟩:=I.pin p F;have g:p.1∉ch:=λz=>(f p.1 z).2.2.2 p F rfl
  exact⟨keep p.1 p.2 ne G g e n,free p.1 p.2 g e n,ne,G,d⟩
theorem Inv.un {t':Nat}(I:Inv X pins σ H s)(u:Un X.fs [] H H' s.heap h')(aL:dw X.prog X.w H' h'):Inv X pins σ H' { s with heap:=h',toks:=t' }:=by
 obtain⟨m,⟨o,q,k,g,r⟩,_⟩:=id I.loc;obtain⟨sl,h⟩:=u.any g I.free (by simp)
 exact I.step (g':=s.gens) (d':=s.drawn) (ch:=[]) (λ_ z=>nomatch z) (λb o _ c _ e n=>u.keep b o e n c (by simp)) (λb o _ c _ e n=>u.slot b o e n c (by simp)) (λb o _ e n=>u.free b o e n (by simp)) (λb o _ e=>u.there b o e (by simp)) u.gN u.fW u.gO (λp i=>by
  obtain⟨l,f,d,a,j⟩:=i;rw[g]at a;cases a;exact⟨_,f,d,h,j⟩) aL I.bare
theorem Inv.call {g':Array GenState}{t':Nat}{d':Drawn}{ch:List Addr}(I:Inv X pins σ H s)(u:Un (cx X.stack) ch H H' s.heap h')(aL:dw X.prog X.w H' h')(l:AllBare g')
 (a:∀b∈ch,(b∈X.ex\/X.dR.heap.objs.size<=b)/\b≠X.env.locals/\(∀x c,X.env.cells.lookup x=some c->c≠b)/\∀p∈X.pn++pins,p.1≠b):
 Inv X pins σ H' { s with heap:=h',gens:=g',drawn:=d',toks:=t' }:=by
 obtain⟨m,⟨o,y,t,i,r⟩,_⟩:=id I.loc;obtain⟨sl,f⟩:=u.any i I.free λz=>(a _ z).2.1 rfl
 exact I.step (ch:=ch) a (λb o f k hc e n=>u.keep b o e n (λz=>(aci.mp (I.yA b z)).elim f k) hc) (λb o _ _ hc e n=>u.any e n hc) (λb o hc e n=>u.free b o e n hc) (λb o hc e=>u.there b o e hc) u.gN u.fW u.gO (λw j=>by
  obtain⟨v,h,g,d,q⟩:=j;rw[i]at d;cases d;exact⟨_,h,g,f,q⟩) aL l
theorem Inv.turned {t':Nat}{it:Addr}(I:Inv X pins σ H s)(k:∀b o,b≠it->s.heap.get? b=some o->h'.get? b=some o)(A:H it=none)(a:it≠X.env.locals)
 (i:it∈X.ex\/X.dR.heap.objs.size<=it) (j:∀x c,X.env.cells.lookup x=some c->c≠it) (t:∀p∈X.pn++pins,p.1≠it):Inv X pins σ H { s with heap:=h',toks:=t' }:=by
 have d:∀b u,H b=some u->b≠it:=λb u e z=>by grind
 refine I.step (g':=s.gens) (d':=s.drawn) (ch:=[it]) (λb h=>?_) (λb o _ _ hc e _=>k b o (λz=>hc (by simp[z])) e) (λb o _ _ hc e _=>⟨o.slots,k b o (λz=>hc (by simp[z])) e⟩) (λ_ _ _ _ n=>n)
  (λb o hc e=>⟨o,k b o (λz=>hc (by simp[z])) e⟩) (λ_ _ e=>e) (λ_ _ _ e=>e) (λb y e=>⟨#[],by rw[e];simp⟩) (λm g=>?_) (λb u e=>?_) I.bare
 ·have e:b=it:=by simpa using h
  subst e;exact⟨i,a,j,t⟩
 ·obtain⟨o,l,f,w,r⟩:=g;exact⟨o,l,f,k _ o (adn a) w,r⟩
 ·refine(I.aL b u e).eX (λc v hc q=>k c v ?_ q) (λ_ q=>q) λ_ _ q=>q
  grind
theorem Inv.tok (I:Inv X pins σ H s)(t:Nat):Inv X pins σ H { s with toks:=t }:=I.un (h':=s.heap) (t':=t) Un.refl I.aL
theorem Inv.kept {t':Nat}(I:Inv X pins σ H s)(k:∀b u,s.heap.get? b=some u->h'.get? b=some u):Inv X pins σ H { s with heap:=h',toks:=t' }:=I.un (Un.kept k) (I.aL.kept k)
theorem Inv.laid {o:HO}{t':Nat}(I:Inv X pins σ H s)(k:∀b u,s.heap.get? b=some u->h'.get? b=some u)(c:s.heap.objs.size<=a)(new:bU X.prog X.w (upd H a o) h' a o):
 Inv X pins σ (upd H a o) { s with heap:=h',toks:=t' }:=I.un (Un.laid k c (I.aL.fresh c)) (I.aL.laid k c new)
theorem Inv.write {x e:Addr}{o:HO}{t':Nat}(I:Inv X pins σ H s)(mu:sM (H x))(c:e=x\/H e=some (.own x))(k:∀b u,b≠e->s.heap.get? b=some u->h'.get? b=some u)(a:∃u,h'.get? e=some u)
 (new:bU X.prog X.w (upd H x o) h' x o):Inv X pins σ (upd H x o) { s with heap:=h',toks:=t' }:=I.un (Un.write mu c k a) (I.aL.write mu c k a new)
theorem Inv.i5 (I:Inv X pins σ H s)(h:∀p∈o,s.heap.get? p.1=some p.2/\H p.1=none/\p.1≠X.env.locals/\p.1∉X.fs/\∀v,p.2.data≠.cell v):Inv X o σ H s:=
 ⟨I.ok,I.os,I.bare,I.base,I.loc,I.cell,I.free,I.fX,λp a=>(ach.mp a).elim (λz=>I.pin p (acu _ z)) (h p),I.aL,I.len⟩
theorem tV (d:Z.Nodup){i j:Nat}{x:Str}(a:Z[i]?=some x)(b:Z[j]?=some x):i=j:=by
 obtain⟨g,c⟩:=ab5.mp a;obtain⟨f,e⟩:=ab5.mp b;exact(List.getElem_inj d).mp (c.trans e.symm)
theorem w9 {M:Model}{v:V}(I:Inv X pins σ H s)(hN:X.N.Nodup)(J:X.N[i]?=some x)(l:Loc X.env.scope x)(r:RelV v u)
 (h:∀s',Inv X pins (σ.set i (some v)) H s'->(∃a,Heap.SameBut a s.heap s'.heap/\(a=X.env.locals\/X.env.cells.lookup x=some a))->U () s') (hf:X.fn x=true\/X.env.scope.names.lookup x=some .local:=by first|exact .inl rfl|exact .inr rfl|assumption):wpAny M A (storeName X.env x u) U E s:=by
 obtain⟨m,T,hl⟩:=id I.loc;have L:(X.env.scope.kind==.class || (X.env.scope.kind==.module && X.env.locals !=X.env.globals))=false:=by rw[I.ok.kind];rfl
 have B:i < σ.length:=by rw[I.len];exact(ab5.mp J).1
 have kH:=I.kH
 have tracked:∀{a:Addr} {h':Heap},(∃o,s.heap.get? a=some o/\H a=none)->Heap.SameBut a s.heap h'->dw X.prog X.w H h':=λ{a h'} ha f b ob e=>by
  obtain⟨_,_,aaH⟩:=ha;refine(I.aL b ob e).eX (λc R t q=>(f.2 c ?_).trans q) (λ_ q=>q) λ_ _ q=>q
  grind
 rcases l with G|G
 ·refine wpAny_storeName_local G T (λh' O f=>?_) L;obtain⟨oL,_,_,Wc,_⟩:=id T;refine h _ ⟨I.ok,I.os,I.bare,⟨λb o e n C l=>?_,λb o e n C l=>?_,I.base.free,λb o e l=>?_,I.base.gN,I.base.fW,I.base.gO⟩,⟨_,O,λj y v' g w P=>?_⟩,λy c e=>?_,I.free,I.fX,λp hp=>?_,tracked ⟨oL,Wc,I.free⟩ f,by simpa using I.len⟩ ⟨_,f,.inl Y⟩
  ·exact(f.2 b (acz (acw (acg e) I.ok.above))).trans (I.base.keep b o e n C l)
  ·obtain⟨Q,g⟩:=I.base.slot b o e n C l;exact⟨Q,(f.2 b (acz (acw (acg e) I.ok.above))).trans g⟩
  ·obtain⟨S,g⟩:=I.base.there b o e l;exact⟨S,(f.2 b (acz (acw (acg e) I.ok.above))).trans g⟩
  ·by_cases D:j=i
   ·subst D;rw[J]at g;cases g;rw[acT B]at w;cases w;exact⟨u,r,.inl ⟨G,by simp⟩⟩
   ·rw[adp (adn D)]at w;obtain⟨u',Z,q⟩:=hl j y v' g w P;refine⟨u',Z,?_⟩;rcases q with ⟨k,e⟩|⟨k,c,e,z⟩
    ·refine .inl ⟨k,?_⟩;have:y≠x:=λe=>D (tV hN g (e ▸ J))
     simp[this,e]
    ·exact .inr ⟨k,c,e,z.sameBut f (kH y c e)⟩
  ·obtain⟨R,z⟩:=I.cell y c e;exact⟨R,z.sameBut f (kH y c e)⟩
  ·obtain⟨e,n,ne,nf,d⟩:=I.pin p hp;exact⟨(f.2 p.1 ne).trans e,n,ne,nf,d⟩
 ·have F:X.fn x=true:=by
   rcases hf with z|z
   ·exact z
   ·grind
  obtain⟨c,t⟩:=I.ok.has x (.inl G);obtain⟨R,z⟩:=I.cell x c t;refine wpAny_storeName_cell I.ok.kind G t z (λh' Mj f=>?_);obtain⟨oc,W,aaR⟩:=id z;refine h { s with heap:=h' } ⟨I.ok,I.os,I.bare,⟨λb o e n C l=>?_,λb o e n C l=>?_,I.base.free,λb o e l=>?_,I.base.gN,I.base.fW,I.base.gO⟩,⟨m,T.sameBut f (adn (kH x c t)),λj y v' g w P=>?_⟩,λy N e=>?_,I.free,I.fX,λp hp=>?_,tracked ⟨oc,W,I.fX x c t⟩ f,by simpa using I.len⟩ ⟨c,f,.inr t⟩
  ·exact(f.2 b (acz (acw (acg e) (I.ok.yz x c F t)))).trans (I.base.keep b o e n C l)
  ·obtain⟨Q,g⟩:=I.base.slot b o e n C l;exact⟨Q,(f.2 b (acz (acw (acg e) (I.ok.yz x c F t)))).trans g⟩
  ·obtain⟨S,g⟩:=I.base.there b o e l;exact⟨S,(f.2 b (acz (acw (acg e) (I.ok.yz x c F t)))).trans g⟩
  ·by_cases D:j=i
   ·subst D;rw[J]at g;cases g;rw[acT B]at w;cases w;exact⟨u,r,.inr ⟨.inl G,c,t,Mj⟩⟩
   ·rw[adp (adn D)]at w;obtain⟨u',Z,q⟩:=hl j y v' g w P;refine⟨u',Z,?_⟩;rcases q with q|⟨k,N,e,z'⟩
    ·exact .inl q
    ·refine .inr ⟨k,N,e,z'.sameBut f ?_⟩;rintro rfl;exact D (tV hN g (I.ok.inj _ _ _ e t ▸ J))
  ·by_cases Wd:N=c
   ·grind
   ·obtain⟨w2,z2⟩:=I.cell y N e;exact⟨w2,z2.sameBut f Wd⟩
  ·obtain⟨e,n,ne,nf,d⟩:=I.pin p hp;refine⟨(f.2 p.1 ?_).trans e,n,ne,nf,d⟩
   grind
theorem oT {M:Model}{v:V}(I:Inv X pins σ H s)(d:X.N.Nodup)(b:X.N[i]?=some x)(f:Loc X.env.scope x)(r:RelV v u)
 (h:∀a,Inv X pins (σ.set i (some v)) H a->U () a) (e:X.fn x=true\/X.env.scope.names.lookup x=some .local:=by first|exact .inl rfl|exact .inr rfl|assumption):wpAny M A (storeName X.env x u) U E s:=
 w9 I d b f r (λa c _=>h a c) e
theorem Inv.Cr {s':Shared}{ch:List Addr}(I:Inv X pins σ H s)(i:s'.os=s.os)(u:Un (cx X.stack) ch H H' s.heap s'.heap)(aL:dw X.prog X.w H' s'.heap)(j:AllBare s'.gens)
 (a:∀b∈ch,(b∈X.ex\/X.dR.heap.objs.size<=b)/\b≠X.env.locals/\(∀x c,X.env.cells.lookup x=some c->c≠b)/\∀p∈X.pn++pins,p.1≠b):Inv X pins σ H' s':=by
 obtain⟨h',g,f,d,h⟩:=s';have e:h=s.os:=i;subst e;exact I.call (g':=g) (t':=d) (d':=f) u aL j a
end
abbrev XK:=Value->Option Addr->Hp->Prop
abbrev St:=List (Option V)
abbrev VK:=V->Hp->Prop
abbrev TE:=St->Hp->VK->Prop
abbrev TT:=St->Hp->(Bool->Hp->Prop)->Prop
abbrev TA:=St->Hp->(List V->Hp->Prop)->Prop
structure Ends where
 nx:St->Hp->Prop
 rt:VK
 bk:St->Hp->Prop:=λ_ _=>False
 ct:St->Hp->Prop:=λ_ _=>False
abbrev TS:=Ends->St->Hp->Prop
def EP (X:Cx)(a:List (Addr×Obj))(d:St)(Q:VK)(u:Value)(c:Shared):Prop:=∃v b,Inv X a d b c/\RelV v u/\Q v b
def TP (X:Cx)(a:List (Addr×Obj))(e:St)(Q:Bool->Hp->Prop)(b:Bool)(d:Shared):Prop:=∃c,Inv X a e c d/\Q b c
def AP (X:Cx)(a:List (Addr×Obj))(f:St)(Q:List V->Hp->Prop)(d:List Value)(e:Shared):Prop:=∃b c,Inv X a f c e/\Vals b d/\Q b c
def SP (X:Cx)(b:List (Addr×Obj))(D:Ends)(f:Flow)(d:Shared):Prop:=
 match f with
 |.next=>∃ a c,Inv X b a c d/\D.nx a c
 |.brk=>∃ a c,Inv X b a c d/\D.bk a c
 |.cont=>∃ a c,Inv X b a c d/\D.ct a c
 |.ret u=>∃v a c,Inv X b a c d/\RelV v u/\D.rt v c
def PE (X:Cx)(e:Expr)(t:TE):Prop:=
 ∀(a:List (Addr×Obj)) (s:Shared) (b:St) (H:Hp) (Q:VK),Inv X a b H s->t b H Q->wpAny (model X.prog X.w) X.A (eval e X.env) (EP X a b Q) X.xe s
def PT (X:Cx)(e:Expr)(t:TT):Prop:=
 ∀(a:List (Addr×Obj)) (s:Shared) (b:St) (H:Hp) (Q:Bool->Hp->Prop),Inv X a b H s->t b H Q->wpAny (model X.prog X.w) X.A (isTrue e X.env (eval e X.env)) (TP X a b Q) X.xe s
def PW (X:Cx)(e:Expr)(t:TT):Prop:=
 ∀(whole:Sem Value) (a:List (Addr×Obj)) (s:Shared) (b:St) (H:Hp) (Q:Bool->Hp->Prop),Inv X a b H s->t b H Q->wpAny (model X.prog X.w) X.A (isTrue e X.env whole) (TP X a b Q) X.xe s
theorem PW.pt {X:Cx}{t:TT}(h:PW X e t):PT X e t:=h _
def PA (X:Cx)(d:List Expr)(t:TA):Prop:=
 ∀(b:Pos) (a:List (Addr×Obj)) (s:Shared) (c:St) (H:Hp) (Q:List V->Hp->Prop),Inv X a c H s->t c H Q->wpAny (model X.prog X.w) X.A (spliced (backTo b (starEach d X.env))) (AP X a c Q) X.xe s
def PS (X:Cx)(st:Stmt)(t:TS):Prop:=
 ∀(a:List (Addr×Obj)) (s:Shared) (b:St) (H:Hp) (D:Ends),Inv X a b H s->t D b H->wpAny (model X.prog X.w) X.A (exec st X.env) (SP X a D) X.xe s
def i6 (X:Cx)(st:List Stmt)(t:TS):Prop:=
 ∀(a:List (Addr×Obj)) (s:Shared) (b:St) (H:Hp) (D:Ends),Inv X a b H s->t D b H->wpAny (model X.prog X.w) X.A (execs st X.env) (SP X a D) X.xe s
theorem aY {c:Type}{t:Sem c}{Q b:c->Shared->Prop}{M:Model}(h:wpAny M A t Q E s)(d:∀a s,Q a s->b a s):wpAny M A t b E s:=acW h d λ_ _ x=>x
end L2
variable {D:L2.St}{r:L2.TE}{G:L2.Ends}{X:L2.Cx}
namespace L2
open PySem PySem.Spec PyProof.Rows
section
variable {X:Cx}
theorem bin {b:Expr}{l:TE}(n:PE X e r)(q:PE X b l){a:List (Addr×Obj)}{s:Shared}{c:St}{H:Hp}{R:V->V->Hp->Prop}(I:Inv X a c H s)(h:r c H λx k=>l c k λy d=>R x y d)
 {m:Type} {Q:m->Shared->Prop} {f:Value->Value->Sem m}
 (w:∀v u j x y d,Inv X a c d j->RelV x v->RelV y u->R x y d->wpAny (model X.prog X.w) X.A (f v u) Q X.xe j):
 wpAny (model X.prog X.w) X.A (eval e X.env) (λv g=>wpAny (model X.prog X.w) X.A (eval b X.env) (λu i=>wpAny (model X.prog X.w) X.A (f v u) Q X.xe i) X.xe g) X.xe s:=by
 refine aY (n a s c H _ I h) λv o ⟨x,k,t,z,p⟩=>?_
 refine aY (q a o c k _ t p) λu j ⟨y,d,C,A,B⟩=>?_
 exact w v u j x y d C z A B
inductive iK (i:Nat) (σ:St) (H:Hp) (Q:VK):Prop
 |mk (v:V):σ[i]?=some (some v)->Q v H->iK i σ H Q
def tC (v:V):TE:=λ_ H Q=>Q v H
theorem Ml (w:X.N[i]?=some x)(t:Mi X.env.scope x)(g:(x==("__debug__":Str))=false:=by decide)(f:(x==("__classdict__":Str))=false:=by decide):PE X (.Name x p) (iK i):=by
 intro d s q H Q I h;obtain⟨v,e,h⟩:=h;obtain⟨m,n,k⟩:=I.loc;obtain⟨u,r,l⟩:=k i x v w e t;have fin:EP X d q Q u s:=⟨v,H,I,r,h⟩;rcases l with ⟨b,o⟩|⟨b,c,j,a⟩
 ·exact wpAny_Name (wpAny_loadName_local I.ok.kind b n o fin) g
 ·rcases b with b|b
  ·exact wpAny_Name (wpAny_loadName_cell I.ok.kind b j a fin) g
  ·exact wpAny_Name (wpAny_loadName_free I.ok.kind b j a fin f) g
theorem aM {i j a}:PE X (.Constant (.int i) j a) (tC (.int i)):=λ_ _ _ H _ I h=>wpAny_Constant_int ⟨.int i,H,I.tok _,⟨_,Y⟩,h⟩
theorem oU {b j a}:PE X (.Constant (.bool b) j a) (tC (.bl b)):=λ_ _ _ H _ I h=>Constant_bool ⟨.bl b,H,I,Y,h⟩
theorem c9 {j a}:PE X (.Constant .none j a) (tC .non):=λ_ _ _ H _ I h=>Constant_none ⟨.non,H,I,Y,h⟩
theorem Mm {x j a}:PE X (.Constant (.str x) j a) (tC (.str x)):=λ_ _ _ H _ I h=>Calls.Constant_str ⟨.str x,H,I.tok _,⟨_,Y⟩,h⟩
def Gl (X:Cx)(x:Str):Prop:=X.env.kindOf x=some .globalImplicit
theorem jK (I:Inv X o D H s)(a:Gl X x)(b:X.mg x=some u)(h:Q u s)
 (c:(x==("__debug__":Str))=false:=by decide):wpAny (model X.prog X.w) X.A (eval (.Name x p) X.env) Q E s:=
 Calls.Name_function_global I.ok.kind a (Calls.loadGlobal_global (by rw[I.ok.glob];exact I.mod.glob.keeps I.bk) b h) c
theorem iw (I:Inv X o D H s)(c:Gl X x)(f:X.mg x=none)(d:bootBuiltins x=some u)(h:Q u s)
 (e:x≠"__name__":=by decide) (g:(x==("__debug__":Str))=false:=by decide):wpAny (model X.prog X.w) X.A (eval (.Name x p) X.env) Q E s:=by
 obtain⟨i,b,a⟩:=I.mod.blt;exact Calls.Name_function_global I.ok.kind c (Calls.loadGlobal_builtin (by rw[I.ok.glob];exact I.mod.glob.keeps I.bk) f (by rw[I.ok.blt];exact b.keeps I.bk) ((a x e).trans d) h) g
theorem e8 {v:V}(e:Gl X x)(c:X.mg x=none)(a:bootBuiltins x=some u)(r:RelV v u)(b:x≠"__name__":=by decide)(d:(x==("__debug__":Str))=false:=by decide):PE X (.Name x p) (tC v):=
 λ_ _ _ H _ I h=>iw I e c a ⟨v,H,I,r,h⟩ b d
def Wg (e c:TE)(k:Int->Int->Hp->Prop):St->Hp->Prop:=λ a H=>e a H λx b=>c a b λy d=>∃i j,x=.int i/\y=.int j/\k i j d
variable {a b:Expr}{ta tb:TE}{pos:Pos}
def PC (X:Cx)(g:CmpOp)(a b:Expr)(t:TE):Prop:=
 ∀(c:List (Addr×Obj)) (s:Shared) (f:St) (H:Hp) (Q:VK),Inv X c f H s->t f H Q->
  wpAny (model X.prog X.w) X.A (eval a X.env) (λv e=>wpAny (model X.prog X.w) X.A (eval b X.env) (λu d=>wpAny (model X.prog X.w) X.A (compareOp g v u) (EP X c f Q) X.xe d) X.xe e) X.xe s
theorem Gp (b:Expr){c:CmpOp}(h:c≠.In)(f:c≠.NotIn):behindInMarks c b=false:=by
 have d:(c==CmpOp.In)=false:=by grind
 have e:(c==CmpOp.NotIn)=false:=by grind
 cases b <;> simp[behindInMarks,d,e]
def UZ (p:Int->Int->Bool)(ta tb:TE):TE:=λ d H Q=>Wg ta tb (λi j c=>Q (.bl (p i j)) c) d H
abbrev IH:TE->TE->TE:=UZ λi j=>decide (i<j)
def tB (t:TE):TT:=λ e H Q=>t e H λx d=>∃c,x=.bl c/\Q c d
theorem Mp {g:CmpOp}(h:PC X g a b r)(f:behindInMarks g b=false:=by first|exact Gp _ (by decide) (by decide)|rfl):PT X (.Compare a [g] [b] pos) (tB r):=by
 intro e s k H Q I i;refine wpAny_isTrue_Compare1 (aY (h e s k H _ I i) λv p f=>aY f λu w m=>aY m λc t ⟨x,n,l,o,j⟩=>?_) f;obtain⟨d,rfl,q⟩:=j;cases o;exact adZ ⟨n,l,q⟩
theorem fF (h:PE X e r)(m:∀whole,isTrue e X.env whole=(do let v <-whole;standAt e.pos;holding [v] (truthy v)):=by intro _;rfl):PT X e (tB r):=by
 intro c s j H Q I f;refine isTrue_plain (aY (h c s j H _ I f) λv n ⟨x,k,i,l,g⟩=>?_) (m _);obtain⟨d,rfl,q⟩:=g;cases l;exact adZ ⟨k,i,q⟩
variable {tA Sv:TT}{rest:List Expr}
def Wh (t u:TT):TT:=λ e H Q=>t e H λc d=>if c=true then Q true d else u e d Q
def U0 (t:TT):TT:=λ e H Q=>t e H λc d=>Q (!c) d
theorem uC (g:PT X a tA):PW X (.BoolOp .Or [a] pos) tA:=by
 intro j d s f H Q I h;refine isTrue_or (aY (g d s f H Q I h) λc i e=>?_)
 cases c with
 |false=>exact isTrue_or_nil e
 |true=>exact e
theorem oV (k:PT X a tA)(l:PW X (.BoolOp .Or (b::rest) pos) Sv):PW X (.BoolOp .Or (a::b::rest) pos) (Wh tA Sv):=by
 intro m d s i H Q I h;refine isTrue_or (aY (k d s i H _ I h) λc j ⟨e,g,f⟩=>?_)
 cases c with
 |true=>exact⟨e,g,f⟩
 |false=>exact l m d j i e Q g f
theorem k8 (g:PT X a tA):PT X (.UnaryOp .Not a pos) (U0 tA):=by
 intro d s f H Q I h;exact isTrue_not (g d s f H (λc e=>Q (!c) e) I h)
def QP (ta tb:TE):TE:=λ e H Q=>ta e H λx d=>∃c,x=.bl c/\if c=true then tb e d Q else Q (.bl false) d
def QQ (ta:TE):TE:=λ e H Q=>ta e H λx d=>∃c,x=.bl c/\Q (.bl (!c)) d
theorem yB {e}(h:PE X a r):PE X (.BoolOp e [a] pos) r:=λc s f H Q I d=>BoolOp_one (h c s f H Q I d)
theorem yC (m:PE X a ta)(l:PE X (.BoolOp .And (b::rest) pos) tb):PE X (.BoolOp .And (a::b::rest) pos) (QP ta tb):=by
 intro d s i H Q I h;refine BoolOp_and (aY (m d s i H _ I h) λv j ⟨x,f,g,k,e⟩=>?_);obtain⟨c,rfl,e⟩:=e;cases k;refine adZ ?_
 cases c with
 |true=>exact l d j i f Q g e
 |false=>exact⟨.bl false,f,g,Y,e⟩
theorem Mq (k:PE X a ta):PE X (.UnaryOp .Not a pos) (QQ ta):=by
 intro d s j H Q I h;refine UnaryOp_ (aY (k d s j H _ I h) λv l ⟨x,f,i,g,e⟩=>?_);obtain⟨c,rfl,e⟩:=e;cases g;exact not_of (adZ ⟨.bl (!c),f,i,Y,e⟩)
end
def aI (K:Za1)(H:Hp)(a:Addr)(c:List V):Prop:=
 Rd H a (.lst c)\/
  ∃(o:Obj) (b:Array Value) (n:Nat),K.lookup a=some o/\o.cls=.type "list"/\o.dict=none/\o.data=.seq b n/\b.size<=sizeLine/\Vals c b.toList
def bT (K:Za1)(H:Hp)(a:Addr)(c:List V):Prop:=
 Rd H a (.tup c)\/
  ∃(o:Obj) (b:Array Value) (n:Nat),K.lookup a=some o/\o.cls=.type "tuple"/\o.data=.seq b n/\b.size<=sizeLine/\Vals c b.toList
def U1:Value->Option V
 |.none=>some .non
 |.bool b=>some (.bl b)
 |.int i _=>some (.int i)
 |.str x _=>some (.str x)
 |.bytes b _=>some (.mw b)
 |.float b _=>some (.yy b)
 |.ref a=>some (.ref a)
 |.type n=>some (.ty n)
 |_=>none
theorem RelV.abs {x:V}(r:RelV x u):U1 u=some x:=by
 cases x with
 |non=>cases r;rfl
 |bl _=>cases r;rfl
 |int _=>obtain⟨t,rfl⟩:=r;rfl
 |str _=>obtain⟨t,rfl⟩:=r;rfl
 |mw _=>obtain⟨t,rfl⟩:=r;rfl
 |yy _=>obtain⟨t,rfl⟩:=r;rfl
 |ref _=>cases r;rfl
 |ty _=>cases r;rfl
theorem RelV.inj {x:V}(r:RelV x u)(a:RelV q u):x=q:=Za0 (r.abs.symm.trans a.abs)
theorem Vals.inj:∀{b ys:List V} {a:List Value},Vals b a->Vals ys a->b=ys
 |_,_,_,.nil,.nil=>rfl
 |_,_,_,.cons r t,.cons d c=>by rw[r.inj d,Vals.inj t c]
section
variable {X:Cx}{pins:List (Addr×Obj)}{σ:St}{H:Hp}{s:Shared}{a:Addr}{xs ys:List V}
theorem aI.of (h:H a=some (.lst xs)):aI K H a xs:=.inl (.inl h)
theorem bT.of (h:H a=some (.tup xs)):bT K H a xs:=.inl (.inl h)
theorem Inv.list (I:Inv X pins σ H s)(h:aI X.K H a xs):∃b:List Value,Vals xs b/\PlainL s.heap a b.toArray/\xs.length<=sizeLine:=by
 rcases h with h|⟨o,b,n,c,hc,hd,d,hz,r⟩
 ·obtain⟨z,b,n,r,e⟩:=h.ok I.aL;exact⟨b,r,⟨_,n,e,Y,Y,Y⟩,z⟩
 ·refine⟨b.toList,r,⟨o,n,I.cZ a o c,hc,hd,by omega⟩,?_⟩;have e:=r.length;simp only[ad1]at e;omega
theorem Inv.tuple (I:Inv X pins σ H s)(h:bT X.K H a xs):∃b:List Value,Vals xs b/\IsTup s.heap a b.toArray/\xs.length<=sizeLine:=by
 rcases h with h|⟨o,b,n,c,hc,d,hz,r⟩
 ·obtain⟨z,b,r,p⟩:=h.ok I.aL;exact⟨b,r,p,z⟩
 ·refine⟨b.toList,r,⟨o,I.cZ a o c,hc,n,by omega⟩,?_⟩;have e:=r.length;simp only[ad1]at e;omega
theorem Inv.tW (I:Inv X pins σ H s)(h:aI X.K H a xs)(i:aI X.K H a ys):xs=ys:=by
 obtain⟨c,r,⟨o,n,e,_,_,d⟩,_⟩:=I.list h;obtain⟨b,j,⟨k,l,g,_,_,f⟩,_⟩:=I.list i;rw[e]at g;cases g;rw[d]at f;injection f with d1 _
 have:c=b:=by simpa using ac5 Array.toList d1
 subst this;exact r.inj j
theorem Inv.DC (I:Inv X pins σ H s)(h:bT X.K H a xs)(i:bT X.K H a ys):xs=ys:=by
 obtain⟨c,r,⟨o,e,_,n,d⟩,_⟩:=I.tuple h;obtain⟨b,j,⟨k,g,_,l,f⟩,_⟩:=I.tuple i;rw[e]at g;cases g;rw[d]at f;injection f with d1 _
 have:c=b:=by simpa using ac5 Array.toList d1
 subst this;exact r.inj j
end
abbrev Cx.wish (X:Cx) (E:Value->Shared->Prop):Cx:={ X with xe:=E }
abbrev Cx.uD (X:Cx):Cx:=X.wish λ_ _=>False
theorem Cx.Ok.wish (ok:X.Ok)(E:Value->Shared->Prop):(X.wish E).Ok:=
 ⟨ok.mod,ok.kind,ok.glob,ok.blt,ok.above,ok.inj,ok.has,ok.yz,ok.hd,ok.frames,ok.A8,ok.IG,ok.bs,ok.qw,ok.tU,ok.wu,ok.iJ,ok.sN⟩
theorem Cx.Ok.gP (ok:(X.wish E).Ok):X.Ok:=
 ⟨ok.mod,ok.kind,ok.glob,ok.blt,ok.above,ok.inj,ok.has,ok.yz,ok.hd,ok.frames,ok.A8,ok.IG,ok.bs,ok.qw,ok.tU,ok.wu,ok.iJ,ok.sN⟩
section
variable {X:Cx}{pins:List (Addr×Obj)}{σ:St}{H:Hp}{s:Shared}{E:Value->Shared->Prop}
theorem Inv.wish (I:Inv X pins σ H s)(E:Value->Shared->Prop):Inv (X.wish E) pins σ H s:=⟨I.ok.wish E,I.os,I.bare,I.base,I.loc,I.cell,I.free,I.fX,I.pin,I.aL,I.len⟩
theorem Inv.gP (I:Inv (X.wish E) pins σ H s):Inv X pins σ H s:=⟨I.ok.gP,I.os,I.bare,I.base,I.loc,I.cell,I.free,I.fX,I.pin,I.aL,I.len⟩
theorem SP.gP {f:Flow}(h:SP (X.wish E) pins G f t):SP X pins G f t:=by
 cases f with
 |next=>obtain⟨a,b,I,q⟩:=h;exact⟨a,b,I.gP,q⟩
 |brk=>obtain⟨a,b,I,q⟩:=h;exact⟨a,b,I.gP,q⟩
 |cont=>obtain⟨a,b,I,q⟩:=h;exact⟨a,b,I.gP,q⟩
 |ret u=>obtain⟨v,a,b,I,r,q⟩:=h;exact⟨v,a,b,I.gP,r,q⟩
theorem i6.uD {st:List Stmt}{t:TS}(h:i6 X.uD st t):i6 X st t:=λpins s σ H D I a=>
 acW (h pins s σ H D (I.wish _) a) (λ_ _ q=>q.gP) λ_ _ z=>False.elim z
end
section
variable {X:Cx}{st:Stmt}{rest:List Stmt}{t u:TS}{e:Expr}{te:TE}{pos:Pos}
def QR:TS:=λD a H=>D.nx a H
def aU (t u:TS):TS:=λD a H=>t { D with nx:=u D } a H
theorem bG:i6 X [] QR:=λ_ _ a H _ I h=>aei ⟨a,H,I,h⟩
theorem aj (j:PS X st t)(c:i6 X rest u):i6 X (st::rest) (aU t u):=by
 intro a s g H D I h;refine wpAny_execs_cons (aY (j a s g H { D with nx:=u D } I h) λf d q=>?_)
 cases f with
 |next=>
  obtain⟨b,k,i,q⟩:=q;exact c a d b k D i q
 |ret v=>exact q
 |brk=>exact q
 |cont=>exact q
theorem ax (c:PS X st t):i6 X [st] t:=by
 intro a s b H D I h;refine wpAny_execs_cons (aY (c a s b H D I h) λf d q=>?_)
 cases f with
 |next=>exact aei q
 |ret v=>exact q
 |brk=>exact q
 |cont=>exact q
def Mr:TS:=λD a H=>D.bk a H
theorem tX:PS X (.Break pos) Mr:=λ_ _ a H _ I h=>wpAny_Break ⟨a,H,I,h⟩
theorem Inv.quiet (I:Inv X o D H s):interactive X.env=false:=by simp[interactive,I.ok.kind]
def QS (te:TE):TS:=λD a H=>te a H λ_ b=>D.nx a b
theorem aZ (g:PE X e te)(d:swapsWith e none pos.line X.env=pure false:=by rfl):PS X (.Expr e pos) (QS te):=by
 intro a s b H D I h;exact wpAny_Expr_any (aY (g a s b H _ I h) λv j ⟨x,c,i,k,f⟩=>⟨b,c,i,f⟩) I.quiet d
def U2 (te:TE):TS:=λD a H=>te a H D.rt
theorem bB (g:PE X e te):PS X (.Return (some e) pos) (U2 te):=by
 intro a s b H D I h;exact wpAny_Return_some (aY (g a s b H _ I h) λv j ⟨x,c,i,d,f⟩=>⟨x,b,c,i,d,f⟩)
def QT:TS:=λD _ H=>D.rt .non H
theorem wx:PS X (.Return none pos) QT:=λ_ _ a H _ I h=>wpAny_Return_none ⟨.non,a,H,I,Y,h⟩
def U4 (c:TT)(t u:TS):TS:=λD a H=>c a H λb d=>if b=true then t D a d else u D a d
theorem bV {c:Expr}{a b:List Stmt}{i:TT}(n:PT X c i)(o:i6 X a t)(p:i6 X b u):PS X (.If c a b pos) (U4 i t u):=by
 intro f s g H D I h;refine wpAny_If (aY (n f s g H _ I h) λd j ⟨m,l,k⟩=>?_)
 cases d with
 |true=>exact o f j g m D l k
 |false=>exact p f j g m D l k
def DE:TS:=λ_ _ _=>False
theorem Gq:PS X st DE:=λ_ _ _ _ _ _ h=>h.elim
theorem j0 {a:List Stmt}:i6 X a DE:=λ_ _ _ _ _ _ h=>h.elim
end
abbrev TG:=V->St->Hp->(St->Hp->Prop)->Prop
abbrev A9:=List V->St->Hp->(St->Hp->Prop)->Prop
def PG (X:Cx)(target:Expr)(t:TG):Prop:=
 ∀(a:List (Addr×Obj)) (s:Shared) (c:St) (H:Hp) (v:V) (u:Value) (Q:St->Hp->Prop),Inv X a c H s->RelV v u->t v c H Q->
  wpAny (model X.prog X.w) X.A (assign target X.env u) (λ_ e=>∃ b d,Inv X a b d e/\Q b d) X.xe s
def II (X:Cx)(h:List Expr)(t:A9):Prop:=
 ∀(a:List (Addr×Obj)) (s:Shared) (e:St) (H:Hp) (d:List V) (c:List Value) (Q:St->Hp->Prop),Inv X a e H s->Vals d c->t d e H Q->
  wpAny (model X.prog X.w) X.A (assignInOrder ((assignEach h X.env).map (·.2)) c) (λ_ g=>∃ b f,Inv X a b f g/\Q b f) X.xe s
abbrev Gr:=V->V->V->Hp->(Hp->Prop)->Prop
def Ms (X:Cx)(t:Gr):Prop:=
 ∀(a:List (Addr×Obj)) (s:Shared) (d:St) (H:Hp) (o i v:V) (c b u:Value) (Q:Hp->Prop),Inv X a d H s->RelV o c->RelV i b->RelV v u->t o i v H Q->
  wpAny (model X.prog X.w) X.A (setItem c b u) (λ_ f=>∃e,Inv X a d e f/\Q e) X.xe s
section
variable {X:Cx}{pos:Pos}
def rQ (i:Nat):TG:=λv a H Q=>Q (a.set i (some v)) H
theorem cC (d:X.N.Nodup)(c:X.N[i]?=some x)(b:Loc X.env.scope x)(f:X.fn x=true\/X.env.scope.names.lookup x=some .local:=by first|exact .inl rfl|exact .inr rfl|assumption):PG X (.Name x pos) (rQ i):=by
 intro a s j H v u Q I r h;exact wpAny_assign_Name (oT I d c b r (λg e=>⟨_,H,e,h⟩) f)
def U6:A9:=λb a H Q=>b=[]/\Q a H
inductive IJ (t:TG) (u:A9) (vs:List V) (σ:St) (H:Hp) (Q:(St->Hp->Prop)):Prop
 |mk (v:V) (r:List V):vs=v::r->(t v σ H λ fU H'=>u r fU H' Q)->IJ t u vs σ H Q
theorem rS:II X [] U6:=by
 intro a s b H d c Q I r h;obtain⟨e,h⟩:=h;subst e;exact assignInOrder_nil ⟨b,H,I,h⟩
theorem gQ {t:TG}{u:A9}(i:PG X e t)(k:II X C u)
 (m:(assignEach (e::C) X.env).map (·.2)=assign e X.env::(assignEach C X.env).map (·.2):=by rfl):II X (e::C) (IJ t u):=by
 intro a s g H o q Q I r h;obtain⟨v,p,c,h⟩:=h;subst c
 cases r with
 |cons r n=>
  rw[m];refine assignInOrder_cons (aY (i a s g H _ _ _ I r h) λ_ d ⟨b,l,j,f⟩=>?_);exact k a d b l _ _ Q j n f
inductive Mt (K:Za1) (n:Nat) (t:A9) (v:V) (σ:St) (H:Hp) (Q:(St->Hp->Prop)):Prop
 |mk (a:Addr) (xs:List V):v=.ref a->bT K H a xs->xs.length=n->t xs σ H Q->Mt K n t v σ H Q
theorem uE {k:Nat}{t:A9}(l:X.calm=true)(h:II X C t)
 (q:(assignEach C X.env).length=n:=by rfl) (f:(assignEach C X.env).findIdx? (·.1)=none:=by rfl):PG X (.Tuple C k pos) (Mt X.K n t):=by
 intro c s g H v u Q I r d;obtain⟨a,j,i,w,p,d⟩:=d;subst i;cases r;obtain⟨m,z,y,E⟩:=I.tuple w;refine assign_Tuple_tuple (I.ok.hd l) y (by simp[q,<-p,z.length]) f λA B=>?_
 have x:Inv X c g H { s with heap:=A }:=I.kept (t':=s.toks) λb o e=>B b o (acz (acg e)) e
 exact h c _ g H j _ Q x (by omega) d
def U9 (to b:TE)(t:Gr):TG:=λv a H Q=>to a H λo c=>b a c λi d=>t o i v d λe=>Q a e
theorem uF {i:Expr}{to:TE}{t:Gr}(z:PE X e to)(j:PE X i r)(p:Ms X t)
 (F:∀v,assign (.Subscript e i pos) X.env v=(do
  let c <-holding [v] (eval e X.env)
  let d <-holding [v,c] (eval i X.env)
  standAt pos
  holding [v,c,d] (setItem c d v)
  release [v,c,d] []):=by intro _;rfl):PG X (.Subscript e i pos) (U9 to r t):=by
 intro b s f H v u Q I a h;refine ab1 (ac1 (aY (z b s f H _ I h) λc l ⟨x,o,n,q,m⟩=>?_));refine ab1 (ac1 (aY (j b l f o _ n m) λd D ⟨y,C,E,w,A⟩=>?_));refine ab1 (aeT (ab1 (ac1 (aY (p b D f C x y v c d u _ E q w a A) λ_ G ⟨k,g,B⟩=>?_))));exact wpAny_release ⟨f,k,g,B⟩
def yD (c:TE)(g:TG):TS:=λD a H=>c a H λx b=>g x a b D.nx
theorem qx {a:Expr}{g:TG}(p:PE X a r)(k:PG X e g)(n:swapsWithSole [e] a pos.line X.env=pure false:=by rfl)(d:swappedStores [e] a X.env=pure none:=by rfl)
 (j:(assignEach [e] X.env).map (·.2)=[assign e X.env]:=by rfl):PS X (.Assign [e] a pos) (yD r g):=by
 intro b s c H D I h;refine wpAny_Assign_stores (aY (p b s c H _ I h) λv f ⟨x,m,l,o,i⟩=>?_) n d;rw[j];exact aY (k b f c m x v _ l o i) λ_ t q=>q
theorem a9 {pos':Pos}(n:X.N.Nodup)(b:X.N[i]?=some x)(o:Loc X.env.scope x)(m:PE X e r)(k:swapsWith e (some (.Name x pos')) pos.line X.env=pure false:=by rfl)(g:X.fn x=true\/X.env.scope.names.lookup x=some .local:=by first|exact .inl rfl|exact .inr rfl|assumption):
 PS X (.Assign [.Name x pos'] e pos) (yD r (rQ i)):=by
 intro a s d H D I h;refine wpAny_Assign_Name (aY (m a s d H _ I h) λv q ⟨y,j,f,l,c⟩=>?_) k;exact oT f n b o l (λt p=>⟨_,j,p,c⟩) g
inductive Wi (f:Int->Int->Int) (x:V) (y:V) (H:Hp) (Q:VK):Prop
 |mk (i j:Int):x=.int i->y=.int j->Q (.int (f i j)) H->Wi f x y H Q
end
section
variable {X:Cx}{pos:Pos}
def Mu (c:TT)(h:TS):TS:=λD a H=>∃W:Nat->St->Hp->Prop,(∃m,W m a H)/\∀m a H,W m a H->
 c a H λb e=>if b=true then ∃N:St->Hp->Prop,(∀ d g,N d g->∃f,f<m/\W f d g)/\h { D with nx:=N,ct:=N,bk:=D.nx } a e else D.nx a e
theorem fY {body:List Stmt}{r:TT}{t:TS}(w:PassesOwn (model X.prog X.w) X.A X.env X.xe)(C:PT X e r)(F:i6 X body t):PS X (.While e body [] pos) (Mu r t):=by
 intro a s G H D I h;obtain⟨W,⟨O,L⟩,turn⟩:=h;refine wpAny_While (codeAny_whileLoop (λn M=>∃ i x,Inv X a i x M/\W n i x) ?_ O ⟨G,H,I,L⟩);rintro n E ⟨d,u,J,B⟩;refine aej w (aY (C a E d u _ J (turn n d u B)) λb P ⟨z,A,j⟩=>?_)
 cases b with
 |true=>
  obtain⟨N,y,j⟩:=j;refine aej w (aY (F a P d z _ A j) λf Q k=>?_)
  cases f with
  |next=>
   obtain⟨c,g,l,p⟩:=k;obtain⟨m,o,q⟩:=y c g p;exact⟨m,o,c,g,l,q⟩
  |cont=>
   obtain⟨c,g,l,p⟩:=k;obtain⟨m,o,q⟩:=y c g p;exact⟨m,o,c,g,l,q⟩
  |brk=>exact k
  |ret v=>exact k
 |false=>
  exact aei ⟨d,z,A,j⟩
end
structure It where
 go:Nat->Hp->Prop
 lb:Nat->Hp->V->Hp->Prop
 stop:Nat->Hp->Prop
def oW (X:Cx)(a:List (Addr×Obj))(H:Hp)(b:Addr):Prop:=
 H b=none/\b≠X.env.locals/\b∉X.fs/\(b∈X.ex\/X.dR.heap.objs.size<=b)/\(∀x c,X.env.cells.lookup x=some c->c≠b)/\∀p∈X.pn++a,p.1≠b
theorem Inv.oX (a:Inv X o D H s)(d:s.heap.objs.size<=b)(f:I b=none):oW X o I b:=by
 refine⟨f,ade (acw a.lt d),a.Cq d,.inr (acr a.sz d),λx c e z=>?_,λp g z=>?_⟩
 ·obtain⟨v,q⟩:=a.cell x c e;exact absurd (acw q.lt (by rw[z];exact d)) (adg _)
 ·exact absurd (acw (acg (a.pin p g).1) (by rw[z];exact d)) (adg _)
structure Turn (P:Program) (w:World) (K:Za1) (tg:Expr) (J:It) (fp:List Addr) (it:Addr) (tn:Nat->Heap->Prop):Prop where
 mem:it∈fp
 obj:∀i h,tn i h->∀b∈fp,∃o,h.get? b=some o/\∀v,o.data≠.cell v
 keep:∀i h h',tn i h->(∀b∈fp,∀o,h.get? b=some o->h'.get? b=some o)->tn i h'
 item:∀(X:Cx),X.prog=P->X.w=w->X.K=K->X.calm=true->∀(i:Nat) (pins:List (Addr×Obj)) (s:Shared) (σ:St) (H:Hp) (E:Value->Shared->Prop),Inv X pins σ H s->(∀b∈fp,oW X pins H b)->tn i s.heap->J.go i H->
  wpAny (model P w) X.A (pyNext (.ref it)) (λr s1=>∃u,r=some u/\
   wpAny (model P w) X.A (letOwnedTupleGo tg (.ref it) u) (λ_ s2=>∃x H',Inv X pins σ H' s2/\RelV x u/\J.lb i H x H'/\tn (i+ 1) s2.heap/\∀b∈fp,H' b=none) E s1) E s
 done:∀(X:Cx),X.prog=P->X.w=w->X.K=K->X.calm=true->∀(i:Nat) (pins:List (Addr×Obj)) (s:Shared) (σ:St) (H:Hp) (E:Value->Shared->Prop),Inv X pins σ H s->(∀b∈fp,oW X pins H b)->tn i s.heap->J.stop i H->
  wpAny (model P w) X.A (pyNext (.ref it)) (λr s1=>r=none/\Inv X pins σ H s1) E s
 self:∀(A:Around) (i:Nat) (s:Shared) (Q:Value->Shared->Prop) (E:Value->Shared->Prop),tn i s.heap->Q (.ref it) s->wpAny (model P w) A (pyIter (.ref it)) Q E s
abbrev TI:=St->Hp->(It->Hp->Prop)->Prop
def Sw (X:Cx)(a:List (Addr×Obj))(h:St)(g:Expr)(R:It->Hp->Prop)(c:Value)(s2:Shared):Prop:=
 ∃(it:Addr) (e:List Addr) (f:Nat->Heap->Prop) (J:It) (d:Hp),c=.ref it/\Inv X a h d s2/\Turn X.prog X.w X.K g J e it f/\f 0 s2.heap/\(∀b∈e,oW X a d b)/\R J d
def PI (X:Cx)(d iter:Expr)(e:TI):Prop:=
 ∀(a:List (Addr×Obj)) (s:Shared) (b:St) (H:Hp) (R:It->Hp->Prop),Inv X a b H s->e b H R->
  wpAny (model X.prog X.w) X.A (eval iter X.env) (λv c=>wpAny (model X.prog X.w) X.A (pyIter v) (Sw X a b d R) X.xe c) X.xe s
theorem yr {M:Model}{it:Addr}{o:Obj}{n:String}{b:Array Value}(c:s.heap.get? it=some o)(f:o.cls=.type n)(d:o.data=.fields b)
 (g:["enumerate","zip","dict_itemiterator","dict_reverseitemiterator","odict_iterator","itertools.zip_longest","itertools.pairwise"].contains n=false) (a:U () s):wpAny M A (letOwnedTupleGo e (.ref it) u) U E s:=by
 cases e <;> first
  |exact ab7 a
  |(cases u <;> first
   |exact ab7 a
   |(refine ab1 (wpAny_load c ?_)
     rw[f,d];show wpAny M A (if (["enumerate","zip","dict_itemiterator","dict_reverseitemiterator","odict_iterator","itertools.zip_longest","itertools.pairwise"].contains n && b[0]?==some (rawInt _))=true then _ else _) U E s;rw[acm (by grind)];exact ab7 a))
def xc (K:Za1)(a:Addr):It:=
 ⟨λi H=>∃xs x,aI K H a xs/\xs[i]?=some x,λi H x b=>b=H/\∀xs,aI K H a xs->xs[i]?=some x,λi H=>∃xs,aI K H a xs/\xs.length<=i⟩
def xg (K:Za1)(a:Addr):It:=
 ⟨λi H=>∃xs x,bT K H a xs/\xs[i]?=some x,λi H x b=>b=H/\∀xs,bT K H a xs->xs[i]?=some x,λi H=>∃xs,bT K H a xs/\xs.length<=i⟩
def yE (lo:Int)(n:Nat):It:=⟨λi _=>i<n,λi H x a=>a=H/\x=.int (lo+ i),λi _=>n<=i⟩
theorem DF (a it:Addr):Turn P w K e (xc K a) [it] it (λi h=>h.IsListIter it a i) where
 mem:=by simp
 obj:=λi h st b j=>by
  have f:b=it:=by simpa using j
  subst f;obtain⟨o,f,c,d⟩:=st
  grind
 keep:=λi h q st k=>st.at λo f=>k it (by simp) o f
 item:=by
  intro X F t r L i g s M H E I n st A;subst F t r;obtain⟨O,x,m,J⟩:=A;obtain⟨v,G,p,V⟩:=I.list m;obtain⟨u,N,Z⟩:=G.get J;obtain⟨D,B,R,C,z,y⟩:=n it (by simp);refine wpAny_pyNext_list_item st p.isList (x:=u) (by simpa using N) λq l U=>?_
  have T:Inv X g M H { s with heap:=q }:=I.turned (t':=s.toks) (λb o j f=>(U.2 b j).trans f) D B C z y;obtain⟨o,f,c,d⟩:=id l;exact⟨u,Y,yr (s:={ s with heap:=q }) f c d (by decide) ⟨x,H,T,Z,⟨Y,λys W=>by rw[I.tW W m];exact J⟩,l,λb j=>(n b j).1⟩⟩
 done:=by
  intro X F t r L i g s M H E I n st A;subst F t r;obtain⟨O,m,J⟩:=A;obtain⟨v,G,p,V⟩:=I.list m;obtain⟨D,B,R,C,z,y⟩:=n it (by simp);have hl:=G.length;exact wpAny_pyNext_list_end (I.ok.hd L) st p.isList (by simp;omega) λq S=>⟨Y,I.turned (t':=s.toks) (λb o j f=>S b o j f) D B C z y⟩
 self:=λ_ _ _ _ _ st h=>wpAny_pyIter_listiter st h
theorem Ct (a it:Addr):Turn P w K e (xg K a) [it] it (λi h=>h.IsTupleIter it a i) where
 mem:=by simp
 obj:=λi h st b l=>by
  have f:b=it:=by simpa using l
  subst f;obtain⟨o,f,c,d⟩:=st
  grind
 keep:=λi h r st k=>st.at λo f=>k it (by simp) o f
 item:=by
  intro X F v t L i g s M H E I q st A;subst F v t;obtain⟨O,x,n,J⟩:=A;obtain⟨j,G,p,V⟩:=I.tuple n;obtain⟨u,N,Z⟩:=G.get J;obtain⟨D,B,R,C,z,y⟩:=q it (by simp);refine wpAny_pyNext_tuple_item st (show s.heap.IsTuple a j.toArray from p) (x:=u) (by simpa using N) λr m U=>?_
  have T:Inv X g M H { s with heap:=r }:=I.turned (t':=s.toks) (λb o l f=>(U.2 b l).trans f) D B C z y;obtain⟨o,f,c,d⟩:=id m;exact⟨u,Y,yr (s:={ s with heap:=r }) f c d (by decide) ⟨x,H,T,Z,⟨Y,λys W=>by rw[I.DC W n];exact J⟩,m,λb l=>(q b l).1⟩⟩
 done:=by
  intro X F v t L i g s M H E I q st A;subst F v t;obtain⟨O,n,J⟩:=A;obtain⟨j,G,p,V⟩:=I.tuple n;obtain⟨D,B,R,C,z,y⟩:=q it (by simp);have hl:=G.length;exact wpAny_pyNext_tuple_end (I.ok.hd L) st (show s.heap.IsTuple a j.toArray from p) (by simp;omega) λr S=>⟨Y,I.turned (t':=s.toks) (λb o l f=>S b o l f) D B C z y⟩
 self:=λ_ _ _ _ _ st h=>wpAny_pyIter_tupleiter st h
theorem Cu (it:Addr)(lo:Int)(n:Nat):Turn P w K e (yE lo n) [it] it (λi h=>IsRangeIter h it (lo+ (i:Nat)* 1) ((n:Int) - (i:Nat)) 1) where
 mem:=by simp
 obj:=λi h st b d=>by
  grind
 keep:=λi h j st k=>k it (by simp) _ st
 item:=by
  intro X C z y l i c s A H E I g st q;subst C z y;obtain⟨x,r,F,u,p,m⟩:=g it (by simp);have W:=Walks.range (prog:=X.prog) (w:=X.w) (I.ok.hd l) it lo 1 n;refine W.item i s _ _ q st λv j B J f M=>?_
  obtain⟨t,rfl⟩:=J;have L:Inv X c A H { s with heap:=j,toks:=B }:=I.turned (λb o d a=>M b o (by grind) a) x r u p m;refine⟨_,Y,yr (s:={ s with heap:=j,toks:=B }) (n:="range_iterator") f Y Y (by decide) ⟨.int (lo+ i),H,L,⟨t,?_⟩,⟨Y,Y⟩,f,λb d=>(g b d).1⟩⟩
  grind
 done:=by
  intro X C z y l i c s A H E I g st q;obtain⟨x,r,F,u,p,m⟩:=g it (by simp);exact wpAny_pyNext_range_end (I.ok.hd l) st (by have:n<=i:=q;omega) λj G=>⟨Y,I.turned (t':=s.toks) (λb o d a=>G b o d a) x r u p m⟩
 self:=λ_ _ _ _ _ st h=>wpAny_pyIter_rangeiter st h
section
variable {X:Cx}{tg:Expr}
def QV (K:Za1)(tl:TE):TI:=λ d H R=>tl d H λx b=>∃a,x=.ref a/\(∃c,aI K b a c)/\R (xc K a) b
def Va (K:Za1)(tl:TE):TI:=λ d H R=>tl d H λx b=>∃a,x=.ref a/\(∃c,bT K b a c)/\R (xg K a) b
theorem du {tl:TE}(i:PE X e tl):PI X tg e (QV X.K tl):=by
 intro d s m H R I h;refine aY (i d s m H _ I h) λv s1 ⟨x,n,f,r,j⟩=>?_
 obtain⟨a,c,⟨t,l⟩,q⟩:=j;subst c;cases r;obtain⟨g,y,p,w⟩:=f.list l;refine aek p.isList ?_;refine⟨s1.heap.objs.size,[s1.heap.objs.size],_,_,n,Y,f.kept (t':=s1.toks) λb o c=>ab2 _ c,DF a _,⟨_,acf _ Y,Y,Y⟩,λb k=>?_,q⟩;have c:b=s1.heap.objs.size:=by simpa using k
 subst c;exact f.oX (aca _) (f.aL.fresh (aca _))
theorem DG {tl:TE}(i:PE X e tl):PI X tg e (Va X.K tl):=by
 intro d s m H R I h;refine aY (i d s m H _ I h) λv s1 ⟨x,n,f,r,j⟩=>?_
 obtain⟨a,c,⟨t,l⟩,q⟩:=j;subst c;cases r;obtain⟨g,y,p,w⟩:=f.tuple l;refine wpAny_pyIter_tuple (show s1.heap.IsTuple a g.toArray from p) ?_;refine⟨s1.heap.objs.size,[s1.heap.objs.size],_,_,n,Y,f.kept (t':=s1.toks) λb o c=>ab2 _ c,Ct a _,⟨_,acf _ Y,Y,Y⟩,λb k=>?_,q⟩;have c:b=s1.heap.objs.size:=by simpa using k
 subst c;exact f.oX (aca _) (f.aL.fresh (aca _))
theorem yF {R:It->Hp->Prop}{lo:Int}{t u v:Tok}(I:Inv X o D H s)(g: -(2 ^ 62)<=lo)(h:lo<2 ^ 62)(i: -(2 ^ 62)<=z)(j:z<2 ^ 62)
 (q:R (yE lo (z - lo).toNat) H):wpAny (model X.prog X.w) X.A (pyIter (.ref s.heap.objs.size)) (Sw X o D tg R) E { s with heap:=s.heap.push { cls:=.type "range",data:=.fields #[.int lo t,.int z u,.int 1 v] },toks:=n }:=by
 refine wpAny_pyIter_range (IsRange.new ..) (small_one g h i j) ?_;have c:Inv X o D H { s with heap:=s.heap.push { cls:=.type "range",data:=.fields #[.int lo t,.int z u,.int 1 v] },toks:=n }:=I.kept λb a e=>ab2 _ e
 refine⟨(s.heap.push { cls:=.type "range",data:=.fields #[.int lo t,.int z u,.int 1 v] }).objs.size,[(s.heap.push { cls:=.type "range",data:=.fields #[.int lo t,.int z u,.int 1 v] }).objs.size],_,_,H,Y,
  c.kept (t':=n) λb a e=>ab2 _ e,Cu _ lo (z - lo).toNat,?_,λb f=>?_,q⟩
 ·have d:lo+ ((0:Nat):Int)* 1=lo:=by simp
  have k:(((z - lo).toNat:Nat):Int) - ((0:Nat):Int)=Builtin.Range.rangeSize lo z 1:=by rw[rangeSize_one];split <;> omega
  rw[d,k];exact acf _ rfl
 ·have e:b=(s.heap.push { cls:=.type "range",data:=.fields #[.int lo t,.int z u,.int 1 v] }).objs.size:=by simpa using f
  subst e;exact c.oX (aca _) (c.aL.fresh (aca _))
def QW (d:TA):TI:=λ c H R=>d c H λb a=>∃j:Int,b=[.int j]/\-(2 ^ 62)<=j/\j<2 ^ 62/\R (yE 0 j.toNat) a
def QX (d:TA):TI:=λ c H R=>d c H λb a=>∃i j:Int,b=[.int i,.int j]/\(-(2 ^ 62)<=i/\i<2 ^ 62/\-(2 ^ 62)<=j/\j<2 ^ 62)/\R (yE i (j - i).toNat) a
theorem DH {f:TA}{a:Pos}(l:Gl X "range")(i:X.mg "range"=none)(g:PA X [e] f)(n:starEach [e] X.env=[(false,eval e X.env)]:=by rfl):PI X tg (.Call (.Name "range" p) [e] [] a) (QW f):=by
 intro c s k H R I h;refine Call_ (iw I l i boot_range (adk (aY (g a c s k H _ I h) λz x ⟨w,y,m,o,d⟩=>?_) n Y));obtain⟨j,b,d,v,q⟩:=d;subst b
 cases o with
 |cons r u=>
  cases u;obtain⟨t,rfl⟩:=r;exact call_range_1 (yF m (by omega) (by omega) d v (by simpa using q))
theorem DJ {b:Expr}{l:TA}{d:Pos}(u:Gl X "range")(n:X.mg "range"=none)(m:PA X [e,b] l)(x:starEach [e,b] X.env=[(false,eval e X.env),(false,eval b X.env)]:=by rfl)(a:starEach [b] X.env=[(false,eval b X.env)]:=by rfl):
 PI X tg (.Call (.Name "range" p) [e,b] [] d) (QX l):=by
 intro f s o H R I h;refine Call_ (iw I u n boot_range (adk (aY (m d f s o H _ I h) λG E ⟨C,F,v,y,g⟩=>?_) (by rw[x,a]) (by rw[a];rfl)));obtain⟨i,j,c,⟨g,A,B,z⟩,q⟩:=g;subst c
 cases y with
 |cons r k=>
  cases k with
  |cons w k=>
   cases k;obtain⟨t,rfl⟩:=r;obtain⟨D,rfl⟩:=w;exact call_range_2 (yF v g A B z q)
def Vb (k:TI)(g:TG)(h:TS):TS:=λD a H=>k a H λJ f=>∃W:Nat->Nat->St->Hp->Prop,(∃m,W 0 m a f)/\∀i m a H,W i m a H->
 (J.stop i H/\D.nx a H)\/(J.go i H/\∃N:St->Hp->Prop,(∀ b c,N b c->∃e,e<m/\W (i+ 1) e b c)/\∀x c,J.lb i H x c->g x a c λ d j=>h { D with nx:=N,ct:=N,bk:=D.nx } d j)
def uG (a:List Addr)(h:Heap):List (Addr×Obj):=a.filterMap λb=>(h.get? b).map λo=>(b,o)
theorem hH {o:Obj}(a:b∈F)(e:h.get? b=some o):(b,o)∈uG F h:=afb.mpr ⟨b,a,by rw[e];rfl⟩
theorem DK {p:Addr×Obj}(a:p∈uG F h):p.1∈F/\h.get? p.1=some p.2:=by
 obtain⟨b,c,e⟩:=afb.mp a
 cases q:h.get? b with
 |none=>rw[q]at e;cases e
 |some o=>
  grind
theorem Inv.pinned (I:Inv X o D H s)(f:∀b∈F,oW X o H b)(h:∀b∈F,∃a,s.heap.get? b=some a/\∀v,a.data≠.cell v):Inv X (o++uG F s.heap) D H s:=
 I.i5 λp d=>(ach.mp d).elim (λz=>I.pin p (ab8 _ z)) λz=>by
  obtain⟨c,e⟩:=DK z;obtain⟨g,f1,i,_⟩:=f p.1 c
  grind
theorem Inv.tY {pl:List (Addr×Obj)}(I:Inv X (o++pl) D H s):Inv X o D H s:=I.i5 λp a=>I.pin p (ab8 _ (acu _ a))
theorem eB {iter:Expr}{body:List Stmt}{wi:TI}{g:TG}{tb:TS}(F:PassesOwn (model X.prog X.w) X.A X.env X.xe)(S:X.calm=true)(hi:PI X tg iter wi)(hg:PG X tg g)(l:i6 X body tb)
 (hs:∀x,foldedSetIterable iter X.env x=pure x:=by intro _;rfl):PS X (.For tg iter body [] p) (Vb wi g tb):=by
 intro a s Z H D I h;refine wpAny_For (aY (hi a s Z H _ I h) λv s1 h1=>aY h1 λWj s2 h2=>?_) hs;obtain⟨it,C,tn,J,H2,e,I2,T,R,f2,W,⟨m0,w0⟩,turn⟩:=h2;subst e
 have stat:∀{w:Hp},(∀b∈C,w b=none)->∀b∈C,oW X a w b:=λhn b l=>⟨hn b l,(f2 b l).2⟩
 refine codeAny_forLoop_any (λn V=>∃i k w,Inv X a k w V/\tn i V.heap/\(∀b∈C,w b=none)/\W i n k w) ?_ m0 ⟨0,Z,H2,I2,R,λb l=>(f2 b l).1,w0⟩;rintro n s3 ⟨i,q,G,I3,E,B,w3⟩;rcases turn i n q G w3 with ⟨stop,qn⟩|⟨go,N,hN,step⟩
 ·refine aej F (aY (T.done X Y Y Y S i a s3 q G X.xe I3 (stat B) E stop) λr s4 ⟨L,I4⟩=>?_);subst L;exact aei ⟨q,G,I4,qn⟩
 ·refine aej F (aY (T.item X Y Y Y S i a s3 q G X.xe I3 (stat B) E go) λr s4 ⟨u,L,h4⟩=>?_);subst L;refine aej F (aY h4 λ_ s5 ⟨x,U,I5,r5,y5,z,Q⟩=>?_);have O:=I5.pinned (stat Q) (T.obj _ _ z);refine aej F (aY (hg _ s5 q U x u _ O r5 (step x U y5)) λ_ s6 ⟨P,H6,I6,q6⟩=>?_);refine aej F (aY (l _ s6 P H6 _ I6 q6) λf M y=>?_)
  have again:∀{c:St} {t:Hp},Inv X (a++uG C s5.heap) c t M->N c t->∃m,m<n/\∃i k w,Inv X a k w M/\tn i M.heap/\(∀b∈C,w b=none)/\W i m k w:=λ{c t} j A=>by
   obtain⟨m',hm,w7⟩:=hN c t A;refine⟨m',hm,i+ 1,c,t,j.tY,T.keep _ _ _ z λb l o e=>(j.pin (b,o) (ab8 _ (ab8 _ (hH l e)))).1,λb l=>?_,w7⟩;obtain⟨o,e,d⟩:=T.obj _ _ z b l;exact(j.pin (b,o) (ab8 _ (ab8 _ (hH l e)))).2.1
  cases f with
  |next=>obtain⟨c,t,j,A⟩:=y;exact again j A
  |cont=>obtain⟨c,t,j,A⟩:=y;exact again j A
  |brk=>obtain⟨c,t,j,y⟩:=y;exact⟨c,t,j.tY,y⟩
  |ret v=>obtain⟨x7,c,t,j,r7,y⟩:=y;exact⟨x7,c,t,j.tY,r7,y⟩
end
theorem fZ {xs:List V}{g:TG}{k:TS}(b:Nat->St->Hp->Prop)(s:b 0 D H)(t:∀i D H,i<=xs.length->b i D H->aI K H a xs)
 (v:∀i x D H,xs[i]?=some x->b i D H->g x D H λ c j=>k { G with nx:=b (i+ 1),ct:=b (i+ 1),bk:=G.nx } c j) (u:∀ D H,b xs.length D H->G.nx D H):
 ∃W:Nat->Nat->St->Hp->Prop,(∃m,W 0 m D H)/\∀i m D H,W i m D H->
  ((xc K a).stop i H/\G.nx D H)\/((xc K a).go i H/\∃N:St->Hp->Prop,(∀ d f,N d f->∃l,l<m/\W (i+ 1) l d f)/\∀x f,(xc K a).lb i H x f->g x D f λ c j=>k { G with nx:=N,ct:=N,bk:=G.nx } c j):=by
 refine⟨λi m D H=>m=xs.length - i/\i<=xs.length/\b i D H,⟨xs.length,by simp,acF _,s⟩,?_⟩;rintro i m D H ⟨rfl,n,p⟩;have q:=t i D H n p;by_cases h:i<xs.length
 ·refine .inr ⟨⟨xs,xs[i],q,by simp[h]⟩,b (i+ 1),λ d f o=>⟨xs.length - (i+ 1),by omega,Y,h,o⟩,λx f y=>?_⟩;obtain⟨e,y⟩:=y;subst e;exact v i x D _ (y xs q) p
 ·have e:i=xs.length:=by omega
  subst e;exact .inl ⟨⟨xs,q,aca _⟩,u D H p⟩
theorem Kt {xs:List V}{g:TG}{k:TS}(b:Nat->St->Hp->Prop)(s:b 0 D H)(t:∀i D H,i<=xs.length->b i D H->bT K H a xs)
 (v:∀i x D H,xs[i]?=some x->b i D H->g x D H λ c j=>k { G with nx:=b (i+ 1),ct:=b (i+ 1),bk:=G.nx } c j) (u:∀ D H,b xs.length D H->G.nx D H):
 ∃W:Nat->Nat->St->Hp->Prop,(∃m,W 0 m D H)/\∀i m D H,W i m D H->
  ((xg K a).stop i H/\G.nx D H)\/((xg K a).go i H/\∃N:St->Hp->Prop,(∀ d f,N d f->∃l,l<m/\W (i+ 1) l d f)/\∀x f,(xg K a).lb i H x f->g x D f λ c j=>k { G with nx:=N,ct:=N,bk:=G.nx } c j):=by
 refine⟨λi m D H=>m=xs.length - i/\i<=xs.length/\b i D H,⟨xs.length,by simp,acF _,s⟩,?_⟩;rintro i m D H ⟨rfl,n,p⟩;have q:=t i D H n p;by_cases h:i<xs.length
 ·refine .inr ⟨⟨xs,xs[i],q,by simp[h]⟩,b (i+ 1),λ d f o=>⟨xs.length - (i+ 1),by omega,Y,h,o⟩,λx f y=>?_⟩;obtain⟨e,y⟩:=y;subst e;exact v i x D _ (y xs q) p
 ·have e:i=xs.length:=by omega
  subst e;exact .inl ⟨⟨xs,q,aca _⟩,u D H p⟩
theorem DL {lo:Int}{g:TG}{j:TS}(c:Nat->St->Hp->Prop)(q:c 0 D H)
 (s:∀i D H,i<n->c i D H->g (.int (lo+ i)) D H λ b h=>j { G with nx:=c (i+ 1),ct:=c (i+ 1),bk:=G.nx } b h) (r:∀ D H,c n D H->G.nx D H):
 ∃W:Nat->Nat->St->Hp->Prop,(∃m,W 0 m D H)/\∀i m D H,W i m D H->
  ((yE lo n).stop i H/\G.nx D H)\/((yE lo n).go i H/\∃N:St->Hp->Prop,(∀ d f,N d f->∃k,k<m/\W (i+ 1) k d f)/\∀x f,(yE lo n).lb i H x f->g x D f λ b h=>j { G with nx:=N,ct:=N,bk:=G.nx } b h):=by
 refine⟨λi m D H=>m=n - i/\i<=n/\c i D H,⟨n,by simp,acF _,q⟩,?_⟩;rintro i m D H ⟨rfl,t,p⟩;by_cases a:i<n
 ·refine .inr ⟨a,c (i+ 1),λ d f l=>⟨n - (i+ 1),by omega,Y,a,l⟩,λx f y=>?_⟩;obtain⟨e,y⟩:=y;subst e y;exact s i D _ a p
 ·have e:i=n:=by omega
  subst e;exact .inl ⟨aca _,r D H p⟩
abbrev R2:=V->V->Hp->VK->Prop
def gR (X:Cx)(f:Value->Value->Sem Value)(r:R2):Prop:=
 ∀(a:List (Addr×Obj)) (s:Shared) (b:St) (H:Hp) (x y:V) (v u:Value) (Q:VK),Inv X a b H s->RelV x v->RelV y u->r x y H Q->
  wpAny (model X.prog X.w) X.A (f v u) (EP X a b Q) X.xe s
def Mv (X:Cx)(f:Value->Sem Value)(r:V->Hp->VK->Prop):Prop:=
 ∀(a:List (Addr×Obj)) (s:Shared) (b:St) (H:Hp) (x:V) (v:Value) (Q:VK),Inv X a b H s->RelV x v->r x H Q->
  wpAny (model X.prog X.w) X.A (f v) (EP X a b Q) X.xe s
def jn (X:Cx)(f:Value)(r:List V->Hp->VK->Prop):Prop:=
 ∀(a:List (Addr×Obj)) (s:Shared) (d:St) (H:Hp) (c:List V) (b:List Value) (Q:VK),Inv X a d H s->Vals c b->r c H Q->
  wpAny (model X.prog X.w) X.A (call f b) (EP X a d Q) X.xe s
def Vc (X:Cx)(r:V->Hp->(Bool->Hp->Prop)->Prop):Prop:=
 ∀(a:List (Addr×Obj)) (s:Shared) (b:St) (H:Hp) (x:V) (v:Value) (Q:Bool->Hp->Prop),Inv X a b H s->RelV x v->r x H Q->
  wpAny (model X.prog X.w) X.A (truthy v) (TP X a b Q) X.xe s
def IK (r:R2)(e c:TE):TE:=λ a H Q=>e a H λx b=>c a b λy d=>r x y d Q
def Wk (r:V->Hp->VK->Prop)(c:TE):TE:=λ b H Q=>c b H λx a=>r x a Q
inductive rI (C:Int->Int->Prop) (g:Int->Int->V) (x:V) (y:V) (H:Hp) (Q:VK):Prop
 |mk (i j:Int):x=.int i->y=.int j->C i j->Q (g i j) H->rI C g x y H Q
inductive xh (g:Int->Int->V) (x:V) (y:V) (H:Hp) (Q:VK):Prop
 |mk (i j:Int):x=.int i->y=.int j->Q (g i j) H->xh g x y H Q
inductive rU (g:Int->V) (x:V) (H:Hp) (Q:VK):Prop
 |mk (i:Int):x=.int i->Q (g i) H->rU g x H Q
section
variable {X:Cx}{a b:Expr}{ta tb:TE}{pos:Pos}
theorem Gs (m:PE X a ta)(p:PE X b tb){d:List (Addr×Obj)}{s:Shared}{e:St}{H:Hp}{R:V->V->Hp->Prop}(I:Inv X d e H s)
 (h:ta e H λx l=>tb e l λy g=>R x y g) {Q:Value->Shared->Prop} {f:Value->Value->Sem Value}
 (r:∀v u k x y g,Inv X d e g k->RelV x v->RelV y u->R x y g->wpAny (model X.prog X.w) X.A (f v u) Q X.xe k):
 wpAny (model X.prog X.w) X.A (eval a X.env) (λv i=>wpAny (model X.prog X.w) X.A (eval b X.env) (λu j=>wpAny (model X.prog X.w) X.A (f v u) Q X.xe j) X.xe i) X.xe s:=by
 refine aY (m d s e H _ I h) λv n ⟨x,l,q,t,o⟩=>?_
 refine aY (p d n e l _ q o) λu k ⟨y,g,A,w,z⟩=>?_
 exact r v u k x y g A t w z
theorem bP {e:Operator}{r:R2}(l:gR X (binaryOp e) r)(f:PE X a ta)(i:PE X b tb):PE X (.BinOp a e b pos) (IK r ta tb):=by
 intro d s j H Q I h;exact wpAny_BinOp (Gs f i I h λv u n x y m o g k q=>l d n j m x y v u Q o g k q)
theorem gI {e:UnaryOp}{r:V->Hp->VK->Prop}(g:Mv X (unaryOp e) r)(n:PE X a ta):PE X (.UnaryOp e a pos) (Wk r ta):=by
 intro d s f H Q I h;exact UnaryOp_ (aY (n d s f H _ I h) λv i ⟨x,j,k,l,m⟩=>g d i f j x v Q k l m)
theorem Mw {f:Value->Value->Sem Value}{C:Int->Int->Prop}{g:Int->Int->Int}
 (rule:∀(i j:Int) (t u:Tok) (s:Shared) (Q:Value->Shared->Prop) (E:Value->Shared->Prop),C i j->Q (.int (g i j) s.toks) { s with toks:=s.toks+ 1 }->wpAny (model X.prog X.w) X.A (f (.int i t) (.int j u)) Q E s):
 gR X f (rI C λi j=>.int (g i j)):=by
 intro d s n H x y v u Q I l m h;obtain⟨i,j,rfl,rfl,e,q⟩:=h;obtain⟨t,rfl⟩:=l;obtain⟨k,rfl⟩:=m;exact rule i j t k s _ _ e ⟨.int (g i j),H,I.tok _,⟨_,Y⟩,q⟩
theorem Mx {f:Value->Value->Sem Value}{g:Int->Int->Int}
 (rule:∀(i j:Int) (t u:Tok) (s:Shared) (Q:Value->Shared->Prop) (E:Value->Shared->Prop),Q (.int (g i j) s.toks) { s with toks:=s.toks+ 1 }->wpAny (model X.prog X.w) X.A (f (.int i t) (.int j u)) Q E s):
 gR X f (xh λi j=>.int (g i j)):=by
 intro d s m H x y v u Q I k l h;obtain⟨i,j,rfl,rfl,q⟩:=h;obtain⟨t,rfl⟩:=k;obtain⟨e,rfl⟩:=l;exact rule i j t e s _ _ ⟨.int (g i j),H,I.tok _,⟨_,Y⟩,q⟩
theorem Gu {f:Value->Value->Sem Value}{g:Int->Int->Bool}
 (rule:∀(i j:Int) (t u:Tok) (s:Shared) (Q:Value->Shared->Prop) (E:Value->Shared->Prop),Q (.bool (g i j)) s->wpAny (model X.prog X.w) X.A (f (.int i t) (.int j u)) Q E s):
 gR X f (xh λi j=>.bl (g i j)):=by
 intro d s m H x y v u Q I k l h;obtain⟨i,j,rfl,rfl,q⟩:=h;obtain⟨t,rfl⟩:=k;obtain⟨e,rfl⟩:=l;exact rule i j t e s _ _ ⟨.bl (g i j),H,I,Y,q⟩
def Vd (i j:Int):Prop:=0<j/\j<1073741824
def Gv (i j:Int):Prop:=(-(2 ^ 64)<i/\i<2 ^ 64)\/(-(2 ^ 64)<j/\j<2 ^ 64)
theorem Gv.ok (h:Gv z y):IntMulOk z y:=by
 rcases h with ⟨e,d⟩|⟨e,d⟩
 ·exact .of_left (intBits_le_64 e d)
 ·exact .of_right (intBits_le_64 e d)
theorem iz:gR X (binaryOp .Add) (xh λi j=>.int (i+ j)):=Mx λ_ _ _ _ _ _ _ q=>add_int q
theorem j1:gR X (binaryOp .Sub) (xh λi j=>.int (i - j)):=Mx λ_ _ _ _ _ _ _ q=>sub_int q
theorem DM:gR X (binaryOp .Mult) (rI Gv λi j=>.int (i* j)):=Mw λ_ _ _ _ _ _ _ d q=>mul_int q d.ok
theorem nu:gR X (binaryOp .FloorDiv) (rI Vd λi j=>.int (i / j)):=Mw λi j _ _ _ _ _ d q=>by
 have f:(0:Int)<j:=d.1;have e:j<1073741824:=d.2;exact floordiv_int (by omega) (by rw[Int.fdiv_eq_ediv_of_nonneg i (by omega)];exact q) (.inl (PyProof.noPylong_small (by omega)))
theorem fG:gR X (binaryOp .Mod) (rI (λ_ j=>0<j) λi j=>.int (i % j)):=Mw λi j _ _ _ _ _ d q=>by
 exact mod_int' (by omega) (by rw[Int.fmod_eq_emod_of_nonneg i (by omega)];exact q)
theorem Wm {f:Value->Sem Value}{g:Int->Int}
 (rule:∀(i:Int) (t:Tok) (s:Shared) (Q:Value->Shared->Prop) (E:Value->Shared->Prop),Q (.int (g i) s.toks) { s with toks:=s.toks+ 1 }->wpAny (model X.prog X.w) X.A (f (.int i t)) Q E s):
 Mv X f (rU λi=>.int (g i)):=by
 intro d s j H x v Q I e h;obtain⟨i,rfl,q⟩:=h;obtain⟨t,rfl⟩:=e;exact rule i t s _ _ ⟨.int (g i),H,I.tok _,⟨_,Y⟩,q⟩
theorem fb:Mv X (unaryOp .USub) (rU λi=>.int (-i)):=Wm λ_ _ _ _ _ q=>neg_int q
end
def Gw:V->V->Bool
 |.non,.non=>true|.non,.int _=>true|.int _,.non=>true|.non,.bl _=>true|.bl _,.non=>true|.non,.str _=>true|.str _,.non=>true
 |.int _,.int _=>true|.bl _,.bl _=>true|.str _,.str _=>true|.mw _,.mw _=>true
 |.int _,.str _=>true|.str _,.int _=>true|.bl _,.str _=>true|.str _,.bl _=>true
 |_,_=>false
inductive Sx (x:V) (y:V) (H:Hp) (Q:VK):Prop
 |mk:Gw x y=true->Q (.bl (decide (x=y))) H->Sx x y H Q
inductive Sy (x:V) (y:V) (H:Hp) (Q:VK):Prop
 |mk:Gw x y=true->Q (.bl (!decide (x=y))) H->Sy x y H Q
theorem Ba:decide (V.int z=V.int y)=(z==y):=by
 rw[ads];simp
theorem DN {i j:Bool}:decide (V.bl i=V.bl j)=(i==j):=by
 rw[ads];simp
theorem Bb:decide (V.str x=V.str f)=(x==f):=by
 rw[ads];simp
theorem Bc {i j:Array UInt8}:decide (V.mw i=V.mw j)=(i.toList==j.toList):=by
 rw[ads];cases i;cases j;simp
section
variable {X:Cx}{a b:Expr}{ta tb:TE}{pos:Pos}
theorem bR {Q:VK}{k d:Bool}(I:Inv X o D H s)(q:Q (.bl k) H)(e:k=d):EP X o D Q (.bool d) s:=by
 subst e;exact⟨.bl k,H,I,Y,q⟩
theorem iG:gR X (compareOp .Eq) Sx:=by
 intro k s l H x y v u Q I g d h;obtain⟨f,q⟩:=h
 cases x with
 |non=>
  cases g
  cases y with
  |non=>cases d;exact PySem.EqNone.eq_none_none (bR I q (by simp))
  |bl j=>cases d;exact PySem.EqNone.eq_none_bool (bR I q (by simp))
  |int j=>obtain⟨e,rfl⟩:=d;exact PySem.EqNone.eq_none_int (bR I q (by simp))
  |str j=>obtain⟨e,rfl⟩:=d;exact PySem.EqNone.eq_none_str (bR I q (by simp))
  |_=>exact absurd (show false=true from f) acP
 |bl i=>
  cases g
  cases y with
  |non=>cases d;exact PySem.EqNone.eq_bool_none (bR I q (by simp))
  |bl j=>cases d;exact eq_bool (bR I q DN)
  |str j=>obtain⟨e,rfl⟩:=d;exact PySem.EqMixed.eq_bool_str (bR I q (by simp))
  |_=>exact absurd (show false=true from f) acP
 |int i=>
  obtain⟨t,rfl⟩:=g
  cases y with
  |non=>cases d;exact PySem.EqNone.eq_int_none (bR I q (by simp))
  |int j=>obtain⟨e,rfl⟩:=d;exact eq_int (bR I q Ba)
  |str j=>obtain⟨e,rfl⟩:=d;exact PySem.EqMixed.eq_int_str (bR I q (by simp))
  |_=>exact absurd (show false=true from f) acP
 |str i=>
  obtain⟨t,rfl⟩:=g
  cases y with
  |non=>cases d;exact PySem.EqNone.eq_str_none (bR I q (by simp))
  |bl j=>cases d;exact PySem.EqMixed.eq_str_bool (bR I q (by simp))
  |int j=>obtain⟨e,rfl⟩:=d;exact PySem.EqMixed.eq_str_int (bR I q (by simp))
  |str j=>obtain⟨e,rfl⟩:=d;exact eq_str (bR I q Bb)
  |_=>exact absurd (show false=true from f) acP
 |mw i=>
  obtain⟨t,rfl⟩:=g
  cases y with
  |mw j=>obtain⟨e,rfl⟩:=d;exact PySem.W.eq_bytes (bR I q Bc)
  |_=>exact absurd (show false=true from f) acP
 |_=>cases y <;> exact absurd (show false=true from f) acP
theorem oY:gR X (compareOp .NotEq) Sy:=by
 intro k s l H x y v u Q I g d h;obtain⟨f,q⟩:=h
 cases x with
 |non=>
  cases g
  cases y with
  |non=>cases d;exact PySem.EqNone.ne_none_none (bR I q (by simp))
  |bl j=>cases d;exact PySem.EqNone.ne_none_bool (bR I q (by simp))
  |int j=>obtain⟨e,rfl⟩:=d;exact PySem.EqNone.ne_none_int (bR I q (by simp))
  |str j=>obtain⟨e,rfl⟩:=d;exact PySem.EqNone.ne_none_str (bR I q (by simp))
  |_=>exact absurd (show false=true from f) acP
 |bl i=>
  cases g
  cases y with
  |non=>cases d;exact PySem.EqNone.ne_bool_none (bR I q (by simp))
  |bl j=>cases d;exact ne_bool (bR I q (ac5 not DN))
  |str j=>obtain⟨e,rfl⟩:=d;exact PySem.EqMixed.ne_bool_str (bR I q (by simp))
  |_=>exact absurd (show false=true from f) acP
 |int i=>
  obtain⟨t,rfl⟩:=g
  cases y with
  |non=>cases d;exact PySem.EqNone.ne_int_none (bR I q (by simp))
  |int j=>obtain⟨e,rfl⟩:=d;exact ne_int (bR I q (ac5 not Ba))
  |str j=>obtain⟨e,rfl⟩:=d;exact PySem.EqMixed.ne_int_str (bR I q (by simp))
  |_=>exact absurd (show false=true from f) acP
 |str i=>
  obtain⟨t,rfl⟩:=g
  cases y with
  |non=>cases d;exact PySem.EqNone.ne_str_none (bR I q (by simp))
  |bl j=>cases d;exact PySem.EqMixed.ne_str_bool (bR I q (by simp))
  |int j=>obtain⟨e,rfl⟩:=d;exact PySem.EqMixed.ne_str_int (bR I q (by simp))
  |str j=>obtain⟨e,rfl⟩:=d;exact ne_str (bR I q (ac5 not Bb))
  |_=>exact absurd (show false=true from f) acP
 |mw i=>
  obtain⟨t,rfl⟩:=g
  cases y with
  |mw j=>obtain⟨e,rfl⟩:=d;exact PySem.W.ne_bytes (bR I q (ac5 not Bc))
  |_=>exact absurd (show false=true from f) acP
 |_=>cases y <;> exact absurd (show false=true from f) acP
theorem mx:gR X (compareOp .Lt) (xh λi j=>.bl (decide (i<j))):=Gu λ_ _ _ _ _ _ _ q=>lt_int q
theorem Cv:gR X (compareOp .Gt) (xh λi j=>.bl (decide (j<i))):=Gu λ_ _ _ _ _ _ _ q=>gt_int q
theorem QY:gR X (compareOp .GtE) (xh λi j=>.bl (decide (j<=i))):=Gu λ_ _ _ _ _ _ _ q=>ge_int q
theorem qy:gR X (compareOp .Is) (λx y H Q=>y=.non/\Q (.bl (decide (x=.non))) H):=by
 intro e s g H x y v u Q I d f h;obtain⟨rfl,q⟩:=h;cases f;refine is_none_gen (bR I q ?_)
 cases x <;> first
  |(cases d;rfl)
  |(obtain⟨t,rfl⟩:=d;rfl)
theorem ny:gR X (compareOp .IsNot) (λx y H Q=>y=.non/\Q (.bl (!decide (x=.non))) H):=by
 intro e s g H x y v u Q I d f h;obtain⟨rfl,q⟩:=h;cases f;refine isnot_none_gen (bR I q ?_)
 cases x <;> first
  |(cases d;rfl)
  |(obtain⟨t,rfl⟩:=d;rfl)
theorem bC (b:Expr){d:CmpOp}(h:d≠.In:=by decide)(g:d≠.NotIn:=by decide):behindInMarks d b=false:=by
 have e:(d==CmpOp.In)=false:=by grind
 have f:(d==CmpOp.NotIn)=false:=by grind
 cases b <;> simp[behindInMarks,e,f]
theorem rT {e:CmpOp}{r:R2}(m:gR X (compareOp e) r)(f:PE X a ta)(j:PE X b tb)(i:behindInMarks e b=false):PE X (.Compare a [e] [b] pos) (IK r ta tb):=by
 intro d s k H Q I h;exact wpAny_Compare1 (Gs f j I h λv u o x y n p g l q=>m d o k n x y v u Q p g l q) i
inductive My (x:V) (H:Hp) (Q:Bool->Hp->Prop):Prop
 |mk (k:Bool):x=.bl k->Q k H->My x H Q
def QZ (t:TE):TT:=λ d H Q=>t d H λx e=>My x e Q
theorem bq {g:CmpOp}{r:R2}(C:gR X (compareOp g) r)(m:PE X a ta)(q:PE X b tb)(p:behindInMarks g b=false):PT X (.Compare a [g] [b] pos) (QZ (IK r ta tb)):=by
 intro d s f H Q I h
 refine wpAny_isTrue_Compare1 (aY (m d s f H _ I h) λv n ⟨x,w,t,A,o⟩=>aY (q d n f w _ t o) λu G ⟨y,F,J,B,D⟩=>
  aY (C d G f F x y v u _ J A B D) λc L ⟨z,l,i,j,k,e,E⟩=>?_) p
 subst e;cases j;exact adZ ⟨l,i,E⟩
def Mz (K:Za1)(x:V)(H:Hp)(k:Bool):Prop:=
 match x with
 |.non=>k=false
 |.bl b=>k=b
 |.int i=>k=(i !=0)
 |.str y=>y.length<=sizeLine/\k=((y.length:Int) !=0)
 |.mw y=>y.size<=sizeLine/\k=((y.size:Int) !=0)
 |.ref p=>(∃xs,aI K H p xs/\k=!xs.isEmpty)\/(∃xs,bT K H p xs/\k=!xs.isEmpty)\/∃d,H p=some (.dK d)/\k=!d.isEmpty
 |_=>False
theorem Cw {e:Type}{d:List (e×V)}{f:List (e×Value)}(r:KV d f):(!f.isEmpty)=!d.isEmpty:=by
 cases r <;> rfl
theorem uH {xs:List V}(r:Vals xs N):(!N.toArray.isEmpty)=!xs.isEmpty:=by
 cases r <;> simp
theorem qz:(sizeLine:Nat)<2 ^ 63:=by decide
theorem MA:Vc X (λx H Q=>∃k,Mz X.K x H k/\Q k H):=by
 intro o s B H x v Q I g h;obtain⟨k,e,q⟩:=h;have A:=qz;have C:sizeLine=16777216:=sizeLine_eq
 cases x with
 |non=>
  cases g;have d:k=false:=e;subst d;exact truthy_none ⟨H,I,q⟩
 |bl b=>
  cases g;have d:k=b:=e;subst d;exact adZ ⟨H,I,q⟩
 |int i=>
  obtain⟨t,rfl⟩:=g;have d:k=(i !=0):=e;subst d;exact PySem.P.truthy_int ⟨H,I,q⟩
 |str y=>
  obtain⟨t,rfl⟩:=g;obtain⟨z,d⟩:y.length<=sizeLine/\k=((y.length:Int) !=0):=e;subst d;exact PySem.P.truthy_str (by omega) ⟨H,I.tok _,q⟩
 |mw y=>
  obtain⟨t,rfl⟩:=g;obtain⟨z,d⟩:y.size<=sizeLine/\k=((y.size:Int) !=0):=e;subst d;exact PySem.W.truthy_bytes (by omega) ⟨H,I.tok _,q⟩
 |ref p=>
  cases g;have d:(∃xs,aI X.K H p xs/\k=!xs.isEmpty)\/(∃xs,bT X.K H p xs/\k=!xs.isEmpty)\/∃f,H p=some (.dK f)/\k=!f.isEmpty:=e;rcases d with ⟨xs,j,d⟩|⟨xs,j,d⟩|⟨f,j,d⟩
  ·subst d;obtain⟨n,r,pl,u⟩:=I.list j;have hlen:=r.length;exact wpAny_truthy_list pl.isList (by simp only[acs];omega) ⟨H,I.tok _,by rw[uH r];exact q⟩
  ·subst d;obtain⟨n,r,pl,u⟩:=I.tuple j;have hlen:=r.length;exact truthy_tuple pl (by simp only[acs];omega) ⟨H,I.tok _,by rw[uH r];exact q⟩
  ·subst d;obtain⟨u,w,l,r,m⟩:f.length<=sizeLine/\(p==sysModules)=false/\∃l,KV f l/\s.heap.DictOf (bO X.prog X.w) p l:=I.aL p _ j;have hlen:f.length=l.length:=Paired.length r;exact wpAny_truthy_dict w m (by omega) ⟨H,I.tok _,by rw[Cw r];exact q⟩
 |_=>exact(show False from e).elim
theorem yG (o:PE X a ta)(m:∀whole,isTrue a X.env whole=(do let v <-whole;standAt a.pos;holding [v] (truthy v))):
 PT X a (λ e H Q=>ta e H λx f=>∃k,Mz X.K x f k/\Q k f):=by
 intro d s e H Q I h;exact isTrue_plain (aY (o d s e H _ I h) λv g ⟨x,i,n,j,l⟩=>MA d g e i x v Q n j l) (m _)
theorem vals1 {x:V}(r:Vals [x] N):∃u,N=[u]/\RelV x u:=by
 cases r with
 |cons d e=>cases e;exact⟨_,Y,d⟩
theorem vals2 {x:V}(r:Vals [x,q] N):∃u d,N=[u,d]/\RelV x u/\RelV q d:=by
 cases r with
 |cons e f=>
  cases f with
  |cons g h=>cases h;exact⟨_,_,Y,e,g⟩
theorem xi (g:X.calm=true):jn X (.builtin "max") (λe H Q=>∃i j,e=[.int i,.int j]/\Q (.int (if j > i then j else i)) H):=by
 intro f s n H e p Q I r h;obtain⟨i,j,rfl,q⟩:=h;obtain⟨u,l,rfl,⟨t,rfl⟩,⟨m,rfl⟩⟩:=vals2 r;refine max_two_ints (I.ok.hd g) λv o k=>⟨_,H,I.kept k,?_,q⟩
 by_cases d:j > i
 ·rw[acv d,acv d];exact⟨_,Y⟩
 ·rw[acm d,acm d];exact⟨_,Y⟩
theorem xj (g:X.calm=true):jn X (.builtin "min") (λe H Q=>∃i j,e=[.int i,.int j]/\Q (.int (if j<i then j else i)) H):=by
 intro f s n H e p Q I r h;obtain⟨i,j,rfl,q⟩:=h;obtain⟨u,l,rfl,⟨t,rfl⟩,⟨m,rfl⟩⟩:=vals2 r;refine min_two_ints (I.ok.hd g) λv o k=>⟨_,H,I.kept k,?_,q⟩
 by_cases d:j<i
 ·rw[acv d,acv d];exact⟨_,Y⟩
 ·rw[acm d,acm d];exact⟨_,Y⟩
end
structure tZ (h:Heap) (x dx C:Addr) (mA:Str->Option Value):Prop where
 obj:h.get? x=some (PySem.W.instObj C dx)
 ns:h.Ns1 dx mA
 ne:dx≠x
theorem xk (n:h.Ns1 a M):∃d,h.get? a=some d/\∀name,PySem.W.lookIn name d=some (M name):=by
 obtain⟨o,j,m,k,i,f,_,g⟩:=n;refine⟨o,k,λname=>?_⟩;have e:=g name;unfold nsFind findBy at e;rw[<-Array.find?_toList]at e;unfold PySem.W.lookIn;rw[i];dsimp only;split
 ·grind
 ·rename_i q;rw[q]at e
  have b:j.toList.any (·.refKey)=false:=by
   rw[List.any_eq_false];intro y l;obtain⟨z,t,c⟩:=f y (Array.mem_toList_iff.mp l);simp[DictEntry.refKey,c]
  grind
theorem tZ.look {x dx:Addr}(I:tZ h x dx a M):∃b,PySem.W.InstAt h x (PySem.W.instObj a dx) a (some b)/\∀name,PySem.W.lookIn name b=some (M name):=
 let ⟨b,c,d⟩:=xk I.ns
 ⟨b,⟨I.obj,Y,Y,c⟩,d⟩
section
variable {prog:Program}{w:World}{A:Around}{E:Value->Shared->Prop}{s:Shared}{K:Za1}{x dx C f:Addr}{mA:Str->Option Value}{name:Str}{v:Value}
theorem get_map {expr:Bool}(X:K.In s.heap)(I:tZ s.heap x dx C mA)(e:PySem.W.plainGet K C name=true)(b:PySem.W.hasDictIn K C=true)
 (g:PySem.W.findIn K (.ref C) name=some none) (d:mA name=some v) (a:PySem.W.handedIn v=true) (h:Q v { s with toks:=s.toks+ 1 }):
 wpAny (model prog w) A (getAttr (.ref x) name expr) Q E s:=by
 obtain⟨i,J,c⟩:=I.look;exact PySem.W.get_value X J (PySem.W.plainGet_of e).1 (PySem.W.findObj_own b g Y (by rw[c,d])) a h
theorem Gx {pl:Sem Bool}{Q:Value×List Value->Shared->Prop}(X:K.In s.heap)(I:tZ s.heap x dx C mA)(a:PySem.W.plainGet K C name=true)
 (g:PySem.W.findIn K (.ref C) name=some (some (.ref f))) (b:PySem.W.isFn K (.ref f)=true) (d:mA name=none) (h:Q (.ref f,[.ref x]) s):
 wpAny (model prog w) A (getMethod (.ref x) name pl) Q E s:=by
 obtain⟨e,J,c⟩:=I.look;exact PySem.W.method_fn X J (PySem.W.plainGet_of a).1 (PySem.W.plainGet_of a).2 g (afn.mp b) (by show (PySem.W.lookIn name e).map (·.isSome)=some false;rw[c,d];rfl) h
theorem Ku {ns:List Str}(X:K.In s.heap)(I:tZ s.heap x dx C mA)
 (q:PySem.W.findIn K (.ref C) "__setattr__"=some (some (.builtin "object.__setattr__"))) (t:PySem.W.plainOver K C=true) (p:PySem.W.takerIn K C name=some none) (o:PySem.W.hasDictIn K C=true)
 (m:PySem.Within mA ns) (u:ns.length<=sizeLine)
 (h:∀e,tZ e x dx C (λy=>if y=name then some v else mA y)->Heap.SameBut dx s.heap e->U () { s with heap:=e,toks:=s.toks+ 2 }):
 wpAny (model prog w) A (setAttr (.ref x) name v) U E s:=by
 obtain⟨F,J,G⟩:=I.look;refine PySem.W.set_plain X J q (PySem.W.osa_open (s:={ s with toks:=s.toks+ 1 }) (r:=none) X J t p λb=>?_);obtain⟨D,n,g⟩:=PySem.W.any_some o;have B:s.heap.get? x=some ⟨.ref C,some dx,.plain,#[]⟩:=I.obj;refine ab1 (ab7 (ab1 (ab1 (wpAny_loadPart B (ab1 (PySem.W.Looks.here (s:={ s with toks:=s.toks+ 1 }) (PySem.W.looks_clsIn X n) ?_))))));rw[g];refine ab7 (a:=some dx) (ab1 (ab7 (ab1 ?_)));refine wpAny_nsSet1 (s:={ s with toks:=s.toks+ 1 }) I.ns λe d c=>?_
 obtain⟨H,l,z,j,i,k⟩:=d.count (PySem.Within.cons name v m);refine ab1 (wpAny_lookBehind j (by rw[i];exact pastItsLine_dict (acr k (by rw[acC];omega))) ?_);exact ab7 (h _ ⟨(c.2 _ (adn I.ne)).trans I.obj,d,I.ne⟩ c)
theorem Gy {R:Result->Shared->Prop}{a:List (Str×Value)}(X:K.In s.heap)(c:PySem.W.makesIn K C=true)
 (b:PySem.W.findIn K (.ref C) "__init__"=some (some (.ref f))) (d:PySem.W.typeIn K (.ref f)=some (.type "function"))
 (h:codeAny (model prog w) (A.under (.builtin "type.__call__" ⟨.ref C::N,a⟩)) (.call (.ref f) ⟨.ref (s.heap.objs.size+ 1)::N,a⟩) (PySem.W.InitBack (s.heap.objs.size+ 1) R)
  { s with heap:=(s.heap.push PySem.W.emptyDict).push (PySem.W.instObj C s.heap.objs.size) }):
 codeAny (model prog w) A (.call (.ref C) ⟨N,a⟩) R s:=by
 exact PySem.W.make_core (PySem.W.makes_of X c) (PySem.W.looks_findIn X b) (λself=>PySem.W.bind_fn X self d) (.inl Y) h
theorem DP {R:Result->Shared->Prop}(X:K.In s.heap)(b:PySem.W.makesIn K C=true)
 (a:PySem.W.findIn K (.ref C) "__init__"=some (some (.builtin "object.__init__")))
 (c:∀self,PySem.W.Looks (model prog w) s.heap (bindSpecial (.builtin "object.__init__") self) (.builtin "object.__init__",[self]))
 (h:codeAny (model prog w) (A.under (.builtin "type.__call__" ⟨[.ref C],[]⟩)) (.call (.builtin "object.__init__") ⟨[.ref (s.heap.objs.size+ 1)],[]⟩) (PySem.W.InitBack (s.heap.objs.size+ 1) R)
  { s with heap:=(s.heap.push PySem.W.emptyDict).push (PySem.W.instObj C s.heap.objs.size) }):
 codeAny (model prog w) A (.call (.ref C) ⟨[],[]⟩) R s:=by
 exact PySem.W.make_core (PySem.W.makes_of X b) (PySem.W.looks_findIn X a) c (.inr ⟨Y,Y⟩) h
end
def bJ (f:Str)(v:V):List (Str×V)->List (Str×V)
 |[]=>[(f,v)]
 |(g,x)::r=>if g=f then (g,v)::r else (g,x)::bJ f v r
theorem m8 (f g:Str)(v:V):∀fs:List (Str×V),(bJ f v fs).lookup g=if g=f then some v else fs.lookup g
 |[]=>by
  show List.lookup g [(f,v)]=_
  grind
 |(k,x)::r=>by
  have a:=m8 f g v r;rw[show bJ f v ((k,x)::r)=(if k=f then (k,v)::r else (k,x)::bJ f v r) from rfl]
  grind
theorem j2 (f:Str)(v:V):∀fs:List (Str×V),f∈(bJ f v fs).map (·.1)/\∀g,g∈fs.map (·.1)->g∈(bJ f v fs).map (·.1)
 |[]=>⟨by simp[bJ],λg h=>by simp at h⟩
 |(k,x)::r=>by
  obtain⟨b,a⟩:=j2 f v r;rw[show bJ f v ((k,x)::r)=(if k=f then (k,v)::r else (k,x)::bJ f v r) from rfl]
  grind
theorem sO (f:Str)(v:V):∀fs:List (Str×V),(bJ f v fs).length<=fs.length+ 1
 |[]=>by simp[bJ]
 |(k,x)::r=>by
  have a:=sO f v r;rw[show bJ f v ((k,x)::r)=(if k=f then (k,v)::r else (k,x)::bJ f v r) from rfl]
  grind
theorem dY.some_of {v:V}{o:Option Value}(r:dY (some v) o):∃u,o=some u/\RelV v u:=by
 cases o with
 |none=>exact(show False from r).elim
 |some u=>exact⟨u,Y,r⟩
theorem dY.none_of {o:Option Value}(r:dY none o):o=none:=by
 cases o with
 |none=>rfl
 |some u=>exact(show False from r).elim
theorem xl (r:RelV q u):PySem.W.handedIn u=true:=by
 cases q with
 |non=>cases (show u=Value.none from r);rfl
 |bl b=>cases (show u=Value.bool b from r);rfl
 |int i=>obtain⟨t,e⟩:=(show ∃t,u=Value.int i t from r);cases e;rfl
 |str x=>obtain⟨t,e⟩:=(show ∃t,u=Value.str x t from r);cases e;rfl
 |mw b=>obtain⟨t,e⟩:=(show ∃t,u=Value.bytes b t from r);cases e;rfl
 |yy b=>obtain⟨t,e⟩:=(show ∃t,u=Value.float b t from r);cases e;rfl
 |ref a=>cases (show u=Value.ref a from r);rfl
 |ty n=>cases (show u=Value.type n from r);rfl
section
variable {P:Program}{w:World}{H:Hp}{h:Heap}{a C dx:Addr}{fs:List (Str×V)}
theorem rV (c:dw P w H h)(e:H a=some (.ins C dx fs)):∃b,tZ h a dx C b/\(∀f,dY (fs.lookup f) (b f))/\PySem.Within b (fs.map (·.1))/\fs.length<=1000/\H dx=some (.own a):=by
 obtain⟨d,z,ne,g,b,n,r,q⟩:=(show bU P w H h a (.ins C dx fs) from c a _ e);exact⟨b,⟨g,n,ne⟩,r,q,z,d⟩
end
structure kI (K:Za1) (C:Addr):Prop where
 pg:PySem.W.plainGet K C Str.empty=true
 hd:PySem.W.hasDictIn K C=true
 po:PySem.W.plainOver K C=true
 sa:PySem.W.findIn K (.ref C) "__setattr__"=some (some (.builtin "object.__setattr__"))
theorem kI.get (c:kI K a)(f:Str):PySem.W.plainGet K a f=true:=c.pg
def j3 (K:Za1)(C:Addr)(f:Str):Prop:=PySem.W.findIn K (.ref C) f=some none
theorem j3.Cy (n:j3 K a f):PySem.W.takerIn K a f=some none:=by
 unfold PySem.W.takerIn;rw[show PySem.W.findIn K (.ref a) f=some none from n];rfl
structure Con (K:Za1) (C:Addr) (f:Str) (v:V) (u:Value):Prop where
 at_:PySem.W.findIn K (.ref C) f=some (some u)
 rel:RelV v u
 get:PySem.W.specialIn K u "__get__"=some none
 cp:PySem.W.copiedNames.contains f=false
structure Meth (K:Za1) (C:Addr) (m:Str) (f:Addr):Prop where
 at_:PySem.W.findIn K (.ref C) m=some (some (.ref f))
 fn:PySem.W.isFn K (.ref f)=true
 kp:PySem.W.keepIn K (.ref f)=true
section
variable {X:Cx}{pins:List (Addr×Obj)}{σ:St}{H:Hp}{s:Shared}{a C dx:Addr}{fs:List (Str×V)}{f:Str}{v:V}{A:Around}{E:Value->Shared->Prop}
theorem Cz {b:Bool}(I:Inv X pins σ H s)(e:H a=some (.ins C dx fs))(c:kI X.K C)(n:j3 X.K C f)(l:fs.lookup f=some v)
 (h:∀u d,Inv X pins σ H d->RelV v u->Q u d):wpAny (model X.prog X.w) A (getAttr (.ref a) f b) Q E s:=by
 obtain⟨j,O,r,_,_,_⟩:=rV I.aL e;obtain⟨u,i,g⟩:=dY.some_of (v:=v) (o:=j f) (by rw[<-l];exact r f);exact get_map I.cZ O (c.get f) c.hd n i (xl g) (h u _ (I.tok _) g)
theorem uI {pl:Sem Bool}{Q:Value×List Value->Shared->Prop}(I:Inv X pins σ H s)(e:H a=some (.ins C dx fs))(c:kI X.K C)(k:Meth X.K C x b)(l:fs.lookup x=none)
 (h:Q (.ref b,[.ref a]) s):wpAny (model X.prog X.w) A (getMethod (.ref a) x pl) Q E s:=by
 obtain⟨g,O,r,_,_,_⟩:=rV I.aL e;have d:g x=none:=dY.none_of (by grind);exact Gx I.cZ O (c.get x) k.at_ k.fn d h
theorem CB (I:Inv X pins σ H s)(e:H a=some (.ins C dx fs))(c:kI X.K C)(n:j3 X.K C f)(J:fs.length<1000)(B:RelV q u)
 (h:∀j,Inv X pins σ (upd H a (.ins C dx (bJ f q fs))) j->U () j):wpAny (model X.prog X.w) A (setAttr (.ref a) f u) U E s:=by
 obtain⟨w,O,r,k,_,l⟩:=rV I.aL e;have F:(fs.map (·.1)).length<=sizeLine:=by rw[ab9,sizeLine_eq];omega
 refine Ku I.cZ O c.sa c.po n.Cy c.hd k F λG i D=>h _ ?_
 have p:∃o,G.get? dx=some o:=let ⟨o,_,_,y,_⟩:=i.ns;⟨o,y⟩
 refine I.write (x:=a) (e:=dx) (by rw[e];exact True.intro) (.inr l) (λb d m z=>(D.2 b m).trans z) p ?_;refine⟨by rw[ai O.ne];exact l,?_,O.ne,i.obj,_,i.ns,λg=>?_,λg t=>?_⟩
 ·have:=sO f q fs;omega
 ·show dY ((bJ f q fs).lookup g) (if g=f then some u else w g);rw[m8];by_cases d:g=f
  ·rw[acv d,acv d];exact B
  grind
 ·by_cases d:g=f
  ·rw[d];exact(j2 f q fs).1
  ·refine(j2 f q fs).2 g (k g λz=>t ?_)
   grind
theorem Inv.made (I:Inv X pins σ H s):Inv X pins σ (upd (upd H s.heap.objs.size (.own (s.heap.objs.size+ 1))) (s.heap.objs.size+ 1) (.ins C s.heap.objs.size []))
 { s with heap:=(s.heap.push PySem.W.emptyDict).push (PySem.W.instObj C s.heap.objs.size) }:=by
 have c:(s.heap.push PySem.W.emptyDict).get? s.heap.objs.size=some PySem.W.emptyDict:=acf s.heap rfl
 have j:((s.heap.push PySem.W.emptyDict).push (PySem.W.instObj C s.heap.objs.size)).get? (s.heap.objs.size+ 1)=some (PySem.W.instObj C s.heap.objs.size):=by
  have:=acf (s.heap.push PySem.W.emptyDict) (o:=PySem.W.instObj C s.heap.objs.size) rfl
  rwa [adL]at this
 have d:(s.heap.push PySem.W.emptyDict).Ns s.heap.objs.size (λ_=>none):=⟨PySem.W.emptyDict,#[],_,c,Y,(λe h=>absurd h (by simp)),λ_=>rfl⟩;have k:=I.laid (a:=s.heap.objs.size) (o:=.own (s.heap.objs.size+ 1)) (h':=s.heap.push PySem.W.emptyDict) (t':=s.toks) (λb u q=>ab2 _ q) (aca _) ⟨_,c⟩;refine k.laid (a:=s.heap.objs.size+ 1) (o:=.ins C s.heap.objs.size []) (t':=s.toks) (λb u q=>ab2 _ q) (aeJ (adL _ _)) ?_;have ne:s.heap.objs.size≠s.heap.objs.size+ 1:=acz (adu _);refine⟨by rw[ai ne,ah],acF _,ne,j,λ_=>none,(Heap.Ns1.of_empty d).at λo q=>ab2 _ q,λ_=>True.intro,λy i=>absurd Y i⟩
theorem Bd {env:Env}{f:Str}{s:Shared}(c:attributeBase e f env (eval e env)=eval e env)
 (h:wpAny (model P w) A (eval e env) (λo b=>wpAny (model P w) A (getAttr o f true) Q E b) E s):wpAny (model P w) A (eval (.Attribute e f p) env) Q E s:=
 Attribute_any_ h (by rw[arm_eval_Attribute,c])
end
inductive MB (K:Za1) (f:Str) (x:V) (H:Hp) (Q:VK):Prop
 |mk (a C dx:Addr) (fs:List (Str×V)) (v:V):x=.ref a->H a=some (.ins C dx fs)->kI K C->j3 K C f->fs.lookup f=some v->Q v H->MB K f x H Q
def MC (K:Za1)(c:TE)(f:Str):TE:=λ b H Q=>c b H λx a=>MB K f x a Q
inductive MD (K:Za1) (f:Str) (y x:V) (H:Hp) (N:Hp->Prop):Prop
 |mk (a C dx:Addr) (fs:List (Str×V)):x=.ref a->H a=some (.ins C dx fs)->kI K C->j3 K C f->fs.length<1000->N (upd H a (.ins C dx (bJ f y fs)))->MD K f y x H N
def Ve (K:Za1)(e c:TE)(f:Str):TS:=λD a H=>c a H λy b=>e a b λx d=>MD K f y x d (D.nx a)
section
variable {X:Cx}{o e value:Expr}{f:Str}{pos pos':Pos}{ta tv:TE}
theorem aB (p:PE X e ta)(g:attributeBase e f X.env (eval e X.env)=eval e X.env):PE X (.Attribute e f pos) (MC X.K ta f):=by
 intro b s j H Q I h;refine Bd g (aY (p b s j H _ I h) λu w ⟨x,k,i,d,a,C,y,fs,v,ex,m,c,n,l,q⟩=>?_);subst ex;obtain rfl:u=Value.ref a:=d;exact Cz i m c n l λz A t r=>⟨v,k,t,r,q⟩
theorem bW (j:PE X o ta)(r:PE X value tv)(v:swapsWith value (some (.Attribute o f pos')) pos.line X.env=pure false):PS X (.Assign [.Attribute o f pos'] value pos) (Ve X.K ta tv f):=by
 intro b s d H D I h;refine plainObj_wpAny_Assign_Attribute (aY (r b s d H _ I h) λu k ⟨y,t,p,z,q⟩=>aY (j b k d t _ p q) λi J ⟨x,G,B,m,a,C,E,fs,ex,w,c,n,l,A⟩=>?_) v;subst ex;obtain rfl:i=Value.ref a:=m;exact CB B w c n l z λF g=>⟨d,_,g,A⟩
inductive Vg (x:V) (y:V) (H:Hp) (Q:VK):Prop
 |mk (i j:Int):x=.int i->y=.int j->Q (.int (i+ j)) H->Vg x y H Q
inductive Vh (x:V) (y:V) (H:Hp) (Q:VK):Prop
 |mk (i j:Int):x=.int i->y=.int j->Q (.int (i - j)) H->Vh x y H Q
end
section
variable {X:Cx}{pins:List (Addr×Obj)}{σ:St}{H:Hp}{s:Shared}{A:Around}{E:Value->Shared->Prop}{Q:Value->Shared->Prop}{c:Value}{b:Bool}
inductive jo (K:Za1) (H:Hp):V->Value->Prop where
 |non:jo K H .non (.type "NoneType")
 |bl (x:Bool):jo K H (.bl x) (.type "bool")
 |int (i:Int):jo K H (.int i) (.type "int")
 |str (x:Str):jo K H (.str x) (.type "str")
 |yy (x:UInt64):jo K H (.yy x) (.type "float")
 |lst {a:Addr} {xs:List V} (e:H a=some (.lst xs)):jo K H (.ref a) (.type "list")
 |cL {a:Addr} {o:Obj} {xs:List V} (e:H a=some (.cL o (.lst xs))):jo K H (.ref a) (.type "list")
 |tup {a:Addr} {xs:List V} (e:H a=some (.tup xs)):jo K H (.ref a) (.type "tuple")
 |dK {a:Addr} {kvs:List (Key×V)} (e:H a=some (.dK kvs)):jo K H (.ref a) (.type "dict")
 |dT {a:Addr} {kvs:List (List Key×V)} (e:H a=some (.dT kvs)):jo K H (.ref a) (.type "dict")
 |ins {a C dx:Addr} {fs:List (Str×V)} (e:H a=some (.ins C dx fs)) (cl:kI K C) (ha:PySem.W.findIn K (.ref C) "__class__"=some (some (.builtin "object.__class__")))
  (hn:PySem.W.specialIn K (.builtin "object.__class__") "__get__"=some (some (.builtin "getset_descriptor.__get__"))) (htk:PySem.W.takesIn K (.builtin "object.__class__")=some true)
  (hm:PySem.W.mroIn K C (.type "object")=some true):jo K H (.ref a) (.ref C)
theorem DQ {x:V}(I:Inv X pins σ H s)(d:RelV x u)(t:jo X.K H x v)(e:PySem.W.kitOne X.K v c=some b)(h:∀F,Q (.bool b) { s with toks:=F }):
 wpAny (model X.prog X.w) A (call (.builtin "isinstance") [u,c]) Q E s:=by
 cases t with
 |non=>cases (show u=Value.none from d);exact adt PySem.W.kitx_none I.cZ True.intro e (λz=>nomatch z) h
 |bl y=>cases (show u=Value.bool y from d);exact adt PySem.W.kitx_bool I.cZ True.intro e (λz=>nomatch z) h
 |int i=>obtain⟨v,q⟩:=(show ∃v,u=Value.int i v from d);cases q;exact adt PySem.W.kitx_int I.cZ True.intro e (λz=>nomatch z) h
 |str y=>obtain⟨v,q⟩:=(show ∃v,u=Value.str y v from d);cases q;exact adt PySem.W.kitx_str I.cZ True.intro e (λz=>nomatch z) h
 |yy y=>obtain⟨v,q⟩:=(show ∃v,u=Value.float y v from d);cases q;exact adt PySem.W.kitx_float I.cZ True.intro e (λz=>nomatch z) h
 | @lst a k f=>
   cases (show u=Value.ref a from d);obtain⟨_,_,n,_,g⟩:=(show bU X.prog X.w H s.heap a (.lst k) from I.aL a _ f);exact adt PySem.W.kitx_list I.cZ ⟨_,g,Y⟩ e (λz=>nomatch z) h
 | @cL a L k f=>
   cases (show u=Value.ref a from d);obtain⟨_,_,_,n,_,g⟩:=(show bU X.prog X.w H s.heap a (.cL L (.lst k)) from I.aL a _ f);exact adt PySem.W.kitx_list I.cZ ⟨_,g,Y⟩ e (λz=>nomatch z) h
 | @tup a k f=>
   cases (show u=Value.ref a from d);obtain⟨_,_,_,p⟩:=(show bU X.prog X.w H s.heap a (.tup k) from I.aL a _ f);obtain⟨o,g,l,_⟩:=p;exact adt PySem.W.kitx_tuple I.cZ ⟨o,g,l⟩ e (λz=>nomatch z) h
 | @dK a j f=>
   cases (show u=Value.ref a from d);obtain⟨_,_,M,_,p⟩:=(show bU X.prog X.w H s.heap a (.dK j) from I.aL a _ f);obtain⟨o,G,r,g,l,_⟩:=p;exact adt PySem.W.kitx_dict I.cZ ⟨o,g,l.1⟩ e (λz=>nomatch z) h
 | @dT a j f=>
   cases (show u=Value.ref a from d);obtain⟨_,_,k,_,o,G,r,g,l,_⟩:=(show bU X.prog X.w H s.heap a (.dT j) from I.aL a _ f);exact adt PySem.W.kitx_dict I.cZ ⟨o,g,l.1⟩ e (λz=>nomatch z) h
 | @ins a C P fs f cl w B m D=>
   cases (show u=Value.ref a from d);obtain⟨R,O,_⟩:=rV I.aL f;obtain⟨N,J,_⟩:=O.look;exact adt (PySem.W.kitx_own (cl.get _) cl.hd w B m D) I.cZ J e (λz=>nomatch z) h
end
structure cH (k:Nat) (A:Around):Prop where
 hd:A.handled=none
 dp:A.depth+ 3* k+ 5<recursionLimit
 un:A.units+ 16* k+ 200<cLine
theorem cH.mono {k:Nat}(r:cH k A)(h:j<=k):cH j A:=⟨r.hd,by have:=r.dp;omega,by have:=r.un;omega⟩
theorem cH.Za5 {j k:Nat}{A:Around}(r:cH k A)(h:j<=k:=by decide):cH j A:=r.mono h
theorem cH.deeper {k:Nat}(r:cH (k+ 1) A)(env:Env):cH k (A.deeper env):=
 ⟨r.hd,by have:=r.dp;show A.depth+ 1+ 3* k+ 5<_;omega,by have:=r.un;show A.units+ 3+ 16* k+ 200<_;omega⟩
theorem cH.in1 {k:Nat}(r:cH (k+ 1) A):cH k A.in1:=
 ⟨r.hd,by have:=r.dp;show A.depth+ 3* k+ 5<_;omega,by have:=r.un;show A.units+ 1+ 16* k+ 200<_;omega⟩
theorem CD {b:List (Str×Value)}:(A.under (.builtin "type.__call__" ⟨.ref a::N,b⟩)).depth=A.depth+ 1:=by
 first|rfl|simp[Around.under,Code.weight,Code.isCreation,Code.isGuard,Code.isCaller,Code.frames,Code.isFrame,guardIds]
theorem CF {b:List (Str×Value)}:(A.under (.builtin "type.__call__" ⟨.ref a::N,b⟩)).units=A.units+ 1:=by
 first|rfl|simp[Around.under,Code.cUnits,Code.frames,Code.isFrame]
theorem cH.make {k:Nat}(r:cH (k+ 1) A)(C:Addr)(a:List Value)(b:List (Str×Value)):cH k (A.under (.builtin "type.__call__" ⟨.ref C::a,b⟩)):=
 ⟨r.hd,by have:=r.dp;rw[CD];omega,by have:=r.un;rw[CF];omega⟩
theorem cH.depth {k:Nat}(r:cH k A):A.depth<recursionLimit:=by have:=r.dp;omega
theorem cH.units {k:Nat}(r:cH k A):A.units+ 64<cLine:=by have:=r.un;omega
def ku:TA:=λ_ H Q=>Q [] H
def jq (e:TE)(tr:TA):TA:=λ a H Q=>e a H λx b=>tr a b λc d=>Q (x::c) d
section
variable {X:Cx}{e:Expr}{es:List Expr}{te:TE}{t:TA}{pos:Pos}
theorem ak:PA X [] ku:=λ_ _ _ _ H Q I h=>adJ ⟨[],H,I,.nil,h⟩
theorem ae (d:PE X e te)(f:PA X es t)(l:starEach (e::es) X.env=(false,eval e X.env)::starEach es X.env:=by rfl):PA X (e::es) (jq te t):=by
 intro pos a s b H Q I h;rw[l];refine ac2 (aY (d a s b H _ I h) λu g ⟨x,k,j,m,i⟩=>?_);exact aY (f pos a g b k _ j i) λr v ⟨c,p,q,n,o⟩=>⟨x::c,p,q,.cons m n,o⟩
inductive MF (xs:List V) (H:Hp) (Q:VK):Prop
 |mk:xs.length<=sizeLine->(∀p,H p=none->Q (.ref p) (upd H p (.tup xs)))->MF xs H Q
def Vi (t:TA):TE:=λ c H Q=>t c H λb a=>MF b a Q
inductive MG (xs:List V) (H:Hp) (Q:VK):Prop
 |mk:xs.length<=sizeLine->(∀p,H p=none->Q (.ref p) (upd H p (.lst xs)))->MG xs H Q
def Vj (t:TA):TE:=λ c H Q=>t c H λb a=>MG b a Q
theorem gw {f}(h:PA X es t):PE X (.Tuple es f pos) (Vi t):=by
 intro a s j H Q I i;refine wpAny_Tuple_spliced (aY (h pos a s j H _ I i) λl s1 ⟨g,d,c,r,z,q⟩=>⟨by rw[<-r.length];exact z,?_⟩);have k:d s1.heap.objs.size=none:=c.aL.fresh (aca _);refine⟨.ref s1.heap.objs.size,upd d s1.heap.objs.size (.tup g),c.laid (t':=s1.toks) (λb u e=>ab2 _ e) (aca _) ?_,Y,q _ k⟩;exact⟨z,l,r,⟨_,acf _ Y,Y,_,Y⟩⟩
theorem cq (h:PA X es t):PE X (.List es pos) (Vj t):=by
 intro a s i H Q I g;refine wpAny_List_spliced (aY (h pos a s i H _ I g) λk s1 ⟨f,d,c,r,z,q⟩=>⟨by rw[<-r.length];exact z,?_⟩);have j:d s1.heap.objs.size=none:=c.aL.fresh (aca _);refine⟨.ref s1.heap.objs.size,upd d s1.heap.objs.size (.lst f),c.laid (t':=s1.toks) (λb u e=>ab2 _ e) (aca _) ?_,Y,q _ j⟩;exact⟨z,k,0,r,acf _ Y⟩
end
abbrev Sp:=List V->Hp->VK->XK->Prop
abbrev kJ:=List Env->Hp->Shared->XK->Value->Shared->Prop
structure lg (P:Program) (w:World) (K:Za1) (mg:Str->Option Value) (base:Heap) (A:Around) (outer:List Env) (s:Shared) (H:Hp):Prop where
 frames:A.frames=some outer
 mod:Mod K mg base
 bs:∀b o,base.get? b=some o->s.heap.get? b=some o/\H b=none
 qw:base.objs.size<=s.heap.objs.size
 iJ:s.heap.FunFrames base outer
 sN:∀b∈cx outer,H b=none
 aL:dw P w H s.heap
 bare:AllBare s.gens
def CE (a:List Env)(P:Program)(w:World)(H:Hp)(s:Shared)(Q:VK)(u:Value)(b:Shared):Prop:=
 ∃v c,b.os=s.os/\AllBare b.gens/\Un (cx a) [] H c s.heap b.heap/\dw P w c b.heap/\RelV v u/\Q v c
def CR (c:kJ)(a:List Env)(P:Program)(w:World)(H:Hp)(s:Shared)(Q:VK)(E:XK)(r:Result)(b:Shared):Prop:=
 match r with
 |.ok (.ret u)=>CE a P w H s Q u b
 |.ok _=>False
 |.error e=>c a H s E e b
structure bx (P:Program) (w:World) (K:Za1) (mg:Str->Option Value) (base:Heap) (CX:kJ) (k:Nat) (f:Addr) (fd:FuncData) (ps:List Str) (sp:Sp):Prop where
 len:∀vs H Q E,sp vs H Q E->vs.length=ps.length
 run:∀(A:Around) (outer:List Env) (s:Shared) (H:Hp) (args:Args) (us:List Value) (vs:List V) (Q:VK) (E:XK),cH k A->lg P w K mg base A outer s H->BindsTo s fd args (ps.zip us)->Vals vs us->sp vs H Q E->
  codeAny (model P w) A (.call (.ref f) args) (CR CX outer P w H s Q E) s
theorem lg.make {mg:Str->Option Value}{base:Heap}{outer:List Env}(e:lg P w K mg base A outer s H)(C:Addr)(a:List Value)(b:List (Str×Value)):
 lg P w K mg base (A.under (.builtin "type.__call__" ⟨.ref C::a,b⟩)) outer s H:=⟨by first|exact e.frames|(simpa [Around.under,Code.envs,Code.isFrame,pushEnvs] using e.frames),e.mod,e.bs,e.qw,e.iJ,e.sN,e.aL,e.bare⟩
theorem lg.in1 {mg:Str->Option Value}{base:Heap}{outer:List Env}(e:lg P w K mg base A outer s H):
 lg P w K mg base A.in1 outer s H:=⟨e.frames,e.mod,e.bs,e.qw,e.iJ,e.sN,e.aL,e.bare⟩
section
variable {X:Cx}{pins:List (Addr×Obj)}{σ:St}{H:Hp}{s s':Shared}
theorem Inv.yH (I:Inv X pins σ H s):lg X.prog X.w X.K X.mg X.base X.A X.stack s H:=
 ⟨I.ok.frames,I.ok.mod,I.bs,acr I.ok.qw I.sz,I.stack,I.nk,I.aL,I.bare⟩
theorem Inv.after {Q:VK}(I:Inv X pins σ H s)(h:CE X.stack X.prog X.w H s Q u s'):EP X pins σ Q u s':=by
 obtain⟨v,e,os,bare,un,aL,r,q⟩:=h;obtain⟨c,g,d,t,a⟩:=s';obtain rfl:a=s.os:=os;exact⟨v,e,I.call (h':=c) (g':=g) (d':=d) (t':=t) (ch:=[]) un aL bare (λb z=>absurd z (by simp)),r,q⟩
end
def Q0 (c:Sp)(a:List V)(E:XK)(t:TA):TE:=λ e H Q=>t e H λd b=>c (d++a) b Q E
inductive MH (C:Addr) (m:Str) (sp:Sp) (dvs:List V) (E:XK) (t:TA) (σ:St) (x:V) (H:Hp) (Q:VK):Prop
 |mk (a dx:Addr) (fs:List (Str×V)):x=.ref a->H a=some (.ins C dx fs)->fs.lookup m=none->t σ H (λvs H2=>sp (x::(vs++dvs)) H2 Q E)->MH C m sp dvs E t σ x H Q
def my (C:Addr)(m:Str)(d:Sp)(a:List V)(E:XK)(e:TE)(t:TA):TE:=λ b H Q=>e b H λx c=>MH C m d a E t b x c Q
def Q5 (C:Addr)(d:Sp)(c:List V)(E:XK)(t:TA):TE:=λ g H Q=>t g H λe b=>∀x a,b x=none->b a=none->a≠x->
 d (.ref x::(e++c)) (upd (upd b a (.own x)) x (.ins C a [])) (λv f=>v=.non/\Q (.ref x) f) E
def Binds (K:Za1)(fd:FuncData)(c:List Str)(b:List Value):Prop:=
 ∀(s:Shared) (a:List Value),K.In s.heap->(a++b).length=c.length->BindsTo s fd ⟨a,[]⟩ (c.zip (a++b))
theorem Binds.all {fd:FuncData}(h:∀us:List Value,us.length=Z.length->bindArgs fd ⟨us,[]⟩=pure (Z.zip us)):Binds K fd Z []:=λs us _ a=>by
 rw[acD]at a ⊢;exact .of_eq (h us a)
def Passes (c:kJ)(X:Cx)(E:XK):Prop:=∀(a:List (Addr×Obj)) (d:St) (H:Hp) (s:Shared) (e:Value) (b:Shared),Inv X a d H s->c X.stack H s E e b->X.xe e b
section
variable {X:Cx}{CX:kJ}{k:Nat}{f C:Addr}{fd:FuncData}{ps:List Str}{sp:Sp}{dvs:List V}{ds:List Value}{E:XK}{x m:Str}{p pos apos:Pos}{e o:Expr}{es:List Expr}{ta:TE}{t:TA}
theorem yI {a:List (Addr×Obj)}{Q:VK}{us:List Value}{vs:List V}(F:bx X.prog X.w X.K X.mg X.base CX k f fd ps sp)(g:cH k X.A)(j:Binds X.K fd ps ds)(l:Vals dvs ds)(q:Passes CX X E)
 (I:Inv X a D H s) (r:Vals vs us) (h:sp (vs++dvs) H Q E):wpAny (model X.prog X.w) X.A (call (.ref f) us) (EP X a D Q) X.xe s:=by
 have c:Vals (vs++dvs) (us++ds):=r.append l;have i:(us++ds).length=ps.length:=by rw[<-c.length];exact F.len _ _ _ _ h
 refine aeD (aeu (F.run X.A X.stack s H ⟨us,[]⟩ (us++ds) (vs++dvs) Q E g I.yH (j s us I.cZ i) c h) λr n b=>?_)
 cases r with
 |error e=>exact q a D H s e n I b
 |ok d=>
  cases d with
  |ret u=>exact I.after b
  |next=>exact False.elim b
  |brk=>exact False.elim b
  |cont=>exact False.elim b
theorem bH (F:bx X.prog X.w X.K X.mg X.base CX k f fd ps sp)(l:cH k X.A)(y:Gl X x)(n:X.mg x=some (.ref f))(j:PySem.W.keepIn X.K (.ref f)=true)(u:Binds X.K fd ps ds)(v:Vals dvs ds)(A:Passes CX X E)
 (i:PA X (e::es) t) (c:(x==("__debug__":Str))=false:=by decide) (z:starEach (e::es) X.env=(false,eval e X.env)::starEach es X.env:=by rfl) (b:(backTo pos (starEach es X.env)).any (·.1)=false:=by rfl):
 PE X (.Call (.Name x p) (e::es) [] pos) (Q0 sp dvs E t):=by
 intro a s w H Q I h;refine adh (jK I y n ?_ c);refine aeH (h₀:=X.base) I.ok.mod.uB j (aY (i pos a s w H _ I h) λJ D ⟨B,G,g,r,q⟩=>⟨g.cZ,?_⟩) z b;exact yI F l u v A g r q
theorem bf {pl:Sem Bool}(R:PE X o ta)(c:kI X.K C)(hm:Meth X.K C m f)(F:bx X.prog X.w X.K X.mg X.base CX k f fd ps sp)(B:cH k X.A)(J:Binds X.K fd ps ds)(L:Vals dvs ds)(S:Passes CX X E)(A:PA X (e::es) t)
 (g:starEach (e::es) X.env=(false,eval e X.env)::starEach es X.env:=by rfl) (d:(backTo pos (starEach es X.env)).any (·.1)=false:=by rfl)
 (M:eval (.Call (.Attribute o m apos) (e::es) [] pos) X.env=(do
  let j <-eval o X.env
  standAt apos.atName
  let (f,first) <-holding [j] (getMethod j m pl)
  callWith pos f first (backTo pos (starEach (e::es) X.env)) (backToKw pos (keywordEach [] X.env))):=by rfl):
 PE X (.Call (.Attribute o m apos) (e::es) [] pos) (my C m sp dvs E ta t):=by
 intro b s v H Q I h;refine PySem.W.methodCall_KW (pl:=pl) (aY (R b s v H _ I h) λu D ⟨x,N,w,G,a,T,fs,ex,O,l,q⟩=>?_) M;subst ex;obtain rfl:u=Value.ref a:=G;refine uI w O c hm l ?_;refine aeH (first:=[.ref a]) (h₀:=X.base) I.ok.mod.uB hm.kp (aY (A pos b D v N _ w q) λy W ⟨n,U,z,r,P⟩=>⟨z.cZ,?_⟩) g d;exact yI (us:=.ref a::y) (vs:=.ref a::n) F B J L S z (.cons Y r) P
theorem gb {pl:Sem Bool}(z:PE X o ta)(c:kI X.K C)(hm:Meth X.K C m f)(F:bx X.prog X.w X.K X.mg X.base CX k f fd ps sp)(i:cH k X.A)(n:Binds X.K fd ps ds)(r:Vals dvs ds)(A:Passes CX X E)
 (w:eval (.Call (.Attribute o m apos) [] [] pos) X.env=(do
  let g <-eval o X.env
  standAt apos.atName
  let (f,first) <-holding [g] (getMethod g m pl)
  callWith pos f first (backTo pos (starEach [] X.env)) (backToKw pos (keywordEach [] X.env))):=by rfl):
 PE X (.Call (.Attribute o m apos) [] [] pos) (my C m sp dvs E ta ku):=by
 intro b s v H Q I h;refine PySem.W.methodCall_KW (pl:=pl) (aY (z b s v H _ I h) λu D ⟨x,J,d,j,a,G,fs,ex,y,l,q⟩=>?_) w;subst ex;obtain rfl:u=Value.ref a:=j;refine uI d y c hm l ?_;exact PySem.W.callWith_K0 (first:=[.ref a]) d.cZ hm.kp (yI (us:=[.ref a]) (vs:=[.ref a]) F i n r A d (.cons Y .nil) q)
structure Mk (K:Za1) (C f:Addr):Prop where
 makes:PySem.W.makesIn K C=true
 init:PySem.W.findIn K (.ref C) "__init__"=some (some (.ref f))
 fn:PySem.W.isFn K (.ref f)=true
 kp:PySem.W.keepIn K (.ref C)=true
theorem Gz {a:List (Addr×Obj)}{Q:VK}(M:Mk X.K C f)(F:bx X.prog X.w X.K X.mg X.base CX k f fd ps sp)(n:cH (k+ 1) X.A)(w:Binds X.K fd ps ds)(y:Vals dvs ds)
 (P:Passes CX X E) (I:Inv X a D H s) (r:Vals L N)
 (h:∀x c,H x=none->H c=none->c≠x->sp (.ref x::(L++dvs)) (upd (upd H c (.own x)) x (.ins C c [])) (λv O=>v=.non/\Q (.ref x) O) E):
 wpAny (model X.prog X.w) X.A (call (.ref C) N) (EP X a D Q) X.xe s:=by
 have g:=h (s.heap.objs.size+ 1) s.heap.objs.size (I.aL.fresh (aex _)) (I.aL.fresh (aca _)) (acz (adu _));have d:=Inv.made (C:=C) I;have i:Vals (V.ref (s.heap.objs.size+ 1)::(L++dvs)) (Value.ref (s.heap.objs.size+ 1)::(N++ds)):=.cons Y (r.append y)
 have q:(Value.ref (s.heap.objs.size+ 1)::N++ds).length=ps.length:=by
  have e:=i.length;rw[F.len _ _ _ _ g]at e;exact e.symm
 refine aeD (Gy (f:=f) I.cZ M.makes M.init (afn.mp M.fn) (aeu (F.run _ X.stack _ _ ⟨Value.ref (s.heap.objs.size+ 1)::N,[]⟩ (Value.ref (s.heap.objs.size+ 1)::(N++ds)) _ _ E (n.make C N [])
  (d.yH.make C N []) (w _ (Value.ref (s.heap.objs.size+ 1)::N) d.cZ q) i g) λr A b=>?_))
 cases r with
 |error e=>exact P a D _ _ e A d b
 |ok l=>
  cases l with
  |ret u=>
   obtain⟨v,B,j,J,z,G⟩:=d.after b;subst z;exact⟨J,⟨V.ref (s.heap.objs.size+ 1),B,j,Y,G⟩⟩
  |next=>exact False.elim b
  |brk=>exact False.elim b
  |cont=>exact False.elim b
theorem wy (M:Mk X.K C f)(F:bx X.prog X.w X.K X.mg X.base CX k f fd ps sp)(j:cH (k+ 1) X.A)(w:Gl X x)(l:X.mg x=some (.ref C))(n:Binds X.K fd ps ds)(u:Vals dvs ds)(z:Passes CX X E)
 (i:PA X (e::es) t) (c:(x==("__debug__":Str))=false:=by decide) (y:starEach (e::es) X.env=(false,eval e X.env)::starEach es X.env:=by rfl) (b:(backTo pos (starEach es X.env)).any (·.1)=false:=by rfl):
 PE X (.Call (.Name x p) (e::es) [] pos) (Q5 C sp dvs E t):=by
 intro a s v H Q I h;refine adh (jK I w l ?_ c);refine aeH (h₀:=X.base) I.ok.mod.uB M.kp (aY (i pos a s v H _ I h) λG B ⟨A,D,g,r,q⟩=>⟨g.cZ,?_⟩) y b;exact Gz M F j n u z g r q
end
def PK (X:Cx)(kws:List Keyword)(t:TA):Prop:=
 ∀(b:Pos) (a:List (Addr×Obj)) (s:Shared) (c:St) (H:Hp) (Q:List V->Hp->Prop),Inv X a c H s->t c H Q->wpAny (model X.prog X.w) X.A (evalAll ((backToKw b (keywordEach kws X.env)).map (·.2))) (AP X a c Q) X.xe s
section
variable {X:Cx}{fd:FuncData}{ps ks:List Str}{x:Str}{pos Vk:Pos}{e:Expr}{kws:List Keyword}{te:TE}{t:TA}{nm:Option Str}
theorem DR:PK X [] ku:=λ_ _ _ _ H Q I h=>wpAny_evalAll_nil ⟨[],H,I,.nil,h⟩
theorem Be (d:PE X e te)(g:PK X kws t):PK X (⟨nm,e,Vk⟩::kws) (jq te t):=by
 intro pos a s b H Q I h;refine wpAny_evalAll_cons (ab1 (aY (d a s b H _ I h) λu i ⟨x,n,l,q,j⟩=>ab1 (aeT (ab7 ?_))));exact aY (g pos a i b n _ l j) λz A ⟨c,w,y,r,v⟩=>⟨x::c,w,y,.cons q r,v⟩
structure Wn (K:Za1) (fd:FuncData) (ps ks:List Str) (g:List Value->List Value->List Value) (gV:List V->List V->List V):Prop where
 to:∀(s:Shared) (us ws:List Value),K.In s.heap->(g us ws).length=ps.length->BindsTo s fd ⟨us,ks.zip ws⟩ (ps.zip (g us ws))
 rel:∀{vs:List V} {us:List Value} {zs:List V} {ws:List Value},Vals vs us->Vals zs ws->Vals (gV vs zs) (g us ws)
end
structure aV (N P:List Str) (sc:Scope):Prop where
 kind:sc.kind=.function
 co:sc.isCoroutine=false
 gen:sc.isGenerator=false
 nd:N.Nodup
 pre:N.take P.length=P
 par:∀x∈P,sc.names.lookup x=some .local\/sc.names.lookup x=some .cell
 MJ:∀y∈sc.names,y.2≠.free
theorem xm {kindOf:Str->Option NameKind}:∀{binds:List (Str×Value)} {m:Str->Option Value},(∀v,(x,v)∉binds)->bindL kindOf binds m x=m x
 |[],_,_=>rfl
 |(n,v)::r,m,h=>by
  unfold bindL;rw[xm λw a=>h w (acG _ a)];split
  ·grind
  ·rfl
theorem xn {kindOf:Str->Option NameKind}:∀{binds:List (Str×Value)} {m:Str->Option Value},(∀v,(x,v)∉binds)->bindC kindOf binds m x=m x
 |[],_,_=>rfl
 |(n,v)::r,m,h=>by
  unfold bindC;rw[xn λw a=>h w (acG _ a)];split
  ·rfl
  grind
theorem xo {kindOf:Str->Option NameKind}{x:Str}{v:Value}:∀{P:List Str} {a:List Value} {i:Nat} {m:Str->Option Value},P.Nodup->P[i]?=some x->a[i]?=some v->kindOf x=some .local->
 bindL kindOf (P.zip a) m x=some v
 |[],_,_,_,_,h,_,_=>by simp at h
 |_::_,[],_,_,_,_,h,_=>by simp at h
 |p::P,w::a,0,m,d,c,b,e=>by
  simp at c b;subst c;subst b;show bindL kindOf ((p,w)::P.zip a) m p=_;unfold bindL;rw[xm λv f=>(acK.mp d).1 (List.of_mem_zip f).1,acv e];simp
 |p::P,w::a,i+ 1,m,d,c,b,e=>by
  unfold bindL;exact xo (i:=i) (acK.mp d).2 (by simpa using c) (by simpa using b) e
theorem xq {kindOf:Str->Option NameKind}{x:Str}{v:Value}:∀{P:List Str} {a:List Value} {i:Nat} {m:Str->Option Value},P.Nodup->P[i]?=some x->a[i]?=some v->kindOf x≠some .local->
 bindC kindOf (P.zip a) m x=some v
 |[],_,_,_,_,h,_,_=>by simp at h
 |_::_,[],_,_,_,_,h,_=>by simp at h
 |p::P,w::a,0,m,d,c,b,e=>by
  simp at c b;subst c;subst b;show bindC kindOf ((p,w)::P.zip a) m p=_;unfold bindC;rw[xn λv f=>(acK.mp d).1 (List.of_mem_zip f).1,acm e];simp
 |p::P,w::a,i+ 1,m,d,c,b,e=>by
  unfold bindC;exact xq (i:=i) (acK.mp d).2 (by simpa using c) (by simpa using b) e
def start (N:List Str)(a:List V):St:=a.map some++List.replicate (N.length - a.length) none
def cf (c:kJ)(P:Program)(w:World)(K:Za1)(mg:Str->Option Value)(base:Heap)(N:List Str)(qual:Str)(scope:Scope)(f:Addr)(b:Value)(A:Around)(outer:List Env)(s:Shared)(H:Hp)(E:XK):Cx where
 prog:=P
 w:=w
 K:=K
 mg:=mg
 base:=base
 A:=A.deeper (envOfC qual scope s.heap.objs.size f b)
 N:=N
 dR:=s
 tT:=H
 env:=envOfC qual scope s.heap.objs.size f b
 outer:=outer
 stack:=envOfC qual scope s.heap.objs.size f b::outer
 ex:=[]
 calm:=true
 fn:=λ_=>true
 pn:=[]
 xe:=λe d=>wpAny (model P w) (A.deeper (envOfC qual scope s.heap.objs.size f b)) (leaving (envOfC qual scope s.heap.objs.size f b) e) (λ_ a=>c outer H s E e a) (λg a=>c outer H s E g a) d
theorem yJ {sc:Scope}(h:sc.names.lookup x=some .cell):∃c,(cellsFrom n sc.names []).lookup x=some c:=by
 have q:=afj sc.names n [] (.inl h);exact ae5.mp q
theorem xr {O:kJ}{base:Heap}{N:List Str}{qual:Str}{scope:Scope}{f:List Env}{E:XK}{G:List Value}
 (S:aV N Z scope) (R:A.handled=none) (j:lg P w K M base A f s H) (W:L.length=Z.length) (r:Vals L G)
 (x:InCallC s s.heap.objs.size (bindL (envOfC qual scope s.heap.objs.size a v).kindOf (Z.zip G) λ_=>none) (cellsFrom (s.heap.objs.size+ 1) scope.names []) (bindC (envOfC qual scope s.heap.objs.size a v).kindOf (Z.zip G) λ_=>none) t):
 Inv (cf O P w K M base N qual scope a v A f s H E) [] (start N L) H t:=by
 have U:Z.length<=N.length:=by have:=ac5 List.length S.pre;rw[acQ]at this;omega
 obtain⟨D,X,rfl,J⟩:=x.done;have l:∀b:Addr,b∉(cf O P w K M base N qual scope a v A f s H E).ex:=λb z=>absurd (show b∈([]:List Addr) from z) (by simp)
 refine⟨⟨j.mod,S.kind,Y,Y,aca _,λy z c D m=>?_,λy C=>?_,λy c _ h=>?_,λ_=>R,Around.frames_deeper j.frames,.inr ⟨Y,Y⟩,λb z=>absurd z (l b),j.bs,j.qw,λb _ _=>l b,λb z=>absurd z (l b),j.iJ,j.sN⟩,
  rfl,j.bare,Un.kept J,⟨_,x.toInCall.ns,λi y g D m h3=>?_⟩,λy c h=>⟨_,x.cell y c h⟩,j.aL.fresh (aca _),λy c h=>?_,λp o=>absurd (show p∈([]:List (Addr×Obj)) from o) (by simp),j.aL.kept J,?_⟩
 ·exact name_of_addr x.apart (adx D) (adx m)
 ·rcases C with C|C
  ·exact yJ C
  ·exact absurd Y (S.MJ _ (adx C))
 ·exact afu (x.above y c (adx h))
 ·have F:i<L.length:=by
   unfold start at m;by_cases F:i<L.length
   ·exact F
   ·grind
  have Q:L[i]?=some g:=by
   unfold start at m;rw[acn (by simpa using F),aco]at m
   cases e:L[i]? with
   |none=>rw[e]at m;cases m
   |some d=>grind
  obtain⟨u,I,T⟩:=r.get Q
  have o:Z[i]?=some y:=by
   rw[<-S.pre,ae6 (by omega)];exact D
  have B:Z.Nodup:=by rw[<-S.pre];exact S.nd.sublist (List.take_sublist _ _)
  refine⟨u,T,?_⟩;rcases S.par y (ab4 o) with k|k
  ·exact .inl ⟨k,xo B o I k⟩
  ·obtain⟨c,e⟩:=yJ (n:=s.heap.objs.size+ 1) k;refine .inr ⟨.inl k,c,e,?_⟩;have q:=x.cell y c e;rw[xq B o I (by show scope.names.lookup y≠_;grind)]at q;exact q
 ·exact j.aL.fresh (afu (x.above y c (adx h)))
 ·unfold start;show _=N.length;rw[ab6,ab9,aeK];omega
theorem yt {B:kJ}{base:Heap}{k:Nat}{name qual:Str}{params:Arguments}{body:List Stmt}{scope:Scope}{Z kV doc pm d U oc:Value}{R od:Option Addr}
 {L:Array (Option Value)} {N z:List Str} {F:Sp} (lk:K.lookup a=some ⟨oc,od,.func (PySem.W.fnOf name qual params body scope Z kV doc pm R d U),L⟩) (C:PySem.W.codeIn K d qual=true) (S:aV N z scope)
 (len:∀f H Q E,F f H Q E->f.length=z.length)
 (i:∀(A:Around) (c:List Env) (s:Shared) (H:Hp) (f:List V) (Q:VK) (E:XK),cH k (A.deeper (envOfC qual scope s.heap.objs.size a d))->F f H Q E->
  ∃t,i6 (cf B P w K M base N qual scope a d A c s H E) body t/\t { nx:=λ_ h=>Q .non h,rt:=Q } (start N f) H):
 bx P w K M base B (k+ 1) a (PySem.W.fnOf name qual params body scope Z kV doc pm R d U) z F:=by
 refine⟨len,λA c s H T us f Q E D m hb r p=>?_⟩;have hl:=len _ _ _ _ p;have X:K.In s.heap:=m.mod.uB.keeps λb o e=>(m.bs b o e).1
 have lim:s.heap.NoLimit:=m.mod.nolimit.keeps λb o e=>(m.bs b o e).1
 have j:∀y∈z.zip us,scope.names.lookup y.1=some .local\/(scope.names.lookup y.1=some .cell/\((cellsFrom (s.heap.objs.size+ 1) scope.names []).lookup y.1).isSome=true):=λ⟨n,v⟩ hy=>by
  rcases S.par n (List.of_mem_zip hy).1 with q|q
  ·exact .inl q
  ·exact .inr ⟨q,afj _ _ _ (.inl q)⟩
 refine codeAny_call_function D.depth (X _ _ lk) Y S.co S.gen Y (PySem.W.codeRec_of X C) (hb _ _ _ _ ?_);refine wpAny_newFunctionEnv_cells S.kind j λenv he W x=>?_
 subst he;refine⟨lim.keeps x.toInCall.keep,codeAny_func ?_⟩;obtain⟨t,ht,hq⟩:=i A c s H f Q E (D.deeper _) p;have I:Inv (cf B P w K M base N qual scope a d A c s H E) [] (start N f) H W:=xr S D.hd m hl r x;refine acW (ht [] W (start N f) H _ I hq) (λfl G l=>?_) λe G l=>l
 have fin:∀{g:St} {h:Hp} {v:V} {u:Value},Inv (cf B P w K M base N qual scope a d A c s H E) [] g h G->RelV v u->Q v h->CE c P w H s Q u G:=
  λ{g h v u} J O q=>⟨v,h,J.os,J.bare,J.base,J.aL,O,q⟩
 cases fl with
 |ret u=>
  obtain⟨v,g,h,J,O,q⟩:=l;exact fin J O q
 |next=>
  obtain⟨g,h,J,q⟩:=l;exact fin (v:=V.non) (u:=Value.none) J Y q
 |brk=>
  obtain⟨_,_,_,q⟩:=l;exact False.elim q
 |cont=>
  obtain⟨_,_,_,q⟩:=l;exact False.elim q
section
variable {X:Cx}{x:Str}{p pos:Pos}{e:Expr}{es:List Expr}{t:TA}{id T:String}{r:List V->Hp->VK->Prop}
def Sz (r:List V->Hp->VK->Prop)(t:TA):TE:=λ c H Q=>t c H λb a=>r b a Q
theorem bA (g:jn X (.builtin id) r)(n:Gl X x)(m:X.mg x=none)(o:bootBuiltins x=some (.builtin id))(i:PA X (e::es) t)(l:x≠"__name__":=by decide)(c:(x==("__debug__":Str))=false:=by decide)
 (y:starEach (e::es) X.env=(false,eval e X.env)::starEach es X.env:=by rfl) (b:(backTo pos (starEach es X.env)).any (·.1)=false:=by rfl):PE X (.Call (.Name x p) (e::es) [] pos) (Sz r t):=by
 intro a s d H Q I h;refine adh (iw I n m o ?_ l c);exact PyProof.Rows.callWith_builtin1 (aY (i pos a s d H _ I h) λw j ⟨f,u,q,v,k⟩=>g a j d u f w Q q v k) y b
theorem eh (g:jn X (.type T) r)(n:Gl X x)(m:X.mg x=none)(o:bootBuiltins x=some (.type T))(i:PA X (e::es) t)(l:x≠"__name__":=by decide)(c:(x==("__debug__":Str))=false:=by decide)
 (y:starEach (e::es) X.env=(false,eval e X.env)::starEach es X.env:=by rfl) (b:(backTo pos (starEach es X.env)).any (·.1)=false:=by rfl):PE X (.Call (.Name x p) (e::es) [] pos) (Sz r t):=by
 intro a s d H Q I h;refine adh (iw I n m o ?_ l c);exact adk (aY (i pos a s d H _ I h) λw j ⟨f,u,q,v,k⟩=>g a j d u f w Q q v k) y b
end
end L2
namespace HT
open PySem PyProof.Rows
def lexLt:List Int->List Int->Bool
 |[],[]=>false
 |[],_::_=>true
 |_::_,[]=>false
 |x::a,y::ys=>if x=y then lexLt a ys else decide (x<y)
theorem uJ (x y:Int)(a ys:List Int):lexLt (x::a) (y::ys)=if x=y then lexLt a ys else decide (x<y):=rfl
theorem yi:lexLt [] []=false:=rfl
section
variable {prog:Program}{w:World}{A:Around}{E:Value->Shared->Prop}{s:Shared}
def cS (n d:Nat):Option Int->Nat
 |none=>d
 |some v=>if v<0 then (v+ (n:Int)).toNat else min v.toNat n
theorem Bf (n d k:Nat):cS n d (some (k:Int))=min k n:=by
 show (if (k:Int)<0 then ((k:Int)+ (n:Int)).toNat else min (k:Int).toNat n)=min k n;rw[acm (by omega),acY]
theorem Bg (v:Int)(n d:Nat):(if v<0 then max (v+ (n:Int)) 0 else min v (n:Int))=((cS n d (some v):Nat):Int):=by
 show (if v<0 then max (v+ (n:Int)) 0 else min v (n:Int))=(((if v<0 then (v+ (n:Int)).toNat else min v.toNat n):Nat):Int);by_cases a:v<0
 ·grind
 ·simp only[acm a];omega
theorem CH (lo a:Option Int)(n:Nat):Builtin.Slice.sliceAdjust lo a 1 (n:Int)=(((cS n 0 lo:Nat):Int),((cS n n a:Nat):Int)):=by
 have b:¬((1:Int)<0):=by omega
 unfold Builtin.Slice.sliceAdjust;refine Prod.ext ?_ ?_
 ·cases lo with
  |none=>rfl
  |some v=>exact Bg v n 0
 ·cases a with
  |none=>rfl
  |some v=>exact Bg v n n
theorem CJ (i j:Nat):Builtin.Slice.slicePlaces (i:Int) (j:Int) 1=j - i:=by
 unfold Builtin.Slice.slicePlaces;have a:(1:Int) > 0:=by omega
 split <;> omega
theorem uK {o:Option Int}{Q:Option Int->Shared->Prop}(p:IsPart v o)(h:Q o s):wpAny (model prog w) A (Builtin.Slice.slicePartIndex v) Q E s:=by
 cases p with
 |none=>exact slicePart_none h
 |int i t=>exact slicePart_int h
theorem lh {lo c:Option Int}{Q:Int×Int×Nat->Shared->Prop}(e:s.heap.IsSliceOf a v u .none)(pl:IsPart v lo)(g:IsPart u c)
 (h:Q (((cS n 0 lo:Nat):Int),1,cS n n c - cS n 0 lo) s):wpAny (model prog w) A (Builtin.Slice.sliceApplied (.ref a) (pure (n:Int))) Q E s:=by
 obtain⟨os,d,f,b⟩:=id e;refine ab1 (ab1 (ac4 d b (x:=v) Y (ab1 (ac4 d b (x:=u) Y (ab1 (ac4 d b (x:=.none) Y (ab7 ?_)))))));refine ab1 (slicePart_none ?_);refine ab1 (uK pl (ab1 (uK g (ab1 (ab7 ?_)))));show wpAny _ _ (match Builtin.Slice.sliceAdjust lo c 1 (n:Int) with|(lo,c)=>pure (lo,(1:Int),Builtin.Slice.slicePlaces lo c 1)) _ _ s;rw[CH lo c n];show wpAny _ _ (pure (((cS n 0 lo:Nat):Int),(1:Int),Builtin.Slice.slicePlaces ((cS n 0 lo:Nat):Int) ((cS n n c:Nat):Int) 1)) _ _ s;rw[CJ];exact ab7 h
theorem GA (xs:Array Value)(i k:Nat):((List.range k).filterMap λ(m:Nat)=>xs[((i:Int)+ (m:Int)* 1).toNat]?).toArray=((xs.toList.drop i).take k).toArray:=by
 have e:(λ(m:Nat)=>xs[((i:Int)+ (m:Int)* 1).toNat]?)=λm=>xs[i+ m]?:=by
  funext m
  have:((i:Int)+ (m:Int)* 1).toNat=i+ m:=by omega
  rw[this]
 rw[e];have:=pick_run xs i k;rw[List.filterMap_map]at this;have a:((λx=>xs[x]?) ∘ λx=>i+ x)=λm=>xs[i+ m]?:=rfl
 grind
theorem sE {items:Array Value}{lo d:Option Int}(e:IsTup s.heap a items)(k:s.heap.IsSliceOf b v u .none)(pl:IsPart v lo)(o:IsPart u d)
 (n:¬(cS items.size 0 lo=0/\cS items.size items.size d=items.size))
 (h:Q (.ref s.heap.objs.size) { s with heap:=s.heap.push { cls:=.type "tuple",data:=.seq ((items.toList.drop (cS items.size 0 lo)).take (cS items.size items.size d - cS items.size 0 lo)).toArray } })
 (p:items.size<=sizeLine):wpAny (model prog w) A (getItem (.ref a) (.ref b)) Q E s:=by
 have c:sizeOk (.seq ((items.toList.drop (cS items.size 0 lo)).take (cS items.size items.size d - cS items.size 0 lo)).toArray):=by
  show ((items.toList.drop (cS items.size 0 lo)).take (cS items.size items.size d - cS items.size 0 lo)).toArray.size<=sizeLine;rw[acs,acQ,ad5,ad1];omega
 obtain⟨os,f,i,l⟩:=id k;have g:s.TypeIs (.ref b) "slice":=⟨os,f,i⟩;unfold getItem
 try with_reducible refine ac1 ?_
 refine ab1 (wpAny_sequenceKey e.typeIs (by decide) ?_)
 refine ab1 (ac3 (name:=Str.ofString "__getitem__") e.typeIs ac9
  (ac8 ac9 e.typeIs entry_tuple_getitem ?_ (args_tuple_getitem _ _)))
 show wpAny _ _ (Builtin.Tuple.tupleItemsOf (.ref a) >>=_) _ _ s;refine ab1 (tupleItemsOf_ e ?_);refine ab1 (aev g ?_);refine ab1 (lh k pl o ?_)
 have j:¬((((cS items.size 0 lo:Nat):Int)==0 && (1:Int)==1 && (cS items.size items.size d - cS items.size 0 lo)==items.size)=true):=by
  intro q;rw[ad6,ad6]at q;have r:((cS items.size 0 lo:Nat):Int)=0:=eq_of_beq q.1.1;have t:cS items.size items.size d - cS items.size 0 lo=items.size:=eq_of_beq q.2;exact n ⟨by omega,by omega⟩
 show wpAny _ _ (if (((cS items.size 0 lo:Nat):Int)==0 && (1:Int)==1 && (cS items.size items.size d - cS items.size 0 lo)==items.size)=true then _ else _) _ _ s;rw[acm j,GA]
 first
  |exact ab1 (m:=Builtin.Tuple.tupleExact _) (acV (ab7 ⟨_,Y,ab7 h⟩) c)
  |exact ab1 (m:=Builtin.Tuple.tupleExact _) (acV (ab1 (ab7 (ab7 ⟨_,Y,ab7 h⟩))) c)
  |exact ab1 (ab1 (m:=Builtin.Tuple.tupleExact _) (acV (ab7 (ab7 ⟨_,Y,ab7 h⟩)) c))
  |exact ab1 (ab1 (m:=Builtin.Tuple.tupleExact _) (acV (ab7 ⟨_,Y,ab7 h⟩) c))
end
end HT
namespace L2
open PySem PySem.Spec PyProof.Rows
abbrev TO:=St->Hp->(Option Int->Hp->Prop)->Prop
def PO (X:Cx)(e:Option Expr)(t:TO):Prop:=
 ∀(a:List (Addr×Obj)) (s:Shared) (b:St) (H:Hp) (Q:Option Int->Hp->Prop),Inv X a b H s->t b H Q->
  wpAny (model X.prog X.w) X.A (evalPart e X.env) (λu d=>∃o c,Inv X a b c d/\IsPart u o/\Q o c) X.xe s
def Kv:TO:=λ_ H Q=>Q none H
def Q6 (t:TE):TO:=λ b H Q=>t b H λx a=>∃i,x=.int i/\Q (some i) a
section
variable {X:Cx}{e:Expr}{te:TE}{lo hi:Option Expr}{tl th:TO}{pos p2:Pos}
theorem Bh:PO X none Kv:=by
 intro a s b H Q I h;exact ab7 ⟨none,H,I,.none,h⟩
theorem Bi (h:PE X e te):PO X (some e) (Q6 te):=by
 intro a s j H Q I f;refine aY (h a s j H _ I f) λu k ⟨x,b,g,c,d⟩=>?_
 obtain⟨i,rfl,q⟩:=d;obtain⟨t,rfl⟩:=c;exact⟨some i,b,g,.int i t,q⟩
def MK (X:Cx)(r:V->Option Int->Option Int->Hp->VK->Prop):Prop:=
 ∀(a:List (Addr×Obj)) (s:Shared) (d:St) (H:Hp) (x:V) (v b f:Value) (lo hi:Option Int) (c:Addr) (Q:VK),Inv X a d H s->RelV x v->s.heap.IsSliceOf c b f .none->IsPart b lo->IsPart f hi->r x lo hi H Q->
  ∃T id,typeLookup (.type T) "__getitem__"=pure (some (.builtin id))/\s.TypeIs v T/\wpAny (model X.prog X.w) X.A (getItem v (.ref c)) (EP X a d Q) X.xe s
def Wo (r:V->Option Int->Option Int->Hp->VK->Prop)(te:TE)(tl th:TO):TE:=λ a H Q=>te a H λx b=>tl a b λl c=>th a c λu d=>r x l u d Q
theorem yK {r:V->Option Int->Option Int->Hp->VK->Prop}(k:MK X r)(F:PE X e te)(n:PO X lo tl)(i:PO X hi th):PE X (.Subscript e (.Slice lo hi none p2) pos) (Wo r te tl th):=by
 intro a s c H Q I h;refine Subscript_ (aY (F a s c H _ I h) λv m ⟨x,A,w,B,o⟩=>?_);refine wpAny_Slice (aY (n a m c A _ w o) λf J ⟨l,G,L,pl,D⟩=>aY (i a J c G _ L D) λd s3 ⟨u,g,j,t,E⟩=>?_);refine ab7 ?_;have C:Inv X a c g { s3 with heap:=s3.heap.push { cls:=.type "slice",data:=.fields #[f,d,.none] } }:=j.kept (t':=s3.toks) λb N q=>ab2 _ q
 obtain⟨T,id,p,z,y⟩:=k a { s3 with heap:=s3.heap.push { cls:=.type "slice",data:=.fields #[f,d,.none] } } c g x v f d l u s3.heap.objs.size Q C B (Heap.IsSliceOf.new ..) pl t E;exact tail_any (ops:=[.ref s3.heap.objs.size,v]) z p y (by with_unfolding_all rfl)
def lj (xs:List V)(lo hi:Option Int):List V:=(xs.drop (HT.cS xs.length 0 lo)).take (HT.cS xs.length xs.length hi - HT.cS xs.length 0 lo)
theorem AI (xs:List V)(lo hi:Option Int):(lj xs lo hi).length<=xs.length:=by
 unfold lj;rw[acQ,ad5];omega
inductive ML (K:Za1) (x:V) (lo:Option Int) (hi:Option Int) (H:Hp) (Q:VK):Prop
 |mk (a:Addr) (xs:List V):x=.ref a->bT K H a xs->¬(HT.cS xs.length 0 lo=0/\HT.cS xs.length xs.length hi=xs.length)->(∀p,H p=none->Q (.ref p) (upd H p (.tup (lj xs lo hi))))->ML K x lo hi H Q
theorem MN:MK X (ML X.K):=by
 intro f s u H x v y t lo hi n Q I j l pl k h;obtain⟨a,xs,rfl,m,i,q⟩:=h;cases j;obtain⟨c,r,d,g⟩:=I.tuple m;have hlen:c.toArray.size=xs.length:=by exact r.length.symm
 refine⟨"tuple",_,ac9.lookup,d.typeIs,?_⟩;refine HT.sE d l pl k (by rw[hlen];exact i) ?_ (by rw[hlen];exact g);rw[hlen];refine⟨.ref s.heap.objs.size,_,I.laid (t':=s.toks) (o:=.tup (lj xs lo hi)) (λb w q=>ab2 _ q) (aca _) ?_,Y,q _ (I.aL.fresh (aca _))⟩;exact⟨acr (AI xs lo hi) g,_,(r.drop (HT.cS xs.length 0 lo)).take (HT.cS xs.length xs.length hi - HT.cS xs.length 0 lo),IsTup.new _ _⟩
inductive Vl (K:Za1) (x:V) (y:V) (H:Hp) (Q:VK):Prop
 |mk (a b:Addr) (ns ms:List Int):x=.ref a->y=.ref b->bT K H a (ns.map V.int)->bT K H b (ms.map V.int)->Q (.bl (HT.lexLt ns ms)) H->Vl K x y H Q
inductive Q7 (K:Za1) (x:V) (y:V) (H:Hp) (Q:VK):Prop
 |mk (a b:Addr) (xs ys:List V):x=.ref a->y=.ref b->bT K H a xs->bT K H b ys->xs≠[]->xs.length+ ys.length<=sizeLine->(ys=[]->Q (.ref a) H)->(ys≠[]->∀p,H p=none->Q (.ref p) (upd H p (.tup (xs++ys))))->Q7 K x y H Q
end
def uL (n:Nat)(i:Int):Option Nat:=if 0<=i then (if i<n then some i.toNat else none) else if -(n:Int)<=i then some (i+ n).toNat else none
def lu {a:Type}(xs:List a)(i:Int):Option a:=(uL xs.length i).bind λj=>xs[j]?
theorem Bj (h:uL n z=some j):seqIndex? z n=some j/\j<n/\-(n:Int)<=z/\z<n:=by
 unfold uL at h;by_cases b:0<=z
 ·rw[acv b]at h;by_cases a:z<n
  ·rw[acv a]at h;have e:z.toNat=j:=Za0 h;exact⟨by rw[seqIndex_of b a,e],by omega,by omega,a⟩
  ·rw[acm a]at h;cases h
 ·rw[acm b]at h;by_cases a: -(n:Int)<=z
  ·rw[acv a]at h;have e:(z+ n).toNat=j:=Za0 h;exact⟨by rw[seqIndex_neg (by omega) a,e],by omega,a,by omega⟩
  ·rw[acm a]at h;cases h
theorem Bk {a:Type}{xs:List a}{v:a}(h:lu xs z=some v):∃j,seqIndex? z xs.length=some j/\xs[j]?=some v/\j<xs.length/\-(xs.length:Int)<=z/\z<xs.length:=by
 unfold lu at h
 cases e:uL xs.length z with
 |none=>rw[e]at h;cases h
 |some j=>
  rw[e]at h;obtain⟨f,b,d,c⟩:=Bj e;exact⟨j,f,h,b,d,c⟩
theorem dA {a:Type}{xs:List a}{v:a}(h:xs[j]?=some v):lu xs (j:Int)=some v:=by
 have b:j<xs.length:=(ab5.mp h).1
 have e:uL xs.length (j:Int)=some j:=by
  unfold uL;rw[acv (by omega),acv (by omega)];simp
 unfold lu;rw[e];exact h
def Kw (b:Expr):Prop:=∀o i,subscripted b false o i=operate [o,i] (getItem o i)
def DS (X:Cx)(r:R2):Prop:=
 ∀(value slice:Expr) (a:List (Addr×Obj)) (s:Shared) (b:St) (H:Hp) (x y:V) (v u:Value) (Q:VK),Inv X a b H s->RelV x v->RelV y u->r x y H Q->
  subscripted slice false v u=operate [v,u] (getItem v u)->wpAny (model X.prog X.w) X.A (subscriptTail value slice v u) (EP X a b Q) X.xe s
def IL (X:Cx)(id:String)(r:V->List V->Hp->VK->Prop):Prop:=
 ∀(a:List (Addr×Obj)) (s:Shared) (d:St) (H:Hp) (x:V) (c:List V) (v:Value) (b:List Value) (Q:VK),Inv X a d H s->RelV x v->Vals c b->r x c H Q->
  wpAny (model X.prog X.w) X.A (call (.builtin id) (v::b)) (EP X a d Q) X.xe s
section
variable {X:Cx}{a b:Expr}{ta tb:TE}{pos:Pos}
theorem bN {r:R2}(e:DS X r)(d:PE X a ta)(g:PE X b tb)(j:Kw b):PE X (.Subscript a b pos) (IK r ta tb):=by
 intro c s i H Q I h;exact Subscript_ (Gs d g I h λv u m x y l n f k q=>e a b c m i l x y v u Q n f k q (j _ _))
inductive GB (K:Za1) (x:V) (y:V) (H:Hp) (Q:VK):Prop
 |mk (p:Addr) (xs:List V) (i:Int) (v:V):x=.ref p->y=.int i->aI K H p xs->lu xs i=some v->Q v H->GB K x y H Q
inductive GC (K:Za1) (x:V) (y:V) (H:Hp) (Q:VK):Prop
 |mk (p:Addr) (xs:List V) (i:Int) (v:V):x=.ref p->y=.int i->bT K H p xs->lu xs i=some v->Q v H->GC K x y H Q
inductive Vm (x:V) (y:V) (H:Hp) (Q:VK):Prop
 |mk (z:Str) (i:Int) (c:Nat):x=.str z->y=.int i->z.length<=sizeLine->lu z.cps.toList i=some c->Q (.str ⟨#[c]⟩) H->Vm x y H Q
theorem bS:DS X (GB X.K):=by
 intro value slice c s m H x y v u Q I B F h n;obtain⟨p,L,i,z,rfl,rfl,C,J,q⟩:=h;cases B;obtain⟨t,rfl⟩:=F;obtain⟨e,r,pl,O⟩:=I.list C;obtain⟨j,d,D,N,G,o⟩:=Bk J;obtain⟨w,k,f⟩:=r.get D;have A:=r.length;have M:=qz;have fin:EP X c m Q w s:=⟨z,H,I,f,q⟩;by_cases l:0<=i
 ·have g:i.toNat=j:=by
   rw[seqIndex_of l o]at d;exact Za0 d
  exact item_listR pl.isList l (by omega) (by rw[g];simpa using k) fin n
 ·have g:(i+ (e.toArray.size:Int)).toNat=j:=by
   rw[seqIndex_neg (by omega) G]at d;rw[acs,<-A];exact Za0 d
  exact subscriptTail_builtinR (x:=w) pl.isList.typeIs slot_list_getitem.lookup
   (wpAny_getItem_list_neg (Q:=λr E=>r=w/\EP X c m Q r E) pl.isList (by omega) (by rw[acs] <;> omega) (by omega) (by rw[g];simpa using k) ⟨Y,fin⟩) n
theorem fH:DS X (GC X.K):=by
 intro value slice c s e H x y v u Q I k A h n;obtain⟨p,D,i,z,rfl,rfl,l,B,q⟩:=h;cases k;obtain⟨t,rfl⟩:=A;obtain⟨g,r,pl,L⟩:=I.tuple l;obtain⟨j,G,m,J,M,C⟩:=Bk B;obtain⟨w,f,d⟩:=r.get m;have E:=r.length;have F:=qz;have fin:EP X c e Q w s:=⟨z,H,I,d,q⟩
 exact subscriptTail_builtinR (x:=w) pl.typeIs slot_tuple_getitem.lookup
  (getItem_tuple (j:=j) (Q:=λr o=>r=w/\EP X c e Q r o) pl (by omega) (by omega) (by grind) (by simpa using f) ⟨Y,fin⟩) n
theorem CK (c:List Value)(n j:Nat)(u:Value):Obj.mapSeq (·.setIfInBounds j u) { cls:=.type "list",data:=.seq c.toArray n }={ cls:=.type "list",data:=.seq (c.set j u).toArray n }:=by
 simp[Obj.mapSeq]
theorem Inv.lst {xs:List V}(I:Inv X o D H s)(h:H c=some (.lst xs)):
 ∃(d:List Value) (n:Nat),Vals xs d/\s.heap.get? c=some { cls:=.type "list",data:=.seq d.toArray n }/\xs.length<=sizeLine:=by
 obtain⟨z,d,n,r,e⟩:=I.aL c _ h;exact⟨d,n,r,e,z⟩
theorem Inv.MP {ys:List V}{d:List Value}{f:Obj->Obj}(I:Inv X o D H s)(h:H c=some (.lst L))
 (j:s.heap.get? c=some { cls:=.type "list",data:=.seq N.toArray n }) (g:f { cls:=.type "list",data:=.seq N.toArray n }={ cls:=.type "list",data:=.seq d.toArray m }) (r:Vals ys d) (hz:ys.length<=sizeLine) (t:Nat):
 Inv X o D (upd H c (.lst ys)) { s with heap:=s.heap.update c f,toks:=t }:=by
 have e:(s.heap.update c f).get? c=some { cls:=.type "list",data:=.seq d.toArray m }:=by
  rw[acL f j (by rw[g] <;> rfl),g]
 refine I.write (x:=c) (e:=c) (by rw[h];trivial) (.inl Y) (λb u i q=>(acM _ _ (adn i)).trans q) ⟨_,e⟩ ?_;exact⟨hz,d,m,r,e⟩
inductive IQ (o:V) (i:V) (v:V) (H:Hp) (Q:(Hp->Prop)):Prop
 |mk (p:Addr) (xs:List V) (k:Int) (j:Nat):o=.ref p->i=.int k->H p=some (.lst xs)->uL xs.length k=some j->Q (upd H p (.lst (xs.set j v)))->IQ o i v H Q
theorem set_list:Ms X IQ:=by
 intro d s A H o i v G J u Q I C E F h;obtain⟨p,xs,k,j,rfl,rfl,y,B,q⟩:=h;cases C;obtain⟨t,rfl⟩:=E;obtain⟨c,n,r,l,D⟩:=I.lst y;obtain⟨e,M,x,z⟩:=Bj B;have g:=r.length;have L:=qz
 have m:Inv X d A (upd H p (.lst (xs.set j v))) { s with heap:=s.heap.update p (Obj.mapSeq (·.setIfInBounds j u)) }:=
  I.MP y l (CK c n j u) (r.set F j) (by rw[acx];exact D) s.toks
 by_cases w:0<=k
 ·have f:k.toNat=j:=by
   rw[seqIndex_of w z]at e;exact Za0 e
  exact PySem.W.ki_setAt l w (by omega) (by rw[acs,<-g];exact z) (by rw[f];exact⟨_,m,q⟩)
 ·have f:(k+ (c.toArray.size:Int)).toNat=j:=by
   rw[seqIndex_neg (by omega) x]at e;rw[acs,<-g];exact Za0 e
  exact PySem.W.ki_setBack l (by omega) (by rw[acs,<-g];exact x) (by omega) (by rw[f];exact⟨_,m,q⟩)
inductive Vn (K:Za1) (x:V) (lo:Option Int) (hi:Option Int) (H:Hp) (Q:VK):Prop
 |mk (a:Addr) (xs:List V):x=.ref a->aI K H a xs->(∀p,H p=none->Q (.ref p) (upd H p (.lst (lj xs lo hi))))->Vn K x lo hi H Q
def IU:V->Bool
 |.non=>true
 |.bl _=>true
 |.int _=>true
 |.str _=>true
 |_=>false
def Wq:V->V->Bool
 |.non,.non=>true
 |.bl a,.bl b=>a==b
 |.bl a,.int b=>(if a then 1 else 0)==b
 |.int a,.bl b=>a==(if b then 1 else 0)
 |.int a,.int b=>a==b
 |.str a,.str b=>a==b
 |_,_=>false
def SD (x:V)(xs:List V):Bool:=xs.any λy=>Wq y x
inductive Wr (K:Za1) (neg:Bool) (x:V) (y:V) (H:Hp) (Q:VK):Prop
 |mk (p:Addr) (xs:List V):y=.ref p->(aI K H p xs\/bT K H p xs)->IU x=true->xs.all IU=true->Q (.bl (if neg then !SD x xs else SD x xs)) H->Wr K neg x y H Q
inductive CL (K:Za1) (xs:List V) (H:Hp) (Q:VK):Prop
 |mk (p:Addr) (ys:List V):xs=[.ref p]->(aI K H p ys\/bT K H p ys)->Q (.int ys.length) H->CL K xs H Q
theorem bM:jn X (.builtin "len") (CL X.K):=by
 intro f s l H j m Q I r h;obtain⟨p,ys,rfl,c,q⟩:=h;obtain⟨u,rfl,g⟩:=vals1 r;cases g;have k:=qz;rcases c with c|c
 ·obtain⟨d,e,pl,i⟩:=I.list c;have hlen:=e.length;exact Calls.call_len_list pl.isList (by simp only[acs] <;> omega) ⟨.int ys.length,H,I.tok _,⟨s.toks+ 1,by grind⟩,q⟩
 ·obtain⟨d,e,pl,i⟩:=I.tuple c;have hlen:=e.length;exact len_tuple pl (by simp only[acs] <;> omega) ⟨.int ys.length,H,I.tok _,⟨s.toks+ 1,by grind⟩,q⟩
theorem lz:jn X (.type "list") (λw H Q=>∃p ys,w=[.ref p]/\(aI X.K H p ys\/bT X.K H p ys)/\∀l,H l=none->Q (.ref l) (upd H l (.lst ys))):=by
 intro j s z H w B Q I r h;obtain⟨p,ys,rfl,i,q⟩:=h;obtain⟨u,rfl,y⟩:=vals1 r;cases y
 have fin:∀(c:List Value),Vals ys c->ys.length<=sizeLine->∀(d:Heap) (g:Nat),(∀b x,s.heap.get? b=some x->d.get? b=some x)->
  d.get? s.heap.objs.size=some { cls:=.type "list",dict:=none,data:=.seq c.toArray g,slots:=#[] }->EP X j z Q (.ref s.heap.objs.size) { s with heap:=d }:=λc f k d g kp e=>
  ⟨.ref s.heap.objs.size,_,I.laid (t':=s.toks) kp (aca _) (show bU X.prog X.w _ d _ (.lst ys) from ⟨k,c,g,f,e⟩),Y,q _ (I.aL.fresh (aca _))⟩
 rcases i with i|i
 ·obtain⟨c,f,pl,k⟩:=I.list i;have hlen:=f.length;obtain⟨o,v,m,n,t⟩:=pl.isList;exact call_list_seq p (.inl Y) v m t (λd g kp e=>fin c f k d g kp e) (by simp only[acs] <;> omega)
 ·obtain⟨c,f,pl,k⟩:=I.tuple i;have hlen:=f.length;obtain⟨o,v,m,n,t⟩:=pl;exact call_list_seq p (.inr Y) v m t (λd g kp e=>fin c f k d g kp e) (by simp only[acs] <;> omega)
theorem pP:jn X (.type "tuple") (λj H Q=>∃p ys,j=[.ref p]/\((aI X.K H p ys/\∀l,H l=none->Q (.ref l) (upd H l (.tup ys)))\/(bT X.K H p ys/\Q (.ref p) H))):=by
 intro c s k H j x Q I r h;obtain⟨p,ys,rfl,h⟩:=h;obtain⟨u,rfl,v⟩:=vals1 r;cases v;rcases h with ⟨g,q⟩|⟨g,q⟩
 ·obtain⟨d,i,pl,n⟩:=I.list g;have hlen:=i.length;refine call_tuple_list pl.isList (λf kp=>?_) (by simp only[acs] <;> omega);have m:Inv X c k H { s with heap:=f }:=I.kept (t':=s.toks) kp
  have w:Inv X c k (upd H f.objs.size (.tup ys)) { s with heap:=f.push { cls:=.type "tuple",data:=.seq d.toArray } }:=
   m.laid (t':=s.toks) (λb o e=>ab2 _ e) (aca _) (show bU X.prog X.w _ _ _ (.tup ys) from ⟨n,d,i,IsTup.new _ _⟩)
  exact⟨.ref f.objs.size,_,w,Y,q _ (m.aL.fresh (aca _))⟩
 ·obtain⟨d,i,pl,n⟩:=I.tuple g;exact call_tuple_same pl ⟨.ref p,H,I,Y,q⟩
def MQ (K:Za1)(T:String)(x:V)(H:Hp):Prop:=match x with
 |.str _=>T="str"
 |.int _=>T="int"
 |.ref p=>(T="list"/\∃d,aI K H p d)\/(T="tuple"/\∃o,K.lookup p=some o/\o.cls=.type "tuple"/\o.dict=none)\/
  (T="dict"/\((∃c,H p=some (.dK c))\/∃c,H p=some (.dT c)))\/(T="set"/\∃S n,H p=some (.set S n))
 |_=>False
theorem DT {T:String}{x:V}(I:Inv X o D H s)(r:RelV x v)(g:MQ X.K T x H):
 s.TypeIs v T/\∀a,v=.ref a->∃l,s.heap.get? a=some l/\l.dict=none:=by
 cases x with
 |str z=>
  obtain⟨t,rfl⟩:=r;cases (show T="str" from g);exact⟨typeIs_str s z t,λ_ e=>nomatch e⟩
 |int i=>
  obtain⟨t,rfl⟩:=r;cases (show T="int" from g);exact⟨typeIs_int s i t,λ_ e=>nomatch e⟩
 |ref p=>
  cases r;rcases g with ⟨rfl,w,u⟩|⟨rfl,d,f,m,j⟩|⟨rfl,f⟩|⟨rfl,S,n,f⟩
  ·obtain⟨q,_,pl,_⟩:=I.list u;refine⟨pl.isList.typeIs,λa e=>?_⟩;cases e;obtain⟨d,n,e,c,j,_⟩:=pl;exact⟨d,e,j⟩
  ·refine⟨⟨d,I.cZ p d f,m⟩,λa e=>?_⟩;cases e;exact⟨d,I.cZ _ d f,j⟩
  ·have z:∃d,s.heap.get? p=some d/\d.ExactDict:=by
    rcases f with ⟨h,f⟩|⟨h,f⟩
    ·obtain⟨_,_,_,_,d,_,_,e,ex,_⟩:=I.aL p _ f;exact⟨d,e,ex⟩
    ·obtain⟨_,_,_,_,d,_,_,e,ex,_⟩:=I.aL p _ f;exact⟨d,e,ex⟩
   obtain⟨d,e,ex⟩:=z;refine⟨⟨d,e,ex.1⟩,λa k=>?_⟩;cases k;exact⟨d,e,ex.2.1⟩
  ·obtain⟨d,_,_,_,e,ex,_⟩:=I.aL p _ f;refine⟨⟨d,e,ex.1⟩,λa k=>?_⟩;cases k;exact⟨d,e,ex.2.1⟩
 |_=>exact False.elim g
def Vo (K:Za1)(T:String)(r:V->List V->Hp->VK->Prop)(to:TE):TE:=λ d H Q=>to d H λx c=>MQ K T x c/\r x [] c Q
def SF (K:Za1)(T:String)(r:V->List V->Hp->VK->Prop)(to:TE)(t:TA):TE:=λ c H Q=>to c H λx d=>MQ K T x d/\t c d λe f=>r x e f Q
variable {o e:Expr}{es:List Expr}{to:TE}{t:TA}{name:Str}{apos bX:Pos}{T id:String}{r:V->List V->Hp->VK->Prop}
theorem DU (k:PlainAttrs T)(slot:Slot T name id)(f:typeOf (.builtin id)=pure (.type "method_descriptor"))(p:IL X id r)(y:PE X o to)
 (d:attributeBase o name X.env (eval o X.env)=eval o X.env:=by rfl) (hline:(apos.endLine==bX.line)=true:=by rfl):PE X (.Call (.Attribute o name apos) [] [] bX) (Vo X.K T r to):=by
 intro c s i H Q I h;refine wpAny_Call_method0_late d hline (aY (y c s i H _ I h) λv m ⟨x,w,g,j,l,n⟩=>?_);obtain⟨q,u⟩:=DT g j l;exact⟨T,id,k,slot,f,q,u,ac6 Y (PySem.evalArgs_none (p c m i w x [] v [] Q g j .nil n))⟩
theorem dP (n:PlainAttrs T)(slot:Slot T name id)(j:typeOf (.builtin id)=pure (.type "method_descriptor"))(z:IL X id r)(F:PE X o to)(u:PA X (e::es) t)
 (f:attributeBase o name X.env (eval o X.env)=eval o X.env:=by rfl)
 (g:((backTo bX (starEach (e::es) X.env)).all (λx=>!x.1) && (backToKw bX (keywordEach [] X.env)).all (λx=>x.1.isSome)
  && decide ((e::es).length+ ([]:List Keyword).length+ (if ([]:List Keyword).isEmpty then 0 else 1)<30))=true:=by rfl)
 (hline:(apos.endLine==bX.line)=true:=by rfl) (D:starEach (e::es) X.env=(false,eval e X.env)::starEach es X.env:=by rfl) (d:(backTo bX (starEach es X.env)).any (·.1)=false:=by rfl):
 PE X (.Call (.Attribute o name apos) (e::es) [] bX) (SF X.K T r to t):=by
 intro c s i H Q I h;refine wpAny_Call_method_late f g hline Y (aY (F c s i H _ I h) λv w ⟨x,C,l,m,p,y⟩=>?_);obtain⟨A,B⟩:=DT l m p;refine⟨T,id,n,slot,j,A,B,?_⟩;have k:=u bX c w i C _ l y;rw[D]at k ⊢;refine ac6 (by show (false || (backTo bX (starEach es X.env)).any (·.1))=false;rw[d] <;> rfl) (adE ?_);exact aY k λJ M ⟨q,L,N,E,G⟩=>z c M i L x q v J Q N m E G
/- xs.append(e),list.index on a module's tuple .. are IL facts of 06m -/
end
def IV (X:Cx)(id:String)(r:V->List V->Hp->VK->Prop):Prop:=
 ∀(a:List (Addr×Obj)) (s:Shared) (d:St) (H:Hp) (x:V) (c:List V) (v:Value) (b:List Value) (Q:VK),Inv X a d H s->RelV x v->Vals c b->r x c H Q->
  wpAny (model X.prog X.w) X.A (call (.builtin id) (v::b)) (EP X a d Q) X.xe s
theorem Vals.one:∀{x:V} {a:List Value},Vals [x] a->∃u,a=[u]/\RelV x u
 |_,_,.cons r .nil=>⟨_,Y,r⟩
theorem Vals.zero:∀{a:List Value},Vals [] a->a=[]
 |_,.nil=>rfl
theorem Vals.dropLast {xs:List V}{us:List Value}(h:Vals xs us):Vals xs.dropLast us.dropLast:=by
 induction h with
 |nil=>exact .nil
 |cons r t a=>
  cases t with
  |nil=>exact .nil
  |cons q b=>exact .cons r a
theorem Vals.rep (h:Vals L N):∀k:Nat,Vals (List.replicate k L).flatten (List.replicate k N).flatten
 |0=>.nil
 |k+ 1=>by
  exact Vals.append h (Vals.rep h k)
theorem foldl_rep (a:List Value):∀(k:Nat) (acc:List Value),
 List.foldl (λb c=>b++c) acc.toArray (List.replicate k a.toArray)=(acc++(List.replicate k a).flatten).toArray
 |0,acc=>by simp
 |k+ 1,acc=>by
  have e:acc.toArray++a.toArray=(acc++a).toArray:=by simp
  have d:(acc++a)++(List.replicate k a).flatten=acc++(List.replicate (k+ 1) a).flatten:=by
   rw[List.replicate_succ,List.flatten_cons,adb]
  rw[<-d,<-foldl_rep a k (acc++a),<-e,List.replicate_succ,List.foldl_cons]
section
variable {X:Cx}{pins:List (Addr×Obj)}{σ:St}{H:Hp}{s:Shared}{l:Addr}{xs ys:List V}
theorem Inv.GD {GF:List Value}{f:Array Value->Array Value}(I:Inv X pins σ H s)(c:H l=some (.lst xs))
 (e:s.heap.get? l=some { cls:=.type "list",data:=.seq N.toArray n }) (h:f N.toArray=GF.toArray) (d:Vals ys GF) (hz:ys.length<=sizeLine):
 Inv X pins σ (upd H l (.lst ys)) { s with heap:=s.heap.update l (Obj.mapSeq f),toks:=m }:=by
 have q:=PySem.IsL.update e f;rw[h]at q;refine I.write (x:=l) (e:=l) (by rw[c];exact trivial) (.inl Y) (λi u g a=>(acM s.heap (Obj.mapSeq f) (adn g)).trans a) ⟨_,q⟩ ?_;exact⟨hz,GF,_,d,q⟩
theorem Inv.Vp {t':Nat}(I:Inv X pins σ H s)(a:Vals ys N)(hz:ys.length<=sizeLine):
 Inv X pins σ (upd H s.heap.objs.size (.lst ys)) { s with heap:=s.heap.push { cls:=.type "list",data:=.seq N.toArray },toks:=t' }:=
 I.laid (λ_ _ q=>ab2 _ q) (aca _) ⟨hz,N,0,a,acf _ Y⟩
theorem Inv.fresh (I:Inv X pins σ H s):H s.heap.objs.size=none:=I.aL.fresh (aca _)
theorem Inv.t4 (I:Inv X pins σ H s)(c:H l=some (.lst xs)):xs.length<=sizeLine/\∃(a:List Value) (n:Nat),Vals xs a/\xs.length=a.length/\s.heap.get? l=some { cls:=.type "list",data:=.seq a.toArray n }:=by
 obtain⟨z,a,n,r,e⟩:=I.aL l _ c;exact⟨z,a,n,r,r.length,e⟩
theorem GH (h:n<=sizeLine):Builtin.List.listTooLong n=false:=by
 exact acU (by omega)
end
section
variable {X:Cx}
inductive Bl (x:V) (vs:List V) (H:Hp) (Q:VK):Prop
 |mk (l:Addr) (xs:List V) (y:V):x=.ref l->vs=[y]->H l=some (.lst xs)->xs.length<sizeLine->Q .non (upd H l (.lst (xs++[y])))->Bl x vs H Q
theorem cu:IV X "list.append" Bl:=by
 intro b s o H x j v t Q I f g h;obtain⟨l,k,y,rfl,rfl,c,p,q⟩:=h;cases f;obtain⟨u,rfl,i⟩:=g.one;obtain⟨z,a,n,r,m,e⟩:=I.t4 c;refine call_meets F.slot_list_append ⟨_,e,Y⟩ F.entry_list_append (F.args_list_append_2 _ _) (PySem.list_append l a.toArray n u (by rw[acs];omega)) ⟨e,?_⟩;refine⟨.non,_,I.GD (GF:=a++[u]) c e (by simp) (r.append (.cons i .nil)) ?_,Y,q⟩;rw[ab6,ada];omega
inductive wz (x:V) (vs:List V) (H:Hp) (Q:VK):Prop
 |mk (l b:Addr) (xs zs:List V):x=.ref l->vs=[.ref b]->H l=some (.lst xs)->H b=some (.lst zs)->xs.length+ zs.length<=sizeLine->Q .non (upd H l (.lst (xs++zs)))->wz x vs H Q
theorem xt:IV X "list.extend" wz:=by
 intro g s E H x B v L Q I m t h;obtain⟨l,b,C,G,rfl,rfl,i,y,J,q⟩:=h;cases m;obtain⟨u,rfl,A⟩:=t.one;cases A;obtain⟨z,c,n,r,D,e⟩:=I.t4 i;obtain⟨z2,a,k,o,p,w⟩:=I.t4 y;have f:c.toArray.size+ a.toArray.size<=sizeLine:=by rw[acs,acs];omega
 have d:¬(!c.toArray.isEmpty && Builtin.List.listTooLong (c.toArray.size+ a.toArray.size))=true:=by
  rw[GH f,Bool.and_false];exact acP
 refine call_meets F.slot_list_extend ⟨_,e,Y⟩ F.entry_list_extend (F.args_list_extend_2 _ _)
  (AutoSeq1.list_extend_list_list_0 l c.toArray n b a.toArray k d (by omega) (by omega)) ⟨e,w,?_⟩
 refine⟨.non,_,I.GD (GF:=c++a) i e (by simp) (r.append o) ?_,Y,q⟩;rw[ab6];omega
inductive MR (x:V) (vs:List V) (H:Hp) (Q:VK):Prop
 |mk (l:Addr) (xs:List V) (y:V):x=.ref l->vs=[]->H l=some (.lst xs)->xs[xs.length - 1]?=some y->Q y (upd H l (.lst xs.dropLast))->MR x vs H Q
theorem DV:IV X "list.pop" MR:=by
 intro d s A H x t v B Q I k o h;obtain⟨l,w,y,rfl,rfl,f,m,q⟩:=h;cases k;have c:=o.zero;subst c;obtain⟨z,a,n,r,j,e⟩:=I.t4 f;obtain⟨u,i,p⟩:=r.get m
 have b:a.toArray[a.toArray.size - 1]?=some u:=by
  show a.toArray[a.length - 1]?=some u
  rw[<-aeL,<-j];exact i
 refine call_meets F.slot_list_pop ⟨_,e,Y⟩ F.entry_list_pop (F.args_list_pop_1 _) (MeetsSeq.list_pop_last l a.toArray n u b (by rw[acs];omega)) ⟨e,?_⟩;refine⟨y,_,I.GD (GF:=a.dropLast) f e ?_ r.dropLast ?_,p,q⟩
 ·grind
 ·rw[List.length_dropLast];omega
inductive MS (x:V) (vs:List V) (H:Hp) (Q:VK):Prop
 |mk (l:Addr) (xs:List V) (i:Int) (k:Nat) (y:V):x=.ref l->vs=[.int i]->H l=some (.lst xs)-> -(2 ^ 63)<=i->i<2 ^ 63->seqIndex? i xs.length=some k->xs[k]?=some y->Q y (upd H l (.lst (xs.eraseIdx k)))->MS x vs H Q
inductive MT (x:V) (vs:List V) (H:Hp) (Q:VK):Prop
 |mk (l:Addr) (xs:List V):x=.ref l->vs=[]->H l=some (.lst xs)->Q .non (upd H l (.lst []))->MT x vs H Q
inductive MV (x:V) (y:V) (H:Hp) (Q:VK):Prop
 |mk (l b:Addr) (xs zs:List V):x=.ref l->y=.ref b->H l=some (.lst xs)->H b=some (.lst zs)->xs.length+ zs.length<=sizeLine->(∀p,H p=none->Q (.ref p) (upd H p (.lst (xs++zs))))->MV x y H Q
theorem MX:gR X (binaryOp .Add) MV:=by
 intro d s C H x y v u Q I f k h;obtain⟨l,b,w,D,rfl,rfl,m,p,E,q⟩:=h;cases f;cases k;obtain⟨z,c,n,r,B,e⟩:=I.t4 m;obtain⟨z2,a,t,i,j,o⟩:=I.t4 p;refine PySem.P.add_list e o ?_ (by rw[acs,acs];omega);have g:c.toArray++a.toArray=(c++a).toArray:=by simp
 rw[g];exact⟨.ref _,_,I.Vp (t':=s.toks) (r.append i) (by rw[ab6];omega),Y,q _ I.fresh⟩
inductive Vq (x:V) (y:V) (H:Hp) (Q:VK):Prop
 |mk (l:Addr) (k:Int) (xs:List V):x=.ref l->y=.int k->H l=some (.lst xs)-> -(2 ^ 63)<=k->k<2 ^ 63->xs.length* k.toNat<=sizeLine->(∀p,H p=none->Q (.ref p) (upd H p (.lst (List.replicate k.toNat xs).flatten)))->Vq x y H Q
theorem len_rep {a:Type}(xs:List a)(k:Nat):(List.replicate k xs).flatten.length=k* xs.length:=by
 induction k with
 |zero=>simp
 |succ k b=>grind
end
end L2
namespace Att
open PySem PySem.W PySem.Calls PyProof.Rows
theorem uM {P:Params}:∀(ns:List Int) (c:List Value),WellAll P h c (ns.map WData.int)->IntsAre c ns:=by
 intro ns
 induction ns with
 |nil=>
  intro c w;cases w;exact .nil
 |cons n ns d=>
  intro c w
  cases w with
  |cons a b=>
   cases a;exact .cons _ _ (d _ b)
theorem DW {l:OpenLaw}(t:l.most=some n){P:Params}{h:Heap}{b:List WData}{e:List Value}
 (c:l.row.toRowW.claim.pre b=true) (k:WellAll P h e b):
 ∃a m ns,e=[Value.ref a]/\b=[WData.list (ns.map WData.int)]/\h.get? a=some { cls:=.type "list",data:=.seq m.toArray }/\IntsAre m ns/\ns.length<=n:=by
 have j:WShape.hasAll [] b [.list .int]=true:=(pre_splitW c).1;have p:l.pre.holds [] { args:=b }=true:=(pre_splitW c).2;obtain⟨d,r,rfl,u,v⟩:=hasAllW_cons j;obtain rfl:=hasAllW_nil v;obtain⟨y,rfl,w⟩:=hasW_list u;obtain⟨ns,rfl⟩:=items_int w
 have hlen:ns.length<=n:=by
  have g:(WTm.not (.lt (.lit (.int (n:Int))) (.len (.arg 0)))).holds [] { args:=[.list (ns.map .int)] }=true:=by
   have g:=(holds_andW p).1;rw[t]at g;exact g
  have i:=condW_of g (w_not (w_lt w_lit (w_len_list (w_arg Y))));refine Nat.le_of_not_lt λq=>?_
  first
   |(rw[acy z]at i;exact absurd i (by decide))
   |(simp at i;omega)
 cases k with
 |cons o s=>
  cases s
  cases o with
  |list x f=>exact⟨_,_,ns,Y,Y,x,uM ns _ f,hlen⟩
theorem DX (l:OpenLaw)(a:List WData):l.row.toRowW.claim.post a (.bool true) a=true:=
 postW_of (r:=l.row.toRowW) (X:=(true==true))
  (show WShape.has [] (.bool true) .bool=true by first|rfl|decide|simp[WShape.has,WShape.arms,WShape.armsAll])
  (show (WTm.eq .res (.lit (.bool true))).value [] { args:=a,res:=some (.bool true),after:=a }=some (.bool (true==true)) from w_eq_bool (w_res Y) w_lit) rfl
theorem AJ {l:OpenLaw}{loose:List Str}{XP:(Str->Option Value)->Heap->Prop}{y:World->Heap->Prop}{d:DefRec}
 (B:l.most=some n) (s:d.params.defaults=[])
 (call:∀(w:World) (c b:Shared) (m p:Str->Option Value) (i:Addr) (o:Obj) (u j doc:Value) (a:Addr) (e:List Value) (ns:List Int),
  Ground P loose [] XP w c m p b.heap->y w b.heap->
  b.heap.get? i=some o->o.data=.func (docDef d.name d.params d.body d.scope u j doc)->b.heap.CodeRec j d.name->m d.name=some (.ref i)->
  b.heap.get? a=some { cls:=.type "list",data:=.seq e.toArray }->IntsAre e ns->ns.length<=n->b.gens=#[]->
  codeAny (model l.prog w) callerA (.call (.ref i) ⟨[.ref a],[]⟩) (λr k=>r=.ok (.ret (.bool true))/\OldK b.heap k.heap/\k.os=b.os/\AllBare k.gens) b):
 WalkO P loose XP y l.row.toRowW d [] (λf e=>PySem.call f e):=by
 intro w c b m p G Y i o u j doc L kV M D q z t F x A as h hlay I v O;obtain rfl:L=.none:=Dflts.none z s;obtain rfl:kV=.none:=Dflts.noKw z;obtain⟨a,e,ns,rfl,rfl,g,hints,hlen⟩:=DW B h v;refine enter_call (aeu (call w c b m p i o u j doc a e ns G Y M (fd_plain D) q t g hints hlen F) λr k E=>?_);obtain⟨rfl,H,J,N⟩:=E;exact⟨.inl ⟨.bool true,.bool true,[],rfl,λ_=>rfl,.bool true,DX l _,λ_=>⟨List.Pairwise.nil,λ_ C=>(nomatch C)⟩⟩,H,J,N⟩
end Att
namespace L2
open PySem PySem.Spec PyProof.Rows
theorem xu:∀{a:List Value} {ns:List Int},IntsAre a ns->Vals (ns.map V.int) a
 |_,_,.nil=>.nil
 |_,_,.cons n t h=>.cons ⟨t,Y⟩ (xu h)
def inClass (s:Stmt)(j:Nat):Stmt:=match s with
 |.ClassDef _ _ _ body _ _ _ _ _ _ _=>body.getD j (.Pass ⟨0,0,0,0⟩)
 |_=>.Pass ⟨0,0,0,0⟩
def dv (s:Stmt):Arguments:=match s with
 |.FunctionDef _ a _ _ _ _ _ _ _ _=>a
 |_=>{ posonlyargs:=[],args:=[],vararg:=none,kwonlyargs:=[],kw_defaults:=[],kwarg:=none,defaults:=[] }
def cI (s:Stmt):List Stmt:=match s with
 |.FunctionDef _ _ b _ _ _ _ _ _ _=>b
 |_=>[]
def aD (s:Stmt):Scope:=match s with
 |.FunctionDef _ _ _ _ _ _ a _ _ _=>a
 |_=>{ kind:=.function,names:=[],isGenerator:=false,isCoroutine:=false }
abbrev SG:kJ:=λ_ _ _ _ _ _=>False
abbrev E0:XK:=λ_ _ _=>False
structure qA (K:Za1) (x qual:Str) (st:Stmt) (f:Addr) (fd:FuncData):Prop where
 ex:∃(oc:Value) (od:Option Addr) (kV doc pm:Value) (an:Option Addr) (cy ct:Value) (yL:Array (Option Value)),
  fd=PySem.W.fnOf x qual (dv st) (cI st) (aD st) .none kV doc pm an cy ct/\K.lookup f=some ⟨oc,od,.func fd,yL⟩/\PySem.W.codeIn K cy qual=true
 kp:PySem.W.keepIn K (.ref f)=true
section
variable {K:Za1}
theorem qA.binds {qual:Str}{st:Stmt}{fd:FuncData}{ps:List Str}(F:qA K x qual st a fd)
 (h:∀(kV doc pm:Value) (c:Option Addr) (b ct:Value) (us:List Value),us.length=ps.length->bindArgs (PySem.W.fnOf x qual (dv st) (cI st) (aD st) .none kV doc pm c b ct) ⟨us,[]⟩=pure (ps.zip us)):Binds K fd ps []:=by
 obtain⟨f,g,kV,doc,pm,c,b,ct,e,rfl,lk,d⟩:=F.ex;exact .all (h kV doc pm c b ct)
theorem DY {qual:Str}{st:Stmt}{g e:Option Addr}{d:Array (Option Value)}{kV doc b f:Value}(l:K.lookup a=some ⟨v,g,.func (PySem.W.fnOf x qual (dv st) (cI st) (aD st) .none kV doc u e b f),d⟩)
 (c:PySem.W.codeIn K b qual=true) (k:PySem.W.keepIn K (.ref a)=true):qA K x qual st a (PySem.W.fnOf x qual (dv st) (cI st) (aD st) .none kV doc u e b f):=⟨⟨v,g,kV,doc,u,e,b,f,d,Y,l,c⟩,k⟩
end
theorem jW {k:Nat}(a:cH k A):A.units+ 1<cLine:=ace (Nat.add_le_add_left (by decide:1<=64) _) a.units
section
variable {X:Cx}
theorem pv (i:Nat){x:Str}{b:Pos}(c:X.N[i]?=some x:=by rfl)(e:Mi X.env.scope x:=by first|exact Or.inl rfl|exact Or.inr (Or.inl rfl)|exact Or.inr (Or.inr rfl))(d:(x==("__debug__":Str))=false:=by decide)
 (a:(x==("__classdict__":Str))=false:=by decide):PE X (.Name x b) (iK i):=Ml c e d a
end
theorem dc {A B:Prop}(h:B):if false=true then A else B:=by
 grind
theorem iL {A B:Prop}(h:A):if true=true then A else B:=by
 grind
theorem df {c A B:Prop} [Decidable c](b:c->A)(a:¬c->B):if c then A else B:=by
 grind
theorem uN {c A B:Prop} [Decidable c](a:c)(h:B):if (!decide c)=true then A else B:=by
 grind
def ay (H a:Hp):Prop:=∀b o,H b=some o->a b=some o
theorem ay.refl (H:Hp):ay H H:=λ_ _ h=>h
theorem ay.trans (a:ay H I)(b:ay I J):ay H J:=λc o h=>b c o (a c o h)
theorem ay.free (e:ay H I){l:Addr}(h:I l=Option.none):H l=Option.none:=by
 cases q:H l with
 |none=>rfl
 |some o=>
  rw[e l o q]at h;cases h
theorem ay.seq (e:ay H I)(h:aI K H a L):aI K I a L:=by
 rcases h with (h|⟨o,h⟩)|h
 ·exact .inl (.inl (e _ _ h))
 ·exact .inl (.inr ⟨o,e _ _ h⟩)
 ·exact .inr h
end L2
namespace L2
open PySem PySem.Spec PyProof.Rows
section
variable {prog:Program}{w:World}{A:Around}{R:Result->Shared->Prop}{s:Shared}
theorem AK {elt target iter:Expr}{scope:Scope}{it acc:Value}{env:Env}(I:Nat->Shared->Prop)
 (turn:∀n s,I n s->wpAny (model prog w) A (pyNext it) (λr a=>match r with
  |none=>R (.ok .next) a
  |some v=>wpAny (model prog w) A (letOwnedTupleGo target it v) (λ_ g=>wpAny (model prog w) A (assign target env v) (λ_ e=>wpAny (model prog w) A (eval elt env) (λx d=>
   wpAny (model prog w) A (call (.builtin "list.append") [acc,x]) (λ_ f=>∃m,m<n/\I m f) (λ_ _=>False) d) (λ_ _=>False) e) (λ_ _=>False) g) (λ_ _=>False) a) (λ_ _=>False) s)
 (n:Nat) (h:I n s):codeAny (model prog w) A (.compLoop (.ListComp elt [⟨target,iter,[],0⟩] scope p) 0 it acc env) R s:=by
 refine codeAny_loop Y I (λn s o=>?_) n h;refine wpAny_noted ?_;rw[compTurn_list1];refine ab1 (aeT (ab1 (acW (turn n s o) (λr a c=>?_) λ_ _ b=>b.elim)))
 cases r with
 |none=>exact ab7 c
 |some v=>
  refine ab1 (acW c (λ_ g i=>?_) λ_ _ b=>b.elim)
  exact ab1 (acW i (λ_ e j=>ab1 (ab1 (acW j (λx d l=>ab1 (acW l
   (λ_ f k=>ab7 (ab7 ⟨Y,k⟩)) λ_ _ b=>b.elim)) λ_ _ b=>b.elim))) λ_ _ b=>b.elim)
end
def dg (X:Cx)(a:List Str)(scope:Scope)(cl:List (Str×Addr))(C:Addr)(s:Shared)(H:Hp)(ex:List Addr):Cx where
 prog:=X.prog
 w:=X.w
 K:=X.K
 mg:=X.mg
 base:=X.base
 A:=X.A
 N:=a
 dR:=s
 tT:=H
 env:=compEnvC scope cl C X.env
 outer:=X.stack
 stack:=X.stack
 ex:=ex
 fn:=λ_=>false
 calm:=X.calm
 pn:=[]
 xe:=λ_ _=>False
def yM (f:TE)(g:St)(Q:VK)(J:It)(d:Hp):Prop:=∃W:Nat->Nat->List V->Hp->Prop,(∃m,W 0 m [] d)/\∀i m ys a,W i m ys a->
 (J.stop i a/\ys.length<=sizeLine/\∀D,a D=none->Q (.ref D) (upd a D (.lst ys)))\/
 (J.go i a/\ys.length<sizeLine/\∀x c,J.lb i a x c->f (some x::g) c λy e=>∃b,b<m/\W (i+ 1) b (ys++[y]) e)
def IW (d:TI)(c:St->St)(b:TE):TE:=λ a H Q=>d a H (yM b (c a) Q)
structure dJ (X:Cx) (x:Str) (fns:List Str) (ixs:List Nat) (scope:Scope) (cl:List (Str×Addr)):Prop where
 yN:closureFor scope X.env=pure cl
 sub:∀y c,cl.lookup y=some c->X.env.cells.lookup y=some c
 cell:∀y∈scope.names,y.2≠.cell
 kind:scope.kind=.function
 names:∀y∈scope.names,y.2=.local->scope.names.lookup y.1=some .local
 own:scope.names.lookup x=some .local
 has:∀y,((relabel scope X.env).names.lookup y=some .cell\/(relabel scope X.env).names.lookup y=some .free)->∃c,cl.lookup y=some c
 nd:(x::fns).Nodup
 len:ixs.length=fns.length
 at_:∀(j:Nat) (y:Str),fns[j]?=some y->∃i:Nat,ixs[j]?=some i/\X.N[i]?=some y/\(X.env.kindOf y=some .cell\/X.env.kindOf y=some .free)/\∃c,cl.lookup y=some c/\((relabel scope X.env).names.lookup y=some .cell\/(relabel scope X.env).names.lookup y=some .free)
def iq (ixs:List Nat):St->St:=λ a=>ixs.map λi=>(a[i]?).join
section
variable {X:Cx}{x:Str}{scope:Scope}
theorem sP (a:scope.names.lookup x=some .local):(relabel scope X.env).names.lookup x=some .local:=lookup_relabel_local a
end
theorem kP {scope:Scope}(a:∀y∈scope.names,y.2≠.free)(b:∀y∈scope.names,y.2≠.cell)(f:scope.kind=.function)
 (d:∀y∈scope.names,y.2=.local->scope.names.lookup y.1=some .local) (g:scope.names.lookup x=some .local):dJ X x [] [] scope [] where
 yN:=closureFor_none a
 sub:=λy c h=>nomatch h
 cell:=b
 kind:=f
 names:=d
 own:=g
 has:=λy h=>by
  have e:(relabel scope X.env).names=scope.names:=by
   refine map_eq_self λz i=>?_
   obtain⟨n,k⟩:=z;have:(k==NameKind.free)=false:=by simpa using a _ i
   simp[this]
  rw[e]at h;rcases h with h|h
  ·exact absurd Y (b _ (adx h))
  ·exact absurd Y (a _ (adx h))
 nd:=by simp
 len:=rfl
 at_:=λj y h=>by simp at h
theorem xA {J:It}{Q:VK}(xs:List V)(g:V->V)(f:∀i:Nat,i<xs.length->J.go i H)(q:∀(i:Nat) (x:V) (c:Hp),i<xs.length->J.lb i H x c->c=H/\xs[i]?=some x)
 (h:J.stop xs.length H) (j:xs.length<=sizeLine) (s:∀(i:Nat) (x:V),xs[i]?=some x->∀R:VK,R (g x) H->r (some x::D) H R) (o:∀a,H a=none->Q (.ref a) (upd H a (.lst (xs.map g)))):
 yM r D Q J H:=by
 refine⟨λi m ys k=>m=xs.length - i/\i<=xs.length/\ys=(xs.take i).map g/\k=H,⟨xs.length,by simp,acF _,by simp,Y⟩,?_⟩;rintro i m ys k ⟨rfl,t,rfl,rfl⟩;by_cases b:i<xs.length
 ·refine .inr ⟨f i b,by rw[ab9,acQ];omega,λx c d=>?_⟩;obtain⟨n,l⟩:=q i x c b d;subst n;refine s i x l _ ⟨xs.length - (i+ 1),by omega,Y,b,?_,Y⟩;rw[aec,l];simp
 ·have e:i=xs.length:=by omega
  subst e;refine .inl ⟨h,by rw[ab9,acQ];omega,λa p=>?_⟩;rw[adG];exact o a p
theorem MY {xs:List V}(h:bT K H a xs):∀i,i<xs.length->(xg K a).go i H:=λi b=>⟨xs,xs[i],h,ab3 b⟩
theorem Kx {xs:List V}(h:bT K H a xs):∀i x b,i<xs.length->(xg K a).lb i H x b->b=H/\xs[i]?=some x:=λi x b _ y=>⟨y.1,y.2 xs h⟩
theorem GJ {xs:List V}(h:bT K H a xs):(xg K a).stop xs.length H:=⟨xs,h,aca _⟩
theorem lA {xs:List V}(h:aI K H a xs):∀i,i<xs.length->(xc K a).go i H:=λi b=>⟨xs,xs[i],h,ab3 b⟩
theorem jL {xs:List V}(h:aI K H a xs):∀i x b,i<xs.length->(xc K a).lb i H x b->b=H/\xs[i]?=some x:=λi x b _ y=>⟨y.1,y.2 xs h⟩
theorem iM {xs:List V}(h:aI K H a xs):(xc K a).stop xs.length H:=⟨xs,h,aca _⟩
inductive MZ (t:TS) (D:Ends) (σ:St) (H:Hp):Prop
 |mk (G:St->Hp->Prop):t { D with nx:=G } σ H->(∀ fU H',G fU H'->D.nx fU H')->MZ t D σ H
theorem cw {st:Stmt}{t:TS}(h:PS X st t):PS X st (MZ t):=by
 intro a s i H D I ⟨G,e,j⟩;refine aY (h a s i H { D with nx:=G } I e) λf k q=>?_
 cases f with
 |next=>obtain⟨b,c,d,g⟩:=q;exact⟨b,c,d,j b c g⟩
 |_=>exact q
theorem gB {scope:Scope}{env:Env}{k:NameKind}(h:(relabel scope env).names.lookup x=some k)(i:k=.cell\/k=.free)(g:∀z∈scope.names,z.2≠.cell):(x,NameKind.free)∈scope.names:=by
 have f:=adx h;unfold relabel at f;obtain⟨⟨n,a⟩,d,e⟩:=adl.mp f;dsimp only at e;by_cases hf:(a==NameKind.free && env.scope.kind==.function && env.kindOf n==some .cell)=true
 ·rw[acv hf]at e;have b:n=x:=ac5 Prod.fst e;rw[ad6,ad6]at hf;have c:a=.free:=eq_of_beq hf.1.1;rw[<-b,<-c];exact d
 ·rw[acm hf]at e;have b:n=x:=ac5 Prod.fst e;have c:a=k:=ac5 Prod.snd e;subst b c;rcases i with rfl|rfl
  ·exact absurd Y (g _ d)
  ·exact d
theorem cE {env:Env}(b:env.scope.kind=.function){y:Str}(a:env.kindOf y=some .cell):∀{names:List (Str×NameKind)},names.lookup y=some .free->
 (names.map λ(n,k)=>if (k==NameKind.free && env.scope.kind==.function && env.kindOf n==some .cell) then (n,NameKind.cell) else (n,k)).lookup y=some .cell
 |[],h=>by simp at h
 |(n,k)::r,h=>by
  have c:=@cE env b y a r
  grind
theorem o6 {scope:Scope}(b:closureFor scope X.env=pure [(f,c)])(s:X.env.cells.lookup f=some c)(l:∀z∈scope.names,z.2≠.cell)(p:scope.kind=.function)
 (q:∀z∈scope.names,z.2=.local->scope.names.lookup z.1=some .local) (r:scope.names.lookup x=some .local) (a:∀z∈scope.names,z.2=.free->z.1=f) (m:x≠f) (o:X.N[i]?=some f)
 (g:X.env.kindOf f=some .cell) (k:X.env.scope.kind=.function) (n:scope.names.lookup f=some .free):dJ X x [f] [i] scope [(f,c)] where
 yN:=b
 sub:=λz d h=>by
  grind
 cell:=l
 kind:=p
 names:=q
 own:=r
 has:=λz h=>by
  have e:z=f:=by
   rcases h with h|h
   ·exact a _ (gB h (.inl Y) l) rfl
   ·exact a _ (gB h (.inr Y) l) rfl
  subst e;exact⟨c,by simp[ad7]⟩
 nd:=by simp[m]
 len:=rfl
 at_:=λj z h=>by
  cases j with
  |zero=>
   have e:f=z:=by simpa using h
   subst e;exact⟨i,Y,o,.inl g,c,by simp[ad7],.inl (cE k g n)⟩
  |succ j=>simp at h
namespace Rv
theorem DZ:Slot "reversed" "__init__" "object.__init__":=
 .of (owner:="object") (n:="__init__") (by rw[typeLookup_type,builtinLookup_eq_fast];kernel_rfl) (by decide) (by decide) (by decide)
  (by first|exact .inl (by decide)|exact .inr (by decide)) (by rw[isSubtype_type];kernel_rfl)
theorem called:TypeCalled "reversed" "reversed.__new__" "object.__init__":=
 ⟨by decide,by decide,⟨_,_,PySem.F.mro_reversed⟩,PySem.F.made_reversed,by decide,by rw[isSubtype_type];kernel_rfl,DZ⟩
def aaS (h:Heap)(it t:Addr)(i:Int):Prop:=∃o,h.get? it=some o/\o.cls=.type "reversed"/\o.data=.fields #[.ref t,rawInt i]
end Rv
def av (ns:List Int):List V:=ns.map V.int
theorem cJ (h:l[i]?=some z):(av l)[i]?=some (V.int z):=by
 unfold av;rw[aco,h];rfl
theorem aT (ns:List Int):(av ns).length=ns.length:=ab9 ..
theorem dh (h:(av l)[i]?=some q):∃z,q=V.int z/\l[i]?=some z:=by
 unfold av at h
 grind
theorem ints_app (a b:List Int):av (a++b)=av a++av b:=acR ..
section
variable {X:Cx}
inductive Q8 (K:Za1) (x:V) (y:V) (H:Hp) (Q:VK):Prop
 |mk (a b:Addr) (ns ms:List Int):x=.ref a->y=.ref b->bT K H a (av ns)->bT K H b (av ms)->Q (.bl (decide (ns=ms))) H->Q8 K x y H Q
inductive Q9 (K:Za1) (x:V) (y:V) (H:Hp) (Q:VK):Prop
 |mk (a b:Addr) (ns ms:List Int):x=.ref a->y=.ref b->bT K H a (av ns)->bT K H b (av ms)->Q (.bl (!decide (ns=ms))) H->Q9 K x y H Q
theorem Ky {b:List Int}{a:List Value}(f:Vals (av l) N)(g:Vals (av b) a)(j:Nat)(m:j<N.toArray.size)(q:j<a.toArray.size):
 SeqAt.EqAt A s N.toArray[j] a.toArray[j] (decide (l[j]?=b[j]?)):=by
 have w:=f.length;have x:=g.length;rw[aT]at w x;have o:j<N.length:=by simpa using m
 have p:j<a.length:=by simpa using q
 have c:l[j]?=some l[j]:=ab3 (by omega)
 have h:b[j]?=some b[j]:=ab3 (by omega)
 obtain⟨u,i,t,rfl⟩:=f.get (cJ c);obtain⟨v,n,d,rfl⟩:=g.get (cJ h)
 have r:N.toArray[j]=Value.int l[j] t:=by
  rw[aeg];exact Za0 ((ab3 o).symm.trans i)
 have k:a.toArray[j]=Value.int b[j] d:=by
  rw[aeg];exact Za0 ((ab3 p).symm.trans n)
 rw[r,k,c,h];have:=SeqAt.EqAt.int_int (A:=A) (s:=s) l[j] t b[j] d
 have e:decide (some l[j]=some b[j])=(l[j]==b[j]):=by
  rw[ads,acS,afn];exact⟨Za0,ac5 some⟩
 rw[e];exact this
inductive M0 (K:Za1) (xs:List V) (H:Hp) (Q:VK):Prop
 |mk (x:V) (T:String) (t:Value) (b:Bool):xs=[x,.ty T]->jo K H x t->PySem.W.kitOne K t (.type T)=some b->Q (.bl b) H->M0 K xs H Q
theorem dS:jn X (.builtin "isinstance") (M0 X.K):=by
 intro a s k H i l Q I r h;obtain⟨x,T,t,b,rfl,c,e,q⟩:=h;obtain⟨u,j,rfl,d,g⟩:=vals2 r;cases g;exact DQ I d c e λf=>⟨.bl b,H,I.tok f,Y,q⟩
theorem jM (K:Za1)(T:String):PySem.W.kitOne K (.type T) (.type T)=some true:=by
 unfold PySem.W.kitOne
 grind
theorem yO (K:Za1):PySem.W.kitOne K (.type "int") (.type "bool")=some false:=by
 first|rfl|kernel_rfl|decide
end
theorem ay.upd {o:HO}(h:H a=Option.none):ay H (upd H a o):=λb u e=>by
 rw[ai (au e h)];exact e
inductive M3 (x:V) (y:V) (H:Hp) (Q:VK):Prop
 |mk (a b:Addr) (xs ys:List V):x=.ref a->y=.ref b->H a=some (.tup xs)->H b=some (.tup ys)->xs.length+ ys.length<=sizeLine->(∀p H',ay H H'->H' p=some (.tup (xs++ys))->Q (.ref p) H')->M3 x y H Q
inductive IX (x:V) (lo:Option Int) (hi:Option Int) (H:Hp) (Q:VK):Prop
 |mk (a:Addr) (xs:List V):x=.ref a->H a=some (.tup xs)->(∀p H',ay H H'->H' p=some (.tup (lj xs lo hi))->Q (.ref p) H')->IX x lo hi H Q
end L2
namespace HT
open PySem PyProof.Rows
section
variable {prog:Program}{w:World}{A:Around}{E:Value->Shared->Prop}{s:Shared}
theorem qp {items:Array Value}{lo i:Option Int}(c:IsTup s.heap a items)(j:s.heap.IsSliceOf b v u .none)(pl:IsPart v lo)(o:IsPart u i)
 (hw:cS items.size 0 lo=0/\cS items.size items.size i=items.size) (h:Q (.ref a) s):wpAny (model prog w) A (getItem (.ref a) (.ref b)) Q E s:=by
 obtain⟨os,e,g,n⟩:=id j;have f:s.TypeIs (.ref b) "slice":=⟨os,e,g⟩;unfold getItem
 try with_reducible refine ac1 ?_
 first|refine ab1 (ab7 ?_)|skip
 refine ab1 (wpAny_sequenceKey c.typeIs (by decide) ?_)
 refine ab1 (ac3 (name:=Str.ofString "__getitem__") c.typeIs ac9
  (ac8 ac9 c.typeIs entry_tuple_getitem ?_ (args_tuple_getitem _ _)))
 show wpAny _ _ (Builtin.Tuple.tupleItemsOf (.ref a) >>=_) _ _ s;refine ab1 (tupleItemsOf_ c ?_);refine ab1 (aev f ?_);rw[acv (by decide)];refine ab1 (lh j pl o ?_);rw[hw.1,hw.2];have d:((((0:Nat):Int)==0 && (1:Int)==1 && (items.size - 0)==items.size)=true):=by simp
 show wpAny _ _ (if (((0:Nat):Int)==0 && (1:Int)==1 && (items.size - 0)==items.size)=true then _ else _) _ _ s;rw[acv d];obtain⟨p,l,k,_⟩:=id c;refine ab1 (m:=Builtin.Tuple.tupleIsExact _) ?_;unfold Builtin.Tuple.tupleIsExact;refine ab1 (aev c.typeIs (ab7 ?_));show wpAny _ _ (if (Value.type "tuple"==Value.type "tuple")=true then _ else _) _ _ s;rw[acv (by decide)];exact ab1 (afo (ab7 ⟨_,Y,ab7 h⟩))
end
theorem t5:fillsNumberSlot (.type "tuple") "mul"=pure false:=
 PySem.fillsNumberSlot_seq (id:="tuple.__mul__") (r:=some (.builtin "tuple.__rmul__")) PySem.F.slot_tuple_mul.lookup (by decide) PySem.F.slot_tuple_rmul.lookup (by decide)
theorem yP:seqRepeat? (.type "tuple")=pure (some (.builtin "tuple.__mul__")):=by
 unfold seqRepeat?;rw[PySem.seqSlot_of (T:="tuple") (name:="__mul__") (id:="tuple.__mul__") PySem.F.slot_tuple_mul.lookup (by decide),PySem.seqSlot_of (T:="tuple") (name:="__rmul__") (id:="tuple.__rmul__") PySem.F.slot_tuple_rmul.lookup (by decide)];rfl
theorem wA (a:Int)(t:Tok)(l:Addr)(items:Array Value)(n:Nat)(e:Option Addr)(c:Array (Option Value)):
 Meets (Builtin.«int.__rmul__» ⟨[.int a t,.ref l],[]⟩) (λ_ R s=>s.heap.get? l=some { cls:=.type "tuple",dict:=e,data:=.seq items n,slots:=c }/\R (.ok (.ret Value.notImplemented)) s):=
 .of_wp λb w A R s h=>by obtain⟨i,g,d,j,os⟩:=s;obtain⟨f,h⟩:=h;wp_walk;exact⟨_,Y,h⟩
theorem wB (l:Addr)(items:Array Value)(n:Nat)(j:Option Addr)(b:Array (Option Value))(x:Int)(u:Tok)(c:¬(decide (x < -(2 ^ 63)) || decide (x>=2 ^ 63))=true)(k:(items.isEmpty || x==1)=true):
 Meets (Builtin.«tuple.__mul__» ⟨[.ref l,.int x u],[]⟩) (λ_ R s=>s.heap.get? l=some { cls:=.type "tuple",dict:=j,data:=.seq items n,slots:=b }/\R (.ok (.ret (.ref l))) s):=
 .of_wp λa w A R s h=>by
  obtain⟨i,g,d,f,os⟩:=s;obtain⟨e,h⟩:=h;have m:(⟨i,g,d,f,os⟩:Shared).TypeIs (.ref l) "tuple":=⟨_,e,Y⟩
  wp_walk
  refine wpAny_ite_false (acU c) ?_
  wp_walk
  exact⟨_,Y,h⟩
theorem wC (l:Addr)(items:Array Value)(n:Nat)(j:Option Addr)(b:Array (Option Value))(x:Int)(u:Tok)(c:¬(decide (x < -(2 ^ 63)) || decide (x>=2 ^ 63))=true)(k:¬(items.isEmpty || x==1)=true)(o:(decide (x<=0) || items.isEmpty)=true):
 Meets (Builtin.«tuple.__mul__» ⟨[.ref l,.int x u],[]⟩) (λ_ R s=>s.heap.get? l=some { cls:=.type "tuple",dict:=j,data:=.seq items n,slots:=b }/\R (.ok (.ret (.ref s.heap.objs.size))) { s with heap:=s.heap.push { cls:=.type "tuple",data:=.seq #[] } }):=
 .of_wp λa w A R s h=>by
  obtain⟨i,g,d,f,os⟩:=s;obtain⟨e,h⟩:=h;have m:(⟨i,g,d,f,os⟩:Shared).TypeIs (.ref l) "tuple":=⟨_,e,Y⟩
  wp_walk
  refine wpAny_ite_false (acU c) ?_
  wp_walk
  exact⟨_,Y,h⟩
theorem wD (l:Addr)(items:Array Value)(n:Nat)(o:Option Addr)(e:Array (Option Value))(x:Int)(u:Tok)(f:¬(decide (x < -(2 ^ 63)) || decide (x>=2 ^ 63))=true)(p:¬(items.isEmpty || x==1)=true)(v:¬(decide (x<=0) || items.isEmpty)=true)
 (j:¬((items.size:Int)* x > (2 ^ 63 - 1) / 8)) (r:¬(Builtin.Tuple.tupleTooMany ((items.size:Int)* x))=true) (t:(List.foldl (λa b=>a++b) #[] (List.replicate x.toNat items)).size<=sizeLine):
 Meets (Builtin.«tuple.__mul__» ⟨[.ref l,.int x u],[]⟩) (λ_ R s=>s.heap.get? l=some { cls:=.type "tuple",dict:=o,data:=.seq items n,slots:=e }/\R (.ok (.ret (.ref s.heap.objs.size))) { s with heap:=s.heap.push { cls:=.type "tuple",data:=.seq (List.foldl (λa b=>a++b) #[] (List.replicate x.toNat items)) } }):=
 .of_wp λc w A R s h=>by
  obtain⟨m,g,d,k,os⟩:=s;obtain⟨i,h⟩:=h;have q:(⟨m,g,d,k,os⟩:Shared).TypeIs (.ref l) "tuple":=⟨_,i,Y⟩
  wp_walk
  refine wpAny_ite_false (acU f) ?_
  wp_walk
  refine wpAny_ite_false (acU j) ?_
  wp_walk
  exact⟨_,Y,h⟩
end HT
namespace L2
open PySem PySem.Spec PyProof.Rows
section
variable {X:Cx}{e:Expr}{lo hi:Option Expr}
theorem yQ:MK X IX:=by
 intro b s m H x v o l lo hi k Q I f j pl g h;obtain⟨a,xs,rfl,d,q⟩:=h;by_cases hw:HT.cS xs.length 0 lo=0/\HT.cS xs.length xs.length hi=xs.length
 ·cases f;obtain⟨c,r,i,t⟩:=I.tuple (bT.of d);have hlen:c.toArray.size=xs.length:=by rw[acs];exact r.length.symm
  refine⟨"tuple",_,ac9.lookup,i.typeIs,?_⟩;refine HT.qp i j pl g (by rw[hlen];exact hw) ⟨.ref a,H,I,Y,q a H (ay.refl H) ?_⟩;unfold lj;rw[hw.1,hw.2,List.drop_zero,Nat.sub_zero,adG];exact d
 ·exact MN b s m H (.ref a) v o l lo hi k Q I f j pl g ⟨a,xs,Y,bT.of d,hw,λp n=>q p _ (ay.upd n) ah⟩
inductive IY (x:V) (y:V) (H:Hp) (Q:VK):Prop
 |mk (a:Addr) (k:Int) (xs:List V):x=.ref a->y=.int k->H a=some (.tup xs)-> -(2 ^ 63)<=k->k<2 ^ 63->xs.length* k.toNat<=sizeLine->(∀p H',ay H H'->H' p=some (.tup (List.replicate k.toNat xs).flatten)->Q (.ref p) H')->IY x y H Q
theorem Bm:gR X (binaryOp .Mult) IY:=by
 intro d s J H x y v u Q I W ry h;obtain⟨l,k,xs,rfl,rfl,M,h1,h2,L,q⟩:=h;cases W;obtain⟨t,rfl⟩:=ry;obtain⟨a,r,N,P⟩:=I.tuple (bT.of M);have D:=r.length;obtain⟨⟨cls,w,data,g⟩,z,hc,n,G⟩:=id N;simp only at hc G;subst hc G
 have B:¬(decide (k < -(2 ^ 63)) || decide (k>=2 ^ 63))=true:=by
  rw[afc,acS,acS];omega
 have C:∀{S:PySem.Spec},Meets (Builtin.«tuple.__mul__» ⟨[.ref l,.int k t],[]⟩) (λA' R c=>c.heap.get? l=some { cls:=.type "tuple",dict:=w,data:=.seq a.toArray n,slots:=g }/\S A' R c)->
  S X.A (wants (EP X d J Q) X.xe) s->wpAny (model X.prog X.w) X.A (binaryOp .Mult (.ref l) (.int k t)) (EP X d J Q) X.xe s:=λ{S} m V=>
  wpAny_binaryOp_repeat_ref (T:="tuple") (U:="int") (by decide) ⟨_,z,Y⟩ (λc=>typeIs_int c k t) HT.t5 F.fills_int_mul F.slot_int_rmul HT.yP F.slot_int_index.lookup
   (call_meets F.slot_int_rmul (typeIs_int s k t) F.entry_int_rmul (F.args_int_rmul_2 _ _) (HT.wA k t l a.toArray n w g)
    ⟨z,Y,⟨_,z,Y⟩,call_meets F.slot_tuple_mul ⟨_,z,Y⟩ F.entry_tuple_mul (F.args_tuple_mul_2 _ _) m ⟨z,V⟩⟩)
 by_cases hc:(a.toArray.isEmpty || k==1)=true
 ·refine C (S:=λ_ R c=>R (.ok (.ret (.ref l))) c) (HT.wB l a.toArray n w g k t B hc) ⟨.ref l,H,I,Y,q l H (ay.refl H) ?_⟩
  have e:(List.replicate k.toNat xs).flatten=xs:=by
   rw[afc]at hc;rcases hc with hc|hc
   ·have:a=[]:=by simpa using hc
    have:xs=[]:=by
     have j:=D;rw[this]at j;exact adv j
    subst this;simp
   ·have:k=1:=by simpa using hc
    subst this;simp
  rw[e];exact M
 ·by_cases f:(decide (k<=0) || a.toArray.isEmpty)=true
  ·refine C (S:=λ_ R c=>R (.ok (.ret (.ref c.heap.objs.size))) { c with heap:=c.heap.push { cls:=.type "tuple",data:=.seq #[] } }) (HT.wC l a.toArray n w g k t B hc f) ?_;refine⟨.ref s.heap.objs.size,_,I.laid (t':=s.toks) (o:=.tup []) (λb Z q=>ab2 _ q) (aca _) ?_,Y,q _ _ (ay.upd (I.aL.fresh (aca _))) ?_⟩
   ·exact⟨acF _,[],.nil,IsTup.new _ _⟩
   ·have e:k.toNat=0:=by
     rw[afc,acS]at f;rcases f with f|f
     ·omega
     ·exact absurd (by rw[afc];exact .inl f) hc
    rw[e,ah];rfl
  ·have hk:0<k:=by
    rw[afc,acS]at f;omega
   have i:List.foldl (λA E=>A++E) #[] (List.replicate k.toNat a.toArray)=(List.replicate k.toNat a).flatten.toArray:=by
    have:=foldl_rep a k.toNat [];rw[aeM]at this;exact this
   have hlen:(List.replicate k.toNat a).flatten.length<=sizeLine:=by rw[len_rep,Nat.mul_comm,<-D];exact L
   have p:((a.toArray.size:Int)* k)=((xs.length* k.toNat:Nat):Int):=by
    rw[acs,<-D,Int.natCast_mul,aey (by omega)]
   have hline:(sizeLine:Nat)<=(2 ^ 63 - 1) / 8:=by decide
   refine C (S:=λ_ R c=>R (.ok (.ret (.ref c.heap.objs.size))) { c with heap:=c.heap.push { cls:=.type "tuple",data:=.seq (List.foldl (λA E=>A++E) #[] (List.replicate k.toNat a.toArray)) } })
    (HT.wD l a.toArray n w g k t B hc f (by rw[p];omega) (by unfold Builtin.Tuple.tupleTooMany;rw[acS,p];omega) (by rw[i,acs];exact hlen)) ?_
   rw[i];refine⟨.ref s.heap.objs.size,_,I.laid (t':=s.toks) (o:=.tup (List.replicate k.toNat xs).flatten) (λb Z q=>ab2 _ q) (aca _) ?_,Y,q _ _ (ay.upd (I.aL.fresh (aca _))) ah⟩;exact⟨by rw[len_rep,Nat.mul_comm];exact L,_,r.rep k.toNat,IsTup.new _ _⟩
end
def tx (l:List Nat):Str:=⟨l.toArray⟩
theorem D0 (l:List Nat):(tx l).length=l.length:=by
 show l.toArray.size=l.length;simp
theorem M4 {b:List Nat}(h:tx B=tx b):B=b:=by
 have:=ac5 (λs:Str=>s.cps.toList) h;exact this
theorem Bn (h:x.cps.toList=f.cps.toList):x=f:=by
 obtain⟨a⟩:=x;obtain⟨b⟩:=f;have:a=b:=Array.toList_inj.mp h;rw[this]
theorem Rb (x:Str):x=tx x.cps.toList:=Bn rfl
theorem Ea (a b:List Nat):tx a++tx b=tx (a++b):=by
 refine Bn ?_;show ((tx a).cps++(tx b).cps).toList=(a++b);rw[Array.toList_append];rfl
section
variable {X:Cx}{pos:Pos}
theorem eA {l:List Nat}{j}(h:x=tx l):PE X (.Constant (.str x) j pos) (tC (.str (tx l))):=by
 rw[<-h];exact Mm
def yR (n:Int):List Nat:=(toString n:Str).cps.toList
theorem Eb (h:n<10000000000):n.log2<1920:=by
 rcases Nat.eq_zero_or_pos n with e|e
 ·subst e;decide
 ·have a:2 ^ n.log2<=n:=Nat.log2_self_le (by omega);have b:(10000000000:Nat)<2 ^ 1920:=by decide
  exact(Nat.pow_lt_pow_iff_right (by decide:1<2)).mp (ace a (ae7 h b))
theorem GK {n:Int}(a:0<=n)(h:n<10000000000):(yR n).length<=10:=by
 have:=toString_length_le (v:=n) a (k:=10) (by decide) h;exact this
end
structure Def (K:Za1) (mg:Str->Option Value) (x:Str) (st:Stmt) (ps:List Str) (f:Addr) (fd:FuncData):Prop where
 F:qA K x x st f fd
 m:mg x=some (.ref f)
 b:Binds K fd ps []
inductive Rc (t:TE) (σ:St) (H:Hp) (Q:VK):Prop
 |mk (G:V->Hp->Prop):t σ H G->(∀v H',G v H'->Q v H')->Rc t σ H Q
theorem yS (ns:List Int)(lo a:Option Int):lj (av ns) lo a=av ((ns.drop (HT.cS ns.length 0 lo)).take (HT.cS ns.length ns.length a - HT.cS ns.length 0 lo)):=by
 unfold lj av;rw[ab9,List.map_take,List.map_drop]
section
variable {κ:Type} [DecidableEq κ]
def bz (a:List (κ×V))(k:κ):Option V:=(a.find? λb=>decide (b.1=k)).map (·.2)
def putK (a:List (κ×V))(k:κ)(v:V):List (κ×V):=
 if (a.any λb=>decide (b.1=k))=true then a.map (λb=>if b.1=k then (b.1,v) else b) else a++[(k,v)]
def eP (a:List (κ×V))(k:κ):List (κ×V):=a.filter λb=>decide (b.1≠k)
theorem cM {p:κ×V}{r:List (κ×V)}{k:κ}(e:p.1=k):bz (p::r) k=some p.2:=by simp[bz,aeN,e]
theorem cF {p:κ×V}{r:List (κ×V)}{k:κ}(e:¬p.1=k):bz (p::r) k=bz r k:=by simp[bz,aeN,e]
theorem lB (k:κ):∀a:List (κ×V),(a.any λb=>decide (b.1=k))=(bz a k).isSome
 |[]=>rfl
 |p::r=>by
  rw[List.any_cons];by_cases e:p.1=k
  ·simp only[cM e,acy e,Bool.true_or,Option.isSome_some]
  ·rw[cF e,acU e,Bool.false_or];exact lB k r
theorem yT (k j:κ)(y:V):∀a:List (κ×V),bz (a.map λb=>if b.1=k then (b.1,y) else b) j=(bz a j).map λx=>if j=k then y else x
 |[]=>rfl
 |p::r=>by
  have c:=yT k j y r;rw[adi];by_cases h:p.1=k
  ·rw[acv h];by_cases e:p.1=j
   ·rw[cM (p:=(p.1,y)) e,cM e,Option.map_some,acv (e.symm.trans h)]
   ·rw[cF (p:=(p.1,y)) e,cF e,c]
  ·rw[acm h];by_cases e:p.1=j
   ·rw[cM (p:=p) e,cM e,Option.map_some,acm (λz=>h (e.trans z))]
   ·rw[cF (p:=p) e,cF e,c]
theorem xB (k j:κ)(y:V):∀a:List (κ×V),bz a k=none->bz (a++[(k,y)]) j=if j=k then some y else bz a j
 |[],_=>by
  by_cases e:k=j
  ·rw[acv e.symm];exact cM (p:=(k,y)) e
  ·rw[acm (λz=>e z.symm)];exact cF (p:=(k,y)) e
 |p::r,b=>by
  rw[aeB];have c:¬p.1=k:=λz=>by rw[cM z]at b;cases b
  rw[cF c]at b;have d:=xB k j y r b;by_cases e:p.1=j
  ·rw[cM e,cM e,acm (λz=>c (e.trans z))]
  ·rw[cF e,cF e,d]
theorem o8 (b:List (κ×V))(k j:κ)(y:V):bz (putK b k y) j=if j=k then some y else bz b j:=by
 unfold putK;by_cases a:(b.any λc=>decide (c.1=k))=true
 ·rw[acv a,yT];rw[lB]at a;by_cases e:j=k
  ·obtain⟨x,d⟩:=ae5.mp a
   grind
  ·rw[acm e]
   cases bz b j with
   |none=>rfl
   |some x=>grind
 ·rw[acm a];refine xB k j y b ?_;rw[lB]at a
  cases q:bz b k with
  |none=>rfl
  |some x=>rw[q]at a;exact(a Y).elim
theorem gC (a:List (κ×V))(k:κ)(v:V):(putK a k v).length<=a.length+ 1:=by
 unfold putK;split
 ·rw[ab9];omega
 ·rw[ab6,acC,ael];omega
theorem yU {a:List (κ×V)}{k:κ}(v:V)(h:bz a k=none):putK a k v=a++[(k,v)]:=by
 unfold putK;rw[lB,h];exact acm (by decide)
theorem dY.qB {o:Option V}{u:Option Value}(r:dY o u):o.isSome=u.isSome:=by
 cases o with
 |none=>cases u with
  |none=>rfl
  |some _=>exact(show False from r).elim
 |some _=>cases u with
  |none=>exact(show False from r).elim
  |some _=>rfl
theorem dY.getD {o:Option V}{u:Option Value}(r:dY o u)(rd:RelV q v):RelV (o.getD q) (u.getD v):=by
 cases o with
 |none=>cases u with
  |none=>exact rd
  |some _=>exact(show False from r).elim
 |some _=>cases u with
  |none=>exact(show False from r).elim
  |some _=>exact r
theorem KV.val {a:List (κ×V)}{f:List (κ×Value)}(r:KV a f)(k:κ):dY (bz a k) (valueAt f k):=by
 induction r with
 |nil=>exact True.intro
 | @cons p q l c h t j=>
   obtain⟨g,i⟩:=h;by_cases e:p.1=k
   ·have d:q.1=k:=g.symm.trans e;have b:valueAt (q::c) k=some q.2:=by simp[valueAt,aeN,d]
    rw[cM e,b];exact i
   ·have d:¬q.1=k:=λz=>e (g.trans z)
    have b:valueAt (q::c) k=valueAt c k:=by simp[valueAt,aeN,d]
    rw[cF e,b];exact j
theorem KV.any {a:List (κ×V)}{c:List (κ×Value)}(r:KV a c)(k:κ):(a.any λb=>decide (b.1=k))=c.any λb=>decide (b.1=k):=by
 induction r with
 |nil=>rfl
 |cons h t d=>rw[List.any_cons,List.any_cons,d,h.1]
theorem KV.repl {b:List (κ×V)}{c:List (κ×Value)}(r:KV b c)(k:κ){y:V}{u:Value}(g:RelV y u):
 KV (b.map λa=>if a.1=k then (a.1,y) else a) (c.map λa=>if a.1=k then (a.1,u) else a):=by
 induction r with
 |nil=>exact .nil
 | @cons p q e f h t d=>
   rw[adi,adi];refine .cons ?_ d
   grind
theorem KV.put {a:List (κ×V)}{b:List (κ×Value)}(r:KV a b)(k:κ){y:V}{u:Value}(c:RelV y u):KV (putK a k y) (stored b k u):=by
 unfold putK stored;rw[r.any k];by_cases e:(b.any λd=>decide (d.1=k))=true
 ·rw[acv e,acv e];exact r.repl k c
 ·rw[acm e,acm e];exact Paired.snoc r ⟨Y,c⟩
theorem KV.drop {c:List (κ×V)}{d:List (κ×Value)}(r:KV c d)(k:κ):KV (eP c k) (without d k):=by
 unfold eP without
 induction r with
 |nil=>exact .nil
 | @cons p q m l h t j=>
   obtain⟨f,g⟩:=h;rw[List.filter_cons,List.filter_cons];by_cases e:p.1=k
   ·grind
   ·have i:¬q.1=k:=λz=>e (f.trans z)
    have a:decide (p.1≠k)=true:=by simp[e]
    have b:decide (q.1≠k)=true:=by simp[i]
    rw[acv a,acv b];exact .cons ⟨f,g⟩ j
theorem KV.length {a:List (κ×V)}{b:List (κ×Value)}(r:KV a b):a.length=b.length:=Paired.length r
theorem GN (a:List (κ×V))(k:κ):(eP a k).length<=a.length:=ad8 _ _
end
theorem jr {k:Key}(r:RelV (kV k) u):(bO P w).is k u=true:=by
 cases k with
 |inl i=>obtain⟨t,e⟩:=(show ∃t,u=Value.int i t from r);subst e;exact AG P w i t
 |inr x=>obtain⟨t,e⟩:=(show ∃t,u=Value.str x t from r);subst e;exact AH P w x t
theorem xC:∀{ks:List Key} {a:List Value},Vals (ks.map kV) a->ItemsAre (bO P w) ks a
 |[],_,r=>by cases r;exact .nil
 |k::ks,_,r=>by
  cases r with
  |cons h t=>exact .cons (jr h) (xC t)
abbrev KT (H:Hp):List (List Key×V)->List (List Key×Addr×Value)->Prop:=Paired λp q=>p.1=q.1/\H q.2.1=some (.tup (p.1.map kV))/\RelV p.2 q.2.2
theorem KT.val {a:List (List Key×V)}{f:List (List Key×Addr×Value)}(r:KT H a f)(k:List Key):dY (bz a k) ((atKey f k).map (·.2)):=by
 induction r with
 |nil=>exact True.intro
 | @cons p q l c h t j=>
   obtain⟨g,_,i⟩:=h;by_cases e:p.1=k
   ·have d:q.1=k:=g.symm.trans e;have b:atKey (q::c) k=some q.2:=by simp[atKey,aeN,d]
    rw[cM e,b];exact i
   ·have d:¬q.1=k:=λz=>e (g.trans z)
    have b:atKey (q::c) k=atKey c k:=by simp[atKey,aeN,d]
    rw[cF e,b];exact j
theorem KT.repl {a:List (List Key×V)}{xs:List (List Key×Addr×Value)}(r:KT H a xs)(k:List Key){y:V}{u:Value}(i:RelV y u):
 KT H (a.map λb=>if b.1=k then (b.1,y) else b) (xs.map (putAt k u)):=by
 induction r with
 |nil=>exact .nil
 | @cons p q e f h t c=>
   rw[adi,adi];refine .cons ?_ c;obtain⟨j,d,g⟩:=h;unfold putAt
   grind
theorem KT.put {a:List (List Key×V)}{c:List (List Key×Addr×Value)}(r:KT H a c)(k:List Key){b:Addr}{y:V}{u:Value}(g:H b=some (.tup (k.map kV)))(d:RelV y u):
 KT H (putK a k y) (storedH c k b u):=by
 have e:(a.any λf=>decide (f.1=k))=(atKey c k).isSome:=by
  rw[lB,(r.val k).qB,Option.isSome_map]
 unfold putK storedH;rw[e];by_cases q:(atKey c k).isSome=true
 ·rw[acv q,acv q];exact r.repl k d
 ·rw[acm q,acm q];exact Paired.snoc r ⟨Y,g,d⟩
theorem KT.keeps {a:List (List Key×V)}{c:List (List Key×Addr×Value)}(r:KT H a c)(d:∀b ys,H b=some (.tup ys)->I b=some (.tup ys)):KT I a c:=
 Paired.Gn r λ_ _ z=>⟨z.1,d _ _ z.2.1,z.2.2⟩
section
variable {P:Program}{w:World}{H:Hp}{h:Heap}{a:Addr}
theorem IZ {u:HO}(ok:dw P w H h)(e:Rd H a u):bU P w H h a u:=e.ok ok
theorem pf {b:List (Key×V)}(ok:dw P w H h)(e:Rd H a (.dK b)):b.length<=sizeLine/\(a==sysModules)=false/\∃c,KV b c/\h.DictOf (bO P w) a c:=
 show bU P w H h a (.dK b) from IZ ok e
theorem rX {b:List (Key×V)}(ok:dw P w H h)(e:H a=some (.dK b)):b.length<=sizeLine/\(a==sysModules)=false/\∃c,KV b c/\h.DictOf (bO P w) a c:=pf ok (.inl e)
theorem lC {ks:List Key}(ok:dw P w H h)(e:H a=some (.tup (ks.map kV))):(tupleKind (bO P w)).is h ks a:=by
 obtain⟨_,b,r,o,f,c,n,d⟩:=(show bU P w H h a (.tup (ks.map kV)) from ok a _ e);exact⟨o,b.toArray,n,f,c,d,by simpa using xC r⟩
theorem ph {b:List (List Key×V)}(ok:dw P w H h)(e:Rd H a (.dT b)):b.length<=sizeLine/\(a==sysModules)=false/\
 ∃d,KT H b d/\h.DictOfH (tupleKind (bO P w)) a d:=by
 obtain⟨z,y,d,r,o,s,g,k,n,u,v,i⟩:=(show bU P w H h a (.dT b) from IZ ok e);refine⟨z,y,d,r,o,s,g,k,n,u,v,λx c=>?_,i⟩
 have all:∀{l:List (List Key×V)} {m:List (List Key×Addr×Value)},KT H l m->∀x∈m,(tupleKind (bO P w)).is h x.1 x.2.1:=by
  intro l m q
  induction q with
  |nil=>intro x c;exact nomatch c
  | @cons p q B A f t j=>
    intro x c;rcases aci.mp c with e|c
    ·subst e;exact lC ok (by rw[<-f.1];exact f.2.1)
    ·exact j x c
 exact all r x c
theorem I0 {b:List (List Key×V)}(ok:dw P w H h)(e:H a=some (.dT b)):b.length<=sizeLine/\(a==sysModules)=false/\
 ∃c,KT H b c/\h.DictOfH (tupleKind (bO P w)) a c:=ph ok (.inl e)
end
def fI (H:Hp)(a:Addr)(y:V)(r:Option V):Prop:=
 (∃c k,Rd H a (.dK c)/\y=kV k/\r=bz c k)\/∃c k b,Rd H a (.dT c)/\y=.ref b/\H b=some (.tup (k.map kV))/\r=bz c k
def qC (H:Hp)(a:Addr)(y v:V)(d:Hp):Prop:=
 (∃c k,H a=some (.dK c)/\y=kV k/\c.length<sizeLine/\d=upd H a (.dK (putK c k v)))\/
 ∃c k b,H a=some (.dT c)/\y=.ref b/\H b=some (.tup (k.map kV))/\c.length<sizeLine/\d=upd H a (.dT (putK c k v))
theorem fI.k {b:List (Key×V)}{k:Key}(e:H a=some (.dK b)):fI H a (kV k) (bz b k):=.inl ⟨b,k,.inl e,Y,Y⟩
theorem qC.k {b:List (Key×V)}{k:Key}(e:H a=some (.dK b))(c:b.length<sizeLine):qC H a (kV k) q (upd H a (.dK (putK b k q))):=.inl ⟨b,k,e,Y,c,Y⟩
section
variable {X:Cx}{pins:List (Addr×Obj)}{σ:St}{H:Hp}{s:Shared}{a:Addr}{y v:V}{u r:Value}{o:Option V}{A:Around}{E:Value->Shared->Prop}
theorem Inv.big (I:Inv X pins σ H s):sysModules<s.heap.objs.size:=by
 have h:mainGlobals<s.heap.objs.size:=(I.mod.glob.keeps I.bk).lt;exact ae7 (by decide) h
theorem Ec (w:A.units+ 1<cLine)(I:Inv X pins σ H s)(g:fI H a y (some v))(t:RelV y u)(h:∀d q,Inv X pins σ H q->RelV v d->Q d q):
 wpAny (model X.prog X.w) A (getItem (.ref a) u) Q E s:=by
 rcases g with ⟨j,k,e,n,l⟩|⟨j,k,b,e,n,C,l⟩
 ·subst n;obtain⟨z,D,x,rel,m⟩:=pf I.aL e;obtain⟨d,f,c⟩:=dY.some_of (v:=v) (o:=valueAt x k) (by rw[l];exact rel.val k);exact wpAny_getItem_of (jr t) m.mapOf f (h d _ (I.tok _) c)
 ·subst n;cases (show u=Value.ref b from t);obtain⟨z,D,B,rel,m⟩:=ph I.aL e;obtain⟨d,f,c⟩:=dY.some_of (v:=v) (o:=(atKey B k).map (·.2)) (by rw[l];exact rel.val k);obtain⟨p,F,i⟩:=adf.mp f;refine wpAny_getItem_heap (ad9 w) (lC I.aL C) m F ?_;rw[i];exact h d _ (I.tok _) c
theorem Kz (n:A.units+ 1<cLine)(I:Inv X pins σ H s)(g:fI H a y o)(m:RelV y u)(h:∀j,Inv X pins σ H j->Q (.bool (!o.isSome)) j):
 wpAny (model X.prog X.w) A (compareOp .NotIn u (.ref a)) Q E s:=by
 rcases g with ⟨c,k,e,i,l⟩|⟨c,k,b,e,i,p,l⟩
 ·subst i;obtain⟨z,d,t,rel,f⟩:=pf I.aL e;refine wpAny_notIn_of (jr m) d f.mapOf ?_;rw[<-(rel.val k).qB,<-l];exact h _ (I.tok _)
 ·subst i;cases (show u=Value.ref b from m);obtain⟨z,d,w,rel,f⟩:=ph I.aL e;refine wpAny_notIn_heap (ad9 n) (lC I.aL p) d f ?_;have q:=(rel.val k).qB;rw[Option.isSome_map]at q;rw[<-q,<-l];exact h _ (I.tok _)
theorem jN {t':Nat}{c:HO}(I:Inv X pins σ H s)(mu:sM (H a))(d:Heap.SameBut a s.heap h)(f:∃q,h.get? a=some q)(new:bU X.prog X.w (upd H a c) h a c):
 Inv X pins σ (upd H a c) { s with heap:=h,toks:=t' }:=
 I.write (x:=a) (e:=a) mu (.inl Y) (λb q g z=>(d.2 b g).trans z) f new
theorem qD {b:List (Key×V)}{c:List (Key×Value)}(z:b.length<=sizeLine)(d:(a==sysModules)=false)(rel:KV b c)(e:h.DictOf (bO P w) a c):
 bU P w I h a (.dK b):=⟨z,d,c,rel,e⟩
theorem Ed (N:A.units+ 1<cLine)(d:Inv X pins σ H s)(g:qC H a y v I)(J:RelV y u)(L:RelV v r)(h:∀G,Inv X pins σ I G->U () G):
 wpAny (model X.prog X.w) A (setItem (.ref a) u r) U E s:=by
 rcases g with ⟨f,k,e,C,l,B⟩|⟨f,k,b,e,C,D,l,B⟩
 ·subst C B;obtain⟨z,n,Q,rel,w⟩:=rX d.aL e;have x:Q.length<=sizeLine:=by rw[<-rel.length];exact z
  have m:(putK f k v).length<=sizeLine:=by have:=gC f k v;omega
  refine wpAny_setItem_pairs (hsz:=x) (jr J) w λM i p=>h _ ?_
  have Z:∃q,M.get? a=some q:=let ⟨q,_,_,j,_⟩:=i;⟨q,j⟩
  exact jN d (by rw[e];exact True.intro) p Z (qD m n (rel.put k L) i)
 ·subst C B;cases (show u=Value.ref b from J);obtain⟨z,n,xs,rel,w⟩:=I0 d.aL e;have x:xs.length<=sizeLine:=by rw[<-Paired.length rel];exact z
  have m:(putK f k v).length<=sizeLine:=by have:=gC f k v;omega
  refine wpAny_setItem_heap (hsz:=x) (ad9 N) (lC d.aL D) w λM i p=>h _ ?_
  obtain⟨q,S,O,j,R,T,W,_,P⟩:=i;refine jN d (by rw[e];exact True.intro) p ⟨q,j⟩ ⟨m,n,_,(rel.put k D L).keeps λc ys F=>?_,q,S,O,j,R,T,W,P⟩;rw[ai (b6 F e (λz=>nomatch z))];exact F
end
section
variable {X:Cx}{pins:List (Addr×Obj)}{σ:St}{H:Hp}{s:Shared}{a:Addr}{kvs:List (Key×V)}{k:Key}{u:Value}{A:Around}{E:Value->Shared->Prop}
theorem I7 {more:List Value}(I:Inv X pins σ H s)(e:H a=some (.dK kvs))(g:RelV (kV k) u)(l:bz kvs k=some q)(m:more=[]\/∃x,more=[x])
 (h:∀c n,Inv X pins σ (upd H a (.dK (eP kvs k))) n->RelV q c->Q c n):wpAny (model X.prog X.w) A (call (.builtin "dict.pop") (.ref a::u::more)) Q E s:=by
 obtain⟨z,w,j,rel,p⟩:=rX I.aL e;obtain⟨c,r,f⟩:=dY.some_of (v:=q) (o:=valueAt j k) (by rw[<-l];exact rel.val k)
 have C:(keyPart u).isSome=true:=by
  cases k with
  |inl i=>obtain⟨t,b⟩:=(show ∃t,u=Value.int i t from g);subst b;rfl
  |inr x=>obtain⟨t,b⟩:=(show ∃t,u=Value.str x t from g);subst b;rfl
 have v:argsOk "dict.pop" ⟨.ref a::u::more,[]⟩:=by
  rcases m with b|⟨x,b⟩
  ·subst b;exact PySem.F.args_dict_pop_2 _ _
  ·subst b;exact PySem.F.args_dict_pop_3 _ _ _
 refine aew aeO p.typeIs PySem.F.entry_dict_pop v (meets_dict_pop_there (bO X.prog X.w) a (jr g) more m C)
  ⟨j,c,p,by rw[<-rel.length];exact z,r,λF d B=>h c _ ?_ f⟩
 have D:∃b,F.get? a=some b:=let ⟨b,_,_,y,_⟩:=d;⟨b,y⟩
 exact jN I (by rw[e];exact True.intro) B D (qD (acr (GN kvs k) z) w (rel.drop k) d)
theorem M5 (I:Inv X pins σ H s)(e:H a=some (.dK kvs))(b:RelV (kV k) u)(l:bz kvs k=none)(h:∀c,Inv X pins σ H c->Q v c):
 wpAny (model X.prog X.w) A (call (.builtin "dict.pop") [.ref a,u,v]) Q E s:=by
 obtain⟨z,m,d,rel,f⟩:=rX I.aL e;have g:valueAt d k=none:=dY.none_of (by rw[<-l];exact rel.val k)
 have j:(keyPart u).isSome=true:=by
  cases k with
  |inl i=>obtain⟨t,q⟩:=(show ∃t,u=Value.int i t from b);subst q;rfl
  |inr x=>obtain⟨t,q⟩:=(show ∃t,u=Value.str x t from b);subst q;rfl
 exact aew aeO f.typeIs PySem.F.entry_dict_pop (PySem.F.args_dict_pop_3 _ _ _) (meets_dict_pop_default (bO X.prog X.w) a (jr b) m j v) ⟨d,f,g,h _ (I.tok _)⟩
end
def M6 (i:Expr):Prop:=∀b a,subscripted i false b a=operate [b,a] (getItem b a)
theorem KC {env:Env}{value slice:Expr}{T id:String}
 (g:typeLookup (.type T) "__getitem__"=pure (some (.builtin id))) (k:M6 slice)
 (h:wpAny (model P w) A (eval value env) (λo c=>wpAny (model P w) A (eval slice env) (λi a=>a.TypeIs o T/\wpAny (model P w) A (getItem o i) Q E a) E c) E s):
 wpAny (model P w) A (eval (.Subscript value slice p) env) Q E s:=by
 refine Subscript_ (acW h (λo c e=>acW e (λi a b=>?_) λ_ _ x=>x) λ_ _ x=>x);obtain⟨j,b⟩:=b;refine ab1 ?_;refine ab1 (wpAny_specialOf j g ?_)
 have fin:wpAny (model P w) A (subscripted slice false o i) (λr d=>wpAny (model P w) A (letTemporaryGo value o r >>=λ_=>pure r) Q E d) E a:=by
  rw[k o i];exact wpAny_operating (acW b (λr d f=>ab1 (wpAny_letTemporaryGo (ab7 f))) λ_ _ x=>x)
 first
  |exact ab7 (ab1 fin)
  |exact ab1 (ab7 (ab1 fin))
  |exact ab1 fin
theorem AO {c:Option V}(I:Inv X o D H s)(g:fI H a q c):s.TypeIs (.ref a) "dict":=by
 rcases g with ⟨d,k,e,_,_⟩|⟨d,k,b,e,_,_,_⟩
 ·obtain⟨_,_,h,_,f⟩:=pf I.aL e;exact f.typeIs
 ·obtain⟨_,_,i,_,f⟩:=ph I.aL e;exact f.typeIs
inductive M7 (x y:V) (H:Hp) (Q:VK):Prop
 |mk (a:Addr) (v:V):x=.ref a->fI H a y (some v)->Q v H->M7 x y H Q
def Rf (td c:TE):TE:=λ a H Q=>td a H λx b=>c a b λy d=>M7 x y d Q
def KD (e td:TE):TE:=λ c H Q=>e c H λy d=>td c d λx b=>∃a o,x=.ref a/\fI b a y o/\Q (.bl (!o.isSome)) b
inductive M8 (x y v:V) (H:Hp) (N:Hp->Prop):Prop
 |mk (a:Addr) (H4:Hp):x=.ref a->qC H a y v H4->N H4->M8 x y v H N
def Rg (td d c:TE):TS:=λD a H=>c a H λv b=>td a b λx e=>d a e λy f=>M8 x y v f (D.nx a)
section
variable {X:Cx}{o i value:Expr}{pos pos':Pos}{td ty tv:TE}
theorem Bo (j:X.A.units+ 1<cLine)(z:PE X o td)(l:PE X i ty)(t:M6 i):PE X (.Subscript o i pos) (Rf td ty):=by
 intro b s d H Q I h;refine KC PySem.F.slot_dict_getitem.lookup t (aY (z b s d H _ I h) λu m ⟨x,r,q,p,n⟩=>aY (l b m d r _ q n) λD F ⟨y,B,f,w,a,v,ex,g,A⟩=>?_);subst ex;obtain rfl:u=Value.ref a:=p;exact⟨AO f g,Ec j f g w λC E k c=>⟨v,B,k,c,A⟩⟩
theorem Ee (d:X.A.units+ 1<cLine)(j:PE X i ty)(t:PE X o td):PC X .NotIn i o (KD ty td):=by
 intro b s c H Q I h;refine aY (j b s c H _ I h) λA l ⟨y,q,p,r,m⟩=>aY (t b l c q _ p m) λu C ⟨x,w,z,n,a,k,ex,g,v⟩=>?_
 subst ex;obtain rfl:u=Value.ref a:=n;exact Kz d z g r λB f=>⟨.bl (!k.isSome),w,f,Y,v⟩
theorem rY (d:X.A.units+ 1<cLine)(B:PE X o td)(j:PE X i ty)(q:PE X value tv)(w:swapsWith value (some (.Subscript o i pos')) pos.line X.env=pure false):
 PS X (.Assign [.Subscript o i pos'] value pos) (Rg td ty tv):=by
 intro b s c H D I h;refine wpAny_Assign_Subscript (aY (q b s c H _ I h) λr k ⟨v,t,p,F,l⟩=>aY (B b k c t _ p l) λu J ⟨x,G,L,m,C⟩=>aY (j b J c G _ L C) λN O ⟨y,M,f,A,a,n,ex,g,E⟩=>?_) w;subst ex;obtain rfl:u=Value.ref a:=m;exact Ed d f g A F λP z=>⟨c,n,z,E⟩
end
theorem yV (h:Heap)(a:sysModules<h.objs.size):bU P w H (h.push { cls:=.type "dict",data:=.dict #[] }) h.objs.size (.dK []):=
 ⟨acF _,acj.mpr (adn (acz a)),[],.nil,Heap.DictOf.new h⟩
theorem GO (h:Heap)(a:sysModules<h.objs.size):bU P w H (h.push { cls:=.type "dict",data:=.dict #[] }) h.objs.size (.dT []):=
 ⟨acF _,acj.mpr (adn (acz a)),[],.nil,_,#[],0,acf _ Y,⟨Y,Y,Y⟩,Y,Y,adM⟩
def M9:TE:=λ_ H Q=>∀p,H p=none->Q (.ref p) (upd H p (.dK []))
def Nb:TE:=λ_ H Q=>∀p,H p=none->Q (.ref p) (upd H p (.dT []))
section
variable {X:Cx}{pos:Pos}
theorem fq:PE X (.Dict [] [] pos) M9:=λb s d H Q I h=>
 wpAny_Dict_empty ⟨.ref s.heap.objs.size,_,I.laid (a:=s.heap.objs.size) (o:=.dK []) (t':=s.toks) (λ_ _ q=>ab2 _ q) (aca _) (yV s.heap I.big),Y,h _ (I.aL.fresh (aca _))⟩
theorem GP:PE X (.Dict [] [] pos) Nb:=λb s d H Q I h=>
 wpAny_Dict_empty ⟨.ref s.heap.objs.size,_,I.laid (a:=s.heap.objs.size) (o:=.dT []) (t':=s.toks) (λ_ _ q=>ab2 _ q) (aca _) (GO s.heap I.big),Y,h _ (I.aL.fresh (aca _))⟩
end
def yW:List (TE×TE)->St->Hp->(List (V×V)->Hp->Prop)->Prop
 |[],_,H,Q=>Q [] H
 |(g,c)::r,a,H,Q=>g a H λx b=>c a b λy e=>yW r a e λd f=>Q ((x,y)::d) f
abbrev VV:List (V×V)->List (Value×Value)->Prop:=Paired λp q=>RelV p.1 q.1/\RelV p.2 q.2
def I8 (X:Cx)(b:Pos)(keys:List (Option Expr))(values:List Expr)(c:List (TE×TE)):Prop:=
 ∀(a:List (Addr×Obj)) (s:Shared) (d:St) (H:Hp) (Q:List (V×V)->Hp->Prop),Inv X a d H s->yW c d H Q->
  wpAny (model X.prog X.w) X.A (evalPairs (pairTrees keys values X.env b)) (λh g=>∃e f,Inv X a d f g/\VV e h/\Q e f) X.xe s
theorem KG:I8 X p [] [] []:=λa s b H Q I h=>pairTrees_nil_walk ⟨[],H,I,.nil,h⟩
theorem GQ {k:Expr}{ks:List (Option Expr)}{d:TE}{b:List (TE×TE)}(i:PE X k r)(q:PE X e d)(j:I8 X p ks C b):
 I8 X p (some k::ks) (e::C) ((r,d)::b):=λa s c H Q I h=>
 pairTrees_cons_walk (aY (i a s c H _ I h) λu l ⟨x,v,t,o,m⟩=>aY (q a l c v _ t m) λF D ⟨y,B,E,w,z⟩=>
  aY (j a D c B _ E z) λJ G ⟨n,g,f,rel,A⟩=>⟨(x,y)::n,g,f,.cons ⟨o,w⟩ rel,A⟩)
def iA (a more:List (Key×V)):List (Key×V):=more.foldl (λacc b=>putK acc b.1 b.2) a
theorem KV.merge:∀{more:List (Key×V)} {rs:List (Key×Value)} {a:List (Key×V)} {b:List (Key×Value)},KV more rs->KV a b->KV (iA a more) (merged b rs):=by
 intro more rs a b r
 induction r generalizing a b with
 |nil=>intro q;exact q
 | @cons p q g f h t d=>
   intro c
   have e:KV (putK a p.1 p.2) (stored b q.1 q.2):=by
    have:=c.put p.1 h.2;rw[<-h.1];exact this
   exact d e
theorem kx:∀(more a:List (Key×V)),(iA a more).length<=a.length+ more.length
 |[],a=>by show a.length<=a.length+ 0;omega
 |p::r,a=>by
  have b:=kx r (putK a p.1 p.2);have c:=gC a p.1 p.2;show (iA (putK a p.1 p.2) r).length<=_;rw[acC];omega
theorem uO {P:Program}{w:World}:∀{d:List (Key×V)} {f:List (Value×Value)},VV (d.map λg=>(kV g.1,g.2)) f->∃e,Carries (bO P w) f e/\KV d e
 |[],_,r=>by cases r;exact⟨[],True.intro,.nil⟩
 |p::d,_,r=>by
  cases r with
  | @cons a b as bs h t=>
    obtain⟨e,c,q⟩:=uO (P:=P) (w:=w) t;obtain⟨j,i⟩:=b;exact⟨(p.1,i)::e,⟨jr h.1,Y,c⟩,.cons ⟨Y,h.2⟩ q⟩
def Rh (b:List (TE×TE)):TE:=λ f H Q=>∀p,H p=none->yW b f (upd H p (.dK [])) λe c=>c p=some (.dK [])/\∃a:List (Key×V),e=a.map (λd=>(kV d.1,d.2))/\a.length<=15/\Q (.ref p) (upd c p (.dK (iA [] a)))
theorem KH {keys:List (Option Expr)}{values:List Expr}{d:List (TE×TE)}(h:I8 X p keys values d)(i:keys.all (·.isSome)=true)(r:keys.length=values.length)(n:keys≠[])
 (j:keys.length<=15):PE X (.Dict keys values p) (Rh d):=by
 intro g s y H Q I q;have t:=I.aL.fresh (aca s.heap.objs.size);have x:=I.laid (a:=s.heap.objs.size) (o:=.dK []) (h':=s.heap.push { cls:=.type "dict",data:=.dict #[] }) (t':=s.toks) (λ_ _ q=>ab2 _ q) (aca _) (yV s.heap I.big);refine wpAny_Dict_walk (knd:=bO X.prog X.w) i r n j (aY (h g _ y _ _ x (q _ t)) λR S ⟨O,T,l,rel,e,b,m,lk,G⟩=>?_);subst m;obtain⟨C,c,rk⟩:=uO (P:=X.prog) (w:=X.w) rel;obtain⟨z,u,M,D,E⟩:=rX l.aL e;cases D;refine⟨C,c,E,λk f B=>⟨.ref s.heap.objs.size,_,?_,Y,G⟩⟩
 have F:(iA [] b).length<=sizeLine:=by
  have A:=kx b [];rw[ael]at A;rw[sizeLine_eq];omega
 have J:∃q,k.get? s.heap.objs.size=some q:=let ⟨q,_,_,v,_⟩:=f;⟨q,v⟩
 exact jN l (by rw[e];exact True.intro) B J (qD F u (rk.merge .nil) f)
structure M1 (X:Cx) (o:Expr) (m:Str) (apos:Pos) (e:Expr) (bX:Pos):Prop where
 base:attributeBase o m X.env (eval o X.env)=eval o X.env
 few:((backTo bX (starEach [e] X.env)).all (λx=>!x.1) && (backToKw bX (keywordEach [] X.env)).all (λx=>x.1.isSome)
  && decide (([e]:List Expr).length+ ([]:List Keyword).length+ (if ([]:List Keyword).isEmpty then 0 else 1)<30))=true
 line:(apos.endLine==bX.line)=true
 trees:backTo bX (starEach [e] X.env)=[(false,eval e X.env)]
structure M2 (X:Cx) (o:Expr) (m:Str) (apos:Pos) (e f:Expr) (bX:Pos):Prop where
 base:attributeBase o m X.env (eval o X.env)=eval o X.env
 few:((backTo bX (starEach [e,f] X.env)).all (λx=>!x.1) && (backToKw bX (keywordEach [] X.env)).all (λx=>x.1.isSome)
  && decide (([e,f]:List Expr).length+ ([]:List Keyword).length+ (if ([]:List Keyword).isEmpty then 0 else 1)<30))=true
 line:(apos.endLine==bX.line)=true
 trees:backTo bX (starEach [e,f] X.env)=[(false,eval e X.env),(false,eval f X.env)]
def Bp (H:Hp)(a:Addr):Prop:=(∃b,Rd H a (.dK b))\/∃b,Rd H a (.dT b)
theorem lD (I:Inv X o D H s)(d:Bp H a):
 s.TypeIs (.ref a) "dict"/\(∀b,Value.ref a=.ref b->∃c,s.heap.get? b=some c/\c.dict=none)/\(a==sysModules)=false:=by
 rcases d with ⟨g,e⟩|⟨g,e⟩
 ·obtain⟨_,h,k,_,f⟩:=pf I.aL e;refine⟨f.typeIs,λb q=>?_,h⟩;cases q;obtain⟨c,_,_,i,j,_⟩:=f;exact⟨c,i,j.2.1⟩
 ·obtain⟨_,h,l,_,f⟩:=ph I.aL e;refine⟨f.typeIs,λb q=>?_,h⟩;cases q;obtain⟨c,_,_,i,j,_⟩:=f;exact⟨c,i,j.2.1⟩
section
variable {X:Cx}{pins:List (Addr×Obj)}{σ:St}{H:Hp}{s:Shared}{a:Addr}{y d:V}{u r:Value}{o:Option V}{A:Around}{E:Value->Shared->Prop}
theorem Nc (q:A.units+ 1<cLine)(I:Inv X pins σ H s)(g:fI H a y o)(p:RelV y u)(h:∀m n,Inv X pins σ H n->RelV (o.getD .non) m->Q m n):
 wpAny (model X.prog X.w) A (call (.builtin "dict.get") [.ref a,u]) Q E s:=by
 rcases g with ⟨f,k,e,j,l⟩|⟨f,k,b,e,j,v,l⟩
 ·subst j;obtain⟨z,i,w,rel,c⟩:=pf I.aL e;refine aew adO c.typeIs aeF (PySem.F.args_dict_get_2 _ _) (meets_dict_get (bO X.prog X.w) a (jr p) i) ⟨_,c.mapOf,h _ _ (I.tok _) ?_⟩;rw[l];exact(rel.val k).getD rfl
 ·subst j;cases (show u=Value.ref b from p);obtain⟨z,i,t,rel,c⟩:=ph I.aL e;refine aew adO c.typeIs aeF (PySem.F.args_dict_get_2 _ _) (meetsH_dict_get (tupleKind (bO X.prog X.w)) a b i) ⟨ad9 q,k,t,lC I.aL v,c,h _ _ (I.tok _) ?_⟩;rw[l];exact(rel.val k).getD rfl
theorem Nf (q:A.units+ 1<cLine)(I:Inv X pins σ H s)(g:fI H a y o)(p:RelV y u)(rd:RelV d r)(h:∀m n,Inv X pins σ H n->RelV (o.getD d) m->Q m n):
 wpAny (model X.prog X.w) A (call (.builtin "dict.get") [.ref a,u,r]) Q E s:=by
 rcases g with ⟨f,k,e,j,l⟩|⟨f,k,b,e,j,v,l⟩
 ·subst j;obtain⟨z,i,w,rel,c⟩:=pf I.aL e;refine aew adO c.typeIs aeF (PySem.F.args_dict_get_3 _ _ _) (meets_dict_get_default (bO X.prog X.w) a (jr p) i r) ⟨_,c.mapOf,h _ _ (I.tok _) ?_⟩;rw[l];exact(rel.val k).getD rd
 ·subst j;cases (show u=Value.ref b from p);obtain⟨z,i,t,rel,c⟩:=ph I.aL e;refine aew adO c.typeIs aeF (PySem.F.args_dict_get_3 _ _ _) (meetsH_dict_get_default (tupleKind (bO X.prog X.w)) a b i r) ⟨ad9 q,k,t,lC I.aL v,c,h _ _ (I.tok _) ?_⟩;rw[l];exact(rel.val k).getD rd
end
inductive Bq (x:V) (H:Hp) (G:Addr->Prop):Prop
 |mk (a:Addr):x=.ref a->Bp H a->G a->Bq x H G
def Ng (td e:TE):TE:=λ d H Q=>td d H λx b=>Bq x b λa=>e d b λy c=>∃o,fI c a y o/\Q (o.getD .non) c
inductive Nh (ty tx:TE) (σ:St) (x:V) (H1:Hp) (Q:VK):Prop
 |mk (a:Addr):x=.ref a->Bp H1 a->(ty σ H1 λy H2=>tx σ H2 λz H3=>∃o,fI H3 a y o/\Q (o.getD z) H3)->Nh ty tx σ x H1 Q
def Ni (td c tx:TE):TE:=λ a H Q=>td a H λx b=>Nh c tx a x b Q
inductive Nj (a:Addr) (y:V) (H:Hp) (Q:VK):Prop
 |mk (kvs:List (Key×V)) (k:Key) (v:V):H a=some (.dK kvs)->y=kV k->bz kvs k=some v->Q v (upd H a (.dK (eP kvs k)))->Nj a y H Q
def Nk (td d:TE):TE:=λ c H Q=>td c H λx b=>Bq x b λa=>d c b λy e=>Nj a y e Q
inductive GR (a:Addr) (y z:V) (H:Hp) (Q:VK):Prop
 |mk (kvs:List (Key×V)) (k:Key):H a=some (.dK kvs)->y=kV k->(∀v,bz kvs k=some v->Q v (upd H a (.dK (eP kvs k))))->(bz kvs k=none->Q z H)->GR a y z H Q
def Nm (td d tx:TE):TE:=λ b H Q=>td b H λx c=>Bq x c λa=>d b c λy e=>tx b e λz f=>GR a y z f Q
section
variable {X:Cx}{o e f:Expr}{apos bX:Pos}{td ty tx:TE}
theorem GU (k:X.A.units+ 1<cLine)(w:PE X o td)(A:PE X e ty)(m:M1 X o "get" apos e bX):PE X (.Call (.Attribute o "get" apos) [e] [] bX) (Ng td ty):=by
 intro b s j H Q I h;refine aem m.base m.few m.line ado adO PySem.F.type_dict_get (aY (w b s j H _ I h) λu n ⟨x,r,i,q,a,ex,d,p⟩=>?_);subst ex;obtain rfl:u=Value.ref a:=q;obtain⟨B,t,_⟩:=lD i d;refine⟨B,t,?_⟩;rw[m.trees];refine ac6 Y (adE (ac2 (aY (A b n j r _ i p) λG L ⟨y,C,D,v,E,g,z⟩=>adJ ?_)));exact Nc k D g v λF J l c=>⟨_,C,l,c,z⟩
theorem lE (k:X.A.units+ 1<cLine)(D:PE X o td)(G:PE X e ty)(v:PE X f tx)(m:M2 X o "get" apos e f bX):PE X (.Call (.Attribute o "get" apos) [e,f] [] bX) (Ni td ty tx):=by
 intro b s i H Q I h;refine aem m.base m.few m.line ado adO PySem.F.type_dict_get (aY (D b s i H _ I h) λu p ⟨x,w,j,t,a,ex,d,r⟩=>?_);subst ex;obtain rfl:u=Value.ref a:=t;obtain⟨J,A,_⟩:=lD j d;refine⟨J,A,?_⟩;rw[m.trees]
 refine ac6 Y (adE (ac2 (aY (G b p i w _ j r) λR M ⟨y,L,N,C,E⟩=>
  ac2 (aY (v b M i L _ N E) λT S ⟨z,n,l,q,O,g,F⟩=>adJ ?_))))
 exact Nf k l g C q λP U B c=>⟨_,n,B,c,F⟩
theorem GV (B:PE X o td)(D:PE X e ty)(m:M1 X o "pop" apos e bX):PE X (.Call (.Attribute o "pop" apos) [e] [] bX) (Nk td ty):=by
 intro b s i H Q I h;refine aem m.base m.few m.line ado aeO PySem.F.type_dict_pop (aY (B b s i H _ I h) λu n ⟨x,t,g,q,a,ex,d,p⟩=>?_);subst ex;obtain rfl:u=Value.ref a:=q;obtain⟨E,z,_⟩:=lD g d;refine⟨E,z,?_⟩;rw[m.trees];refine ac6 Y (adE (ac2 (aY (D b n i t _ g p) λL O ⟨y,N,G,A,r,k,v,w,F,l,C⟩=>adJ ?_)));subst F;exact I7 G w A l (.inl Y) λJ M j c=>⟨v,_,j,c,C⟩
theorem t7 (L:PE X o td)(P:PE X e ty)(D:PE X f tx)(m:M2 X o "pop" apos e f bX):PE X (.Call (.Attribute o "pop" apos) [e,f] [] bX) (Nm td ty tx):=by
 intro b s i H Q I h;refine aem m.base m.few m.line ado aeO PySem.F.type_dict_pop (aY (L b s i H _ I h) λu w ⟨x,E,p,C,a,ex,d,B⟩=>?_);subst ex;obtain rfl:u=Value.ref a:=C;obtain⟨R,F,_⟩:=lD p d;refine⟨R,F,?_⟩;rw[m.trees]
 refine ac6 Y (adE (ac2 (aY (P b w i E _ p B) λZ U ⟨y,T,V,r,N⟩=>
  ac2 (aY (D b U i T _ V N) λG s3 ⟨z,t,n,A,g,k,q,S,O,J⟩=>adJ ?_))))
 subst S
 cases l:bz g k with
 |some v=>exact I7 n q r l (.inr ⟨G,Y⟩) λW M j c=>⟨v,_,j,c,O v l⟩
 |none=>exact M5 n q r l λM j=>⟨z,t,j,A,J l⟩
end
section
variable {X:Cx}{pins:List (Addr×Obj)}{σ:St}{H:Hp}{s:Shared}{h':Heap}
theorem Inv.t8 {fp:List Addr}{o:HO}{t':Nat}(I:Inv X pins σ H s)(k:∀b u,b∉fp->s.heap.get? b=some u->h'.get? b=some u)(f:∀b∈fp,oW X pins H b)
 (h:s.heap.objs.size<=a) (new:bU X.prog X.w (upd H a o) h' a o):Inv X pins σ (upd H a o) { s with heap:=h',toks:=t' }:=by
 have g:=I.aL.fresh h;have i:∀b u,H b=some u->b∉fp:=λb u e z=>by rw[(f b z).1]at e;cases e
 refine I.step (g':=s.gens) (d':=s.drawn) (ch:=fp) (λb d=>⟨(f b d).2.2.2.1,(f b d).2.1,(f b d).2.2.2.2.1,(f b d).2.2.2.2.2⟩) (λb o _ _ hc e _=>k b o hc e) (λb o _ _ hc e _=>⟨o.slots,k b o hc e⟩)
  (λb o _ e n=>by rw[ai (acz (acw (acg e) h))];exact n) (λb o hc e=>⟨o,k b o hc e⟩) (λb l e=>by rw[ai (au e g)];exact e)
  (λb o u e=>by rw[ai (au e g)];exact e) (λb x e=>⟨#[],by rw[ai (au e g),e];simp⟩) (λm p=>?_) (λb u e=>?_) I.bare
 ·obtain⟨o,t,j,w,r⟩:=p;exact⟨o,t,j,k _ o (λz=>(f _ z).2.1 Y) w,r⟩
 ·by_cases d:b=a
  ·subst d;rw[ah]at e;cases e;exact new
  ·rw[ai d]at e;refine(I.aL b u e).eX (λc v hc q=>k c v ?_ q) (λc q=>by rw[ai (au q g)];exact q) λc l q=>by rw[ai (au q g)];exact q
   rcases hc with z|z
   ·rw[z];exact i b u e
   ·exact i c _ z
theorem Inv.wF {fp:List Addr}{t':Nat}(I:Inv X pins σ H s)(k:∀b u,b∉fp->s.heap.get? b=some u->h'.get? b=some u)(a:∀b∈fp,oW X pins H b):Inv X pins σ H { s with heap:=h',toks:=t' }:=by
 have f:∀b u,H b=some u->b∉fp:=λb u e z=>by rw[(a b z).1]at e;cases e
 refine I.step (g':=s.gens) (d':=s.drawn) (ch:=fp) (λb d=>⟨(a b d).2.2.2.1,(a b d).2.1,(a b d).2.2.2.2.1,(a b d).2.2.2.2.2⟩) (λb o _ _ hc e _=>k b o hc e) (λb o _ _ hc e _=>⟨o.slots,k b o hc e⟩)
  (λb o _ e n=>n) (λb o hc e=>⟨o,k b o hc e⟩) (λb h e=>e) (λb o u e=>e) (λb p e=>⟨#[],by rw[e];simp⟩) (λm i=>?_) (λb u e=>?_) I.bare
 ·obtain⟨o,j,g,l,r⟩:=i;exact⟨o,j,g,k _ o (λz=>(a _ z).2.1 Y) l,r⟩
 ·refine(I.aL b u e).eX (λc v hc q=>k c v ?_ q) (λc q=>q) λc h q=>q
  rcases hc with z|z
  ·rw[z];exact f b u e
  ·exact f c _ z
end
namespace En
section
variable {prog:Program}{w:World}{A:Around}{E:Value->Shared->Prop}{s:Shared}
theorem xD {it:Addr}{fp:List Addr}{P:Nat->Value->Prop}{St:Nat->Heap->Prop}{Q:Option Value->Shared->Prop}(D:Draws prog w A.in1 it fp n P St)
 (he:IsEnum s.heap a it z v) (Ws:St i s.heap) (i7:i<n) (lF:a≠it) (SJ:a∉fp)
 (hQ:∀x h' I,P i x->IsEnumOut h' a it (z+ 1) x s.heap.objs.size->St (i+ 1) h'->h'.get? s.heap.objs.size=some { cls:=.type "tuple",data:=.seq #[.int z I,x] }->
  (∀b o,b≠a->b≠it->s.heap.get? b=some o->h'.get? b=some o)->Q (some (.ref s.heap.objs.size)) { s with heap:=h',toks:=I+ 1 }):
 wpAny (model prog w) A (pyNext (.ref a)) Q E s:=by
 have hT:s.TypeIs (.ref a) "enumerate":=⟨_,he,Y⟩;unfold pyNext;refine ab1 (afd (ac3 (name:=Str.ofString "__next__") hT aeP (ac8 aeP hT F.entry_enumerate_next ?_ (F.args_enumerate_next_1 _))));obtain⟨U,g,d,aaI,os⟩:=s;show wpAny _ _ (field (.ref a) 2 >>=_) _ _ _;refine ab1 (ac4 he Y (x:=.ref it) Y (ab1 (D.item i _ _ _ i7 Ws λx j I Ef O h=>?_)));replace h:Heap.SameBut it U j:=h;have t:IsEnum j a it z v:=(h.2 a lF).trans he;show wpAny _ _ (field (.ref a) 3 >>=_) _ _ ⟨j,g,d,I,os⟩;refine ab1 (ac4 t rfl (x:=rawInt z) Y ?_);show wpAny _ _ (field (.ref a) 4 >>=_) _ _ ⟨j,g,d,I,os⟩;refine ab1 (ac4 t rfl (x:=.none) Y ?_);show wpAny _ _ (mkInt z >>=_) _ _ ⟨j,g,d,I,os⟩;refine ab1 (wpAny_mkInt ?_);show wpAny _ _ (setField (.ref a) 3 (rawInt (z+ 1)) >>=_) _ _ ⟨j,g,d,I+ 1,os⟩;refine ab1 (adj t (by simp) λG r f=>?_);replace f:Heap.SameBut a j G:=f;replace r:IsEnum G a it (z+ 1) v:=r;show wpAny _ _ (setField (.ref a) 4 .none >>=_) _ _ ⟨G,g,d,I+ 1,os⟩;refine ab1 (adj r (by simp) λm u e=>?_);replace e:Heap.SameBut a G m:=e;replace u:IsEnum m a it (z+ 1) v:=u;show wpAny _ _ (newTuple [.int z I,x] >>=_) _ _ ⟨m,g,d,I+ 1,os⟩;refine ab1 (wpAny_newTuple ?_);have C:IsEnum (m.push { cls:=.type "tuple",data:=.seq #[.int z I,x] }) a it (z+ 1) v:=ab2 _ u;generalize B:m.push { cls:=.type "tuple",data:=.seq #[.int z I,x] }=H at C;have hsz:m.objs.size=U.objs.size:=by rw[e.1,f.1,h.1]
 have uP:a<U.objs.size:=acg he;have X:H.get? U.objs.size=some { cls:=.type "tuple",data:=.seq #[.int z I,x] }:=by rw[<-B,<-hsz];exact acf _ rfl
 have W:∀b o,b≠a->b≠it->U.get? b=some o->H.get? b=some o:=λb o c V Z=>by
  rw[<-B];exact ab2 _ (e.extBut b o c (f.extBut b o c (h.extBut b o V Z)))
 have T:St (i+ 1) H:=D.frame _ _ _ O λb Z o y=>by
  have c:b≠a:=λq=>SJ (q ▸ Z)
  rw[<-B];exact ab2 _ (e.extBut b o c (f.extBut b o c y))
 show wpAny _ _ (Builtin.SmallTypes.ownedTupleIsFree (.ref a) >>=_) _ _ ⟨H,g,d,I+ 1,os⟩;rw[hsz];clear B u e r f t h O hsz m G j;refine ab1 ?_;unfold Builtin.SmallTypes.ownedTupleIsFree;refine ab1 (ac4 C rfl (x:=.none) Y (ab7 ?_));simp only[if_true];refine ab1 (afo (ab1 (ac4 C rfl (x:=v) Y (ab1 (adj C (by simp) λN M p=>?_)))));replace p:Heap.SameBut a H N:=p;replace M:IsEnum N a it (z+ 1) x:=M;show wpAny _ _ (Builtin.SmallTypes.ownedTupleHandOut (.ref a) (.ref U.objs.size) >>=_) _ _ ⟨N,g,d,I+ 1,os⟩;refine ab1 ?_;unfold Builtin.SmallTypes.ownedTupleHandOut;refine ab1 (adj M (by simp) λS L l=>?_);replace l:Heap.SameBut a N S:=l;replace L:IsEnumOut S a it (z+ 1) x U.objs.size:=L;refine adj L (by simp) λR J k=>?_
 replace k:Heap.SameBut a S R:=k;replace J:IsEnumOut R a it (z+ 1) x U.objs.size:=J;refine ab1 (afp (ab7 ⟨_,Y,ab7 (hQ x R I Ef J ?_ ?_ ?_)⟩))
 ·exact D.frame _ _ _ T λb Z o y=>by
   have c:b≠a:=λq=>SJ (q ▸ Z)
   exact k.extBut b o c (l.extBut b o c (p.extBut b o c y))
 ·exact k.extBut _ _ (ade uP) (l.extBut _ _ (ade uP) (p.extBut _ _ (ade uP) X))
 ·exact λb o c V Z=>k.extBut b o c (l.extBut b o c (p.extBut b o c (W b o c V Z)))
theorem KJ {T newId:String}{self a:Value}{kw:List (Str×Value)}(e:typeLookup (.type T) "__init__"=pure (some (.builtin "object.__init__")))(f:Bind.madeBy (.type T)=pure (some newId))(c:(some newId !=some "object.__new__")=true):
 Meets (Builtin.«object.__init__» ⟨[self,a],kw⟩) (λ_ R s=>s.TypeIs self T/\R (.ok (.ret .none)) s):=by
 refine Meets.of_wp λprog w A R s b=>?_
 obtain⟨g,d⟩:=b
 repeat (any_goals (first|assumption|wp_step))
 exact⟨_,Y,d⟩
theorem Ri (a b:Value):checkTypeCall "enumerate" ⟨[a],[("start",b)]⟩=pure ():=by kernel_rfl
theorem Rj (a b:Value):checkBuiltinCall "enumerate.__new__" ⟨[.type "enumerate",a],[("start",b)]⟩=pure ():=by kernel_rfl
theorem Rk (a b c:Value):argsOk "object.__init__" ⟨[a,b],[("start",c)]⟩:=by
 unfold argsOk;rw[signature?_of (id:="object.__init__") (n:=['_','_','t','i','n','i','_','_']) (o:=['t','c','e','j','b','o']) (by kernel_rfl) F.owner_object]
 kernel_rfl
end
end En
inductive Rl (t:TT) (σ:St) (H:Hp) (Q:(Bool->Hp->Prop)):Prop
 |mk (G:Bool->Hp->Prop):t σ H G->(∀c H',G c H'->Q c H')->Rl t σ H Q
def CXw (P:Program)(w:World):kJ:=λa H s E e c=>∃(x C:Addr) (B:Heap) (d:Hp) (g:Value),e=.ref x/\c.os=s.os/\AllBare c.gens/\Heap.FlyingW B a x (.ref C) g c.heap/\
 Un (cx a) [] H d s.heap c.heap/\dw P w d B/\(∀b o,s.heap.get? b=some o->H b=none->b∉cx a->B.get? b=some o)/\(∀b o,s.heap.get? b=some o->b∉cx a->∃f,B.get? b=some f)/\E (.ref C) none d
section
variable {X:Cx}{pos:Pos}
abbrev TJ:=St->Hp->List Nat->VK->Prop
def PJ (X:Cx)(c:List Expr)(t:TJ):Prop:=
 ∀(a:List (Addr×Obj)) (s:Shared) (b:St) (H:Hp) (acc:List Nat) (Q:VK),Inv X a b H s->t b H acc Q->wpAny (model X.prog X.w) X.A (joinParts (tx acc) (evalEach c X.env)) (EP X a b Q) X.xe s
theorem Nn:PJ X [] (λ b H acc Q=>acc.length<=1000000/\Q (.str (tx acc)) H):=λa s b H acc Q I h=>
 joinParts_nil ⟨.str (tx acc),H,I.tok _,⟨_,Y⟩,h.2⟩ (by rw[D0];exact acr h.1 (by decide))
theorem Br {t:TJ}(n:PE X e r)(g:PJ X C t)(m:evalEach (e::C) X.env=eval e X.env::evalEach C X.env:=by rfl):
 PJ X (e::C) (λ c H acc Q=>r c H λv d=>∃l,v=.str (tx l)/\acc.length+ l.length<=1000000/\t c d (acc++l) Q):=by
 intro b s c H acc Q I h;rw[m];refine joinParts_cons (aY (n b s c H _ I h) λv i ⟨x,d,k,a,l,f,j,q⟩=>?_);subst f;obtain⟨o,rfl⟩:=a;refine⟨?_,?_⟩
 ·rw[Ea,D0,ab6];exact acr j (by decide)
 ·rw[Ea];exact g b i c d (acc++l) Q k q
theorem Eg {b:Expr}{t:TJ}(h:PJ X (e::b::C) t)(d:evalEach (e::b::C) X.env=eval e X.env::eval b X.env::evalEach C X.env:=by rfl):PE X (.JoinedStr (e::b::C) pos) (λ c H Q=>t c H [] Q):=by
 intro a s c H Q I q;refine JoinedStr_many ?_;have:=h a s c H [] Q I q;rw[d]at this;exact this
theorem KL (j:PE X e r):PE X (.FormattedValue e (-1) none pos) (λ c H Q=>r c H λv d=>∃n:Int,v=.int n/\n.natAbs<10000000000/\Q (.str (tx (yR n))) d):=by
 intro b s c H Q I h;refine FormattedValue_plain (aY (j b s c H _ I h) λv l ⟨x,d,i,a,n,f,g,q⟩=>?_);subst f;obtain⟨k,rfl⟩:=a;refine formatField_int_small (Eb g) ?_;exact⟨.str (tx (yR n)),d,i.tok _,⟨_,by rw[Rb (toString n:Str)];rfl⟩,q⟩
abbrev yX:List Value:=[.type "ValueError",.type "Exception",.type "BaseException",.type "object"]
end
theorem bU.get {o:HO}(x:bU P w H h a o):∃u,h.get? a=some u:=by
 cases o with
 |lst c=>obtain⟨_,_,_,_,e⟩:=x;exact⟨_,e⟩
 |tup c=>obtain⟨_,_,_,d,e,_⟩:=x;exact⟨_,e⟩
 |dK b=>obtain⟨_,_,_,_,o,_,_,e,_⟩:=x;exact⟨_,e⟩
 |dT b=>obtain⟨_,_,_,_,o,_,_,e,_⟩:=x;exact⟨_,e⟩
 |set S n=>obtain⟨o,_,_,_,e,_⟩:=x;exact⟨_,e⟩
 |ins C dx fs=>obtain⟨_,_,_,e,_⟩:=x;exact⟨_,e⟩
 |own y=>exact x
 |xd fs=>obtain⟨_,⟨_,_,_,e,_⟩,_⟩:=x;exact⟨_,e⟩
 |Dz lo g=>obtain⟨_,_,_,e⟩:=x;exact⟨_,e⟩
 |cL d u=>obtain⟨e,_⟩:=x;exact⟨_,e⟩
 |e9 i=>exact⟨_,show h.get? a=some _ from x⟩
 |met f y=>exact⟨_,show h.get? a=some _ from x⟩
 |ext j=>obtain⟨_,e,_⟩:=x;exact e
def CM (x C:Addr)(h:Heap):Prop:=∃a b,h.get? x=some a/\a.cls=.ref C/\a.data=.fields b
def ExO (x C:Addr):HO:=.ext (CM x C)
def Wt (X:Cx)(a:List (Addr×Obj))(g:St)(d:Hp)(x C:Addr)(s:Shared):Prop:=
 ∃(B:Heap) (c:Hp) (s1:Shared) (f:Value),Inv X a g c s1/\s.os=s1.os/\AllBare s.gens/\Heap.FlyingW B X.stack x (.ref C) f s.heap/\Un (cx X.stack) [] c d s1.heap s.heap/\dw X.prog X.w d B/\
  (∀b o,s1.heap.get? b=some o->c b=none->b∉cx X.stack->B.get? b=some o)/\(∀b o,s1.heap.get? b=some o->b∉cx X.stack->∃e,B.get? b=some e)
section
variable {X:Cx}{pins:List (Addr×Obj)}{σ:St}{x:Addr}{s:Shared}
theorem Inv.I9 {s1:Shared}(I:Inv X pins σ H s1){b:Addr}(a:b∈cx X.stack):∃o,s1.heap.get? b=some o/\∀c,o.data≠.fields c:=by
 obtain⟨_,o,e,n⟩:=I.stack.mem a;exact⟨o,e,n⟩
abbrev Cx.xE (X:Cx) (x:Addr):Cx:={ X with A:=X.A.mark (some (.ref x)),calm:=false,xe:=λ_ _=>False }
theorem Inv.xE (I:Inv X pins σ H s)(x:Addr):Inv (X.xE x) pins σ H s:=
 ⟨⟨I.ok.mod,I.ok.kind,I.ok.glob,I.ok.blt,I.ok.above,I.ok.inj,I.ok.has,I.ok.yz,(λz=>by cases z),I.ok.frames,I.ok.A8,I.ok.IG,I.ok.bs,I.ok.qw,I.ok.tU,I.ok.wu,I.ok.iJ,I.ok.sN⟩,I.os,I.bare,I.base,I.loc,I.cell,I.free,I.fX,I.pin,I.aL,I.len⟩
theorem Inv.yu (ok:X.Ok)(I:Inv (X.xE x) pins σ H s):Inv X pins σ H s:=⟨ok,I.os,I.bare,I.base,I.loc,I.cell,I.free,I.fX,I.pin,I.aL,I.len⟩
theorem rZ {M:Model}(I:Inv X pins σ H s)(hN:X.N.Nodup)(G:X.N[i]?=some f)(n:X.env.scope.names.lookup f=some .local)
 (h:∀L,Inv X pins (σ.set i none) H L->U () L):wpAny M A (do bindName X.env f .none;unbindBehindTheSuite X.env f p) U E s:=by
 obtain⟨m,R,Q⟩:=id I.loc;have u:(X.env.scope.kind==.class || (X.env.scope.kind==.module && X.env.locals !=X.env.globals))=false:=by rw[I.ok.kind];rfl
 have t:i < σ.length:=by rw[I.len];exact(ab5.mp G).1
 refine wpAny_nameGoes_keeps n R u λh' v B g=>?_
 have l:∀b o,X.dR.heap.get? b=some o->b≠X.env.locals:=λb o e=>acz (acw (acg e) I.ok.above)
 refine h _ ⟨I.ok,I.os,I.bare,⟨λb o e k D n=>(g.2 b (l b o e)).trans (I.base.keep b o e k D n),λb o e k D n=>?_,I.base.free,λb o e n=>?_,I.base.gN,I.base.fW,I.base.gO⟩,⟨_,B,λj y T r w N=>?_⟩,λy c e=>?_,I.free,I.fX,λa W=>?_,λb V e=>?_,by simpa using I.len⟩
 ·obtain⟨O,r⟩:=I.base.slot b o e k D n;exact⟨O,(g.2 b (l b o e)).trans r⟩
 ·obtain⟨P,r⟩:=I.base.there b o e n;exact⟨P,(g.2 b (l b o e)).trans r⟩
 ·by_cases F:j=i
  ·subst F;rw[acT t]at w;cases w
  ·rw[adp (adn F)]at w;obtain⟨Z,S,q⟩:=Q j y T r w N;refine⟨Z,S,?_⟩;rcases q with ⟨k,e⟩|⟨k,c,e,z⟩
   ·refine .inl ⟨k,?_⟩;have:y≠f:=λe=>F (tV hN r (e ▸ G))
    simp[this,e]
   ·exact .inr ⟨k,c,e,z.sameBut g (I.kH y c e)⟩
 ·obtain⟨J,z⟩:=I.cell y c e;exact⟨J,z.sameBut g (I.kH y c e)⟩
 ·obtain⟨e,k,ne,nf,d⟩:=I.pin a W;exact⟨(g.2 a.1 ne).trans e,k,ne,nf,d⟩
 ·refine(I.aL b V e).eX (λc J hc q=>(g.2 c ?_).trans q) (λ_ q=>q) λ_ _ q=>q
  rintro rfl;rcases hc with rfl|hc
  ·rw[I.free]at e;cases e
  ·rw[I.free]at hc;cases hc
end
abbrev XR:=Addr->St->Hp->Prop
def XP (X:Cx)(a:List (Addr×Obj))(R:XR)(e:Value)(s:Shared):Prop:=∃x C b H,e=.ref x/\Wt X a b H x C s/\R C b H
abbrev TH:=Ends->Addr->St->Hp->Prop
theorem CM.Rm {M:Model}{x:Addr}(p:CM x a h):PySem.W.Looks M h (typeOf (.ref x)) (.ref a):=by
 obtain⟨o,_,c,b,_⟩:=p;exact b ▸ (PySem.W.Looks.ld c).andThen .now
end L2
namespace L2
open PySem PySem.Spec PyProof.Rows PySem.Calls PySem.W Builtin Builtin.ObjectAttr Builtin.Getset_descriptor
structure aaT (K:Za1) (C:Addr):Prop where
 ga:findIn K (.ref C) "__getattribute__"=some (some (.builtin "BaseException.__getattribute__"))
 gt:findIn K (.ref C) "__getattr__"=some none
 cl:isClsIn K C=true
 at_:findIn K (.ref C) "__class__"=some (some (.builtin "object.__class__"))
 gs:specialIn K (.builtin "object.__class__") "__get__"=some (some (.builtin "getset_descriptor.__get__"))
 tk:takesIn K (.builtin "object.__class__")=some true
 mo:mroIn K C (.type "object")=some true
 be:subIn K (.ref C) (.type "BaseException")=some true
section
variable {A:Around}{E:Value->Shared->Prop}{x C:Addr}
theorem Eh {M:Model}{g:Array GenState}{d:Drawn}{os:OsState}(e:Looks M h (typeOf (.ref x)) (.ref C))(a:Looks M h (isSubtype (.ref C) (.type "BaseException")) true)(i:U () ⟨h,g,d,n,os⟩):
 wpAny M A (checkBuiltinCall "BaseException.__getattribute__" ⟨[.ref x,v],[]⟩) U E ⟨h,g,d,n,os⟩:=by
 have c:builtinKind "BaseException.__getattribute__"=some .slot:=by decide
 have hsplit:splitId "BaseException.__getattribute__"=some ("BaseException","__getattribute__"):=by decide
 have f:=F.args_bexc_ga (.ref x) v;have b:Looks M h (isInstance (.ref x) (.type "BaseException")) true:=e.andThen a;simp only[checkBuiltinCall,c,hsplit];refine ab1 (b.at ?_)
 repeat (any_goals (first|assumption|wp_step))
end
end L2
namespace L2
open PySem PySem.Spec PyProof.Rows
section
variable {P:Program}{w:World}{K:Za1}{mg:Str->Option Value}{base:Heap}
theorem qA.okN {h:kJ}{qual:Str}{st:Stmt}{fd:FuncData}{f:List Str}{k:Nat}{sp:Sp}(F:qA K x qual st a fd)(S:aV Z f (aD st))(len:∀d H Q E,sp d H Q E->d.length=f.length)
 (c:∀(b:Value) (A:Around) (outer:List Env) (s:Shared) (H:Hp) (d:List V) (Q:VK) (E:XK),cH k (A.deeper (envOfC qual (aD st) s.heap.objs.size a b))->sp d H Q E->
  ∃t,i6 (cf h P w K mg base Z qual (aD st) a b A outer s H E).uD (cI st) t/\t { nx:=λ_ m=>Q .non m,rt:=Q } (start Z d) H):bx P w K mg base h (k+ 1) a fd f sp:=by
 obtain⟨q,p,kV,doc,pm,o,b,ct,n,rfl,lk,e⟩:=F.ex;refine yt lk e S len λA outer s H d Q E i g=>?_
 obtain⟨t,j,l⟩:=c b A outer s H d Q E i g;exact⟨t,j.uD,l⟩
end
section
variable {prog:Program}{w:World}{A:Around}{R:Result->Shared->Prop}{s:Shared}
theorem yj {elt target iter:Expr}{scope:Scope}{it acc:Value}{env:Env}(I:Nat->Shared->Prop)
 (turn:∀n s,I n s->wpAny (model prog w) A (pyNext it) (λr c=>match r with
  |none=>R (.ok .next) c
  |some v=>wpAny (model prog w) A (letOwnedTupleGo target it v) (λ_ k=>wpAny (model prog w) A (assign target env v) (λ_ i=>wpAny (model prog w) A (isTrue e env (eval e env)) (λb a=>
   match b with
   |true=>wpAny (model prog w) A (eval elt env) (λx g=>wpAny (model prog w) A (call (.builtin "list.append") [acc,x]) (λ_ j=>∃m,m<n/\I m j) (λ_ _=>False) g) (λ_ _=>False) a
   |false=>∃m,m<n/\I m a) (λ_ _=>False) i) (λ_ _=>False) k) (λ_ _=>False) c) (λ_ _=>False) s)
 (n:Nat) (h:I n s):codeAny (model prog w) A (.compLoop (.ListComp elt [⟨target,iter,[e],0⟩] scope p) 0 it acc env) R s:=by
 refine codeAny_loop Y I (λn s y=>?_) n h;refine wpAny_noted ?_;refine ab1 (aeT (ab1 (acW (turn n s y) (λr c f=>?_) λ_ _ d=>d.elim)))
 cases r with
 |none=>exact ab7 f
 |some v=>
  refine ab1 (acW f (λ_ k q=>?_) λ_ _ d=>d.elim);refine ab1 (acW q (λ_ i t=>ab1 (wpAny_tests_one (acW t (λok g l=>?_) λ_ _ d=>d.elim))) λ_ _ d=>d.elim)
  cases ok with
  |false=>exact ab7 ⟨Y,l⟩
  |true=>
   exact ab1 (ab1 (acW l (λx j u=>ab1 (acW u (λ_ a o=>ab7 (ab7 ⟨Y,o⟩)) λ_ _ d=>d.elim)) λ_ _ d=>d.elim))
end
def GX (g:TT)(j:TE)(f:St)(Q:VK)(J:It)(h:Hp):Prop:=∃W:Nat->Nat->List V->Hp->Prop,(∃m,W 0 m [] h)/\∀i m ys a,W i m ys a->
 (J.stop i a/\ys.length<=sizeLine/\∀D,a D=none->Q (.ref D) (upd a D (.lst ys)))\/
 (J.go i a/\ys.length<sizeLine/\∀x e,J.lb i a x e->g (some x::f) e λb d=>match b with
  |true=>j (some x::f) d λy k=>∃c,c<m/\W (i+ 1) c (ys++[y]) k
  |false=>∃c,c<m/\W (i+ 1) c ys d)
def nB (e:TI)(d:St->St)(b:TT)(c:TE):TE:=λ a H Q=>e a H (GX b c (d a) Q)
end L2
namespace L2
open PySem PySem.Spec PyProof.Rows
inductive KN (x:V) (vs:List V) (H:Hp) (Q:VK):Prop
 |mk (l:Addr) (xs:List V) (i:Nat) (y:V):x=.ref l->vs=[.int i,y]->H l=some (.lst xs)->xs.length<sizeLine->i<=xs.length->i<=100000->Q .non (upd H l (.lst (xs.take i++[y]++xs.drop i)))->KN x vs H Q
end L2
namespace L2
open PySem PySem.Spec PyProof.Rows
theorem gS (h:n∈B):∃i:Nat,B[i]?=some n/\∀j,j<i->B[j]?≠some n:=by
 induction B with
 |nil=>cases h
 |cons a B f=>
  by_cases e:a=n
  ·exact⟨0,by rw[e];rfl,λj d=>by omega⟩
  ·obtain⟨i,c,b⟩:=f ((aci.mp h).resolve_left (adn e));refine⟨i+ 1,c,λj d=>?_⟩
   cases j with
   |zero=>exact λz=>e (Za0 z)
   |succ j=>exact b j (by omega)
inductive Rn (x:V) (y:V) (H:Hp) (Q:VK):Prop
 |mk (a b:Addr) (ns ms:List Int):x=.ref a->y=.ref b->H a=some (.lst (av ns))->H b=some (.lst (av ms))->Q (.bl (decide (ns=ms))) H->Rn x y H Q
def Dz (lo:Int)(n:Nat):List Int:=(List.range n).map λi:Nat=>lo+ (i:Int)
def eD (H:Hp)(rs:List Addr)(rows:Za3):Prop:=rs.length=rows.length/\∀(i:Nat) (r:Addr) (a:List Int),rs[i]?=some r->rows[i]?=some a->H r=some (.lst (av a))
def TabAt (H:Hp)(a:Addr)(rows:Za3):Prop:=∃rs:List Addr,H a=some (.lst (rs.map V.ref))/\eD H rs rows
theorem eD.same {rs:List Addr}{rows:Za3}(h:eD H rs rows)(s:ay H I):eD I rs rows:=⟨h.1,λi r ns b a=>s _ _ (h.2 i r ns b a)⟩
theorem TabAt.same {rows:Za3}(h:TabAt H a rows)(s:ay H I):TabAt I a rows:=by
 obtain⟨rs,c,b⟩:=h;exact⟨rs,s _ _ c,b.same s⟩
theorem qE {rs:List Addr}:∀{a:List Value},Vals (rs.map V.ref) a->a=rs.map Value.ref:=by
 induction rs with
 |nil=>intro a r;cases r;rfl
 |cons c rs e=>
  intro a r
  cases r with
  |cons d b=>cases d;rw[e b];rfl
theorem Bs {a:Type} [DecidableEq a]{ns ms:List a}(h:ns.length=ms.length):(List.range ns.length).all (λj=>decide (ns[j]?=ms[j]?))=decide (ns=ms):=by
 rw[ads,List.all_eq_true,acS];constructor
 ·intro b;refine aeU λi=>?_
  grind
 grind
section
variable {X:Cx}{pins:List (Addr×Obj)}{σ:St}{H:Hp}{s:Shared}{A:Around}
theorem KP (I:Inv X pins σ H s){r q:Addr}{ns ms:List Int}(k:H r=some (.lst (av ns)))(m:H q=some (.lst (av ms)))(a:A.units<cLine):SeqAt.RcAt A s (.ref r) (.ref q) (decide (ns=ms)):=by
 obtain⟨l,g,b,_⟩:=I.list (aI.of k);obtain⟨d,h,f,_⟩:=I.list (aI.of m);have i:=g.length;have p:=h.length;rw[aT]at i p;by_cases c:ns.length=ms.length
 ·have:=SeqAt.RcAt.lists (A:=A) (e:=λj=>decide (ns[j]?=ms[j]?)) b.isList f.isList (by grind) a (λj n o=>Ky g h j n o);rw[acs,<-i,Bs c]at this;omega
 ·have e:decide (ns=ms)=false:=acU (λz=>c (by rw[z]));rw[e];refine SeqAt.RcAt.lists_lengths b.isList f.isList ?_ a
  grind
theorem KQ (I:Inv X pins σ H s){r q:Addr}{f d:List Int}(g:H r=some (.lst (av f)))(c:H q=some (.lst (av d)))(h:A.units<cLine):SeqAt.EqAt A s (.ref r) (.ref q) (decide (f=d)):=by
 by_cases e:r=q
 ·subst e
  have:f=d:=by
   rw[g]at c;injection c with c
   injection c with c
   unfold av at c;exact(List.map_inj_right (λa b z=>V.int.inj z)).mp c
  rw[acy this];exact SeqAt.EqAt.same _
 ·exact SeqAt.EqAt.of_refs e (KP I g c h)
theorem CN (I:Inv X pins σ H s){rs a:List Addr}{ns ms:Za3}(b:eD H rs ns)(d:eD H a ms)(i:A.units<cLine)(j:Nat)(o:j<(rs.map Value.ref).toArray.size)(h:j<(a.map Value.ref).toArray.size):
 SeqAt.EqAt A s (rs.map Value.ref).toArray[j] (a.map Value.ref).toArray[j] (decide (ns[j]?=ms[j]?)):=by
 have f:j<rs.length:=by simpa using o
 have g:j<a.length:=by simpa using h
 have e:j<ns.length:=by rw[<-b.1];exact f
 have c:j<ms.length:=by rw[<-d.1];exact g
 have n:(rs.map Value.ref).toArray[j]=.ref rs[j]:=by simp
 have p:(a.map Value.ref).toArray[j]=.ref a[j]:=by simp
 rw[n,p];have m:=b.2 j rs[j] ns[j] (ab3 f) (ab3 e);have k:=d.2 j a[j] ms[j] (ab3 g) (ab3 c);have:=KQ (A:=A) I m k i;rw[ab3 e,ab3 c]
 have l:decide (some ns[j]=some ms[j])=decide (ns[j]=ms[j]):=by
  rw[ads,acS,acS];exact⟨Za0,ac5 some⟩
 rw[l];exact this
end
section
variable {X:Cx}
inductive Ja (x:V) (y:V) (H:Hp) (Q:VK):Prop
 |mk (a b:Addr) (ns ms:Za3):x=.ref a->y=.ref b->TabAt H a ns->TabAt H b ms->Q (.bl (decide (ns=ms))) H->Ja x y H Q
theorem KR (m:X.A.units+ 1<cLine):gR X (compareOp .Eq) Ja:=by
 intro l s G H x y v u Q I r D h;obtain⟨a,b,ns,ms,rfl,rfl,⟨J,o,c⟩,⟨F,t,d⟩,q⟩:=h;cases r;cases D;obtain⟨p,B,g,_⟩:=I.list (aI.of o);obtain⟨i,C,k,_⟩:=I.list (aI.of t);have n:=qE B;have E:=qE C;subst n E;by_cases f:ns.length=ms.length
 ·refine SeqAt.eq_listAt (e:=λj=>decide (ns[j]?=ms[j]?)) g.isList k.isList (by simp[c.1,d.1,f]) (by omega) (λj w A=>CN I c d m j w A) ⟨.bl (decide (ns=ms)),H,I,?_,q⟩;show _=Value.bool (decide (ns=ms));rw[acs,ab9,c.1,Bs f]
 ·have e:decide (ns=ms)=false:=acU (λz=>f (by rw[z]));rw[e]at q;refine SeqAt.eq_list_lengthsAt g.isList k.isList ?_ (by omega) ⟨.bl false,H,I,Y,q⟩;simp[c.1,d.1,f]
inductive Ro (x:V) (y:V) (H:Hp) (Q:VK):Prop
 |mk (a b:Addr) (ns ms:Za3):x=.ref a->y=.ref b->TabAt H a ns->TabAt H b ms->Q (.bl (!decide (ns=ms))) H->Ro x y H Q
inductive Rp (x:V) (y:V) (H:Hp) (Q:VK):Prop
 |mk (a b:Addr) (ns ms:List Int):x=.ref a->y=.ref b->H a=some (.lst (av ns))->H b=some (.lst (av ms))->Q (.bl (!decide (ns=ms))) H->Rp x y H Q
inductive Rq (xs:List V) (H:Hp) (Q:VK):Prop
 |mk (b:Bool):xs=[.bl b]->Q (.int (if b=true then 1 else 0)) H->Rq xs H Q
theorem yZ (h:X.K=K):DS X (GB K):=by subst h;exact bS
theorem Bu (h:X.K=K):DS X (GC K):=by subst h;exact fH
theorem yk (h:X.K=K):jn X (.builtin "len") (CL K):=by subst h;exact bM
theorem CP {z:Str}{scope:Scope}(g:closureFor scope X.env=pure [(f,c),(z,d)])(C:X.env.cells.lookup f=some c)(B:X.env.cells.lookup z=some d)(o:∀q∈scope.names,q.2≠.cell)(t:scope.kind=.function)
 (u:∀q∈scope.names,q.2=.local->scope.names.lookup q.1=some .local) (A:scope.names.lookup x=some .local) (a:∀q∈scope.names,q.2=.free->q.1=f\/q.1=z) (b:x≠f/\x≠z/\f≠z) (s:X.N[i]?=some f) (y:X.N[j]?=some z)
 (n:X.env.kindOf f=some .cell) (m:X.env.kindOf z=some .cell) (l:X.env.scope.kind=.function) (r:scope.names.lookup f=some .free) (p:scope.names.lookup z=some .free):dJ X x [f,z] [i,j] scope [(f,c),(z,d)] where
 yN:=g
 sub:=λw e h=>by
  grind
 cell:=o
 kind:=t
 names:=u
 own:=A
 has:=λw h=>by
  have e:w=f\/w=z:=by
   rcases h with h|h
   ·exact a _ (gB h (.inl Y) o) rfl
   ·exact a _ (gB h (.inr Y) o) rfl
  grind
 nd:=by simp[b.1,b.2.1,b.2.2]
 len:=rfl
 at_:=λk w h=>by
  match k,h with
  |0,h=>
   have e:f=w:=by simpa using h
   subst e;exact⟨i,Y,s,.inl n,c,by simp[ad7],.inl (cE l n r)⟩
  |1,h=>
   have e:z=w:=by simpa using h
   subst e;have v:(z==f)=false:=acj.mpr (λq=>b.2.2 q.symm);exact⟨j,Y,y,.inl m,d,by simp[ad7,v],.inl (cE l m p)⟩
  |k+ 2,h=>simp at h
end
def lG (H:Hp)(a:List Addr)(ws:Za3):Prop:=a.length=ws.length/\∀(i:Nat) (p:Addr) (w:List Int),a[i]?=some p->ws[i]?=some w->H p=some (.tup (av w))
def cj (H:Hp)(a:Addr)(c:Za3):Prop:=∃b:List Addr,H a=some (.lst (b.map V.ref))/\lG H b c
theorem lG.keep {ws:Za3}(h:lG H F ws)(s:∀p a,H p=some (.tup a)->I p=some (.tup a)):lG I F ws:=⟨h.1,λi p w c b=>s _ _ (h.2 i p w c b)⟩
theorem lG.same {ws:Za3}(h:lG H F ws)(s:ay H I):lG I F ws:=h.keep λp a e=>s _ _ e
theorem cj.same {ws:Za3}(h:cj H a ws)(s:ay H I):cj I a ws:=by
 obtain⟨c,d,b⟩:=h;exact⟨c,s _ _ d,b.same s⟩
inductive Rt (x:V) (y:V) (H:Hp) (Q:VK):Prop
 |mk (a b:Addr) (ns ms:Za3):x=.ref a->y=.ref b->cj H a ns->cj H b ms->Q (.bl (decide (ns=ms))) H->Rt x y H Q
theorem qF:∀{a:List Int} {b:List Value},Vals (av a) b->IntsAre b a
 |[],_,h=>by cases h;exact .nil
 |n::a,_,h=>by
  cases h with
  |cons c d=>
   obtain⟨t,rfl⟩:=c;exact .cons n t (qF d)
theorem KS (ns:List Int)(k:Int):(ns.any λx=>x==k)=decide (k∈ns):=by
 grind
section
variable {X:Cx}
inductive Ru (x:V) (y:V) (H:Hp) (Q:VK):Prop
 |mk (k:Int) (a:Addr) (ns:List Int):x=.int k->y=.ref a->H a=some (.lst (av ns))->Q (.bl (decide (k∈ns))) H->Ru x y H Q
inductive y1 (x:V) (y:V) (H:Hp) (Q:VK):Prop
 |mk (k:Int) (a:Addr) (ns:List Int):x=.int k->y=.ref a->H a=some (.lst (av ns))->Q (.bl (!decide (k∈ns))) H->y1 x y H Q
theorem CQ:gR X (compareOp .NotIn) y1:=by
 intro b s g H x y v u Q I e f h;obtain⟨k,a,i,rfl,rfl,c,q⟩:=h;obtain⟨t,rfl⟩:=e;cases f;obtain⟨d,r,p,_⟩:=I.list (aI.of c);refine notin_list_ints p.isList (qF r) ?_;rw[KS];exact⟨.bl _,H,I,Y,q⟩
def isInt (k:Int):Value->Bool
 |.int z _=>z==k
 |_=>false
inductive Bv (x:V) (vs:List V) (H:Hp) (Q:VK):Prop
 |mk (a:Addr) (ns:List Int) (k:Int):x=.ref a->vs=[.int k]->H a=some (.lst (av ns))->k∈ns->(∀i:Nat,ns[i]?=some k->(∀j,j<i->ns[j]?≠some k)->Q (.int i) H)->Bv x vs H Q
theorem Ei (h:z∈l):∃i:Nat,l[i]?=some z/\∀j,j<i->l[j]?≠some z:=by
 induction l with
 |nil=>cases h
 |cons a l g=>
  by_cases e:a=z
  ·exact⟨0,by rw[e];rfl,λj f=>by omega⟩
  ·obtain⟨i,d,c⟩:=g ((aci.mp h).resolve_left (adn e));refine⟨i+ 1,d,λj f=>?_⟩
   cases j with
   |zero=>exact λb=>e (Za0 b)
   |succ j=>exact c j (by omega)
theorem pS:IV X "list.index" Bv:=by
 intro B s R H x P v S Q I D L h;obtain⟨a,ns,k,rfl,rfl,G,d,q⟩:=h;cases D;obtain⟨u,rfl,N⟩:=L.one;obtain⟨t,rfl⟩:=N;obtain⟨z,b,n,r,C,e⟩:=I.t4 G;rw[aT]at z C;obtain⟨i,o,A⟩:=Ei d;have O:i<ns.length:=(ab5.mp o).1
 have at_:∀(m:Nat) (d:m<b.toArray.size),isInt k b.toArray[m]=decide (ns[m]?=some k):=λm d=>by
  have c:m<b.length:=by simpa using d
  have g:ns[m]?=some (ns[m]'(by omega)):=ab3 (by omega)
  obtain⟨w,j,f,rfl⟩:=r.get (cJ g)
  have p:b.toArray[m]=Value.int (ns[m]'(by omega)) f:=by
   rw[aeg];exact Za0 ((ab3 c).symm.trans j)
  rw[p,g];show (ns[m]'(by omega)==k)=_;rw[ads,afn,acS];exact⟨λz=>by rw[z],λz=>Za0 z⟩
 have E:(sizeLine:Nat)<2 ^ 62:=by decide
 refine call_meets F.slot_list_index ⟨_,e,Y⟩ F.entry_list_index (F.args_list_index_2 _ _)
  (SeqAt.list_indexAt a b.toArray n none #[] (.int k t) (isInt k) i (by rw[acs];omega) (by omega) (by rw[at_];exact acy o) (λm d l=>by rw[at_];exact acU (A m l))) ⟨e,λy J=>?_,?_⟩
 ·obtain⟨m,d,M⟩:=aeZ.mp (Array.mem_toList_iff.mpr J);have c:m<b.length:=by simpa using d
  have g:ns[m]?=some (ns[m]'(by omega)):=ab3 (by omega)
  obtain⟨w,j,f,rfl⟩:=r.get (cJ g)
  have p:y=Value.int (ns[m]'(by omega)) f:=by
   rw[<-M];exact Za0 ((ab3 c).symm.trans j)
  rw[p];exact SeqAt.EqAt.int_int _ f k t
 ·exact⟨.int i,H,I.tok _,⟨_,Y⟩,q i o A⟩
end
def y3 (K:Za1)(a:Addr):It:=
 ⟨λi H=>∃xs x,aI K H a xs/\xs[i]?=some x,λi H x b=>∃p v,H p=none/\(∀ys,aI K H a ys->ys[i]?=some v)/\x=.ref p/\b=upd H p (.tup [.int (i:Int),v]),λi H=>∃xs,aI K H a xs/\xs.length=i⟩
theorem nF {o u:Obj}(e:h.get? a=some o)(c:h.get? b=some u)(d:o.cls≠u.cls):a≠b:=λz=>by
 grind
theorem CT {elts:List Expr}{x1:Nat}{tp:Pos}(e it a:Addr)(U:e≠it):
 Turn P w K (.Tuple elts x1 tp) (y3 K a) [e,it] e (λi h=>(∃c,IsEnum h e it (i:Int) c)/\h.IsListIter it a i) where
 mem:=by simp
 obj:=λi h st b f=>by
  obtain⟨⟨c,l⟩,o,ho,G,hd⟩:=st
  grind
 keep:=λi h h' st k=>by
  obtain⟨⟨c,l⟩,hl⟩:=st;exact⟨⟨c,k e (by simp) _ l⟩,hl.at λo e=>k it (by simp) o e⟩
 item:=by
  intro X S V O G i B s σ H E I M st hg;subst S V O;obtain⟨⟨c,l⟩,g⟩:=st;obtain⟨xs,x,J,N⟩:=hg;obtain⟨d,rv,p,hz⟩:=I.list J;obtain⟨u,hu,ru⟩:=rv.get N;have hit:=p.isList;obtain⟨o1,n,uR,Ej⟩:=id hit;obtain⟨o2,m,Z,hd2⟩:=id g;have r:a≠it:=nF n m (by grind);have Wu:e≠a:=nF l n (by grind);have D:=Draws.list (prog:=X.prog) (w:=X.w) (A:=X.A.in1) (I.ok.hd G) it a r d.toArray;have uP:e<s.heap.objs.size:=acg l;have Wv:i<d.length:=(ab5.mp hu).1;refine En.xD D l ⟨g,hit⟩ (by omega) U (by grind) λy h' tk Ef ho Bw v hk=>?_
  have ey:u=y:=by
   have h2:d[i]?=some y:=by simpa using Ef
   exact Za0 (hu.symm.trans h2)
  subst ey;refine⟨_,Y,?_⟩;refine wpAny_letOwnedTupleGo_enum ho λt Ww j=>?_
  have R:t.get? s.heap.objs.size=some { cls:=.type "tuple",data:=.seq #[.int (i:Int) tk,u] }:=(j.2 _ (ade uP)).trans v
  have W:∀b L,b∉[e,it]->s.heap.get? b=some L->t.get? b=some L:=λb L f q=>by
   have h1:b≠e:=λz=>f (by simp[z])
   have h2:b≠it:=λz=>f (by simp[z])
   exact(j.2 b h1).trans (hk b L h1 h2 q)
  have T:=I.aL.fresh (aca s.heap.objs.size);refine⟨.ref s.heap.objs.size,_,I.t8 (fp:=[e,it]) (a:=s.heap.objs.size) (o:=.tup [.int (i:Int),x]) (h':=t) (t':=tk+ 1) W M (aca _) ?_,Y,⟨_,x,T,λys hy=>by rw[I.tW hy J];exact N,Y,Y⟩,⟨⟨u,?_⟩,?_⟩,λb f=>?_⟩
  ·exact⟨by show 2<=sizeLine;decide,[.int (i:Int) tk,u],.cons ⟨_,Y⟩ (.cons ru .nil),_,R,Y,_,Y⟩
  ·grind
  ·exact(D.frame _ _ _ Bw λb f o q=>(j.2 b (by
    grind)).trans q).1
  ·rw[ai]
   ·exact(M b f).1
   ·intro z;subst z;rcases aci.mp f with z|f
    ·grind
    ·exact absurd (acg m) (by rw[<-acb.mp f];exact adg _)
 done:=by
  intro X S V O G i B s σ H E I M st hg;subst S V O;obtain⟨⟨c,l⟩,g⟩:=st;obtain⟨xs,J,N⟩:=hg;obtain⟨d,rv,p,hz⟩:=I.list J;have hit:=p.isList;obtain⟨o1,n,uR,Ej⟩:=id hit;obtain⟨o2,m,Z,hd2⟩:=id g;have r:a≠it:=nF n m (by grind);have D:=Draws.list (prog:=X.prog) (w:=X.w) (A:=X.A.in1) (I.ok.hd G) it a r d.toArray;have hsz:d.toArray.size=i:=by rw[acs,<-rv.length];exact N
  refine wpAny_pyNext_enum_endD D l (by rw[hsz];exact⟨g,hit⟩) λh' eb=>⟨Y,I.wF (fp:=[e,it]) (t':=s.toks) (λb o f q=>eb b o (λz=>f (by simp[z])) q) M⟩
 self:=λA i s Q E st h=>by
  obtain⟨⟨c,l⟩,_⟩:=st;have v:s.TypeIs (.ref e) "enumerate":=⟨_,l,Y⟩;refine wpAny_pyIter_slot v aeQ (ac8 aeQ v F.entry_enumerate_iter ?_ (F.args_enumerate_iter_1 _));show wpAny _ _ (ret (.ref e)) _ _ s;exact ab7 ⟨_,Y,"enumerate",_,v,aeP.lookup,h⟩
section
variable {X:Cx}
def Np (K:Za1)(f:TA):TI:=λ e H R=>f e H λc b=>∃a,c=[.ref a]/\(∃d,aI K b a d)/\R (y3 K a) b
theorem GZ {elts:List Expr}{d g:Pos}(C:Gl X "enumerate")(A:X.mg "enumerate"=none)(F:PE X e r)(o:starEach [e] X.env=[(false,eval e X.env)]:=by rfl):
 PI X (.Tuple elts n p) (.Call (.Name "enumerate" d) [e] [] g) (Np X.K (jq r ku)):=by
 intro a s k H R I h;refine Call_ (iw I C A boot_enumerate (adk (aY ((ae F ak o) g a s k H _ I h) λO s1 ⟨J,m,f,D,z⟩=>?_) o Y));obtain⟨l,rfl,⟨L,B⟩,q⟩:=z;obtain⟨u,rfl,G⟩:=vals1 D;cases G;obtain⟨y,Q,pl,N⟩:=f.list B;refine call_enumerate_list pl.isList λt i hit E x=>?_
 have v:Inv X a k m { s1 with heap:=t }:=f.kept (t':=s1.toks) x;have T:=CT (P:=X.prog) (w:=X.w) (K:=X.K) (elts:=elts) (x1:=n) (tp:=p) (s1.heap.objs.size+ 1) s1.heap.objs.size l (Nat.succ_ne_self _);refine T.self _ 0 { s1 with heap:=t } _ _ ⟨⟨_,i⟩,hit⟩ ⟨_,_,_,_,m,Y,v,T,⟨⟨_,i⟩,hit⟩,λb j=>?_,q⟩;rcases aci.mp j with c|j
 ·subst c;exact f.oX (aex _) (f.aL.fresh (aex _))
 ·rw[acb.mp j];exact f.oX (aca _) (f.aL.fresh (aca _))
end
theorem Ek {xs:List V}{g:TG}{k:TS}(b:Nat->St->Hp->Prop)(u:b 0 D H)(w:∀i D H,i<=xs.length->b i D H->aI K H a xs)
 (B:∀i v D H p,xs[i]?=some v->H p=none->b i D H->g (.ref p) D (upd H p (.tup [.int (i:Int),v])) λ c j=>k { G with nx:=b (i+ 1),ct:=b (i+ 1),bk:=G.nx } c j) (z:∀ D H,b xs.length D H->G.nx D H):
 ∃W:Nat->Nat->St->Hp->Prop,(∃m,W 0 m D H)/\∀i m D H,W i m D H->
  ((y3 K a).stop i H/\G.nx D H)\/((y3 K a).go i H/\∃N:St->Hp->Prop,(∀ d f,N d f->∃l,l<m/\W (i+ 1) l d f)/\∀x f,(y3 K a).lb i H x f->g x D f λ c j=>k { G with nx:=N,ct:=N,bk:=G.nx } c j):=by
 refine⟨λi m D H=>m=xs.length - i/\i<=xs.length/\b i D H,⟨xs.length,by simp,acF _,u⟩,?_⟩;rintro i m D H ⟨rfl,n,p⟩;have q:=w i D H n p;by_cases h:i<xs.length
 ·refine .inr ⟨⟨xs,_,q,ab3 h⟩,b (i+ 1),λ d f o=>⟨xs.length - (i+ 1),by omega,Y,h,o⟩,λx f y=>?_⟩;obtain⟨r,v,t,A,rfl,rfl⟩:=y;exact B i v D H r (A xs q) t p
 ·have e:i=xs.length:=by omega
  subst e;exact .inl ⟨⟨xs,q,Y⟩,z D H p⟩
namespace En
open AutoSeq1 (wpAny_loadPart')
theorem CV (l:Addr)(items:Array Value)(n:Nat)(dct:Option Addr)(j:Array (Option Value))(k:Int)(u:Tok)(q:0<=k)(p:k<1000):
 Meets (Builtin.«enumerate.__new__» ⟨[.type "enumerate",.ref l],[("start",.int k u)]⟩) (λ_ R s=>s.heap.get? l=some { cls:=.type "list",dict:=dct,data:=.seq items n,slots:=j }/\
  R (.ok (.ret (.ref (s.heap.push { cls:=.type "list_iterator",data:=.fields #[.ref l,.int 0 0] }).objs.size)))
    { s with heap:=(s.heap.push { cls:=.type "list_iterator",data:=.fields #[.ref l,.int 0 0] }).push { cls:=.type "enumerate",data:=.fields #[.none,.bool false,.ref s.heap.objs.size,rawInt k,.none,.none] } }):=
 .of_wp λi w A R s h=>by
  obtain⟨o,g,d,m,os⟩:=s;obtain⟨a,h⟩:=h;have e:=sub_enumerate;have r:=AutoSeq1.idx_int;have b:Heap.IsList (Shared.heap ⟨o,g,d,m,os⟩) l items:=⟨_,a,Y,n,Y⟩
  have f:(!Builtin.SmallTypes.fitsIndex k)=false:=by
   unfold Builtin.SmallTypes.fitsIndex;simp;omega
  wp_walk using aen a
  refine wpAny_stack_any λst=>ab7 ?_
  split
  ·rename_i c _ _ _ _ _;cases (c==Value.type "enumerate")
   ·wp_walk using aen a,aek b
    exact⟨_,Y,h⟩
   ·wp_walk using aen a,aek b
    exact⟨_,Y,h⟩
  ·wp_walk using aen a,aek b
   exact⟨_,Y,h⟩
section
variable {prog:Program}{w:World}{A:Around}{E:Value->Shared->Prop}{s:Shared}
theorem AQ {items:Array Value}{k:Int}{u:Tok}(W:s.heap.IsList a items)(S:0<=k)(D:k<1000)
 (h:∀t,IsEnum t (s.heap.objs.size+ 1) s.heap.objs.size k .none->t.IsListIter s.heap.objs.size a 0->(∀b o,s.heap.get? b=some o->t.get? b=some o)->Q (.ref (s.heap.objs.size+ 1)) { s with heap:=t }):
 wpAny (model prog w) A (call (.type "enumerate") [.ref a] [("start",.int k u)]) Q E s:=by
 obtain⟨⟨c0,dct,X,P⟩,Z,l,n,B⟩:=W;replace l:c0=.type "list":=l;replace B:X=.seq items n:=B;subst l B;have i:=F.called_enumerate;obtain⟨c,tl,L⟩:=i.mro;have x:=i.made;have H:=i.sub;have O:=Ri (.ref a) (.int k u);have G:=Rj (.ref a) (.int k u);refine aeD (codeAny_of_tree ?_);show wpAny _ _ (callAny (.type "enumerate") _) _ _ _;refine ab7 ⟨Code.quiet_builtin _ (by decide),afe F.entry_type_call ?_⟩;rw[Around.under_plain (weight_type_call_type "enumerate" [.ref a] [("start",.int k u)]) (units_type_call_type "enumerate" [.ref a] [("start",.int k u)])];have h1:=i.notType;have h2:=i.canCreate
 repeat (any_goals (first|assumption|wp_step))
 refine aeu (adF i.plain F.entry_enumerate_new (wpAny_of_eq G (CV a items n dct P k u S D prog w A.in1 (wants (λobj f=>f.TypeIs obj "enumerate"/\Q obj f) E) s ⟨Z,?_⟩))) λr f z=>?_
 ·have M:(s.heap.push { cls:=.type "list_iterator",data:=.fields #[.ref a,.int 0 0] }).objs.size=s.heap.objs.size+ 1:=adL ..;show _/\_;rw[M]
  have N:IsEnum ((s.heap.push { cls:=.type "list_iterator",data:=.fields #[.ref a,.int 0 0] }).push { cls:=.type "enumerate",data:=.fields #[.none,.bool false,.ref s.heap.objs.size,rawInt k,.none,.none] }) (s.heap.objs.size+ 1) s.heap.objs.size k .none:=by
   have q:=acf (s.heap.push { cls:=.type "list_iterator",data:=.fields #[.ref a,.int 0 0] }) (o:={ cls:=.type "enumerate",data:=.fields #[.none,.bool false,.ref s.heap.objs.size,rawInt k,.none,.none] }) rfl;rw[M]at q;exact q
  exact⟨⟨_,N,Y⟩,h _ N ⟨_,ab2 _ (acf _ Y),Y,Y⟩ λb o y=>ab2 _ (ab2 _ y)⟩
 cases r with
 |error e=>exact z
 |ok V=>
  cases V with
  |ret obj=>
   obtain⟨I,J⟩:=z;have hli:=i.init.lookup;have U:=i.init.bind obj;have v:=Rk obj (.ref a) (.int k u);have C:(λ(_:Around) (R:Result->Shared->Prop) (s:Shared)=>s.TypeIs obj "enumerate"/\R (.ok (.ret .none)) s) A.in1 (wants (λr j=>r=.none/\Q obj j) E) f:=⟨I,Y,J⟩;have gi:=KJ (T:="enumerate") (self:=obj) (a:=.ref a) (kw:=[("start",.int k u)]) i.init.lookup i.made (by decide)
   repeat (any_goals (first|assumption|wp_step))
   refine aeu (adF i.init.plain F.entry_object_init (i.init.check _ _ _ _ _ _ _ _ I v (gi prog w A.in1 _ f C))) λp j g=>?_
   cases p with
   |error e=>exact g
   |ok m=>
    cases m with
    |ret r=>
     obtain⟨rfl,J⟩:=g
     repeat (any_goals (first|assumption|wp_step))
    |_=>exact g.elim
  |_=>exact z.elim
end
end En
def r0 (K:Za1)(a:Addr)(n:Int):It:=
 ⟨λi H=>∃xs x,aI K H a xs/\xs[i]?=some x,λi H x b=>∃p v,H p=none/\(∀ys,aI K H a ys->ys[i]?=some v)/\x=.ref p/\b=upd H p (.tup [.int (n+ (i:Int)),v]),λi H=>∃xs,aI K H a xs/\xs.length=i⟩
theorem AU {elts:List Expr}{x1:Nat}{tp:Pos}(e it a:Addr)(n:Int)(V:e≠it):
 Turn P w K (.Tuple elts x1 tp) (r0 K a n) [e,it] e (λi h=>(∃c,IsEnum h e it (n+ (i:Int)) c)/\h.IsListIter it a i) where
 mem:=by simp
 obj:=λi h st b f=>by
  obtain⟨⟨c,l⟩,o,ho,J,hd⟩:=st
  grind
 keep:=λi h h' st k=>by
  obtain⟨⟨c,l⟩,hl⟩:=st;exact⟨⟨c,k e (by simp) _ l⟩,hl.at λo e=>k it (by simp) o e⟩
 item:=by
  intro X T W R J i C s σ H E I N st hg;subst T W R;obtain⟨⟨c,l⟩,g⟩:=st;obtain⟨xs,x,L,O⟩:=hg;obtain⟨d,rv,p,hz⟩:=I.list L;obtain⟨u,hu,ru⟩:=rv.get O;have hit:=p.isList;obtain⟨o1,r,uR,Ej⟩:=id hit;obtain⟨o2,m,El,hd2⟩:=id g;have t:a≠it:=nF r m (by grind);have Wu:e≠a:=nF l r (by grind);have D:=Draws.list (prog:=X.prog) (w:=X.w) (A:=X.A.in1) (I.ok.hd J) it a t d.toArray;have uP:e<s.heap.objs.size:=acg l;have Wv:i<d.length:=(ab5.mp hu).1;refine En.xD D l ⟨g,hit⟩ (by omega) V (by grind) λy h' tk Ef ho Bw B hk=>?_
  have ey:u=y:=by
   have h2:d[i]?=some y:=by simpa using Ef
   exact Za0 (hu.symm.trans h2)
  subst ey;refine⟨_,Y,?_⟩;refine wpAny_letOwnedTupleGo_enum ho λv Ww j=>?_
  have S:v.get? s.heap.objs.size=some { cls:=.type "tuple",data:=.seq #[.int (n+ (i:Int)) tk,u] }:=(j.2 _ (ade uP)).trans B
  have Z:∀b M,b∉[e,it]->s.heap.get? b=some M->v.get? b=some M:=λb M f q=>by
   have h1:b≠e:=λz=>f (by simp[z])
   have h2:b≠it:=λz=>f (by simp[z])
   exact(j.2 b h1).trans (hk b M h1 h2 q)
  have U:=I.aL.fresh (aca s.heap.objs.size);refine⟨.ref s.heap.objs.size,_,I.t8 (fp:=[e,it]) (a:=s.heap.objs.size) (o:=.tup [.int (n+ (i:Int)),x]) (h':=v) (t':=tk+ 1) Z N (aca _) ?_,Y,⟨_,x,U,λys hy=>by rw[I.tW hy L];exact O,Y,Y⟩,⟨⟨u,?_⟩,?_⟩,λb f=>?_⟩
  ·exact⟨by show 2<=sizeLine;decide,[.int (n+ (i:Int)) tk,u],.cons ⟨_,Y⟩ (.cons ru .nil),_,S,Y,_,Y⟩
  ·grind
  ·exact(D.frame _ _ _ Bw λb f o q=>(j.2 b (by
    grind)).trans q).1
  ·rw[ai]
   ·exact(N b f).1
   ·intro z;subst z;rcases aci.mp f with z|f
    ·grind
    ·exact absurd (acg m) (by rw[<-acb.mp f];exact adg _)
 done:=by
  intro X T W R J i C s σ H E I N st hg;subst T W R;obtain⟨⟨c,l⟩,g⟩:=st;obtain⟨xs,L,O⟩:=hg;obtain⟨d,rv,p,hz⟩:=I.list L;have hit:=p.isList;obtain⟨o1,r,uR,Ej⟩:=id hit;obtain⟨o2,m,El,hd2⟩:=id g;have t:a≠it:=nF r m (by grind);have D:=Draws.list (prog:=X.prog) (w:=X.w) (A:=X.A.in1) (I.ok.hd J) it a t d.toArray;have hsz:d.toArray.size=i:=by rw[acs,<-rv.length];exact O
  refine wpAny_pyNext_enum_endD D l (by rw[hsz];exact⟨g,hit⟩) λh' eb=>⟨Y,I.wF (fp:=[e,it]) (t':=s.toks) (λb o f q=>eb b o (λz=>f (by simp[z])) q) N⟩
 self:=λA i s Q E st h=>by
  obtain⟨⟨c,l⟩,_⟩:=st;have B:s.TypeIs (.ref e) "enumerate":=⟨_,l,Y⟩;refine wpAny_pyIter_slot B aeQ (ac8 aeQ B F.entry_enumerate_iter ?_ (F.args_enumerate_iter_1 _));show wpAny _ _ (ret (.ref e)) _ _ s;exact ab7 ⟨_,Y,"enumerate",_,B,aeP.lookup,h⟩
theorem CW {xs:List V}{g:TG}{k:TS}(b:Nat->St->Hp->Prop)(u:b 0 D H)(w:∀i D H,i<=xs.length->b i D H->aI K H a xs)
 (C:∀i v D H p,xs[i]?=some v->H p=none->b i D H->g (.ref p) D (upd H p (.tup [.int (z+ (i:Int)),v])) λ c j=>k { G with nx:=b (i+ 1),ct:=b (i+ 1),bk:=G.nx } c j) (A:∀ D H,b xs.length D H->G.nx D H):
 ∃W:Nat->Nat->St->Hp->Prop,(∃m,W 0 m D H)/\∀i m D H,W i m D H->
  ((r0 K a z).stop i H/\G.nx D H)\/((r0 K a z).go i H/\∃N:St->Hp->Prop,(∀ d f,N d f->∃l,l<m/\W (i+ 1) l d f)/\∀x f,(r0 K a z).lb i H x f->g x D f λ c j=>k { G with nx:=N,ct:=N,bk:=G.nx } c j):=by
 refine⟨λi m D H=>m=xs.length - i/\i<=xs.length/\b i D H,⟨xs.length,by simp,acF _,u⟩,?_⟩;rintro i m D H ⟨rfl,n,p⟩;have q:=w i D H n p;by_cases h:i<xs.length
 ·refine .inr ⟨⟨xs,_,q,ab3 h⟩,b (i+ 1),λ d f o=>⟨xs.length - (i+ 1),by omega,Y,h,o⟩,λx f y=>?_⟩;obtain⟨r,v,t,B,rfl,rfl⟩:=y;exact C i v D H r (B xs q) t p
 ·have e:i=xs.length:=by omega
  subst e;exact .inl ⟨⟨xs,q,Y⟩,A D H p⟩
theorem all_true (n:Nat)(f:Nat->Bool)(h:∀j,f j=true):(List.range n).all f=true:=List.all_eq_true.mpr λj _=>h j
def dU (h:Heap)(d:Addr)(a:Array DictEntry)(b:Nat):Prop:=∃o,h.get? d=some o/\o.ExactDict/\o.data=.dict a b
namespace Dk
section
variable {prog:Program}{w:World}{A:Around}{E:Value->Shared->Prop}{s:Shared}{d:Addr}{es:Array DictEntry}{ep:Nat}
theorem typ (b:dU s.heap d es ep):s.TypeIs (.ref d) "dict":=let ⟨o,c,a,_⟩:=b;⟨o,c,a.1⟩
theorem iter (g:(d==sysModules)=false)(e:dU s.heap d es ep)
 (f:Q (.ref s.heap.objs.size) { s with heap:=s.heap.push { cls:=.type "dict_keyiterator",data:=.fields #[.ref d,.int 0 0,.int es.size 0,.int ep 0] } }):wpAny (model prog w) A (pyIter (.ref d)) Q E s:=by
 have b:=typ e;obtain⟨o,c,h,a⟩:=e;refine wpAny_pyIter_slot b F.slot_dict_iter (ac8 F.slot_dict_iter b F.entry_dict_iter ?_ (F.args_dict_iter_1 _));unfold Builtin.«dict.__iter__»;refine ab1 ?_;unfold Builtin.Dict.dictSlotNone;refine ab1 (aeR b ?_);show wpAny _ _ (pure (Value.ref d)) _ _ s;refine ab7 ?_;show wpAny _ _ (Builtin.Dict.showsAll d >>=_) _ _ s;unfold Builtin.Dict.showsAll;rw[acm (by grind)];refine ab1 (ab7 (ab1 (ad0 c a (ab1 (aeS c a ?_)))));exact ab1 (acV (ab7 ⟨_,Y,"dict_keyiterator",_,⟨_,acf _ Y,Y⟩,adB.lookup,by simpa [rawInt] using f⟩))
theorem item {it:Addr}{en:DictEntry}{Q:Option Value->Shared->Prop}(hit:s.heap.IsKeyIter it d i es.size ep)(j:dU s.heap d es ep)(l:es[i]?=some en)
 (h:∀g1,g1.IsKeyIter it d (i+ 1) es.size ep->Heap.SameBut it s.heap g1->Q (some en.key) { s with heap:=g1 }):wpAny (model prog w) A (pyNext (.ref it)) Q E s:=by
 obtain⟨o,e,k,c⟩:=id hit;obtain⟨m,a,g,b⟩:=id j;unfold pyNext;refine ab1 (afd (ac3 (name:=Str.ofString "__next__") hit.typeIs adB (ac8 adB hit.typeIs F.entry_dict_keyiterator_next ?_ (F.args_dict_keyiterator_next_1 _))));refine ab1 (ab7 (ab1 (ab1 ?_)))
 first|refine ab1 (adT hit.typeIs (ab7 ?_))|refine ab1 (aeo hit.typeIs (ab7 ?_))
 refine ab1 (wpAny_fieldsOf e c ?_);have own:Builtin.Dict_items.ownsTuple "dict_keyiterator"=false:=by decide
 simp only[own,aeI,aff];show wpAny _ _ (if (Value.ref d==Value.none)=true then _ else _) _ _ s;rw[acm (show ¬((Value.ref d==Value.none)=true) from acP)];refine ab1 (ab7 (ab1 (ad0 a b ?_)));rw[acm (by simp)];refine ab1 (ab7 (ab1 (aeS a b ?_)));rw[acm (by simp)];refine ab7 ?_;simp only[show ¬((i:Int)<0) from by omega,aff,acY,l];refine ab1 ?_
 first|refine ab1 (adT hit.typeIs (ab7 ?_))|refine ab1 (aeo hit.typeIs (ab7 ?_))
 refine ab1 (wpAny_isOneOf_keyiter hit.typeIs ?_);show wpAny _ _ (setField (.ref it) 1 (rawInt ((i:Int)+ 1)) >>=_) _ _ s;refine ab1 (aed e c (by simp) ?_)
 have f:(s.heap.update it (Obj.mapFields (·.setIfInBounds 1 (rawInt ((i:Int)+ 1))))).IsKeyIter it d (i+ 1) es.size ep:=
  ⟨_,acL _ e (aea (adC c _)),(Obj.cls_mapFields ..).trans k,by rw[adC c];simp[rawInt]⟩
 refine ab1 (ac1 ?_);refine ab1 (wpAny_isOneOf_keyiter (s:={ s with heap:=s.heap.update it (Obj.mapFields (·.setIfInBounds 1 (rawInt ((i:Int)+ 1)))) }) f.typeIs ?_);show wpAny _ _ (pure en.key) _ _ _;exact ab7 (ab7 ⟨_,Y,ab7 (h _ f (ady ..))⟩)
theorem fin {it:Addr}{Q:Option Value->Shared->Prop}(l:A.handled=none)(hit:s.heap.IsKeyIter it d i es.size ep)(n:dU s.heap d es ep)(p:es[i]?=none)
 (j:∀g,Heap.ExtBut it s.heap g->Q none { s with heap:=g }):wpAny (model prog w) A (pyNext (.ref it)) Q E s:=by
 obtain⟨o,h,r,f⟩:=id hit;obtain⟨q,e,k,c⟩:=id n;unfold pyNext;refine ab1 (afd (ac3 (name:=Str.ofString "__next__") hit.typeIs adB (ac8 adB hit.typeIs F.entry_dict_keyiterator_next ?_ (F.args_dict_keyiterator_next_1 _))));refine ab1 (ab7 (ab1 (ab1 ?_)))
 first|refine ab1 (adT hit.typeIs (ab7 ?_))|refine ab1 (aeo hit.typeIs (ab7 ?_))
 refine ab1 (wpAny_fieldsOf h f ?_);have own:Builtin.Dict_items.ownsTuple "dict_keyiterator"=false:=by decide
 simp only[own,aeI,aff];show wpAny _ _ (if (Value.ref d==Value.none)=true then _ else _) _ _ s;rw[acm (show ¬((Value.ref d==Value.none)=true) from acP)];refine ab1 (ab7 (ab1 (ad0 e c ?_)));rw[acm (by simp)];refine ab1 (ab7 (ab1 (aeS e c ?_)));rw[acm (by simp)];refine ab7 ?_;simp only[show ¬((i:Int)<0) from by omega,aff,acY,p];refine ab1 ?_
 first|refine ab1 (adT hit.typeIs (ab7 ?_))|refine ab1 (aeo hit.typeIs (ab7 ?_))
 show wpAny _ _ (setField (.ref it) 0 .none >>=_) _ _ s;refine ab1 (aed h f (by simp) ?_);show wpAny _ _ (newExc (.type "StopIteration") [] >>=_) _ _ _;refine ab1 ?_;simp only[newExc,newTuple];refine ab1 (acV ?_ (by size_fits));refine ab1 (m:=firstArgMember _ _) (wpAny_of_eq (a:=Value.none) (by first|rfl|(simp only[firstArgMember];rfl)) ?_);refine acV ?_ (by size_fits);simp only[raiseNew];refine ab1 (wpAny_handled ?_);rw[show A.in1.handled=none from l];refine ab1 (ab7 (wpAny_throw ?_));refine ab1 (wpAny_isInstance (T:="StopIteration") (b:=true) ⟨_,acf _ Y,Y⟩ isSubtype_stop ?_);exact ab7 (j _ (((ady ..).extBut.push _).push _))
theorem dU.at (x:dU h d es ep)(e:∀o,h.get? d=some o->g.get? d=some o):dU g d es ep:=let ⟨o,a,r⟩:=x;⟨o,e _ a,r⟩
theorem walks (n:A.handled=none)(I:Addr)(g:d≠I):Walks prog w A I [I,d] [I] es.size (λi v=>∃j,es[i]?=some j/\v=j.key) (λi h=>h.IsKeyIter I d i es.size ep/\dU h d es ep) where
 sub:=λb f=>by grind
 frame:=λ_ _ _ st m=>⟨st.1.at λo e=>m I (by simp) o e,dU.at st.2 λo e=>m d (by simp) o e⟩
 item:=λi s Q E l st a=>by
  refine item (en:=es[i]) st.1 st.2 (by simp[l]) λk p c=>?_
  exact a _ k s.toks ⟨_,by simp[l],Y⟩ ⟨p,dU.at st.2 λo e=>c.extBut _ _ g e⟩ λb o f e=>c.extBut b o (λh=>f (by simp[h])) e
 done:=λs Q E st a=>fin n st.1 st.2 (by simp) λk c=>a k s.toks λb o f e=>c b o (λh=>f (by simp[h])) e
 self:=λ_ _ _ _ st a=>wpAny_pyIter_keyiter st.1 a
theorem hint {Q:Bool->Shared->Prop}(f:dU s.heap d es ep)(h:Q false s):wpAny (model prog w) A (Builtin.List.listLengthHint (.ref d)) Q E s:=by
 unfold Builtin.List.listLengthHint;refine ab1 (wpAny_specialOf (typ f) F.slot_dict_len.lookup ?_);generalize c:("dict.__len__":String)=e
 wp_delta
 rw[show splitId e=some ("dict","__len__") from by subst c;decide];subst c;refine ab1 (wpAny_isInstance (T:="dict") (b:=true) (typ f) (by rw[isSubtype_type];kernel_rfl) ?_);refine afg (λa=>absurd a (by decide)) (λ_=>?_);refine afg (λ_=>?_) (λa=>absurd (by decide) a);exact ab1 (aev (T:="dict") (typ f) (ab7 h))
theorem extend {R:Result->Shared->Prop}(O:A.handled=none)(P:(d==sysModules)=false)(u:dU s.heap d es ep)(hlen:es.size<=sizeLine)(S:Addr)(res:Value)(t:Nat)(L:s.heap.get? S=some { cls:=.type "list",data:=.seq #[] t })
 (Z:∀g1 V c m,(∀b o,b≠S->s.heap.get? b=some o->g1.get? b=some o)->g1.get? S=some { cls:=.type "list",dict:=none,data:=.seq c m,slots:=#[] }->
  ItemsOf (λi v=>∃N,es[i]?=some N/\v=N.key) c es.size->R (.ok (.ret res)) { s with heap:=g1,toks:=V }):
 wpAny (model prog w) A.in1 (Builtin.List.listExtendWith (.ref S) (.ref d) res)
  (λfin k=>match fin with|.done f=>R (.ok f) k|.again m=>m.quiet=true/\codeAny (model prog w) A m R k) (λe k=>R (.error e) k) s:=by
 have g:S≠d:=λe=>by
  obtain⟨o,M,hc,J⟩:=u
  grind
 have D:d<s.heap.objs.size:=by obtain⟨o,M,_⟩:=u;exact acg M
 have n:S≠s.heap.objs.size:=acz (acg L);have H:d≠s.heap.objs.size:=acz D;unfold Builtin.List.listExtendWith;refine ab1 (aev (T:="dict") (typ u) ?_);have Q:Builtin.List.listSameRef (.ref S) (.ref d)=false:=by simp[Builtin.List.listSameRef,g]
 have X:(Value.type "dict"==Value.type "list")=false:=by decide
 have h3:(Value.type "dict"==Value.type "tuple")=false:=by decide
 simp only[Q,X,h3,Bool.or_false,aeI,aff];refine ab1 (iter P u ?_);have j:dU (s.heap.push { cls:=.type "dict_keyiterator",data:=.fields #[.ref d,.int 0 0,.int es.size 0,.int ep 0] }) d es ep:=dU.at u λo e=>ab2 _ e
 refine ab1 (ac1 (hint (s:={ s with heap:=s.heap.push { cls:=.type "dict_keyiterator",data:=.fields #[.ref d,.int 0 0,.int es.size 0,.int ep 0] } }) j ?_));have l:=ab2 { cls:=.type "dict_keyiterator",data:=.fields #[.ref d,.int 0 0,.int es.size 0,.int ep 0] } L;have y:(s.heap.push { cls:=.type "dict_keyiterator",data:=.fields #[.ref d,.int 0 0,.int es.size 0,.int ep 0] }).IsKeyIter s.heap.objs.size d 0 es.size ep:=⟨_,acf _ Y,Y,Y⟩;have kp:∀b o,s.heap.get? b=some o->(s.heap.push { cls:=.type "dict_keyiterator",data:=.fields #[.ref d,.int 0 0,.int es.size 0,.int ep 0] }).get? b=some o:=λb o e=>ab2 _ e
 generalize s.heap.push { cls:=.type "dict_keyiterator",data:=.fields #[.ref d,.int 0 0,.int es.size 0,.int ep 0] }=z at l y kp j ⊢;refine afg (λ_=>?_) (λB=>absurd (by decide) B);refine ab1 (afo ?_);refine ab1 ?_;show wpAny _ _ (updateSeq S (·.push .none) >>=λ_=>updateSeq S (·.pop)) _ _ _;refine ab1 (aep l Y ?_);have q:=acL (Obj.mapSeq (·.push Value.none)) l rfl;refine aep (hz:=by seq_fits) q Y ?_;have C:=acL (Obj.mapSeq (·.pop)) q rfl;have h:∀b o,b≠S->z.get? b=some o->((z.update S (Obj.mapSeq (·.push Value.none))).update S (Obj.mapSeq (·.pop))).get? b=some o:=λb o x e=>(acM _ _ (adn x)).trans ((acM _ _ (adn x)).trans e)
 have W:=(walks (prog:=prog) (w:=w) (A:=A.in1) (d:=d) (es:=es) (ep:=ep) O s.heap.objs.size H).toS
 have I:S∉[s.heap.objs.size,d]:=λa=>by
  rcases aci.mp a with e|a
  ·exact n e
  ·exact g (acb.mp a)
 refine ab7 ⟨aez F.plain_extend_loop _,?_⟩;refine codeAny_extend_loopS W hlen S I res es.size 0 _ #[] _ Y (acF _) ⟨y.at λo e=>h _ o (adn n) e,dU.at j λo e=>h _ o (adn g) e⟩ C (ItemsOf.nil _) λk c m p G r=>?_
 rw[Moved.eq_with p];refine Z k.heap k.toks c m (λb o x e=>p.heap b o (λa=>?_) (h b o x (kp b o e))) G r;rcases aci.mp a with U|a
 ·exact x U
 ·exact absurd (acg e) (by rw[acb.mp a];exact adg _)
theorem init {R:Result->Shared->Prop}(y:A.handled=none)(z:(d==sysModules)=false)(t:dU s.heap d es ep)(hlen:es.size<=sizeLine)(S:Addr)(n:s.heap.get? S=some { cls:=.type "list",data:=.seq #[] })
 (B:∀g1 p a c,(∀b o,b≠S->s.heap.get? b=some o->g1.get? b=some o)->g1.get? S=some { cls:=.type "list",dict:=none,data:=.seq a c,slots:=#[] }->
  ItemsOf (λi v=>∃u,es[i]?=some u/\v=u.key) a es.size->R (.ok (.ret .none)) { s with heap:=g1,toks:=p }):
 wpAny (model prog w) A.in1 (Builtin.«list.__init__» ⟨[.ref S,.ref d],[]⟩)
  (λfin k=>match fin with|.done f=>R (.ok f) k|.again c=>c.quiet=true/\codeAny (model prog w) A c R k) (λe k=>R (.error e) k) s:=by
 have l:d≠S:=λe=>by
  obtain⟨o,D,C,r⟩:=t
  grind
 show wpAny _ _ (do let old <-Builtin.List.listItems (.ref S);Builtin.List.listUpdate (.ref S) (λ_=>#[]);letGo old.toList.reverse;Builtin.List.listExtendWith (.ref S) (.ref d) .none) _ _ s;refine ab1 ?_;unfold Builtin.List.listItems;refine ab1 (aeE n Y (ab7 ?_));show wpAny _ _ (updateSeq S (λ_=>#[]) >>=λ_=>letGo (#[]:Array Value).toList.reverse >>=λ_=>Builtin.List.listExtendWith (.ref S) (.ref d) .none) _ _ s;refine ab1 (aep n Y ?_);have m:=acL (Obj.mapSeq (λ_=>(#[]:Array Value))) n rfl;have g:∀b o,b≠S->s.heap.get? b=some o->(s.heap.update S (Obj.mapSeq (λ_=>(#[]:Array Value)))).get? b=some o:=λb o j e=>(acM _ _ (adn j)).trans e
 refine ab1 (afp ?_);refine extend (s:={ s with heap:=s.heap.update S (Obj.mapSeq (λ_=>(#[]:Array Value))) }) y z (dU.at t λo e=>g _ o l e) hlen S .none _ m λg1 p a c x q h=>?_
 exact B g1 p a c (λb o j e=>x b o j (g b o j e)) q h
theorem Em (r:A.handled=none)(u:(d==sysModules)=false)(t:dU s.heap d es ep)(hlen:es.size<=sizeLine)
 (p:∀g1 h a j,(∀b o,s.heap.get? b=some o->g1.get? b=some o)->g1.get? s.heap.objs.size=some { cls:=.type "list",dict:=none,data:=.seq a j,slots:=#[] }->ItemsOf (λi v=>∃n,es[i]?=some n/\v=n.key) a es.size->Q (.ref s.heap.objs.size) { s with heap:=g1,toks:=h }):
 wpAny (model prog w) A (call (.type "list") [.ref d]) Q E s:=by
 refine callType_codes (Q₁:=λobj c=>obj=.ref s.heap.objs.size/\c={ s with heap:=s.heap.push { cls:=.type "list",data:=.seq #[] } }) F.called_list (F.typeCall_list_1 _) F.entry_list_init (code_list_new _ ⟨Y,Y⟩) λobj c f=>?_
 obtain⟨rfl,rfl⟩:=f;have l:(s.heap.push { cls:=.type "list",data:=.seq #[] }).get? s.heap.objs.size=some { cls:=.type "list",data:=.seq #[] }:=acf _ rfl;refine⟨⟨_,l,Y⟩,F.args_list_init_2 _ _,init (A:=A.in1) (s:={ s with heap:=s.heap.push { cls:=.type "list",data:=.seq #[] } }) r u (dU.at t λo e=>ab2 _ e) hlen _ l λg1 h a j q k g=>?_⟩;exact⟨Y,p g1 h a j (λb o e=>q b o (acz (acg e)) (ab2 _ e)) k g⟩
end
end Dk
structure MDef (K:Za1) (C:Addr) (x q:Str) (st:Stmt) (ps:List Str) (f:Addr) (fd:FuncData):Prop where
 F:qA K x q st f fd
 m:Meth K C x f
 b:Binds K fd ps []
section
variable {X:Cx}{o e:Expr}{es:List Expr}{to:TE}{t:TA}{name:Str}{apos bX:Pos}{T id:String}{r:V->List V->Hp->VK->Prop}
theorem Eo (h:X.K=K)(f:PlainAttrs T)(slot:Slot T name id)(d:typeOf (.builtin id)=pure (.type "method_descriptor"))(j:IL X id r)(g:PE X o to)(k:PA X (e::es) t)
 (b:attributeBase o name X.env (eval o X.env)=eval o X.env:=by rfl)
 (c:((backTo bX (starEach (e::es) X.env)).all (λx=>!x.1) && (backToKw bX (keywordEach [] X.env)).all (λx=>x.1.isSome)
  && decide ((e::es).length+ ([]:List Keyword).length+ (if ([]:List Keyword).isEmpty then 0 else 1)<30))=true:=by rfl)
 (hline:(apos.endLine==bX.line)=true:=by rfl) (i:starEach (e::es) X.env=(false,eval e X.env)::starEach es X.env:=by rfl) (a:(backTo bX (starEach es X.env)).any (·.1)=false:=by rfl):
 PE X (.Call (.Attribute o name apos) (e::es) [] bX) (SF K T r to t):=by
 subst h;exact dP f slot d j g k b c hline i a
end
open PySem.W (KasT kas_rev kas_asc kas_desc kas_tail3 kas_descPart kas_count kas_place kas_bin kas_sort kas_ask kas_ask_eq kas_runs kas_st kas_range kas_item kas_item_eq)
namespace Srt
def Gd {b:Type}(P:Nat->Nat->Prop)(f:Nat->Nat->Bool):KasT b->(b->Prop)->Prop
 |.ret a,Q=>Q a
 |.ask i j k,Q=>P i j/\Gd P f (k (f i j)) Q
section
variable {n:Nat}{key:Nat->Int}
structure Pr (n:Nat) (p:Array Nat):Prop where
 sz:p.size=n
 lt:∀i,i<n->p.getD i 0<n
 inj:∀i j,i<n->j<n->p.getD i 0=p.getD j 0->i=j
def Up (key:Nat->Int)(p:Array Nat)(m:Nat):Prop:=∀i j,i<j->j<m->key (p.getD i 0)<key (p.getD j 0)
def Dn (key:Nat->Int)(p:Array Nat)(m:Nat):Prop:=∀i j,i<j->j<m->key (p.getD j 0)<key (p.getD i 0)
def Ok (n:Nat)(key:Nat->Int)(i j:Nat):Prop:=i<n/\j<n/\key i≠key j
def Inj (n:Nat)(key:Nat->Int):Prop:=∀i j,i<n->j<n->key i=key j->i=j
abbrev ask (key:Nat->Int) (i j:Nat):Bool:=decide (key i<key j)
end
end Srt
end L2
namespace L2
open PySem PySem.Spec PyProof.Rows
theorem Ep:typeLookup (.type "list") "keys"=pure none:=by rw[typeLookup_type,builtinLookup_eq_fast];kernel_rfl
theorem G0 {j:Array Value}{k:Nat}{Q:Option Value->Shared->Prop}
 (n:s.heap.get? a=some { cls:=.type "list",data:=.seq j k }) (p:A.handled=none)
 (h:∀i m,(∀b o,s.heap.get? b=some o->i.get? b=some o)->Q none { s with heap:=i,toks:=m }):
 wpAny (model P w) A (getAttr? (.ref a) "keys") Q E s:=by
 obtain⟨q,g,d,m,os⟩:=s;have l:∀c,(⟨q,g,d,c,os⟩:Shared).TypeIs (.ref a) "list":=λ_=>⟨_,n,Y⟩
 have v:=sub_AttributeError;have x:=F.slot_list_getattribute.lookup;have u:=F.slot_list_getattribute.bind (.ref a);have t:=am_list_getattr_none;unfold getAttr? getAttrBy? getAttrBy
 repeat (any_goals (first|assumption|exact l _|((with_reducible show wpAny _ _ (call (Value.builtin "list.__getattribute__") _ _) _ _ _);refine call_meets F.slot_list_getattribute (l _) am_entry_list_getattribute (F.args_list_getattribute_2 _ _) (meets_getattribute_miss_list a j k #[] "keys" _ Ep (by decide) (by decide)) ⟨n,p,λi c e f=>?_⟩)|wp_step))
 obtain⟨r,y,z⟩:=f.there;show wpAny _ _ (getattributeRaised _ _ _ _ _ _ _) _ _ _;unfold getattributeRaised
 repeat (any_goals (first|assumption|wp_step))
 exact h _ _ f.keeps
theorem nH:entryFor table "dict.update.loop"=some Builtin.«dict.update.loop»:=entryFor_of_fast (by kernel_rfl)
theorem hJ:plainId "dict.update.loop"=true:=by decide
section
variable {prog:Program} {w:World} {K:Type} [DecidableEq K] {knd:KeyKind prog w K} {A:Around} {E:Value->Shared->Prop}
theorem CY {R:Result->Shared->Prop}{it l:Addr}{its:List Value}{rs:List (K×Value)}(hh:A.in1.handled=none)(lF:l≠it)(q:d≠it)(Q:d≠l)(hlen:its.length=rs.length)(hsz:rs.length<=sizeLine):
 ∀(k i:Nat) (s:Shared),its.length - i=k->i<=its.length->s.heap.IsListIter it l i->s.heap.IsList l its.toArray->s.heap.DictOf knd d (merged [] (rs.take i))->
 (∀(j:Nat) (u:Value) (f:K×Value),its[j]?=some u->rs[j]?=some f->∃p a,u=.ref p/\p≠d/\p≠it/\knd.is f.1 a=true/\IsTup s.heap p #[a,f.2])->
 (∀m J,m.DictOf knd d (merged [] rs)->(∀b o,b≠d->b≠it->s.heap.get? b=some o->m.get? b=some o)->R (.ok (.ret .none)) { s with heap:=m,toks:=J })->
 codeAny (model prog w) A (.builtin "dict.update.loop" ⟨[.ref d,.ref it,rawInt (i:Int),.none],[]⟩) R s:=by
 have W:=Walks.list (prog:=prog) (w:=w) (A:=A.in1) hh it l lF its.toArray;have c:∀b:Addr,b≠it->b∉[it]:=λb h z=>h (acb.mp z)
 intro k
 induction k with
 |zero=>
  intro i s hk H hit S I hp hR;have ei:i=its.length:=by omega
  refine afe nH ?_;rw[ae0 hJ _];show wpAny _ A.in1 (pyNext (.ref it) >>=_) _ _ s;refine ab1 (W.done s _ _ ⟨by grind,S⟩ λm J kp=>?_);show wpAny _ A.in1 (Builtin.Dict.addKeywords d [] >>=_) _ _ _;refine ab1 (ab7 (ab7 ?_));rw[List.take_of_length_le (by omega)]at I;obtain⟨N,M,X,D,t⟩:=id I;refine hR m J ⟨N,M,X,kp _ _ (c _ q) D,t⟩ λb o _ h e=>kp b o (c _ h) e
 |succ k ih=>
  intro i s hk H hit S I hp hR;have i7:i<its.length:=by omega
  refine afe nH ?_;rw[ae0 hJ _];show wpAny _ A.in1 (pyNext (.ref it) >>=_) _ _ s;refine ab1 (W.item i s _ _ (by omega) ⟨hit,S⟩ λv m J hP y4 kp=>?_);obtain⟨F,xF⟩:=y4;have Z:its[i]?=some v:=by simpa using hP
  have x:rs[i]?=some (rs[i]'(by omega)):=ab3 (by omega)
  generalize rs[i]'(by omega)=f at x;obtain⟨p,a,rfl,pd,pi,G,o,ho,hc,n,B⟩:=hp i v f Z x;have y:=kp _ _ (c _ pi) ho;have U:rs.take (i+ 1)=rs.take i++[f]:=by rw[aec,x];rfl
  have O:m.DictOf knd d (merged [] (rs.take i)):=by
   obtain⟨N,M,X,D,t⟩:=id I;exact⟨N,M,X,kp _ _ (c _ q) D,t⟩
  have Wx:=merged_length_le ([]:List (K×Value)) (rs.take i)
  have C:(merged [] (rs.take i)).length<=sizeLine:=by
   rw[acQ,ael]at Wx;omega
  show wpAny _ A.in1 (holding [Value.ref p] _ >>=_) _ _ _;refine ab1 (ac1 ?_);refine ab1 (aft ?_);show wpAny _ A.in1 (typeOf (Value.ref p) >>=_) _ _ _;refine ab1 (aev (T:="tuple") ⟨o,y,hc⟩ ?_);rw[acv (by decide)];refine ab1 (aeE y B ?_);refine ab7 ?_;show wpAny _ A.in1 (holding [a,f.2] (dictSet d a f.2)) _ _ _;refine ac1 (wpAny_dictSet_pairs G O (λg P sb=>?_) C);have L:∀b o,b≠d->m.get? b=some o->g.get? b=some o:=λb o h e=>(sb.2 b h).trans e
  refine ab7 ⟨aez hJ _,?_⟩;have r:rawInt ((i:Int)+ 1)=rawInt (((i+ 1:Nat)):Int):=rfl;rw[r];refine ih (i+ 1) _ (by omega) (by omega) (F.at λo e=>L _ _ (adn q) e) (xF.at λo e=>L _ _ (adn Q) e) ?_ ?_ ?_
  ·rw[U,merged,List.foldl_append];exact P
  ·intro j u V D t;obtain⟨p,a,rfl,a1,a2,a3,o,b1,b2⟩:=hp j u V D t;exact⟨p,a,Y,a1,a2,a3,o,L _ _ a1 (kp _ _ (c _ a2) b1),b2⟩
  ·intro t Wy Wz WB;exact hR t Wy Wz λb o h H e=>WB b o h H (L _ _ h (kp _ _ (c _ H) e))
theorem wG {rs:List (K×Value)}(H:A.handled=none)(hlen:N.length=rs.length)(y:rs.length<=sizeLine)
 (I:s.heap.get? a=some { cls:=.type "list",data:=.seq N.toArray n })
 (V:∀(j:Nat) (u:Value) (l:K×Value),N[j]?=some u->rs[j]?=some l->∃p d,u=.ref p/\knd.is l.1 d=true/\IsTup s.heap p #[d,l.2])
 (R:∀r L,r.DictOf knd s.heap.objs.size (merged [] rs)->(∀b o,s.heap.get? b=some o->r.get? b=some o)->Q (.ref s.heap.objs.size) { s with heap:=r,toks:=L }):
 wpAny (model prog w) A (call (.type "dict") [.ref a]) Q E s:=by
 refine callType_codes (Q₁:=λobj f=>obj=.ref s.heap.objs.size/\f={ s with heap:=s.heap.push { cls:=.type "dict",data:=.dict #[] } }) F.kt_called_dict (F.kt_typeCall_dict_1 _) F.entry_dict_init (kt_code_dict_new _ ⟨Y,Y⟩) ?_;rintro obj f ⟨rfl,rfl⟩;have c:(s.heap.push { cls:=.type "dict",data:=.dict #[] }).DictOf knd s.heap.objs.size []:=Heap.DictOf.new s.heap;have i:(s.heap.push { cls:=.type "dict",data:=.dict #[] }).get? a=some { cls:=.type "list",data:=.seq N.toArray n }:=ab2 _ I;have t:=acg I;refine⟨c.typeIs,F.args_dict_init_2 _ _,?_⟩;unfold Builtin.«dict.__init__»;refine ab1 ?_;unfold Builtin.Dict.selfAndRest;refine ab1 (aeR c.typeIs ?_);show wpAny _ _ (pure (s.heap.objs.size,[Value.ref a])) _ _ _;refine ab7 ?_;show wpAny _ _ (Builtin.Dict.updateFrom "dict.__init__" s.heap.objs.size (.ref a) [] .none) _ _ _;unfold Builtin.Dict.updateFrom;refine ab1 (aev (T:="list") ⟨_,i,Y⟩ ?_);rw[acv (by decide)];refine ab1 (G0 i H λg L kp=>?_);rw[acv (by decide)];refine ab1 (afo ?_);have k:=kp _ _ i;refine ab1 (aek (items:=N.toArray) ⟨_,k,Y,n,Y⟩ ?_)
 have h:s.heap.objs.size<g.objs.size:=by
  obtain⟨G,_,_,m,_⟩:=id c;exact acg (kp _ _ m)
 have v:=acg k;have O:∀b o,s.heap.get? b=some o->(g.push { cls:=.type "list_iterator",data:=.fields #[.ref a,.int 0 0] }).get? b=some o:=λb o e=>ab2 _ (kp _ _ (ab2 _ e))
 refine ab7 ⟨aez hJ _,CY (knd:=knd) (A:=A.in1) (rs:=rs) (its:=N) (l:=a) (it:=g.objs.size) H (acz v) (acz h) (ade t) hlen y N.length 0 _ Y (acF _) ?_ ⟨_,ab2 _ k,Y,n,Y⟩ ?_ ?_ ?_⟩
 ·exact⟨_,acf _ Y,Y,Y⟩
 ·obtain⟨G,P,U,m,x⟩:=id c;exact⟨G,P,U,ab2 _ (kp _ _ m),x⟩
 ·intro j u l m x;obtain⟨p,d,rfl,W,o,D,S⟩:=V j u l m x;have q:=acg D;exact⟨p,d,Y,acz q,acz (ae7 q h),W,o,O _ _ D,S⟩
 ·intro r z C B;refine⟨Y,R r z C λb o e=>?_⟩;have J:=acg e;exact B b o (acz J) (acz (ae7 J h)) (O _ _ e)
end
section
variable {X:Cx}
inductive Er (xs:List V) (H:Hp) (Q:VK):Prop
 |mk (l:Addr) (ps:List Addr) (kvs:List (Key×V)):xs=[.ref l]->H l=some (.lst (ps.map V.ref))->ps.length=kvs.length->(∀(i:Nat) (p:Addr) (kv:Key×V),ps[i]?=some p->kvs[i]?=some kv->H p=some (.tup [kV kv.1,kv.2]))->(∀d,H d=none->Q (.ref d) (upd H d (.dK (iA [] kvs))))->Er xs H Q
theorem G3 (ok:dw P w H h):∀(c:List Addr) (a:List (Key×V)),c.length=a.length->(∀(i:Nat) (p:Addr) (b:Key×V),c[i]?=some p->a[i]?=some b->H p=some (.tup [kV b.1,b.2]))->
 ∃l:List (Key×Value),KV a l/\∀(j:Nat) (p:Addr) (b:Key×Value),c[j]?=some p->l[j]?=some b->∃e,(bO P w).is b.1 e=true/\IsTup h p #[e,b.2]:=by
 intro c
 induction c with
 |nil=>exact λa g _=>by cases a with|nil=>exact⟨[],.nil,λj p b d=>by simp at d⟩|cons=>cases g
 |cons p c o=>
  intro a g n
  cases a with
  |nil=>cases g
  |cons b a=>
   obtain⟨l,t,x⟩:=o a (by simpa using g) λi q b d k=>n (i+ 1) q b (by simpa using d) (by simpa using k)
   obtain⟨-,r,y,s⟩:=ok p _ (n 0 p b Y Y);obtain⟨u,v,rfl,z,m⟩:=vals2 y;refine⟨(b.1,v)::l,.cons ⟨Y,m⟩ t,λj q f d k=>?_⟩
   cases j with
   |zero=>
    obtain rfl:p=q:=by simpa using d
    obtain rfl:(b.1,v)=f:=by simpa using k
    exact⟨u,jr z,s⟩
   |succ j=>exact x j q f (by simpa using d) (by simpa using k)
theorem uS (n:X.calm=true):jn X (.type "dict") Er:=by
 intro m s P H N R Q I r h;obtain⟨l,i,a,rfl,w,hlen,E,q⟩:=h;obtain⟨u,rfl,x⟩:=vals1 r;cases x;obtain⟨J,t,c,L,A⟩:=I.aL l _ w;obtain rfl:=qE L;obtain⟨rs,k,D⟩:=G3 I.aL i a hlen E;have v:a.length=rs.length:=k.length;rw[ab9]at J;refine wG (knd:=bO X.prog X.w) (rs:=rs) (I.ok.hd n) (by grind) (by omega) A (λj u o b C=>?_) λg B G kp=>?_
 ·rw[aco]at b
  cases f:i[j]? with
  |none=>rw[f]at b;cases b
  |some p=>
   rw[f]at b;obtain⟨d,z,F⟩:=D j p o f C;exact⟨p,d,(Za0 b).symm,z,F⟩
 ·have y:KV (iA [] a) (merged [] rs):=KV.merge k .nil;have e:=kx a [];rw[ael]at e;exact⟨.ref s.heap.objs.size,_,I.laid (t':=B) kp (aca _) (qD (by omega) (acj.mpr (adn (acz I.big))) y G),Y,q _ (I.aL.fresh (aca _))⟩
end
section
variable {X:Cx}{pins:List (Addr×Obj)}{σ:St}{H:Hp}{s:Shared}{d:Addr}{u:HO}{o:Obj}
theorem Inv.freeze (I:Inv X pins σ H s)(e:H d=some u)(mu:sM (some u))(g:s.heap.get? d=some o):Inv X pins σ (upd H d (.cL o u)) s:=by
 have a:sM (H d):=by rw[e];exact mu
 have b:∀c y,H c=some (.own y)->c≠d:=λc y r z=>by subst z;rw[r]at a;exact a
 have iI:∀c f,H c=some (.tup f)->c≠d:=λc f r z=>by subst z;rw[r]at a;exact a
 have new:bU X.prog X.w (upd H d (.cL o u)) s.heap d u:=(I.aL d u e).eX (λc v _ r=>r) (λc r=>by rw[ai (b _ _ r)];exact r) λc f r=>by rw[ai (iI _ _ r)];exact r
 exact jN (t':=s.toks) I a (Heap.SameBut.refl _ _) ⟨o,g⟩ ⟨g,new⟩
theorem Inv.CZ (I:Inv X pins σ H s)(e:H d=some (.cL o u))(mu:sM (some u))(l:∀o u,X.tT d≠some (.cL o u)):Inv X pins σ (upd H d u) s:=by
 have i:∀b,H b=none->b≠d:=λb n z=>by grind
 have h:∀c y,H c=some (.own y)->c≠d:=λc y r z=>by grind
 have iI:∀c g,H c=some (.tup g)->c≠d:=λc g r z=>by grind
 refine⟨I.ok,I.os,I.bare,⟨I.base.keep,I.base.slot,λb j q n A=>?_,I.base.there,λb g q=>?_,λb j v q=>?_,λb t q=>?_⟩,I.loc,I.cell,?_,λx c q=>?_,λp w=>?_,λb v q=>?_,I.len⟩
 ·have f:=I.base.free b j q n A;rw[ai (i b f)];exact f
 ·have f:=I.base.gN b g q;rw[ai (iI _ _ f)];exact f
 ·have f:=I.base.fW b j v q;rw[ai (λz=>l j v (by rw[<-z];exact q))];exact f
 ·obtain⟨m,f⟩:=I.base.gO b t q;refine⟨m,?_⟩;rw[ai (λz=>by grind)];exact f
 ·rw[ai (i _ I.free)];exact I.free
 ·have f:=I.fX x c q;rw[ai (i _ f)];exact f
 ·obtain⟨a,b,c⟩:=I.pin p w;refine⟨a,?_,c⟩;rw[ai (i _ b)];exact b
 ·have st:∀b v,bU X.prog X.w H s.heap b v->bU X.prog X.w (upd H d u) s.heap b v:=λb v q=>q.eX (λc v _ r=>r) (λc r=>by rw[ai (h _ _ r)];exact r) λc g r=>by rw[ai (iI _ _ r)];exact r
  by_cases k:b=d
  ·subst k;rw[ah]at q;obtain rfl:=Za0 q;exact st _ _ (I.aL _ _ e).2
  ·rw[ai k]at q;exact st _ _ (I.aL b v q)
theorem Inv.G4 (I:Inv X pins σ H s)(e:H d=some u)(mu:sM (some u)):∀o u,X.tT d≠some (.cL o u):=λo v q=>by
 rw[I.base.fW d o v q]at e;cases e;exact mu
def Rw (t:TS):TS:=λD σ H=>∃(d:Addr) (u:HO),H d=some u/\sM (some u)/\
 t { nx:=λ a b=>∃o,b d=some (.cL o u)/\D.nx a (upd b d u),rt:=λv b=>∃o,b d=some (.cL o u)/\D.rt v (upd b d u),
     bk:=λ a b=>∃o,b d=some (.cL o u)/\D.bk a (upd b d u),ct:=λ a b=>∃o,b d=some (.cL o u)/\D.ct a (upd b d u) } σ H
theorem Bx {st:Stmt}{t:TS}(h:PS X st t):PS X st (Rw t):=by
 intro pins s σ H D I q;obtain⟨d,u,e,mu,q⟩:=q;have i:=I.G4 e mu;refine aY (h pins s σ H _ I q) λf l p=>?_
 cases f with
 |next=>obtain⟨a,j,b,o,g,c⟩:=p;exact⟨a,_,b.CZ g mu i,c⟩
 |brk=>obtain⟨a,j,b,o,g,c⟩:=p;exact⟨a,_,b.CZ g mu i,c⟩
 |cont=>obtain⟨a,j,b,o,g,c⟩:=p;exact⟨a,_,b.CZ g mu i,c⟩
 |ret v=>obtain⟨k,a,j,b,r,o,g,c⟩:=p;exact⟨k,a,_,b.CZ g mu i,r,c⟩
end
def y6 (d:Addr)(o:Obj)(a:List (Key×V)):It:=
 ⟨λi H=>i<a.length/\H d=some (.cL o (.dK a)),λi H x c=>c=H/\∃b,a[i]?=some b/\x=kV b.1,λi H=>a.length<=i/\H d=some (.cL o (.dK a))⟩
theorem KW {k:Key}(h:(bO P w).is k v=true):RelV (kV k) v:=by
 cases k with
 |inl i=>
  have a:Value.isInt i v=true:=h
  cases v with
  |int j t=>simp[Value.isInt]at a;subst a;exact⟨_,Y⟩
  |_=>simp[Value.isInt]at a
 |inr x=>
  have a:Value.isStrOf x v=true:=h
  cases v with
  |str j t=>simp[Value.isStrOf]at a;subst a;exact⟨_,Y⟩
  |_=>simp[Value.isStrOf]at a
inductive Dt where
 |i (n:Int)|s (l:List Nat)|n|b (k:Bool)|t (xs:List Dt)|l (xs:List Dt)
inductive bF (H:Hp):Nat->V->Dt->Prop where
 |i {k:Nat} {n:Int}:bF H k (.int n) (.i n)
 |s {k:Nat} {l:List Nat}:bF H k (.str (tx l)) (.s l)
 |n {k:Nat}:bF H k .non .n
 |b {k:Nat} {c:Bool}:bF H k (.bl c) (.b c)
 |t {k:Nat} {a:Addr} {vs:List V} {ds:List Dt}:H a=some (.tup vs)->vs.length=ds.length->(∀(j:Nat) (v:V) (d:Dt),vs[j]?=some v->ds[j]?=some d->bF H k v d)->bF H (k+ 1) (.ref a) (.t ds)
 |l {k:Nat} {a:Addr} {vs:List V} {ds:List Dt}:H a=some (.lst vs)->vs.length=ds.length->(∀(j:Nat) (v:V) (d:Dt),vs[j]?=some v->ds[j]?=some d->bF H k v d)->bF H (k+ 1) (.ref a) (.l ds)
theorem bF.keep (g:∀a e,H a=some (.tup e)->I a=some (.tup e))(j:∀a e,H a=some (.lst e)->I a=some (.lst e)){k:Nat}{v:V}{d:Dt}(h:bF H k v d):bF I k v d:=by
 induction h with
 |i=>exact .i
 |s=>exact .s
 |n=>exact .n
 |b=>exact .b
 |t a b c f=>exact .t (g _ _ a) b f
 |l a b c f=>exact .l (j _ _ a) b f
theorem bF.same (s:ay H I){k:Nat}{v:V}{d:Dt}(h:bF H k v d):bF I k v d:=h.keep (λ_ _ e=>s _ _ e) (λ_ _ e=>s _ _ e)
theorem bF.up {k:Nat}{d:Dt}(h:bF H k q d):bF H (k+ 1) q d:=by
 induction h with
 |i=>exact .i
 |s=>exact .s
 |n=>exact .n
 |b=>exact .b
 |t a b c e=>exact .t a b e
 |l a b c e=>exact .l a b e
theorem bF.le {k:Nat}{d:Dt}(h:bF H k q d)(a:k<=m):bF H m q d:=by
 obtain⟨j,rfl⟩:=Nat.exists_eq_add_of_le a;clear a
 induction j with
 |zero=>exact h
 |succ j b=>exact b.up
section
variable {X:Cx}{pins:List (Addr×Obj)}{σ:St}{H:Hp}{s:Shared}
theorem sQ (n:Int)(t a:Tok):SeqAt.EqAt A s (.int n t) (.int n a) true:=by
 have:=SeqAt.EqAt.int_int (A:=A) (s:=s) n t n a
 grind
theorem sR (x:Str)(t a:Tok):SeqAt.EqAt A s (.str x t) (.str x a) true:=by
 have:=SeqAt.EqAt.str_str (A:=A) (s:=s) x t x a
 grind
theorem Rx (I:Inv X pins σ H s):∀(k:Nat) (A:Around) (v z:V) (u B:Value) (d:Dt),A.units+ k<cLine->bF H k v d->bF H k z d->RelV v u->RelV z B->SeqAt.EqAt A s u B true:=by
 intro k
 induction k with
 |zero=>
  intro A v z u B d P h m r g
  cases h with
  | @i n=>cases m with|i=>?_
          obtain⟨t,rfl⟩:=r;obtain⟨D,rfl⟩:=g;exact sQ _ _ _
  | @s l=>cases m with|s=>?_
          obtain⟨t,rfl⟩:=r;obtain⟨D,rfl⟩:=g;exact sR _ _ _
  |n=>cases m with|n=>?_
      cases r;cases g;exact SeqAt.EqAt.same _
  | @b c=>cases m with|b=>?_
          cases r;cases g;exact SeqAt.EqAt.same _
 |succ k ih=>
  intro A v z u B d P h m r g
  cases h with
  | @i _ n=>cases m with|i=>?_
            obtain⟨t,rfl⟩:=r;obtain⟨D,rfl⟩:=g;exact sQ _ _ _
  | @s _ l=>cases m with|s=>?_
            obtain⟨t,rfl⟩:=r;obtain⟨D,rfl⟩:=g;exact sR _ _ _
  |n=>cases m with|n=>?_
      cases r;cases g;exact SeqAt.EqAt.same _
  | @b _ c=>cases m with|b=>?_
            cases r;cases g;exact SeqAt.EqAt.same _
  | @t _ a q y F Z h3=>
    cases m with
    | @t _ b o _ G W g3=>
      cases r;cases g;by_cases e:a=b
      ·subst e;exact SeqAt.EqAt.same _
      ·refine SeqAt.EqAt.of_refs e ?_;obtain⟨p,w,C,_⟩:=I.tuple (bT.of F);obtain⟨f,x,J,_⟩:=I.tuple (bT.of G);have l1:=w.length;have l2:=x.length;have:=SeqAt.RcAt.tuples (A:=A) (e:=λ_=>true) (show s.heap.IsTuple a p.toArray from C) (show s.heap.IsTuple b f.toArray from J) (by omega) (λj E M=>?_)
       ·grind
       ·have U:j<p.length:=by simpa using E
        have k2:j<f.length:=by simpa using M
        have N:q[j]?=some (q[j]'(by omega)):=ab3 (by omega)
        have L:o[j]?=some (o[j]'(by omega)):=ab3 (by omega)
        have O:y[j]?=some (y[j]'(by omega)):=ab3 (by omega)
        obtain⟨Q,R,z1⟩:=w.get N;obtain⟨S,T,z2⟩:=x.get L
        grind
  | @l _ a q y F Z h3=>
    cases m with
    | @l _ b o _ G W g3=>
      cases r;cases g;by_cases e:a=b
      ·subst e;exact SeqAt.EqAt.same _
      ·refine SeqAt.EqAt.of_refs e ?_;obtain⟨p,w,C,_⟩:=I.list (aI.of F);obtain⟨f,x,J,_⟩:=I.list (aI.of G);have l1:=w.length;have l2:=x.length;have:=SeqAt.RcAt.lists (A:=A) (e:=λ_=>true) C.isList J.isList (by simp;omega) (by omega) (λj E M=>?_)
       ·rw[all_true _ _ λ_=>rfl]at this;exact this
       ·have U:j<p.length:=by simpa using E
        have k2:j<f.length:=by simpa using M
        have N:q[j]?=some (q[j]'(by omega)):=ab3 (by omega)
        have L:o[j]?=some (o[j]'(by omega)):=ab3 (by omega)
        have O:y[j]?=some (y[j]'(by omega)):=ab3 (by omega)
        obtain⟨Q,R,z1⟩:=w.get N;obtain⟨S,T,z2⟩:=x.get L
        grind
end
section
variable {X:Cx}
theorem y7 (I:Inv X o D H s){k:Nat}{A:Around}(m:A.units+ k<cLine){e c:List V}{b a:List Value}{ds:List Dt}(g:Vals e b)(h:Vals c a)(F:e.length=ds.length)(E:c.length=ds.length)
 (x:∀(j:Nat) (v:V) (d:Dt),e[j]?=some v->ds[j]?=some d->bF H k v d) (B:∀(j:Nat) (v:V) (d:Dt),c[j]?=some v->ds[j]?=some d->bF H k v d) (j:Nat) (u:j<b.toArray.size) (z:j<a.toArray.size):SeqAt.EqAt A s b.toArray[j] a.toArray[j] true:=by
 have G:=g.length;have J:=h.length;have C:j<b.length:=by simpa using u
 have y:j<a.length:=by simpa using z
 have l:e[j]?=some (e[j]'(by omega)):=ab3 (by omega)
 have i:c[j]?=some (c[j]'(by omega)):=ab3 (by omega)
 have f:ds[j]?=some (ds[j]'(by omega)):=ab3 (by omega)
 obtain⟨n,p,z1⟩:=g.get l;obtain⟨q,r,z2⟩:=h.get i;have w:b.toArray[j]=n:=by rw[aeg];exact Za0 ((ab3 C).symm.trans p)
 have t:a.toArray[j]=q:=by rw[aeg];exact Za0 ((ab3 y).symm.trans r)
 rw[w,t];exact Rx I k _ _ _ _ _ _ m (x j _ _ l f) (B j _ _ i f) z1 z2
inductive Rz (x:V) (y:V) (H:Hp) (Q:VK):Prop
 |mk (d:Dt) (a b:Addr):x=.ref a->y=.ref b->bF H 8 x d->bF H 8 y d->Q (.bl true) H->Rz x y H Q
inductive Jb (x:V) (y:V) (H:Hp) (Q:VK):Prop
 |mk (d:Dt) (a b:Addr):x=.ref a->y=.ref b->bF H 8 x d->bF H 8 y d->Q (.bl false) H->Jb x y H Q
theorem KY (M:X.A.units+ 8<cLine):gR X (compareOp .NotEq) Jb:=by
 intro D s N H x y v u Q I F G h;obtain⟨d,a,b,rfl,rfl,h,E,q⟩:=h;cases F;cases G
 cases h with
 |t o w A=>
  cases E with
  |t p r C=>
   obtain⟨m,f,i,_⟩:=I.tuple (bT.of o);obtain⟨c,g,z,_⟩:=I.tuple (bT.of p);have J:=f.length;have L:=g.length;refine SeqAt.RcNeAt.tuples (e:=λ_=>true) (show s.heap.IsTuple a _ from i) (show s.heap.IsTuple b _ from z) (by omega) (λj n B=>y7 I (k:=7) (by omega) f g w r A C j n B) X.prog X.w X.xe _ ⟨.bl false,H,I,?_,q⟩;show _=Value.bool false
   grind
 |l o w A=>
  cases E with
  |l p r C=>
   obtain⟨m,f,i,_⟩:=I.list (aI.of o);obtain⟨c,g,z,_⟩:=I.list (aI.of p);have J:=f.length;have L:=g.length;refine SeqAt.RcNeAt.lists (e:=λ_=>true) i.isList z.isList (by simp;omega) (by omega) (λj n B=>y7 I (k:=7) (by omega) f g w r A C j n B) X.prog X.w X.xe _ ⟨.bl false,H,I,?_,q⟩;show _=Value.bool false;rw[all_true _ _ λ_=>rfl];rfl
end
def nI (l:List Nat):List Int:=l.map λn:Nat=>(n:Int)
theorem bL (l:List Nat):(nI l).length=l.length:=ab9 ..
theorem iB (h:B[i]?=some n):(nI B)[i]?=some (n:Int):=by unfold nI;rw[aco,h];rfl
theorem gT (a b:List Nat):nI (a++b)=nI a++nI b:=acR ..
theorem Nq (l:List Nat)(i n:Nat):(nI l).set i (n:Int)=nI (l.set i n):=by unfold nI;rw[List.map_set]
structure RS where
 L:Nat
 made:Nat
 rows:List Dt
 ways:List (List (Int×Nat))
 gaps:Za3
 aS:List Nat
 called:List (List Nat)
 aX:List Nat
def wK (l:List (Int×Nat)):List (Key×V):=l.map λp=>(Sum.inl p.1,V.int p.2)
def gK (l:List Int):List (Key×V):=l.map λs=>(Sum.inl s,V.bl true)
def eY (l:List (Int×Nat))(s:Int):Option Nat:=(l.find? λp=>decide (p.1=s)).map (·.2)
def iu (l:List (Int×Nat))(s:Int)(r:Nat):List (Int×Nat):=if (l.any λp=>decide (p.1=s))=true then l.map λp=>if p.1=s then (p.1,r) else p else l++[(s,r)]
theorem y8 (l:List (Int×Nat)):(wK l).length=l.length:=ab9 ..
theorem Nr (l:List Int):(gK l).length=l.length:=ab9 ..
theorem Nt (a b:Int):decide ((Sum.inl a:Key)=Sum.inl b)=decide (a=b):=by
 grind
theorem j4 (s:Int):∀l:List (Int×Nat),bz (wK l) (Sum.inl s)=(eY l s).map λr:Nat=>V.int (r:Int)
 |[]=>rfl
 |p::l=>by
  have b:=j4 s l;by_cases h:p.1=s
  ·have e:bz (wK (p::l)) (Sum.inl s)=some (V.int p.2):=cM (p:=(Sum.inl p.1,V.int p.2)) (by rw[h]);have a:eY (p::l) s=some p.2:=by unfold eY;rw[List.find?_cons_of_pos (by grind)];rfl
   rw[e,a];rfl
  ·have e:bz (wK (p::l)) (Sum.inl s)=bz (wK l) (Sum.inl s):=cF (p:=(Sum.inl p.1,V.int p.2)) (λz=>h (Sum.inl.inj z));have a:eY (p::l) s=eY l s:=by unfold eY;rw[aeG (by simpa using h)]
   rw[e,a,b]
theorem y9 (l:List (Int×Nat))(s:Int)(r:Nat):putK (wK l) (Sum.inl s) (.int r)=wK (iu l s r):=by
 unfold putK iu
 have a:((wK l).any λb=>decide (b.1=Sum.inl s))=l.any λp=>decide (p.1=s):=by
  unfold wK;rw[List.any_map]
  congr 1
  funext p
  exact Nt _ _
 rw[a];split
 ·unfold wK;rw[ac7,ac7];refine adK λp _=>?_
  grind
 ·unfold wK;rw[acR];rfl
theorem G5 (l:List (Int×Nat))(s t:Int)(r:Nat):eY (iu l s r) t=if t=s then some r else eY l t:=by
 have c:=j4 t (iu l s r);rw[<-y9,o8,j4]at c
 have inj:∀a b:Option Nat,(a.map λr:Nat=>V.int (r:Int))=(b.map λr:Nat=>V.int (r:Int))->a=b:=λa b h=>by
  cases a <;> cases b <;> simp at h ⊢
  omega
 apply inj;rw[<-c];by_cases e:t=s
 ·rw[acv e,acv (by rw[e])];rfl
 ·rw[acm e,acm (λz=>e (Sum.inl.inj z))]
theorem G6 (l:List (Int×Nat))(s:Int)(r:Nat):(iu l s r).length<=l.length+ 1:=by
 unfold iu;split
 ·rw[ab9];omega
 ·rw[ab6];exact aca _
theorem KZ (l:List Int)(s:Int):eP (gK l) (Sum.inl s)=gK (l.filter λx=>decide (x≠s)):=by
 unfold eP gK;rw[List.filter_map]
 congr 1
 refine afq λx _=>?_
 grind
theorem Es (s:Int):∀l:List Int,bz (gK l) (Sum.inl s)=if s∈l then some (V.bl true) else none
 |[]=>rfl
 |x::l=>by
  by_cases h:x=s
  ·rw[acv (by grind)];exact cM (p:=(Sum.inl x,V.bl true)) (by rw[h])
  ·have e:bz (gK (x::l)) (Sum.inl s)=bz (gK l) (Sum.inl s):=cF (p:=(Sum.inl x,V.bl true)) (λz=>h (Sum.inl.inj z));rw[e,Es s l]
   grind
theorem xG:∀(more acc:List (Key×V)),((acc++more).map (·.1)).Nodup->iA acc more=acc++more
 |[],acc,_=>(acD _).symm
 |p::more,acc,h=>by
  have a:bz acc p.1=none:=by
   unfold bz;rw[List.find?_eq_none.mpr ?_];rfl;intro q b;rw[acS];intro e;rw[acR,acZ]at h;exact h.2.2 q.1 (aeA b) p.1 (aeA ack) e
  show iA (putK acc p.1 p.2) more=_;rw[yU _ a,xG more (acc++[(p.1,p.2)]) (by rw[adb];exact h),adb];rfl
structure RA where
 dx:Addr
 aR:Addr
 aW:Addr
 aG:Addr
 aE:Addr
 aC:Addr
 aN:Addr
 rs:List Addr
 ws:List Addr
 gs:List Addr
 cs:List Addr
def eZ (L made:Int)(a:RA):List (Str×V):=[("letters",.int L),("made",.int made),("rows",.ref a.aR),("ways",.ref a.aW),("gaps",.ref a.aG),("elders",.ref a.aE),("called",.ref a.aC),("went",.ref a.aN)]
theorem Eu (L m n:Int)(a:RA):bJ "made" (.int n) (eZ L m a)=eZ L n a:=by
 have h:¬(("letters":Str)="made"):=by decide
 unfold eZ;simp only[bJ,acm h,if_true]
theorem uT (L m:Int)(a:RA):(eZ L m a).lookup ("letters":Str)=some (.int L):=by kernel_rfl
theorem r6 (L m:Int)(a:RA):(eZ L m a).lookup ("made":Str)=some (.int m):=by kernel_rfl
theorem r9 (L m:Int)(a:RA):(eZ L m a).lookup ("rows":Str)=some (.ref a.aR):=by kernel_rfl
theorem hL (L m:Int)(a:RA):(eZ L m a).lookup ("ways":Str)=some (.ref a.aW):=by kernel_rfl
theorem sf (L m:Int)(a:RA):(eZ L m a).lookup ("gaps":Str)=some (.ref a.aG):=by kernel_rfl
theorem i9 (L m:Int)(a:RA):(eZ L m a).lookup ("elders":Str)=some (.ref a.aE):=by kernel_rfl
theorem mz (L m:Int)(a:RA):(eZ L m a).lookup ("called":Str)=some (.ref a.aC):=by kernel_rfl
theorem sg (L m:Int)(a:RA):(eZ L m a).lookup ("went":Str)=some (.ref a.aN):=by kernel_rfl
theorem cD (L m:Int)(a:RA){x:Str}(h:x∉(["letters","made","rows","ways","gaps","elders","called","went"]:List Str)):(eZ L m a).lookup x=none:=by
 simp only[aci,ac0,aeV,not_or]at h;obtain⟨j,b,g,c,f,d,e,i⟩:=h;unfold eZ;simp only[List.lookup,acj.mpr j,acj.mpr b,acj.mpr g,acj.mpr c,acj.mpr f,acj.mpr d,acj.mpr e,acj.mpr i]
theorem dB:∀{fs:List (Str×V)},fs.lookup f=none->bJ f q fs=fs++[(f,q)]
 |[],_=>rfl
 |(g,x)::r,h=>by
  by_cases e:g=f
  ·grind
  ·have a:(f==g)=false:=acj.mpr (adn e);simp only[List.lookup,a]at h;show (if g=f then _ else _)=_;rw[acm e,dB h];rfl
inductive lH:Dt->Prop where
 |i {n:Int}:lH (.i n)
 |s {l:List Nat}:lH (.s l)
 |t {ds:List Dt}:ds.length<=100000->(∀d∈ds,lH d)->lH (.t ds)
theorem bF.fA (o:∀a g,H a=some (.tup g)->I a=some (.tup g)){k:Nat}{v:V}{d:Dt}(h:bF H k v d)(f:lH d):bF I k v d:=by
 induction h with
 |i=>exact .i
 |s=>exact .s
 |n=>exact .n
 |b=>exact .b
 |t a b c m=>
  cases f with
  |t _ p=>exact .t (o _ _ a) b λj v d q e=>m j v d q e (p d (ab4 e))
 |l a b c m=>cases f
def Each {a:Type}(R:Addr->a->Prop)(b:List Addr)(xs:List a):Prop:=b.length=xs.length/\∀(i:Nat) (p:Addr) (x:a),b[i]?=some p->xs[i]?=some x->R p x
theorem Each.imp {d:Type}{R e:Addr->d->Prop}{a:List d}(h:Each R F a)(f:∀p x,p∈F->x∈a->R p x->e p x):Each e F a:=
 ⟨h.1,λi p x c b=>f p x (ab4 c) (ab4 b) (h.2 i p x c b)⟩
theorem Each.snoc {d:Type}{R:Addr->d->Prop}{ps:List Addr}{xs:List d}{x:d}(h:Each R ps xs)(f:R a x):Each R (ps++[a]) (xs++[x]):=by
 refine⟨by rw[ab6,ab6,h.1];rfl,λi q y c b=>?_⟩;by_cases e:i<ps.length
 ·rw[acn e]at c;rw[acn (by rw[<-h.1];exact e)]at b;exact h.2 i q y c b
 ·rw[acp (by omega)]at c;rw[acp (by rw[<-h.1];omega)]at b;rw[acb.mp (ab4 c),acb.mp (ab4 b)];exact f
theorem Each.at {a:Type}{R:Addr->a->Prop}{c:List a}(h:Each R F c){i:Nat}{x:a}(d:c[i]?=some x):∃p,F[i]?=some p/\R p x:=by
 have b:i<F.length:=by rw[h.1];exact(ab5.mp d).1
 exact⟨_,ab3 b,h.2 i _ x (ab3 b) d⟩
theorem Each.mem {c:Type}{R:Addr->c->Prop}{xs:List c}(h:Each R F xs){p:Addr}(d:p∈F):∃x,x∈xs/\R p x:=by
 obtain⟨i,b⟩:=acJ d;have a:i<xs.length:=by rw[<-h.1];exact(ab5.mp b).1
 exact⟨_,ab4 (ab3 a),h.2 i p _ b (ab3 a)⟩
theorem Each.set {c:Type}{R d:Addr->c->Prop}{xs:List c}{x:c}(h:Each R F xs)(k:F[i]?=some a)(m:d a x)(l:F.Nodup)(f:∀q y,q∈F->q≠a->R q y->d q y):Each d F (xs.set i x):=by
 refine⟨by rw[acx];exact h.1,λj q y b g=>?_⟩;by_cases e:i=j
 ·grind
 ·rw[adp e]at g;refine f q y (ab4 b) (λz=>?_) (h.2 j q y b g);subst z;exact e ((List.getElem?_inj (ab5.mp k).1 l).mp (k.trans b.symm))
def RA.lists (a:RA):List Addr:=a.aR::a.aW::a.aG::a.aE::a.aC::a.aN::a.cs
def RA.dZ (a:RA):List Addr:=a.ws++a.gs
def RA.own (a:RA)(r b:Addr):Prop:=b=r\/b∈a.lists\/b∈a.dZ
structure aq (C:Addr) (H:Hp) (r:Addr) (S:RS) (a:RA):Prop where
 ins:H r=some (.ins C a.dx (eZ S.L S.made a))
 hR:H a.aR=some (.lst (a.rs.map V.ref))
 hW:H a.aW=some (.lst (a.ws.map V.ref))
 hG:H a.aG=some (.lst (a.gs.map V.ref))
 hE:H a.aE=some (.lst (av (nI S.aS)))
 hC:H a.aC=some (.lst (a.cs.map V.ref))
 hN:H a.aN=some (.lst (av (nI S.aX)))
 rR:Each (λp d=>bF H 4 (.ref p) d) a.rs S.rows
 rW:Each (λp l=>H p=some (.dK (wK l))) a.ws S.ways
 rG:Each (λp l=>H p=some (.dK (gK l))) a.gs S.gaps
 rC:Each (λp l=>H p=some (.lst (av (nI l)))) a.cs S.called
 flat:∀d∈S.rows,lH d
 ic:a.lists.Nodup
 lI:a.dZ.Nodup
section
variable {C:Addr}{H H':Hp}{r:Addr}{S:RS}{a:RA}
theorem aq.keep (h:aq C H r S a)(k:∀b o,a.own r b->H b=some o->H' b=some o)(j:∀b i,H b=some (.tup i)->H' b=some (.tup i)):aq C H' r S a:=by
 have c:∀b o,b∈a.lists->H b=some o->H' b=some o:=λb o f=>k b o (.inr (.inl f))
 have g:∀b o,b∈a.dZ->H b=some o->H' b=some o:=λb o f=>k b o (.inr (.inr f))
 exact⟨k _ _ (.inl Y) h.ins,c _ _ (by simp[RA.lists]) h.hR,c _ _ (by simp[RA.lists]) h.hW,c _ _ (by simp[RA.lists]) h.hG,c _ _ (by simp[RA.lists]) h.hE,c _ _ (by simp[RA.lists]) h.hC,c _ _ (by simp[RA.lists]) h.hN,
  h.rR.imp λp x _ l e=>e.fA j (h.flat x l),h.rW.imp λp x d _ e=>g _ _ (acu _ d) e,h.rG.imp λp x d _ e=>g _ _ (ab8 _ d) e,
  h.rC.imp λp x d _ e=>c _ _ (by simp[RA.lists,d]) e,h.flat,h.ic,h.lI⟩
theorem aq.same (h:aq C H r S a)(s:ay H H'):aq C H' r S a:=h.keep (λ_ _ _ e=>s _ _ e) (λ_ _ e=>s _ _ e)
theorem aq.there (h:aq C H r S a){b:Addr}(c:a.own r b):∃o,H b=some o:=by
 rcases c with rfl|c|c
 ·exact⟨_,h.ins⟩
 ·unfold RA.lists at c;simp only[aci]at c;rcases c with rfl|rfl|rfl|rfl|rfl|rfl|c
  ·exact⟨_,h.hR⟩
  ·exact⟨_,h.hW⟩
  ·exact⟨_,h.hG⟩
  ·exact⟨_,h.hE⟩
  ·exact⟨_,h.hC⟩
  ·exact⟨_,h.hN⟩
  ·obtain⟨x,_,e⟩:=h.rC.mem c;exact⟨_,e⟩
 ·rcases ach.mp c with c|c
  ·obtain⟨x,_,e⟩:=h.rW.mem c;exact⟨_,e⟩
  ·obtain⟨x,_,e⟩:=h.rG.mem c;exact⟨_,e⟩
theorem aq.sh (h:aq C H r S a){b:Addr}{f:List V}(e:H b=some (.tup f)):¬a.own r b:=λc=>by
 rcases c with rfl|c|c
 ·rw[h.ins]at e;cases e
 ·unfold RA.lists at c;simp only[aci]at c;rcases c with rfl|rfl|rfl|rfl|rfl|rfl|c
  ·rw[h.hR]at e;cases e
  ·rw[h.hW]at e;cases e
  ·rw[h.hG]at e;cases e
  ·rw[h.hE]at e;cases e
  ·rw[h.hC]at e;cases e
  ·rw[h.hN]at e;cases e
  ·obtain⟨x,_,d⟩:=h.rC.mem c;grind
 ·rcases ach.mp c with c|c
  ·obtain⟨x,_,d⟩:=h.rW.mem c;grind
  ·obtain⟨x,_,d⟩:=h.rG.mem c;grind
end
end L2
variable {S T:L2.RS}{O:L2.RA}
namespace L2
open PySem PySem.Spec PyProof.Rows
section
variable {C:Addr}{H:Hp}{r:Addr}{S:RS}{a:RA}
theorem fB:a.aR∈a.lists:=by simp[RA.lists]
theorem fD:a.aW∈a.lists:=by simp[RA.lists]
theorem iH:a.aG∈a.lists:=by simp[RA.lists]
theorem gf:a.aE∈a.lists:=by simp[RA.lists]
theorem hM:a.aC∈a.lists:=by simp[RA.lists]
theorem gJ:a.aN∈a.lists:=by simp[RA.lists]
theorem fJ (h:b∈a.cs):b∈a.lists:=by simp[RA.lists,h]
theorem di (h:b∈a.ws):b∈a.dZ:=acu _ h
theorem fK (h:b∈a.gs):b∈a.dZ:=ab8 _ h
theorem aq.Jc (h:aq C H r S a){b:Addr}(c:b∈a.lists):∃d,H b=some (.lst d):=by
 unfold RA.lists at c;simp only[aci]at c;rcases c with rfl|rfl|rfl|rfl|rfl|rfl|c
 ·exact⟨_,h.hR⟩
 ·exact⟨_,h.hW⟩
 ·exact⟨_,h.hG⟩
 ·exact⟨_,h.hE⟩
 ·exact⟨_,h.hC⟩
 ·exact⟨_,h.hN⟩
 ·obtain⟨x,_,e⟩:=h.rC.mem c;exact⟨_,e⟩
theorem aq.pT (h:aq C H r S a){b:Addr}(c:b∈a.dZ):∃d,H b=some (.dK d):=by
 rcases ach.mp c with c|c
 ·obtain⟨x,_,e⟩:=h.rW.mem c;exact⟨_,e⟩
 ·obtain⟨x,_,e⟩:=h.rG.mem c;exact⟨_,e⟩
theorem aq.rl (h:aq C H r S a){b:Addr}(c:b∈a.lists):r≠b:=by obtain⟨d,e⟩:=h.Jc c;exact b6 h.ins e (by grind)
theorem aq.rd (h:aq C H r S a){b:Addr}(c:b∈a.dZ):r≠b:=by obtain⟨d,e⟩:=h.pT c;exact b6 h.ins e (by grind)
theorem aq.ld (h:aq C H r S a){b c:Addr}(d:b∈a.lists)(hc:c∈a.dZ):b≠c:=by
 obtain⟨f,e⟩:=h.Jc d;obtain⟨ys,g⟩:=h.pT hc
 grind
theorem aq.tl (h:aq C H r S a){b c:Addr}{d:List V}(e:H b=some (.tup d))(hc:c∈a.lists):b≠c:=λz=>h.sh e (.inr (.inl (by rw[z];exact hc)))
theorem aq.td (h:aq C H r S a){b c:Addr}{d:List V}(e:H b=some (.tup d))(hc:c∈a.dZ):b≠c:=λz=>h.sh e (.inr (.inr (by rw[z];exact hc)))
theorem aq.tr (h:aq C H r S a){b:Addr}{c:List V}(d:H b=some (.tup c)):b≠r:=λz=>h.sh d (.inl z)
theorem aq.K0 (h:aq C H r S a)(n:Nat):aq C (upd H r (.ins C a.dx (eZ S.L n a))) r { S with made:=n } a:=by
 have c:∀b o,b∈a.lists->H b=some o->upd H r (.ins C a.dx (eZ S.L n a)) b=some o:=λb o f e=>by rw[ai (h.rl f).symm];exact e
 have i:∀b o,b∈a.dZ->H b=some o->upd H r (.ins C a.dx (eZ S.L n a)) b=some o:=λb o f e=>by rw[ai (h.rd f).symm];exact e
 exact⟨ah,c _ _ fB h.hR,c _ _ fD h.hW,c _ _ iH h.hG,c _ _ gf h.hE,c _ _ hM h.hC,c _ _ gJ h.hN,h.rR.imp λp x _ j e=>e.fA (λb k g=>by rw[ai (h.tr g)];exact g) (h.flat x j),
  h.rW.imp λp x d _ e=>i _ _ (di d) e,h.rG.imp λp x d _ e=>i _ _ (fK d) e,h.rC.imp λp x d _ e=>c _ _ (fJ d) e,h.flat,h.ic,h.lI⟩
theorem aq.ja (h:aq C H r S a){q:Addr}{o:HO}(d:q∈a.lists):upd H q o r=some (.ins C a.dx (eZ S.L S.made a))/\(∀b x,b∈a.lists->b≠q->H b=some x->upd H q o b=some x)/\(∀b x,b∈a.dZ->H b=some x->upd H q o b=some x)/\∀b c,H b=some (.tup c)->upd H q o b=some (.tup c):=
 ⟨by rw[ai (h.rl d)];exact h.ins,λb x _ n e=>by rw[ai n];exact e,λb x f e=>by rw[ai (h.ld d f).symm];exact e,λb c e=>by rw[ai (h.tl e d)];exact e⟩
theorem uU (b:a.lists.Nodup):(a.aR≠a.aW/\a.aR≠a.aG/\a.aR≠a.aE/\a.aR≠a.aC/\a.aR≠a.aN)/\(a.aW≠a.aG/\a.aW≠a.aE/\a.aW≠a.aC/\a.aW≠a.aN)/\(a.aG≠a.aE/\a.aG≠a.aC/\a.aG≠a.aN)/\(a.aE≠a.aC/\a.aE≠a.aN)/\a.aC≠a.aN/\∀p∈a.cs,p≠a.aR/\p≠a.aW/\p≠a.aG/\p≠a.aE/\p≠a.aC/\p≠a.aN:=by
 unfold RA.lists at b
 grind
theorem aq.za (h:aq C H r S a){p:Addr}{d:Dt}(n:bF H 4 (.ref p) d)(hd:lH d):aq C (upd H a.aR (.lst (a.rs.map V.ref++[.ref p]))) r { S with rows:=S.rows++[d] } { a with rs:=a.rs++[p] }:=by
 obtain⟨j,b,i,g⟩:=h.ja (o:=.lst (a.rs.map V.ref++[.ref p])) (fB (a:=a));obtain⟨⟨n1,n2,s,k,l⟩,-,-,-,-,m⟩:=uU h.ic
 refine⟨j,?_,b _ _ fD n1.symm h.hW,b _ _ iH n2.symm h.hG,b _ _ gf s.symm h.hE,b _ _ hM k.symm h.hC,b _ _ gJ l.symm h.hN,(h.rR.imp λq x _ f e=>e.fA g (h.flat x f)).snoc (n.fA g hd),
  h.rW.imp λq x c _ e=>i _ _ (di c) e,h.rG.imp λq x c _ e=>i _ _ (fK c) e,h.rC.imp λq x c _ e=>b _ _ (fJ c) (m q c).1 e,λx f=>?_,h.ic,h.lI⟩
 ·rw[ah,acR];rfl
 ·rcases ach.mp f with f|f
  ·exact h.flat x f
  grind
theorem aq.Nu (h:aq C H r S a){p:Addr}{l:List (Int×Nat)}(g:H p=some (.dK (wK l)))(s:p∉a.dZ):aq C (upd H a.aW (.lst (a.ws.map V.ref++[.ref p]))) r { S with ways:=S.ways++[l] } { a with ws:=a.ws++[p] }:=by
 obtain⟨k,b,f,m⟩:=h.ja (o:=.lst (a.ws.map V.ref++[.ref p])) (fD (a:=a));obtain⟨⟨n1,-⟩,⟨n2,t,i,n⟩,-,-,-,j⟩:=uU h.ic;have d:upd H a.aW (.lst (a.ws.map V.ref++[.ref p])) p=some (.dK (wK l)):=by rw[ai (b6 g h.hW (by grind))];exact g
 refine⟨k,b _ _ fB n1 h.hR,?_,b _ _ iH n2.symm h.hG,b _ _ gf t.symm h.hE,b _ _ hM i.symm h.hC,b _ _ gJ n.symm h.hN,h.rR.imp λq x _ u e=>e.fA m (h.flat x u),
  (h.rW.imp λq x c _ e=>f _ _ (di c) e).snoc d,h.rG.imp λq x c _ e=>f _ _ (fK c) e,h.rC.imp λq x c _ e=>b _ _ (fJ c) (j q c).2.1 e,h.flat,h.ic,?_⟩
 ·rw[ah,acR];rfl
 ·show (a.ws++[p]++a.gs).Nodup;rw[adb];exact(List.perm_middle.nodup_iff).mpr (acK.mpr ⟨s,h.lI⟩)
theorem aq.Nv (h:aq C H r S a){p:Addr}{l:List Int}(i:H p=some (.dK (gK l)))(t:p∉a.dZ):aq C (upd H a.aG (.lst (a.gs.map V.ref++[.ref p]))) r { S with gaps:=S.gaps++[l] } { a with gs:=a.gs++[p] }:=by
 obtain⟨m,b,g,n⟩:=h.ja (o:=.lst (a.gs.map V.ref++[.ref p])) (iH (a:=a));obtain⟨⟨-,n1,-⟩,⟨n2,-⟩,⟨u,j,s⟩,-,-,k⟩:=uU h.ic;have d:upd H a.aG (.lst (a.gs.map V.ref++[.ref p])) p=some (.dK (gK l)):=by rw[ai (b6 i h.hG (by grind))];exact i
 refine⟨m,b _ _ fB n1 h.hR,b _ _ fD n2 h.hW,?_,b _ _ gf u.symm h.hE,b _ _ hM j.symm h.hC,b _ _ gJ s.symm h.hN,h.rR.imp λq x _ f e=>e.fA n (h.flat x f),
  h.rW.imp λq x c _ e=>g _ _ (di c) e,(h.rG.imp λq x c _ e=>g _ _ (fK c) e).snoc d,h.rC.imp λq x c _ e=>b _ _ (fJ c) (k q c).2.2.1 e,h.flat,h.ic,?_⟩
 ·rw[ah,acR];rfl
 ·show (a.ws++(a.gs++[p])).Nodup;rw[<-adb];refine acZ.mpr ⟨h.lI,by simp,λx f y v z=>?_⟩;rw[acb.mp v]at z;exact t (z ▸ f)
theorem aq.xH (h:aq C H r S a)(d:List Nat):aq C (upd H a.aE (.lst (av (nI d)))) r { S with aS:=d } a:=by
 obtain⟨i,b,f,j⟩:=h.ja (o:=.lst (av (nI d))) (gf (a:=a));obtain⟨⟨-,-,n1,-⟩,⟨-,n2,-⟩,⟨m,-⟩,⟨g,k⟩,-,l⟩:=uU h.ic
 exact⟨i,b _ _ fB n1 h.hR,b _ _ fD n2 h.hW,b _ _ iH m h.hG,ah,b _ _ hM g.symm h.hC,b _ _ gJ k.symm h.hN,h.rR.imp λq x _ n e=>e.fA j (h.flat x n),
  h.rW.imp λq x c _ e=>f _ _ (di c) e,h.rG.imp λq x c _ e=>f _ _ (fK c) e,h.rC.imp λq x c _ e=>b _ _ (fJ c) (l q c).2.2.2.1 e,h.flat,h.ic,h.lI⟩
theorem aq.K1 (h:aq C H r S a)(d:List Nat):aq C (upd H a.aN (.lst (av (nI d)))) r { S with aX:=d } a:=by
 obtain⟨i,b,f,j⟩:=h.ja (o:=.lst (av (nI d))) (gJ (a:=a));obtain⟨⟨-,-,-,-,n1⟩,⟨-,-,-,n2⟩,⟨-,-,m⟩,⟨-,g⟩,k,l⟩:=uU h.ic
 exact⟨i,b _ _ fB n1 h.hR,b _ _ fD n2 h.hW,b _ _ iH m h.hG,b _ _ gf g h.hE,b _ _ hM k h.hC,ah,h.rR.imp λq x _ n e=>e.fA j (h.flat x n),
  h.rW.imp λq x c _ e=>f _ _ (di c) e,h.rG.imp λq x c _ e=>f _ _ (fK c) e,h.rC.imp λq x c _ e=>b _ _ (fJ c) (l q c).2.2.2.2.2 e,h.flat,h.ic,h.lI⟩
theorem aq.Ew (h:aq C H r S a){p:Addr}{l:List Nat}(v:H p=some (.lst (av (nI l))))(t:p∉a.lists):aq C (upd H a.aC (.lst (a.cs.map V.ref++[.ref p]))) r { S with called:=S.called++[l] } { a with cs:=a.cs++[p] }:=by
 obtain⟨m,b,g,n⟩:=h.ja (o:=.lst (a.cs.map V.ref++[.ref p])) (hM (a:=a));obtain⟨⟨-,-,-,n1,-⟩,⟨-,-,n2,-⟩,⟨-,u,-⟩,⟨j,-⟩,s,k⟩:=uU h.ic;have d:p≠a.aC:=λz=>t (by rw[z];exact hM)
 have f:upd H a.aC (.lst (a.cs.map V.ref++[.ref p])) p=some (.lst (av (nI l))):=by rw[ai d];exact v
 refine⟨m,b _ _ fB n1 h.hR,b _ _ fD n2 h.hW,b _ _ iH u h.hG,b _ _ gf j h.hE,?_,b _ _ gJ s.symm h.hN,h.rR.imp λq x _ i e=>e.fA n (h.flat x i),
  h.rW.imp λq x c _ e=>g _ _ (di c) e,h.rG.imp λq x c _ e=>g _ _ (fK c) e,(h.rC.imp λq x c _ e=>b _ _ (fJ c) (k q c).2.2.2.2.1 e).snoc f,h.flat,?_,h.lI⟩
 ·rw[ah,acR];rfl
 ·refine acZ.mpr ⟨h.ic,by simp,λx i y w z=>?_⟩
  grind
theorem aq.Ey (h:aq C H r S a){i:Nat}{p:Addr}(j:a.cs[i]?=some p)(l:List Nat):aq C (upd H p (.lst (av (nI l)))) r { S with called:=S.called.set i l } a:=by
 have g:=ab4 j;obtain⟨s,b,f,t⟩:=h.ja (o:=.lst (av (nI l))) (fJ g);obtain⟨-,-,-,-,-,m⟩:=uU h.ic;obtain⟨n1,n2,v,k,u,w⟩:=m p g
 have d:a.cs.Nodup:=by
  have:=h.ic;unfold RA.lists at this;simp only[acK]at this;exact this.2.2.2.2.2.2
 exact⟨s,b _ _ fB n1.symm h.hR,b _ _ fD n2.symm h.hW,b _ _ iH v.symm h.hG,b _ _ gf k.symm h.hE,b _ _ hM u.symm h.hC,b _ _ gJ w.symm h.hN,h.rR.imp λq x _ z e=>e.fA t (h.flat x z),
  h.rW.imp λq x c _ e=>f _ _ (di c) e,h.rG.imp λq x c _ e=>f _ _ (fK c) e,h.rC.set j ah d λq y c n e=>b _ _ (fJ c) n e,h.flat,h.ic,h.lI⟩
theorem aq.By (h:aq C H r S a){q:Addr}{o:HO}(d:q∈a.dZ):upd H q o r=some (.ins C a.dx (eZ S.L S.made a))/\(∀b x,b∈a.dZ->b≠q->H b=some x->upd H q o b=some x)/\(∀b x,b∈a.lists->H b=some x->upd H q o b=some x)/\∀b c,H b=some (.tup c)->upd H q o b=some (.tup c):=
 ⟨by rw[ai (h.rd d)];exact h.ins,λb x _ n e=>by rw[ai n];exact e,λb x f e=>by rw[ai (h.ld f d)];exact e,λb c e=>by rw[ai (h.td e d)];exact e⟩
theorem aq.zb (h:aq C H r S a){i:Nat}{p:Addr}(g:a.ws[i]?=some p)(l:List (Int×Nat)):aq C (upd H p (.dK (wK l))) r { S with ways:=S.ways.set i l } a:=by
 have f:=ab4 g;obtain⟨j,d,b,k⟩:=h.By (o:=.dK (wK l)) (di f);have nd:=acZ.mp h.lI
 exact⟨j,b _ _ fB h.hR,b _ _ fD h.hW,b _ _ iH h.hG,b _ _ gf h.hE,b _ _ hM h.hC,b _ _ gJ h.hN,h.rR.imp λq x _ m e=>e.fA k (h.flat x m),
  h.rW.set g ah nd.1 λq y c n e=>d _ _ (di c) n e,h.rG.imp λq x c _ e=>d _ _ (fK c) (λz=>nd.2.2 p f q c z.symm) e,h.rC.imp λq x c _ e=>b _ _ (fJ c) e,h.flat,h.ic,h.lI⟩
theorem aq.Nw (h:aq C H r S a){i:Nat}{p:Addr}(g:a.gs[i]?=some p)(l:List Int):aq C (upd H p (.dK (gK l))) r { S with gaps:=S.gaps.set i l } a:=by
 have f:=ab4 g;obtain⟨j,d,b,k⟩:=h.By (o:=.dK (gK l)) (fK f);have nd:=acZ.mp h.lI
 exact⟨j,b _ _ fB h.hR,b _ _ fD h.hW,b _ _ iH h.hG,b _ _ gf h.hE,b _ _ hM h.hC,b _ _ gJ h.hN,h.rR.imp λq x _ m e=>e.fA k (h.flat x m),
  h.rW.imp λq x c _ e=>d _ _ (di c) (λz=>nd.2.2 q c p f z) e,h.rG.set g ah nd.2.1 λq y c n e=>d _ _ (fK c) n e,h.rC.imp λq x c _ e=>b _ _ (fJ c) e,h.flat,h.ic,h.lI⟩
end
def RS.jO (S:RS)(i:Nat)(l:List (Int×Nat)):RS:={ S with ways:=S.ways.set i l }
def RS.setG (S:RS)(i:Nat)(l:List Int):RS:={ S with gaps:=S.gaps.set i l }
def RS.way (S:RS)(c:Nat):List (Int×Nat):=S.ways.getD c []
def RS.gap (S:RS)(c:Nat):List Int:=S.gaps.getD c []
def RS.by (S:RS)(c:Nat)(z:Int):Option Nat:=eY (S.way c) z
def RS.bY (S:RS)(c:Nat)(z:Int)(d:Nat):RS:=S.jO c (iu (S.way c) z d)
def RS.kQ (S:RS)(c:Nat)(z:Int):RS:=S.setG c ((S.gap c).filter λx=>decide (x≠z))
def RS.keep (S:RS)(c:Nat)(z:Int)(d:Nat):RS:=(((S.bY c z d).bY d (-z) c).kQ c z).kQ d (-z)
def j5 (c:Nat)(z:Int)(n:Nat):Dt:=.t [.s [110,101,119],.i c,.i z,.i n]
def RS.grown (S:RS)(c:Nat)(z:Int)(gaps:List Int):RS:={ S with made:=S.made+ 1,rows:=S.rows++[j5 c z S.made],ways:=S.ways++[[]],gaps:=S.gaps++[gaps],aS:=S.aS++[S.made],called:=S.called++[[S.made]] }
def RS.make (S:RS)(c:Nat)(z:Int)(gaps:List Int):RS:=(S.grown c z gaps).keep c z S.made
def RS.new (L:Nat)(gaps:List Int):RS:=⟨L,1,[],[[]],[gaps],[0],[[0]],[]⟩
structure RS.Wf (S:RS):Prop where
 w:S.ways.length=S.made
 g:S.gaps.length=S.made
 e:S.aS.length=S.made
 c:S.called.length=S.made
section
variable {X:Cx}{e:Expr}{f:Str}{ta:TE}{pos:Pos}
theorem K2 (b:X.K=K)(c:PE X e ta)(a:attributeBase e f X.env (eval e X.env)=eval e X.env):PE X (.Attribute e f pos) (MC K ta f):=by
 subst b;exact aB c a
end
theorem mB {J:It}{Q:VK}(n:Nat)(o:Nat->V)(R:Hp->V->Nat->Prop)(E:∀s b v i,ay s b->R s v i->R b v i)(t:n<=sizeLine)
 (k:∀(i:Nat) b,ay H b->i<n->J.go i b) (G:∀(i:Nat) (x:V) (b d:Hp),ay H b->i<n->J.lb i b x d->d=b/\x=o i) (l:∀b,ay H b->J.stop n b)
 (I:∀(i:Nat) (b:Hp) (u:VK),i<n->ay H b->(∀v d,ay b d->R d v i->u v d)->r (some (o i)::D) b u)
 (z:∀a b ys,ay H b->b a=none->ys.length=n->(∀(i:Nat) (v:V),ys[i]?=some v->R b v i)->Q (.ref a) (upd b a (.lst ys))):yM r D Q J H:=by
 refine⟨λi m ys b=>m=n - i/\i<=n/\ys.length=i/\ay H b/\∀(j:Nat) (v:V),ys[j]?=some v->R b v j,⟨n,by simp,acF _,Y,λ_ _ e=>e,λj v h=>by simp at h⟩,?_⟩;rintro i m ys b ⟨rfl,L,q,s2,p⟩;by_cases c:i<n
 ·refine .inr ⟨k i b s2 c,by omega,λx d g=>?_⟩;obtain⟨rfl,rfl⟩:=G i x b d s2 c g;refine I i _ _ c s2 λv M y B=>⟨n - (i+ 1),by omega,Y,c,by rw[ab6,q];rfl,s2.trans y,λj w f=>?_⟩
  by_cases C:j<ys.length
  ·rw[acn C]at f;exact E _ _ _ _ y (p j w f)
  ·rw[acp (by omega)]at f
   have A:j - ys.length=0:=by
    have:=(ab5.mp f).1;rw[ada]at this;omega
   rw[A]at f;have:j=i:=by omega
   subst this;rw[<-Za0 f];exact B
 ·have e:i=n:=by omega
  subst e;exact .inl ⟨l b s2,by omega,λa F=>z a b ys s2 F q p⟩
theorem si {P:Nat->Addr->Prop}:∀(ys:List V) (k:Nat),(∀(i:Nat) (v:V),ys[i]?=some v->∃p,v=.ref p/\P (k+ i) p)->∃a:List Addr,ys=a.map V.ref/\∀(i:Nat) (p:Addr),a[i]?=some p->P (k+ i) p
 |[],_,_=>⟨[],Y,λi p h=>by simp at h⟩
 |v::ys,k,h=>by
  obtain⟨p,rfl,f⟩:=h 0 v rfl
  obtain⟨a,rfl,d⟩:=si (P:=P) ys (k+ 1) λi w b=>by
   obtain⟨q,e,c⟩:=h (i+ 1) w (by simpa using b)
   grind
  refine⟨p::a,Y,λi q c=>?_⟩
  cases i with
  |zero=>grind
  |succ i=>
   grind
theorem jb {f:Str}{v:V}{n:Nat}:∀{fs:List (Str×V)},fs.length<=n->(bJ f v fs).length<=n+ 1
 |[],h=>by show 1<=n+ 1;omega
 |(g,x)::r,h=>by
  show (if g=f then (g,v)::r else (g,x)::bJ f v r).length<=n+ 1;rw[acC]at h;split
  ·rw[acC];omega
  ·have:=jb (f:=f) (v:=v) (n:=n - 1) (fs:=r) (by omega);rw[acC];omega
theorem pU (K:Za1):PySem.W.kitOne K (.type "int") (.type "tuple")=some false:=by first|rfl|kernel_rfl
theorem qG (K:Za1):PySem.W.kitOne K (.type "int") (.type "list")=some false:=by first|rfl|kernel_rfl
theorem qH (K:Za1):PySem.W.kitOne K (.type "int") (.type "dict")=some false:=by first|rfl|kernel_rfl
theorem pV (K:Za1):PySem.W.kitOne K (.type "str") (.type "tuple")=some false:=by first|rfl|kernel_rfl
theorem qI (K:Za1):PySem.W.kitOne K (.type "str") (.type "list")=some false:=by first|rfl|kernel_rfl
theorem qJ (K:Za1):PySem.W.kitOne K (.type "str") (.type "dict")=some false:=by first|rfl|kernel_rfl
theorem qK:∀{d:List DictEntry} {f:List (Key×Value)} {c:List (Key×V)},Pairs (bO P w) d f->KV c f->Vals (c.map λi=>kV i.1) (d.map (·.key))
 |[],_,_,.nil,r=>by cases r;exact .nil
 |e::d,_,_,.cons h j g,r=>by
  cases r with
  |cons a b=>
   rw[adi,adi];refine .cons ?_ (qK g b);rw[a.1];exact KW h
theorem pairs_len:∀{a:List DictEntry} {b:List (Key×Value)},Pairs (bO P w) a b->a.length=b.length
 |_,_,.nil=>rfl
 |_,_,.cons _ _ h=>by rw[acC,acC,pairs_len h]
section
variable {X:Cx}
inductive Ez (xs:List V) (H:Hp) (Q:VK):Prop
 |mk (d:Addr) (kvs:List (Key×V)):xs=[.ref d]->H d=some (.dK kvs)->(∀l,H l=none->Q (.ref l) (upd H l (.lst (kvs.map λkv=>kV kv.1))))->Ez xs H Q
theorem jt (A:X.calm=true):jn X (.type "list") Ez:=by
 intro w s V H R Z Q I r h;obtain⟨d,c,rfl,E,q⟩:=h;obtain⟨u,rfl,D⟩:=vals1 r;cases D;obtain⟨N,n,z,rel,o,j,P,O,l,e,T,t,U⟩:=rX I.aL E;have hlen:c.length=z.length:=rel.length;have m:=pairs_len t;have M:j.size=c.length:=by rw[<-ad1,m,hlen]
 refine Dk.Em (I.ok.hd A) n ⟨o,O,l,e⟩ (by omega) λF G a L k f b=>?_
 have J:a.toList=j.toList.map (·.key):=by
  refine aeU λi=>?_
  rw[aeL,aco,aeL]
  cases g:a[i]? with
  |none=>
   have x:j.size<=i:=by
    have p:a.size<=i:=Array.getElem?_eq_none_iff.mp g;rw[b.1]at p;exact p
   rw[afk x];rfl
  |some v=>
   obtain⟨W,y,rfl⟩:=b.2 i v g;rw[y];rfl
 have C:a=(j.toList.map (·.key)).toArray:=by rw[<-J]
 rw[C]at f;have g:=qK t rel;exact⟨.ref s.heap.objs.size,_,I.laid (t':=G) k (aca _) (show bU X.prog X.w _ F _ (.lst (c.map λB=>kV B.1)) from ⟨by rw[ab9];exact N,_,L,g,f⟩),Y,q _ (I.aL.fresh (aca _))⟩
end
section
variable {C:Addr}{H:Hp}{r:Addr}{S:RS}{a:RA}
theorem aq.Nx (h:aq C H r S a){i:Nat}(n:i<a.ws.length){q:Addr}{l:List (Int×Nat)}(d:H q=some (.dK (wK l)))(s:q∉a.dZ):aq C (upd H a.aW (.lst ((a.ws.map V.ref).set i (.ref q)))) r { S with ways:=S.ways.set i l } { a with ws:=a.ws.set i q }:=by
 obtain⟨I,g,m,J⟩:=h.ja (o:=.lst ((a.ws.map V.ref).set i (.ref q))) (fD (a:=a));obtain⟨⟨n1,-⟩,⟨n2,M,B,L⟩,-,-,-,D⟩:=uU h.ic;have k:upd H a.aW (.lst ((a.ws.map V.ref).set i (.ref q))) q=some (.dK (wK l)):=by rw[ai (b6 d h.hW (by nofun))];exact d
 have nd:=acZ.mp h.lI
 refine⟨I,g _ _ fB n1 h.hR,?_,g _ _ iH n2.symm h.hG,g _ _ gf M.symm h.hE,g _ _ hM B.symm h.hC,g _ _ gJ L.symm h.hN,h.rR.imp λq x _ f e=>e.fA J (h.flat x f),
  ?_,h.rG.imp λq x d _ e=>m _ _ (fK d) e,h.rC.imp λq x d _ e=>g _ _ (fJ d) (D q d).2.1 e,h.flat,h.ic,?_⟩
 ·show upd H a.aW _ a.aW=some (.lst ((a.ws.set i q).map V.ref));rw[ah,List.map_set]
 ·refine⟨by show (a.ws.set i q).length=(S.ways.set i l).length;rw[acx,acx];exact h.rW.1,λj p x E Q=>?_⟩;have b:(a.ws.set i q)[j]?=some p:=E
  have c:(S.ways.set i l)[j]?=some x:=Q
  by_cases z:i=j
  ·subst z;rw[acT n]at b;rw[acT (by rw[<-h.rW.1];exact n)]at c;obtain rfl:=Za0 b;obtain rfl:=Za0 c;exact k
  ·rw[adp z]at b c;exact m _ _ (di (ab4 b)) (h.rW.2 j p x b c)
 ·show (a.ws.set i q++a.gs).Nodup;have O:q∉a.ws:=λz=>s (acu _ z)
  have t:q∉a.gs:=λz=>s (ab8 _ z)
  refine acZ.mpr ⟨?_,nd.2.1,λx f y A z=>?_⟩
  ·have:∀(l:List Addr) (i:Nat),l.Nodup->q∉l->(l.set i q).Nodup:=by
    intro l
    induction l with
    |nil=>intro i _ _;simp
    |cons x l G=>
     intro i N u;obtain⟨P,w⟩:=acK.mp N;have F:q≠x:=λz=>u (by rw[z];exact ack)
     have v:q∉l:=λz=>u (acG _ z)
     cases i with
     |zero=>exact acK.mpr ⟨v,w⟩
     |succ i=>
      refine acK.mpr ⟨λz=>?_,G i w v⟩;rcases aee z with z|z
      ·exact P z
      ·exact F z.symm
   exact this a.ws i nd.1 O
  ·rcases aee f with f|f
   ·exact nd.2.2 x f y A z
   ·rw[<-f,z]at t;exact t A
end
theorem K3 (l:List (Int×Nat))(s:Int):eP (wK l) (Sum.inl s)=wK (l.filter λp=>decide (p.1≠s)):=by
 unfold eP wK;rw[List.filter_map]
 congr 1
 refine afq λx _=>?_
 grind
theorem EA (l:List (Int×Nat))(s t:Int):eY (l.filter λp=>decide (p.1≠s)) t=if t=s then none else eY l t:=by
 induction l with
 |nil=>split <;> rfl
 |cons p l b=>
  have a:∀(q:Int×Nat) (m:List (Int×Nat)),eY (q::m) t=if q.1=t then some q.2 else eY m t:=λq m=>by
   unfold eY
   grind
  grind
abbrev Way:=Nat×Int×Nat
def RS.ao (S:RS)(c:Nat):Nat:=S.aS.getD c 0
def RS.bZ (S:RS)(c:Nat):List Nat:=S.called.getD c []
def gE (c:Nat)(z:Int)(x y:Nat):Dt:=.t [.s [109,101,101,116],.i c,.i z,.i x,.i y]
def RS.joined (S:RS)(c:Nat)(z:Int)(x y:Nat):RS:=
 { S with rows:=S.rows++[gE c z x y],aX:=S.aX++[y],aS:=(S.bZ y).foldl (λa n=>a.set n x) S.aS,called:=S.called.set x (S.bZ x++S.bZ y) }
def RS.nJ (S:RS)(c:Nat)(z:Int):RS:=S.jO c ((S.way c).filter λp=>decide (p.1≠z))
def jc (c:Nat)(st:RS×List Way)(p:Int×Nat):RS×List Way:=(if p.2≠c then st.1.nJ p.2 (-p.1) else st.1,st.2++[(c,p.1,p.2)])
def RS.nK (S:RS)(c:Nat)(a:List Way):RS×List Way:=(S.way c).foldl (jc c) (S.jO c [],a)
def RS.meet (S:RS)(c:Nat)(z:Int)(x y:Nat)(a:List Way):RS×List Way:=(S.joined c z (min x y) (max x y)).nK (max x y) a
def RS.takeIn (S:RS)(a:List Way)(w:Way):RS×List Way:=
 if (S.by (S.ao w.1) w.2.1).getD (S.ao w.2.2)≠S.ao w.2.2 then S.meet (S.ao w.1) w.2.1 ((S.by (S.ao w.1) w.2.1).getD (S.ao w.2.2)) (S.ao w.2.2) a
 else if (S.by (S.ao w.2.2) (-w.2.1)).getD (S.ao w.1)≠S.ao w.1 then S.meet (S.ao w.2.2) (-w.2.1) ((S.by (S.ao w.2.2) (-w.2.1)).getD (S.ao w.1)) (S.ao w.1) a
 else (S.keep (S.ao w.1) w.2.1 (S.ao w.2.2),a)
structure C0 (S:RS) (c:Nat):Prop where
 nd:((S.way c).map (·.1)).Nodup
 lt:∀q∈S.way c,q.2<S.made
 bk:∀q∈S.way c,q.2≠c->(S.by q.2 (-q.1)).isSome=true
theorem iN {l:List (Int×Nat)}(a:n<S.ways.length):(S.jO n l).way m=if m=n then l else S.way m:=by
 unfold RS.jO RS.way
 grind
theorem jd (a:n<S.ways.length):(S.bY n z i).by m y=if m=n/\y=z then some i else S.by m y:=by
 unfold RS.bY RS.by;rw[iN a];by_cases h:m=n
 ·subst h;rw[acv Y,G5]
  grind
 grind
theorem C1 (a:n<S.ways.length):(S.nJ n z).by m y=if m=n/\y=z then none else S.by m y:=by
 unfold RS.nJ RS.by;rw[iN a];by_cases h:m=n
 ·subst h;rw[acv Y,EA]
  grind
 ·rw[acm h,acm (λq=>h q.1)]
theorem K4 {l:List (Int×Nat)}(a:n<S.ways.length):(S.jO n l).by m z=if m=n then eY l z else S.by m z:=by
 unfold RS.by;rw[iN a];split <;> rfl
def cO (c:Nat)(S:RS)(a:List Way)(b:List (Int×Nat)):RS×List Way:=b.foldl (jc c) (S.jO c [],a)
theorem gU (c:Nat)(S:RS)(a:List Way)(b:List (Int×Nat))(p:Int×Nat):cO c S a (b++[p])=jc c (cO c S a b) p:=by unfold cO;grind
theorem snoc_ind {b:Type}{P:List b->Prop}(f:P [])(c:∀l x,P l->P (l++[x])):∀l,P l:=λl=>by
 have:∀n (l:List b),l.length=n->P l:=by
  intro n
  induction n with
  |zero=>grind
  |succ n d=>
   intro l e;have a:l≠[]:=λz=>by rw[z]at e;cases e
   rw[<-adV a];exact c _ _ (d _ (by rw[List.length_dropLast];omega))
 exact this _ l rfl
theorem xI (c:Nat)(S:RS)(a:List Way):∀b:List (Int×Nat),(cO c S a b).2=a++b.map λp=>(c,p.1,p.2):=by
 refine snoc_ind (by simp[cO]) λb p d=>?_
 rw[gU];show (cO c S a b).2++_=_
 grind
theorem fV (c:Nat)(S:RS)(a:List Way):∀b:List (Int×Nat),(cO c S a b).1.ways.length=S.ways.length/\(cO c S a b).1={ S with ways:=(cO c S a b).1.ways }:=by
 refine snoc_ind ⟨by simp[cO,RS.jO],Y⟩ λb p d=>?_
 rw[gU];unfold jc;by_cases h:p.2≠c
 ·simp only[h,if_true,aeq,ne_eq];refine⟨?_,?_⟩
  ·show (List.set _ _ _).length=_;rw[acx];exact d.1
  ·unfold RS.nJ RS.jO;rw[d.2]
 ·simp only[h,aff];exact d
theorem wH {c:List Way}(l:n<S.ways.length):∀f:List (Int×Nat),(∀q∈f,q.2<S.ways.length)->∀d z,(cO n S c f).1.by d z=if d=n\/∃q∈f,q.2=d/\z= -q.1 then none else S.by d z:=by
 refine snoc_ind (λ_ d z=>?_) λf p m i d z=>?_
 ·show (S.jO n []).by d z=_;rw[K4 l];by_cases h:d=n
  ·rw[acv h,acv (.inl h)];rfl
  grind
 ·have g:=m (λq a=>i q (acu _ a)) d z;have k:=i p (ab8 _ ack);rw[gU];unfold jc;by_cases h:p.2≠n
  ·simp only[h,if_true,aeq,ne_eq];rw[C1 (by rw[(fV n S c f).1];exact k),g];by_cases e:d=p.2/\z= -p.1
   ·rw[acv e,acv (.inr ⟨p,ab8 _ ack,e.1.symm,e.2⟩)]
   ·rw[acm e];by_cases b:d=n\/∃q∈f,q.2=d/\z= -q.1
    ·rw[acv b,acv (b.imp id λ⟨q,a,r⟩=>⟨q,acu _ a,r⟩)]
    ·rw[acm b,acm];rintro (q|⟨q,a,r⟩)
     ·exact b (.inl q)
     ·rcases ach.mp a with a|a
      ·exact b (.inr ⟨q,a,r⟩)
      ·rw[acb.mp a]at r;exact e ⟨r.1.symm,r.2⟩
  ·simp only[h,aff];rw[g];have j:p.2=n:=aeW.mp h;by_cases b:d=n\/∃q∈f,q.2=d/\z= -q.1
   ·rw[acv b,acv (b.imp id λ⟨q,a,r⟩=>⟨q,acu _ a,r⟩)]
   ·rw[acm b,acm];rintro (q|⟨q,a,r⟩)
    ·exact b (.inl q)
    ·rcases ach.mp a with a|a
     ·exact b (.inr ⟨q,a,r⟩)
     ·rw[acb.mp a]at r;exact b (.inl (r.1.symm.trans j))
inductive Cg (R:Za2):Nat->Nat->Prop where
 |refl (a:Nat):Cg R a a
 |symm {a b:Nat}:Cg R a b->Cg R b a
 |trans {a b c:Nat}:Cg R a b->Cg R b c->Cg R a c
 |step {a a' b b':Nat} {z:Int}:R a z b->R a' z b'->Cg R a a'->Cg R b b'
theorem Cg.mono {e:Za2}(h:∀a z b,R a z b->e a z b){a b:Nat}(c:Cg R a b):Cg e a b:=by
 induction c with
 |refl=>exact .refl _
 |symm _ d=>exact .symm d
 |trans _ _ g f=>exact .trans g f
 |step r1 r2 _ d=>exact .step (h _ _ _ r1) (h _ _ _ r2) d
def Im (S:RS)(R:Za2)(c:Nat)(z:Int)(d:Nat):Prop:=∃b a,R b z a/\S.ao b=c/\S.ao a=d
def xJ (S:RS)(a:List Way)(c:Nat)(z:Int)(d:Nat):Prop:=S.by c z=some d\/∃w∈a,(S.ao w.1=c/\w.2.1=z/\S.ao w.2.2=d)\/(S.ao w.1=d/\w.2.1= -z/\S.ao w.2.2=c)
structure Good (S:RS) (pend:List Way) (R:Za2):Prop where
 wf:S.Wf
 el:∀c,c<S.made->S.ao c<=c/\S.ao (S.ao c)=S.ao c
 ca:∀e,e<S.made->S.ao e=e->∀c,c∈S.bZ e↔c<S.made/\S.ao c=e
 cb:∀e c,c∈S.bZ e->c<S.made
 cn:∀e,(S.bZ e).Nodup
 kn:∀c,((S.way c).map (·.1)).Nodup
 st:∀c z d,S.by c z=some d->c<S.made/\d<S.made/\S.ao c=c/\S.ao d=d
 sy:∀c z d,S.by c z=some d->S.by d (-z)=some c
 pl:∀w∈pend,w.1<S.made/\w.2.2<S.made
 rl:∀c z d,R c z d->c<S.made/\d<S.made/\R d (-z) c
 cv:∀c z d,R c z d->xJ S pend (S.ao c) z (S.ao d)
 so:∀c z d,S.by c z=some d->Im S R c z d
 sp:∀w∈pend,Im S R (S.ao w.1) w.2.1 (S.ao w.2.2)
 cg:∀c,c<S.made->Cg R c (S.ao c)
section
variable {S:RS}{pend:List Way}{R:Za2}
theorem Good.lt (h:Good S pend R){c:Nat}(hc:c<S.made):S.ao c<S.made:=ace (h.el c hc).1 hc
theorem Im.back (h:Good S pend R){c d:Nat}{z:Int}(i:Im S R c z d):Im S R d (-z) c:=by
 obtain⟨e,b,r,a,f⟩:=i;exact⟨b,e,(h.rl _ _ _ r).2.2,f,a⟩
theorem Good.must (h:Good S pend R){c x y:Nat}{z:Int}(i:Im S R c z x)(j:Im S R c z y):Cg R x y:=by
 obtain⟨n,k,r1,d,g⟩:=i;obtain⟨l,m,r2,f1,a⟩:=j;obtain⟨f,l2,_⟩:=h.rl _ _ _ r1;obtain⟨e,b,_⟩:=h.rl _ _ _ r2;have a1:=h.cg _ f;have a2:=h.cg _ l2;have b1:=h.cg _ e;have b2:=h.cg _ b;rw[d]at a1;rw[g]at a2;rw[f1]at b1;rw[a]at b2;exact a2.symm.trans ((Cg.step r1 r2 (a1.trans b1.symm)).trans b2)
theorem Good.keep (h:Good S pend R){c d:Nat}{z:Int}(hc:c<S.made)(hd:d<S.made)(F:S.ao c=c)(ed:S.ao d=d)(i:Im S R c z d)(J:S.by c z=none\/S.by c z=some d)(L:S.by d (-z)=none\/S.by d (-z)=some c){f:List Way}(y:∀w∈f,w∈pend)
 (A:∀w∈pend,w∉f->S.ao w.1=c/\w.2.1=z/\S.ao w.2.2=d):Good (S.keep c z d) f R:=by
 have v:c<S.ways.length:=by rw[h.wf.w];exact hc
 have t:d<S.ways.length:=by rw[h.wf.w];exact hd
 have k:∀a s,(S.keep c z d).by a s=if a=d/\s= -z then some c else if a=c/\s=z then some d else S.by a s:=λa s=>by
  show ((S.bY c z d).bY d (-z) c).by a s=_;rw[jd (by show d<(S.ways.set c _).length;rw[acx];exact t),jd v]
 have u:∀a s b,S.by a s=some b->(S.keep c z d).by a s=some b:=λa s b e=>by
  rw[k];by_cases g:a=d/\s= -z
  ·rw[acv g];obtain⟨rfl,rfl⟩:=g;rcases L with q|q <;> rw[q]at e <;> cases e
   rfl
  ·rw[acm g];by_cases j:a=c/\s=z
   ·rw[acv j];obtain⟨rfl,rfl⟩:=j;rcases J with q|q <;> rw[q]at e <;> cases e
    rfl
   ·rw[acm j];exact e
 have el:∀a,(S.keep c z d).ao a=S.ao a:=λa=>rfl
 have new:∀a s b,(S.keep c z d).by a s=some b->(a=d/\s= -z/\b=c)\/(a=c/\s=z/\b=d)\/S.by a s=some b:=λa s b e=>by
  rw[k]at e;by_cases g:a=d/\s= -z
  ·rw[acv g]at e;exact .inl ⟨g.1,g.2,(Za0 e).symm⟩
  ·rw[acm g]at e;by_cases j:a=c/\s=z
   ·rw[acv j]at e;exact .inr (.inl ⟨j.1,j.2,(Za0 e).symm⟩)
   ·rw[acm j]at e;exact .inr (.inr e)
 have m:(S.keep c z d).by d (-z)=some c:=by rw[k,acv ⟨Y,Y⟩]
 have put2:(S.keep c z d).by c z=some d:=by
  rw[k];by_cases g:c=d/\z= -z
  ·rw[acv g,g.1]
  ·rw[acm g,acv ⟨Y,Y⟩]
 have n:∀(l:List (Int×Nat)) (s:Int) (r:Nat),(l.map (·.1)).Nodup->((iu l s r).map (·.1)).Nodup:=λl s r D=>by
  unfold iu;split
  ·rw[ac7]
   have:((λx:Int×Nat=>x.1) ∘ λp:Int×Nat=>if p.1=s then (p.1,r) else p)=λx=>x.1:=by
    funext p
    show (if p.1=s then (p.1,r) else p).1=p.1;split <;> rfl
   rw[this];exact D
  ·rename_i q;rw[acR];refine acZ.mpr ⟨D,by simp,λa H b I e=>q ?_⟩;obtain⟨p,y,rfl⟩:=adl.mp H;have:b=s:=by simpa using I
   exact List.any_eq_true.mpr ⟨p,y,acy (e.trans this)⟩
 refine⟨⟨?_,?_,h.wf.e,h.wf.c⟩,h.el,h.ca,h.cb,h.cn,λa=>?_,λa s b e=>?_,λa s b e=>?_,λw o=>h.pl w (y w o),h.rl,λa s b r=>?_,λa s b e=>?_,λw o=>h.sp w (y w o),h.cg⟩
 ·show ((List.set _ _ _).set _ _).length=S.made;rw[acx,acx];exact h.wf.w
 ·show ((List.set _ _ _).set _ _).length=S.made;rw[acx,acx];exact h.wf.g
 ·show ((((S.bY c z d).bY d (-z) c).way a).map (·.1)).Nodup;unfold RS.bY;rw[iN (by show d<(S.ways.set c _).length;rw[acx];exact t)]
  have k1:∀a,(((S.jO c (iu (S.way c) z d)).way a).map (·.1)).Nodup:=λa=>by
   rw[iN v];split
   ·exact n _ _ _ (h.kn c)
   ·exact h.kn a
  split
  ·exact n _ _ _ (k1 d)
  ·exact k1 a
 ·rcases new a s b e with ⟨rfl,rfl,rfl⟩|⟨rfl,rfl,rfl⟩|e
  ·exact⟨hd,hc,ed,F⟩
  ·exact⟨hc,hd,F,ed⟩
  ·exact h.st a s b e
 ·rcases new a s b e with ⟨rfl,rfl,rfl⟩|⟨rfl,rfl,rfl⟩|e
  ·rw[adU];exact put2
  ·exact m
  ·exact u _ _ _ (h.sy _ _ _ e)
 ·rcases h.cv a s b r with q|⟨w,o,q⟩
  ·exact .inl (u _ _ _ q)
  ·by_cases E:w∈f
   ·exact .inr ⟨w,E,q⟩
   ·obtain⟨f1,C,G⟩:=A w o E;refine .inl ?_;show (S.keep c z d).by (S.ao a) s=some (S.ao b);rcases q with ⟨g,j,B⟩|⟨g,j,B⟩
    ·rw[<-g,<-j,<-B,f1,C,G];exact put2
    ·have M:s= -z:=by rw[<-C,j,adU]
     rw[<-g,<-B,f1,G,M];exact m
 ·rcases new a s b e with ⟨rfl,rfl,rfl⟩|⟨rfl,rfl,rfl⟩|e
  ·exact Im.back h i
  ·exact i
  ·exact h.so a s b e
end
theorem zc (x:Nat):∀(l b:List Nat) (a:Nat),(∀n∈l,n<b.length)->(l.foldl (λb n=>b.set n x) b).getD a 0=if a∈l then x else b.getD a 0
 |[],b,a,_=>by simp
 |n::l,b,a,h=>by
  rw[List.foldl_cons,zc x l (b.set n x) a (λm c=>by rw[acx];exact h m (acG _ c))]
  grind
theorem xK (x:Nat):∀(l a:List Nat),(l.foldl (λa n=>a.set n x) a).length=a.length
 |[],_=>rfl
 |n::l,a=>by rw[List.foldl_cons,xK x l,acx]
theorem qL {l:List (Int×Nat)}(h:eY l z=some n):(z,n)∈l:=by
 obtain⟨q,a,rfl⟩:=adf.mp h
 grind
theorem je {l:List (Int×Nat)}(a:(l.map (·.1)).Nodup){q:Int×Nat}(h:q∈l):eY l q.1=some q.2:=by
 induction l with
 |nil=>cases h
 |cons p l b=>
  unfold eY;rw[adi,acK]at a;by_cases e:p.1=q.1
  ·grind
  ·rw[aeG (by simpa using e)];rcases aci.mp h with rfl|h
   ·exact absurd Y e
   ·exact b a.2 h
theorem kS:∀(n:Nat) (l:List Nat),l.Nodup->(∀x∈l,x<n)->l.length<=n
 |0,[],_,_=>aca _
 |0,a::l,_,h=>absurd (h a (ack ..)) (by omega)
 |n+ 1,l,b,h=>by
  by_cases c:n∈l
  ·have:=kS n (l.erase n) (b.erase n) (λx d=>by
    grind)
   rw[aer c]at this;omega
  ·have:=kS n l b (λx d=>by
    grind)
   omega
theorem qM:∀(k l:List Int),l.Nodup->(∀x∈l,x∈k)->l.length<=k.length
 |[],[],_,_=>aca _
 |[],a::l,_,h=>by have:=h a ack;grind
 |y::k,l,b,h=>by
  by_cases c:y∈l
  ·have:=qM k (l.erase y) (b.erase y) (λx d=>by
    grind)
   rw[aer c]at this;rw[acC];omega
  ·have:=qM k l b (λx d=>by
    grind)
   rw[acC];omega
theorem K5 {pend:List Way}(g:n<S.ways.length)(e:∀a,((S.way a).map (·.1)).Nodup):∀c:List (Int×Nat),(∀q∈c,q.2<S.ways.length)->∀a,(((cO n S pend c).1.way a).map (·.1)).Nodup:=by
 refine snoc_ind (λ_ a=>?_) λc p i d a=>?_
 ·show (((S.jO n []).way a).map (·.1)).Nodup;rw[iN g];split
  ·exact adM
  ·exact e a
 ·have b:=i (λq f=>d q (acu _ f));rw[gU];unfold jc;by_cases h:p.2≠n
  ·simp only[h,if_true,aeq,ne_eq];unfold RS.nJ;rw[iN (by rw[(fV n S pend c).1];exact d p (ab8 _ ack))];split
   ·exact List.Nodup.sublist (List.Sublist.map _ ad2) (b p.2)
   ·exact b a
  ·simp only[h,aff];exact b a
section
variable {S:RS}{pend:List Way}{R:Za2}
theorem xJ.back (h:Good S pend R){b:RS}{a:List Way}(sy:∀c z d,b.by c z=some d->b.by d (-z)=some c){c d:Nat}{z:Int}(i:xJ b a c z d):xJ b a d (-z) c:=by
 rcases i with q|⟨w,j,q⟩
 ·exact .inl (sy _ _ _ q)
 ·refine .inr ⟨w,j,?_⟩;rcases q with ⟨g,e,f⟩|⟨g,e,f⟩
  ·exact .inr ⟨g,by rw[e,adU],f⟩
  ·exact .inl ⟨g,e,f⟩
theorem Good.meet (h:Good S pend R){c x y:Nat}{z:Int}(hx:S.by c z=some x)(hy:y<S.made)(ey:S.ao y=y)(WC:x≠y)(iy:Im S R c z y){d:List Way}(hp:∀w∈d,w∈pend)
 (WD:∀w∈pend,w∉d->(S.ao w.1=c/\w.2.1=z/\S.ao w.2.2=y)\/(S.ao w.1=y/\w.2.1= -z/\S.ao w.2.2=c)):
 Good (S.meet c z x y d).1 (S.meet c z x y d).2 R/\(∀a,(S.meet c z x y d).1.ao a=if S.ao a=max x y then min x y else S.ao a)/\(S.meet c z x y d).2=d++(S.way (max x y)).map (λp=>(max x y,p.1,p.2)):=by
 obtain⟨hc,WG,ec,ex⟩:=h.st _ _ _ hx;have A:Cg R x y:=h.must (h.so _ _ _ hx) iy;have Q:min x y<S.made:=by omega
 have F:max x y<S.made:=by omega
 have G:min x y<max x y:=by omega
 have U:S.ao (min x y)=min x y:=by rcases ae8 x y with q|q;rw[aes (by omega)];exact ex;rw[ae2 (by omega)];exact ey
 have O:S.ao (max x y)=max x y:=by rcases ae8 x y with q|q;rw[afv (by omega)];exact ey;rw[afh (by omega)];exact ex
 have H:x=min x y\/x=max x y:=by omega
 have L:y=min x y\/y=max x y:=by omega
 have j:Cg R (max x y) (min x y):=by
  rcases ae8 x y with q|q
  ·rw[afv (by omega),aes (by omega)];exact A.symm
  ·rw[afh (by omega),ae2 (by omega)];exact A
 unfold RS.meet;generalize max x y=v at F G O H L j ⊢;generalize min x y=u at Q G U H L j ⊢;have J:v<S.ways.length:=by rw[h.wf.w];exact F
 have M:∀q∈S.way v,q.2<S.ways.length:=λq D=>by
  rw[h.wf.w];exact(h.st v q.1 q.2 (je (h.kn v) D)).2.1
 have hP:((S.joined c z u v).nK v d)=cO v (S.joined c z u v) d (S.way v):=rfl;rw[hP];have rest:=fV v (S.joined c z u v) d (S.way v);have Z:∀a s,(S.joined c z u v).by a s=S.by a s:=λa s=>rfl
 have Ny:∀a s,(cO v (S.joined c z u v) d (S.way v)).1.by a s=if a=v\/S.by a s=some v then none else S.by a s:=λa s=>by
  rw[wH (S:=S.joined c z u v) J _ M,Z]
  have:(a=v\/∃q∈S.way v,q.2=a/\s= -q.1)↔(a=v\/S.by a s=some v):=by
   refine or_congr Iff.rfl ⟨?_,λe=>?_⟩
   ·rintro ⟨q,D,rfl,rfl⟩;exact h.sy _ _ _ (je (h.kn v) D)
   ·have:=qL (h.sy _ _ _ e);exact⟨_,this,Y,(adU s).symm⟩
  simp only[this]
 have t:(cO v (S.joined c z u v) d (S.way v)).2=d++(S.way v).map λp=>(v,p.1,p.2):=xI _ _ _ _
 have I:=K5 (S:=S.joined c z u v) (pend:=d) J h.kn (S.way v) M
 have heq:∀a,(cO v (S.joined c z u v) d (S.way v)).1.ao a=if S.ao a=v then u else S.ao a:=λa=>by
  rw[rest.2];show ((S.bZ v).foldl (λE n=>E.set n u) S.aS).getD a 0=_;rw[zc u _ _ _ (λn hn=>by rw[h.wf.e];exact h.cb v n hn)];by_cases i:a<S.made
  ·have:=h.ca v F O a;by_cases e:S.ao a=v
   ·grind
   ·rw[acm (λq=>e (this.mp q).2),acm e];rfl
  ·have T:S.ao a=0:=by unfold RS.ao;rw[acd,acN (by rw[h.wf.e];omega)];rfl
   rw[acm (λq=>i (h.cb v a q)),acm (by omega)];rfl
 have k:∀e,(cO v (S.joined c z u v) d (S.way v)).1.bZ e=if e=u then S.bZ u++S.bZ v else S.bZ e:=λe=>by
  rw[rest.2];show (S.called.set u (S.bZ u++S.bZ v)).getD e []=_;rw[acd];by_cases q:e=u
  ·subst q;rw[acT (by rw[h.wf.c];exact Q),acv rfl];rfl
  ·rw[adp (adn q),acm q];unfold RS.bZ;grind
 have f:(cO v (S.joined c z u v) d (S.way v)).1.made=S.made:=by rw[rest.2];rfl
 have N:(cO v (S.joined c z u v) d (S.way v)).1.Wf:=by
  refine⟨by rw[rest.1,f];exact h.wf.w,?_,?_,?_⟩
  ·rw[rest.2];exact h.wf.g
  ·rw[rest.2];show ((S.bZ v).foldl (λE n=>E.set n u) S.aS).length=S.made;rw[xK];exact h.wf.e
  ·rw[rest.2];show (S.called.set u (S.bZ u++S.bZ v)).length=S.made;rw[acx];exact h.wf.c
 generalize (cO v (S.joined c z u v) d (S.way v)).2=P2 at t ⊢;generalize (cO v (S.joined c z u v) d (S.way v)).1=g at rest Ny I heq k f N ⊢;refine⟨?_,heq,t⟩
 have bo:∀a s b,g.by a s=some b↔S.by a s=some b/\a≠v/\b≠v:=λa s b=>by
  grind
 have nv2:∀a,g.ao (S.ao a)=g.ao a:=λa=>by
  rw[heq,heq];by_cases i:a<S.made
  ·rw[(h.el a i).2]
  ·have T:∀a,¬a<S.made->S.ao a=0:=λa i=>by unfold RS.ao;rw[acd,acN (by rw[h.wf.e];omega)];rfl
   rw[T a i];have:S.ao 0=0:=by have:=(h.el 0 (by omega)).1;omega
   rw[this]
 have m:∀{a b},S.ao a=S.ao b->g.ao a=g.ao b:=λ{a b} e=>by grind
 have C:∀a s b,g.by a s=some b->g.by b (-s)=some a:=λa s b e=>by
  rw[bo]at e ⊢;exact⟨h.sy _ _ _ e.1,e.2.2,e.2.1⟩
 have std:∀{a},S.ao a=a->g.ao a=if a=v then u else a:=λ{a} e=>by rw[heq,e]
 have kept:∀p s q,S.by p s=some q->xJ g P2 (g.ao p) s (g.ao q):=λp s q e=>by
  obtain⟨lp,lq,ep,eq⟩:=h.st _ _ _ e;by_cases h1:p=v
  ·refine .inr ⟨(v,s,q),?_,.inl ⟨by rw[h1],Y,Y⟩⟩;rw[t];rw[h1]at e;exact ab8 _ (adl.mpr ⟨(s,q),qL e,Y⟩)
  ·by_cases h2:q=v
   ·refine .inr ⟨(v,-s,p),?_,.inr ⟨by rw[h2],Y,Y⟩⟩;rw[t];have e':=h.sy _ _ _ e;rw[h2]at e';exact ab8 _ (adl.mpr ⟨(-s,p),qL e',Y⟩)
   ·refine .inl ?_
    grind
 have eu2:g.ao u=u:=by rw[std U,acm (by omega)]
 have W:g.ao v=u:=by rw[std O,acv rfl]
 have X:g.ao x=g.ao y:=by
  have l:g.ao x=u:=by grind
  have o:g.ao y=u:=by grind
  rw[l,o]
 have WH:∀{a b s},Im S R (S.ao a) s (S.ao b)->Im g R (g.ao a) s (g.ao b):=λ{a b s} ⟨a',b',r,e1,e2⟩=>⟨a',b',r,m e1,m e2⟩
 refine⟨N,λa i=>?_,λe he ee a=>?_,λe a i=>?_,λe=>?_,I,λa s b e=>?_,C,λw hw=>?_,λa s b r=>?_,λa s b r=>?_,λa s b e=>?_,λw hw=>?_,λa i=>?_⟩
 ·rw[f]at i;obtain⟨P,l2⟩:=h.el a i;rw[heq]
  grind
 ·rw[f]at he ⊢;rw[k];have nev:e≠v:=λz=>by rw[z,W]at ee;omega
  by_cases q:e=u
  ·subst q;rw[acv Y,ach,h.ca _ Q U,h.ca v F O,heq]
   grind
  ·rw[acm q]
   have T:S.ao e=e:=by
    rw[heq]at ee;by_cases B:S.ao e=v
    ·grind
    ·grind
   rw[h.ca e he T,heq]
   grind
 ·rw[f];rw[k]at i;split at i
  ·rcases ach.mp i with i|i
   ·exact h.cb _ _ i
   ·exact h.cb _ _ i
  ·exact h.cb _ _ i
 ·rw[k];split
  ·refine acZ.mpr ⟨h.cn _,h.cn _,λa i b hb e=>?_⟩;have l:=((h.ca _ Q U a).mp i).2;have o:=((h.ca v F O b).mp hb).2;rw[e,o]at l;omega
  ·exact h.cn _
 ·rw[bo]at e;obtain⟨P,l2,l3,V⟩:=h.st _ _ _ e.1;exact⟨by rw[f];exact P,by rw[f];exact l2,by rw[std l3,acm e.2.1],by rw[std V,acm e.2.2]⟩
 ·rw[f];rw[t]at hw;rcases ach.mp hw with hw|hw
  ·exact h.pl w (hp w hw)
  ·obtain⟨q,D,rfl⟩:=adl.mp hw;exact⟨F,(h.st v q.1 q.2 (je (h.kn v) D)).2.1⟩
 ·rw[f];exact h.rl a s b r
 ·rcases h.cv a s b r with q|⟨w,hw,q⟩
  ·grind
  ·by_cases hm:w∈d
   ·refine .inr ⟨w,by grind,?_⟩;rcases q with ⟨l,o,B⟩|⟨l,o,B⟩
    ·exact .inl ⟨m l,o,m B⟩
    ·exact .inr ⟨m l,o,m B⟩
   ·have base:xJ g P2 (g.ao c) z (g.ao y):=by rw[<-X];exact kept _ _ _ hx
    have one:∀{p q:Nat},S.ao p=c->S.ao q=y->g.ao p=g.ao c/\g.ao q=g.ao y:=λ{p q} e1 e2=>⟨by grind,by grind⟩
    rcases WD w hw hm with ⟨f1,f2,f3⟩|⟨f1,f2,f3⟩
    ·rcases q with ⟨l,o,B⟩|⟨l,o,B⟩
     ·grind
     ·obtain⟨g1,g2⟩:=one (l.symm.trans f1) (B.symm.trans f3);have E:s= -z:=by rw[<-f2,o,adU]
      rw[g1,g2,E];exact xJ.back h C base
    ·rcases q with ⟨l,o,B⟩|⟨l,o,B⟩
     ·obtain⟨g1,g2⟩:=one (B.symm.trans f3) (l.symm.trans f1);have E:s= -z:=by rw[<-o,f2]
      rw[g1,g2,E];exact xJ.back h C base
     grind
 ·rw[bo]at e;obtain⟨P,l2,l3,V⟩:=h.st _ _ _ e.1;have:=h.so _ _ _ e.1
  grind
 ·rw[t]at hw;rcases ach.mp hw with hw|hw
  ·exact WH (h.sp w (hp w hw))
  ·obtain⟨q,D,rfl⟩:=adl.mp hw;have e:=je (h.kn v) D;obtain⟨P,l2,l3,V⟩:=h.st v q.1 q.2 e;have:=h.so _ _ _ e
   grind
 ·rw[f]at i;rw[heq];split
  ·rename_i q;have:=h.cg a i;rw[q]at this;exact this.trans j
  ·exact h.cg a i
end
def RS.stand (S:RS):Nat:=(List.range S.made).countP λc=>decide (S.ao c=c)
theorem kT {p p':Nat->Bool}{v:Nat}(h:∀a,p' a=(p a && decide (a≠v)))(b:p v=true):∀n,(List.range n).countP p'+ (if v<n then 1 else 0)=(List.range n).countP p
 |0=>rfl
 |n+ 1=>by
  have d:=kT h b n;rw[adP,adD,adD,<-d];rw[adQ,adQ,h n];by_cases e:n=v
  ·subst e;rw[b,acm (adg n),acv (adu n)];simp
  ·have:decide (n≠v)=true:=acy e;rw[this,Bool.and_true];have c:(v<n+ 1)=(v<n):=propext ⟨λ_=>by omega,λ_=>by omega⟩;simp only[c];omega
def mu (k:Nat)(S:RS)(pend:List Way):Nat:=S.stand* (k+ 1)+ pend.length
section
variable {S:RS}{pend:List Way}{R:Za2}{w:Way}{ks:List Int}
theorem Good.EB (h:Good S pend R)(f:∀c z d,R c z d->z∈ks)(c:Nat):(S.way c).length<=ks.length:=by
 have:=qM ks ((S.way c).map (·.1)) (h.kn c) (λx g=>by
  obtain⟨q,e,rfl⟩:=adl.mp g;obtain⟨a,b,r,_⟩:=h.so c q.1 q.2 (je (h.kn c) e);exact f _ _ _ r)
 rw[ab9]at this;exact this
theorem Good.Nz (h:Good S pend R)(c:Nat):(S.bZ c).length<=S.made:=kS _ _ (h.cn c) λx a=>h.cb c x a
theorem Good.take (h:Good S (pend++[w]) R)(M:∀c z d,R c z d->z∈ks):Good (S.takeIn pend w).1 (S.takeIn pend w).2 R/\mu ks.length (S.takeIn pend w).1 (S.takeIn pend w).2<mu ks.length S (pend++[w])/\(S.takeIn pend w).1.made=S.made/\(S.takeIn pend w).1.L=S.L/\
 ((S.takeIn pend w).1.stand=S.stand/\(S.takeIn pend w).1.rows=S.rows/\(S.takeIn pend w).1.aX=S.aX\/(S.takeIn pend w).1.stand+ 1=S.stand/\∃c z x y,S.by c z=some x/\Im S R c z y/\y<S.made/\S.ao y=y/\x≠y/\(S.takeIn pend w).1.rows=S.rows++[gE c z (min x y) (max x y)]/\(S.takeIn pend w).1.aX=S.aX++[max x y]/\∀a,(S.takeIn pend w).1.ao a=if S.ao a=max x y then min x y else S.ao a):=by
 have hw:=h.pl w (ab8 _ ack);have l:=h.sp w (ab8 _ ack);have hc:=h.lt hw.1;have hd:=h.lt hw.2;have k:=(h.el _ hw.1).2;have ed:=(h.el _ hw.2).2;have I:∀x∈pend,x∈pend++[w]:=λx i=>acu _ i
 have last:∀x∈pend++[w],x∉pend->x=w:=λx i nx=>by
  grind
 have met:∀{c x y:Nat} {z:Int},S.by c z=some x->y<S.made->S.ao y=y->x≠y->Im S R c z y->((S.ao w.1=c/\w.2.1=z/\S.ao w.2.2=y)\/(S.ao w.1=y/\w.2.1= -z/\S.ao w.2.2=c))->
  Good (S.meet c z x y pend).1 (S.meet c z x y pend).2 R/\mu ks.length (S.meet c z x y pend).1 (S.meet c z x y pend).2<mu ks.length S (pend++[w])/\(S.meet c z x y pend).1.made=S.made/\(S.meet c z x y pend).1.L=S.L/\(S.meet c z x y pend).1.stand+ 1=S.stand/\(S.meet c z x y pend).1.rows=S.rows++[gE c z (min x y) (max x y)]/\(S.meet c z x y pend).1.aX=S.aX++[max x y]/\∀a,(S.meet c z x y pend).1.ao a=if S.ao a=max x y then min x y else S.ao a:=by
  intro c x y z i V D r P u;obtain⟨g,F,T⟩:=h.meet i V D r P I (λx i nx=>by rw[last x i nx];exact u);obtain⟨hc,U,k,ex⟩:=h.st _ _ _ i;have rest:=(fV (max x y) (S.joined c z (min x y) (max x y)) pend ((S.joined c z (min x y) (max x y)).way (max x y))).2
  have E:(S.meet c z x y pend).1.made=S.made:=by
   show (cO (max x y) (S.joined c z (min x y) (max x y)) pend ((S.joined c z (min x y) (max x y)).way (max x y))).1.made=_;rw[rest];rfl
  have N:(S.meet c z x y pend).1.L=S.L:=by
   show (cO (max x y) (S.joined c z (min x y) (max x y)) pend ((S.joined c z (min x y) (max x y)).way (max x y))).1.L=_;rw[rest];rfl
  have O:(S.meet c z x y pend).1.rows=S.rows++[gE c z (min x y) (max x y)]:=by
   show (cO (max x y) (S.joined c z (min x y) (max x y)) pend ((S.joined c z (min x y) (max x y)).way (max x y))).1.rows=_;rw[rest];rfl
  have Q:(S.meet c z x y pend).1.aX=S.aX++[max x y]:=by
   show (cO (max x y) (S.joined c z (min x y) (max x y)) pend ((S.joined c z (min x y) (max x y)).way (max x y))).1.aX=_;rw[rest];rfl
  have G:S.ao (max x y)=max x y:=by rcases ae8 x y with q|q;rw[afv (by omega)];exact D;rw[afh (by omega)];exact ex
  have H:(S.meet c z x y pend).1.stand+ 1=S.stand:=by
   unfold RS.stand;rw[E]
   have:=kT (p:=λc=>decide (S.ao c=c)) (p':=λa=>decide ((S.meet c z x y pend).1.ao a=a)) (v:=max x y) (λa=>by
    rw[F,ads,ad6,acS,acS,acS];by_cases q:S.ao a=max x y
    ·rw[acv q];constructor
     ·intro e;have j:S.ao (min x y)=min x y:=by rcases ae8 x y with q|q;rw[aes (by omega)];exact ex;rw[ae2 (by omega)];exact D
      rw[e]at j;omega
     ·rintro ⟨L,j⟩;exact absurd (L.symm.trans q) j
    ·rw[acm q];exact⟨λe=>⟨e,λj=>q (by rw[j];exact G)⟩,λe=>e.1⟩) (acy G) S.made
   rw[acv (by omega)]at this;exact this
  have X:=h.EB M (max x y);refine⟨g,?_,E,N,H,O,Q,F⟩;unfold mu;rw[T,<-H,ab6,ab6,ab9,afr,Nat.one_mul];omega
 unfold RS.takeIn;by_cases b:(S.by (S.ao w.1) w.2.1).getD (S.ao w.2.2)≠S.ao w.2.2
 ·rw[acv b]
  cases e:S.by (S.ao w.1) w.2.1 with
  |none=>rw[e]at b;exact absurd Y b
  |some x=>
   rw[e]at b;obtain⟨C,m,A,s,t,n,o,B⟩:=met e hd ed b l (.inl ⟨Y,Y,Y⟩);exact⟨C,m,A,s,.inr ⟨t,_,_,x,_,e,l,hd,ed,b,n,o,B⟩⟩
 ·rw[acm b];by_cases f:(S.by (S.ao w.2.2) (-w.2.1)).getD (S.ao w.1)≠S.ao w.1
  ·rw[acv f]
   cases e:S.by (S.ao w.2.2) (-w.2.1) with
   |none=>rw[e]at f;exact absurd Y f
   |some x=>
    rw[e]at f;have J:=Im.back h l;obtain⟨C,m,A,s,t,n,o,B⟩:=met e hc k f J (.inr ⟨Y,(adU _).symm,Y⟩);exact⟨C,m,A,s,.inr ⟨t,_,_,x,_,e,J,hc,k,f,n,o,B⟩⟩
  ·rw[acm f]
   have k1:S.by (S.ao w.1) w.2.1=none\/S.by (S.ao w.1) w.2.1=some (S.ao w.2.2):=by
    cases e:S.by (S.ao w.1) w.2.1 with
    |none=>exact .inl rfl
    |some x=>rw[e]at b;exact .inr (ac5 some (aeW.mp b))
   have k2:S.by (S.ao w.2.2) (-w.2.1)=none\/S.by (S.ao w.2.2) (-w.2.1)=some (S.ao w.1):=by
    cases e:S.by (S.ao w.2.2) (-w.2.1) with
    |none=>exact .inl rfl
    |some x=>rw[e]at f;exact .inr (ac5 some (aeW.mp f))
   refine⟨h.keep hc hd k ed l k1 k2 I (λx i nx=>by rw[last x i nx];exact⟨Y,Y,Y⟩),?_,Y,Y,.inl ⟨Y,Y,Y⟩⟩;show S.stand* _+ pend.length<S.stand* _+ (pend++[w]).length;rw[ab6];have:([w]:List Way).length=1:=rfl;omega
theorem Good.fin (h:Good S [] R){a b:Nat}(k:a<S.made)(i:b<S.made):S.ao a=S.ao b↔Cg R a b:=by
 have det:∀{a d b g:Nat} {z:Int},R a z b->R d z g->S.ao a=S.ao d->S.ao b=S.ao g:=λ{a d b g z} r1 r2 e=>by
  rcases h.cv _ _ _ r1 with q|⟨w,o,_⟩
  ·rcases h.cv _ _ _ r2 with p|⟨w,o,_⟩
   ·grind
   grind
  grind
 constructor
 ·intro e;have j:=h.cg a k;have l:=h.cg b i;rw[e]at j;exact j.trans l.symm
 ·intro c;clear k i
  induction c with
  |refl=>rfl
  |symm _ f=>exact f.symm
  |trans _ _ n m=>exact n.trans m
  |step r1 r2 _ f=>exact det r1 r2 f
theorem Good.qN (h:Good S [] R){c d:Nat}{z:Int}:S.by c z=some d↔Im S R c z d:=by
 constructor
 ·exact h.so c z d
 ·rintro ⟨e,a,r,rfl,rfl⟩;rcases h.cv _ _ _ r with q|⟨w,b,_⟩
  ·exact q
  grind
end
def ft (R:Za2)(c:Nat)(z:Int)(d:Nat):Za2:=λa s b=>R a s b\/(a=c/\s=z/\b=d)\/(a=d/\s= -z/\b=c)
theorem iO:∀a s b,R a s b->ft R n z m a s b:=λ_ _ _ r=>.inl r
theorem pj:ft R n z m n z m:=.inr (.inl ⟨Y,Y,Y⟩)
theorem t9 (L:Nat)(g:List Int):Good (RS.new L g) [] (λ_ _ _=>False) where
 wf:=⟨Y,Y,Y,Y⟩
 el:=λc a=>by
  have:c=0:=by have:c<1:=a;omega
  subst this;exact⟨aca _,Y⟩
 ca:=λe f _ c=>by
  have:e=0:=by have:e<1:=f;omega
  subst this;show c∈[0]↔c<1/\(RS.new L g).ao c=0
  grind
 cb:=λe c a=>by
  have:(RS.new L g).bZ e=[0]\/(RS.new L g).bZ e=[]:=by
   rcases e with _|e
   ·exact .inl rfl
   ·exact .inr rfl
  show c<1
  grind
 cn:=λe=>by
  rcases e with _|e
  ·show [0].Nodup;simp
  ·exact adM
 kn:=λc=>by
  rcases c with _|c <;> exact adM
 st:=λc z d h=>by
  have:(RS.new L g).by c z=none:=by rcases c with _|c <;> rfl
  grind
 sy:=λc z d h=>by
  have:(RS.new L g).by c z=none:=by rcases c with _|c <;> rfl
  grind
 pl:=λw b=>by cases b
 rl:=λ_ _ _ h=>h.elim
 cv:=λ_ _ _ h=>h.elim
 so:=λc z d h=>by
  have:(RS.new L g).by c z=none:=by rcases c with _|c <;> rfl
  grind
 sp:=λw b=>by cases b
 cg:=λc a=>by
  have:c=0:=by have:c<1:=a;omega
  subst this;exact .refl _
section
variable {S:RS}{R:Za2}
theorem Good.lay (h:Good S [] R){c d:Nat}(z:Int)(hc:c<S.made)(hd:d<S.made)(rows:List Dt):Good { S with rows:=rows } [(c,z,d)] (ft R c z d) where
 wf:=⟨h.wf.w,h.wf.g,h.wf.e,h.wf.c⟩
 el:=h.el
 ca:=h.ca
 cb:=h.cb
 cn:=h.cn
 kn:=h.kn
 st:=h.st
 sy:=h.sy
 pl:=λw f=>by rw[acb.mp f];exact⟨hc,hd⟩
 rl:=by
  rintro a s b (r|⟨rfl,rfl,rfl⟩|⟨rfl,rfl,rfl⟩)
  ·obtain⟨j,l,m⟩:=h.rl _ _ _ r;exact⟨j,l,.inl m⟩
  ·exact⟨hc,hd,.inr (.inr ⟨Y,Y,Y⟩)⟩
  ·exact⟨hd,hc,.inr (.inl ⟨Y,adU _,Y⟩)⟩
 cv:=by
  rintro a s b (r|⟨rfl,rfl,rfl⟩|⟨rfl,rfl,rfl⟩)
  ·rcases h.cv _ _ _ r with q|⟨w,f,_⟩
   ·exact .inl q
   ·cases f
  ·exact .inr ⟨_,ack,.inl ⟨Y,Y,Y⟩⟩
  ·exact .inr ⟨_,ack,.inr ⟨Y,(adU _).symm,Y⟩⟩
 so:=λa s b e=>by
  obtain⟨k,n,r,g,o⟩:=h.so a s b e;exact⟨k,n,.inl r,g,o⟩
 sp:=λw f=>by
  rw[acb.mp f];exact⟨c,d,pj,Y,Y⟩
 cg:=λa i=>(h.cg a i).mono iO
theorem ej (hw:S.Wf)(c:Nat)(z:Int)(g:List Int)(a:Nat):(S.grown c z g).ao a=if a=S.made then S.made else S.ao a:=by
 unfold RS.ao;show (S.aS++[S.made]).getD a 0=_;rw[acd];by_cases e:a=S.made
 ·rw[acv e,e,acp (by rw[hw.e];exact aca _),hw.e,adY];rfl
 ·rw[acm e,acd];by_cases q:a<S.made
  ·rw[acn (by rw[hw.e];exact q)]
  ·rw[acN (by rw[ab6,hw.e];show S.made+ 1<=a;omega),acN (by rw[hw.e];omega)]
theorem qO (hw:S.Wf)(c:Nat)(z:Int)(g:List Int)(a:Nat):(S.grown c z g).bZ a=if a=S.made then [S.made] else S.bZ a:=by
 unfold RS.bZ;show (S.called++[[S.made]]).getD a []=_;rw[acd];by_cases e:a=S.made
 ·rw[acv e,e,acp (by rw[hw.c];exact aca _),hw.c,adY];rfl
 ·rw[acm e,acd];by_cases q:a<S.made
  ·rw[acn (by rw[hw.c];exact q)]
  ·rw[acN (by rw[ab6,hw.c];show S.made+ 1<=a;omega),acN (by rw[hw.c];omega)]
theorem mC (d:S.Wf)(c:Nat)(z:Int)(g:List Int)(a:Nat):(S.grown c z g).way a=S.way a:=by
 unfold RS.way;show (S.ways++[[]]).getD a []=_;rw[acd,acd];by_cases q:a<S.ways.length
 ·rw[acn q]
 ·rw[acp (by omega),acN (l:=S.ways) (by omega)];by_cases b:a - S.ways.length=0
  ·rw[b];rfl
  ·grind
theorem Good.make (h:Good S [] R){c:Nat}{z:Int}(hc:c<S.made)(A:S.ao c=c)(y:S.by c z=none)(g:List Int):Good (S.make c z g) [] (ft R c z S.made):=by
 have hw:=h.wf;have d:∀a,a<S.made->(S.grown c z g).ao a=S.ao a:=λa m=>by rw[ej hw,acm (by omega)]
 have j:(S.grown c z g).ao S.made=S.made:=by rw[ej hw,acv rfl]
 have f:∀a s,(S.grown c z g).by a s=S.by a s:=λa s=>by unfold RS.by;rw[mC hw]
 have G:Good (S.grown c z g) [(c,z,S.made)] (ft R c z S.made):=by
  refine⟨⟨?_,?_,?_,?_⟩,λa m=>?_,λe C ee a=>?_,λe a m=>?_,λe=>?_,λa=>?_,λa s b e=>?_,λa s b e=>?_,λw hw=>?_,?_,?_,λa s b e=>?_,λw hw=>?_,λa m=>?_⟩
  ·show (S.ways++[[]]).length=S.made+ 1;rw[ab6,hw.w];rfl
  ·show (S.gaps++[_]).length=S.made+ 1;rw[ab6,hw.g];rfl
  ·show (S.aS++[_]).length=S.made+ 1;rw[ab6,hw.e];rfl
  ·show (S.called++[_]).length=S.made+ 1;rw[ab6,hw.c];rfl
  ·have t:a<S.made+ 1:=m;by_cases e:a=S.made
   ·rw[e,j];exact⟨aca _,j⟩
   ·have p:a<S.made:=by omega
    rw[d a p];obtain⟨l,k⟩:=h.el a p;exact⟨l,by rw[d _ (by omega)];exact k⟩
  ·have x:e<S.made+ 1:=C;show _↔a<S.made+ 1/\_;rw[qO hw,ej hw];by_cases q:e=S.made
   ·subst q;rw[acv Y,acb];constructor
    ·rintro rfl;exact⟨by omega,by grind⟩
    ·rintro ⟨l,k⟩;by_cases n:a=S.made
     ·exact n
     ·rw[acm n]at k;have:=(h.el a (by omega)).1;omega
   ·have p:e<S.made:=by omega
    rw[d e p]at ee;rw[acm q,h.ca e p ee a]
    grind
  ·show a<S.made+ 1;rw[qO hw]at m;split at m
   ·rw[acb.mp m];omega
   ·exact adz (h.cb e a m)
  ·rw[qO hw];split
   ·simp
   ·exact h.cn e
  ·rw[mC hw];exact h.kn a
  ·rw[f]at e;obtain⟨l,k,n,B⟩:=h.st a s b e;exact⟨adz l,adz k,by rw[d a l];exact n,by rw[d b k];exact B⟩
  ·rw[f]at e ⊢;exact h.sy a s b e
  ·rw[acb.mp hw];exact⟨adz hc,adu _⟩
  ·rintro a s b (r|⟨rfl,rfl,rfl⟩|⟨rfl,rfl,rfl⟩)
   ·obtain⟨l,k,n⟩:=h.rl _ _ _ r;exact⟨adz l,adz k,.inl n⟩
   ·exact⟨adz hc,adu _,.inr (.inr ⟨Y,Y,Y⟩)⟩
   ·exact⟨adu _,adz hc,.inr (.inl ⟨Y,adU _,Y⟩)⟩
  ·rintro a s b (r|⟨rfl,rfl,rfl⟩|⟨rfl,rfl,rfl⟩)
   ·obtain⟨l,k,_⟩:=h.rl _ _ _ r;rcases h.cv _ _ _ r with q|⟨w,hw,_⟩
    ·exact .inl (by rw[d a l,d b k,f];exact q)
    ·cases hw
   ·exact .inr ⟨_,ack,.inl ⟨Y,Y,Y⟩⟩
   ·exact .inr ⟨_,ack,.inr ⟨Y,(adU _).symm,Y⟩⟩
  ·rw[f]at e;obtain⟨u,v,r,o,D⟩:=h.so a s b e;obtain⟨l,k,_⟩:=h.rl _ _ _ r;exact⟨u,v,.inl r,by rw[d u l];exact o,by rw[d v k];exact D⟩
  ·rw[acb.mp hw];exact⟨c,S.made,pj,Y,Y⟩
  ·have t:a<S.made+ 1:=m;by_cases e:a=S.made
   ·rw[e,j];exact .refl _
   ·rw[d a (by omega)];exact(h.cg a (by omega)).mono iO
 have o:(S.grown c z g).ao c=c:=by rw[d c hc];exact A
 have i:=G.sp _ ack;rw[show (c,z,S.made).1=c from Y,show (c,z,S.made).2.2=S.made from Y,o,j]at i;refine G.keep (adz hc) (adu _) o j i (.inl (by rw[f];exact y)) (.inl ?_) (λw hw=>by cases hw) (λw hw _=>by rw[acb.mp hw];exact⟨o,Y,j⟩);rw[f]
 cases e:S.by S.made (-z) with
 |none=>rfl
 |some b=>have:=(h.st _ _ _ e).1;omega
end
def Vr (n:Nat)(s:Int):Za2:=λa z b=>(z=s/\b=a+ 1/\b<n)\/(z= -s/\a=b+ 1/\a<n)
inductive RB (x:V) (y:V) (H:Hp) (Q:VK):Prop
 |mk (a b:Addr) (xs:List V) (t:Str):x=.ref a->y=.ref b->H a=some (.tup xs)->H b=some (.tup [.str t])->(xs=[]\/(∃n,xs=[.int n])\/∃t',xs=[.str t'])->Q (.bl (decide (xs=[V.str t]))) H->RB x y H Q
section
variable {X:Cx}
theorem C2 {z v:Str}{scope:Scope}(l:closureFor scope X.env=pure [(f,c),(z,d),(v,a)])(L:X.env.cells.lookup f=some c)(J:X.env.cells.lookup z=some d)(I:X.env.cells.lookup v=some a)(r:∀q∈scope.names,q.2≠.cell)(D:scope.kind=.function)
 (F:∀q∈scope.names,q.2=.local->scope.names.lookup q.1=some .local) (H:scope.names.lookup x=some .local) (e:∀q∈scope.names,q.2=.free->q.1=f\/q.1=z\/q.1=v) (b:(x≠f/\x≠z/\x≠v)/\f≠z/\f≠v/\z≠v) (C:X.N[i]?=some f) (G:X.N[j]?=some z) (E:X.N[n]?=some v)
 (p:X.env.kindOf f=some .cell) (m:X.env.kindOf z=some .cell) (o:X.env.kindOf v=some .cell) (g:X.env.scope.kind=.function) (y:scope.names.lookup f=some .free) (s:scope.names.lookup z=some .free) (A:scope.names.lookup v=some .free):dJ X x [f,z,v] [i,j,n] scope [(f,c),(z,d),(v,a)] where
 yN:=l
 sub:=λw q h=>by
  grind
 cell:=r
 kind:=D
 names:=F
 own:=H
 has:=λw h=>by
  have B:w=f\/w=z\/w=v:=by
   rcases h with h|h
   ·exact e _ (gB h (.inl Y) r) rfl
   ·exact e _ (gB h (.inr Y) r) rfl
  grind
 nd:=by simp[b.1.1,b.1.2.1,b.1.2.2,b.2.1,b.2.2.1,b.2.2.2]
 len:=rfl
 at_:=λk w h=>by
  match k,h with
  |0,h=>
   have a:f=w:=by simpa using h
   subst a;exact⟨i,Y,C,.inl p,c,by simp[ad7],.inl (cE g p y)⟩
  |1,h=>
   have a:z=w:=by simpa using h
   subst a;have u:(z==f)=false:=acj.mpr (λq=>b.2.1 q.symm);exact⟨j,Y,G,.inl m,d,by simp[ad7,u],.inl (cE g m s)⟩
  |2,h=>
   have B:v=w:=by simpa using h
   subst B;have u:(v==f)=false:=acj.mpr (λq=>b.2.2.1 q.symm);have t:(v==z)=false:=acj.mpr (λq=>b.2.2.2 q.symm);exact⟨n,Y,E,.inl o,a,by simp[ad7,u,t],.inl (cE g o A)⟩
  |k+ 3,h=>simp at h
end
end L2
namespace L2
theorem iP {a z:TS}(h:let b:TS:=z;aU a b G D H):(aU a z) G D H:=h
theorem eF {b a z:TS}(h:let c:TS:=z;let d:TS:=aU a c;aU b d G D H):(aU b (aU a z)) G D H:=h
theorem iQ {b a c z:TS}(h:let d:TS:=z;let e:TS:=aU c d;let f:TS:=aU a e;aU b f G D H):(aU b (aU a (aU c z))) G D H:=h
theorem G7 {b a d c z:TS}(h:let e:TS:=z;let f:TS:=aU c e;let g:TS:=aU d f;let i:TS:=aU a g;aU b i G D H):(aU b (aU a (aU d (aU c z)))) G D H:=h
theorem ua {b a e c d z:TS}(h:let g:TS:=z;let f:TS:=aU d g;let i:TS:=aU c f;let j:TS:=aU e i;let k:TS:=aU a j;aU b k G D H):(aU b (aU a (aU e (aU c (aU d z))))) G D H:=h
theorem ub {b a e c d f z:TS}(h:let j:TS:=z;let i:TS:=aU f j;let g:TS:=aU d i;let k:TS:=aU c g;let l:TS:=aU e k;let m:TS:=aU a l;aU b m G D H):(aU b (aU a (aU e (aU c (aU d (aU f z)))))) G D H:=h
theorem zf {g a f d e b c z:TS}(h:let k:TS:=z;let n:TS:=aU c k;let m:TS:=aU b n;let i:TS:=aU e m;let l:TS:=aU d i;let o:TS:=aU f l;let j:TS:=aU a o;aU g j G D H):(aU g (aU a (aU f (aU d (aU e (aU b (aU c z))))))) G D H:=h
theorem G8 {i a f d e b c g z:TS}(h:let m:TS:=z;let l:TS:=aU g m;let p:TS:=aU c l;let o:TS:=aU b p;let j:TS:=aU e o;let n:TS:=aU d j;let q:TS:=aU f n;let k:TS:=aU a q;aU i k G D H):(aU i (aU a (aU f (aU d (aU e (aU b (aU c (aU g z)))))))) G D H:=h
theorem EC {q j o m n k l p r d c a b z:TS}(h:let f:TS:=z;let e:TS:=aU b f;let g:TS:=aU a e;let i:TS:=aU c g;let B:TS:=aU d i;let v:TS:=aU r B;let u:TS:=aU p v;let y:TS:=aU l u;let x:TS:=aU k y;let s:TS:=aU n x;let w:TS:=aU m s;let A:TS:=aU o w;let t:TS:=aU j A;aU q t G D H):(aU q (aU j (aU o (aU m (aU n (aU k (aU l (aU p (aU r (aU d (aU c (aU a (aU b z))))))))))))) G D H:=h
theorem args_is1 {b:Type}:∀{us:List b},us.length=1->∃a,us=[a]
 |[a],_=>⟨a,Y⟩
theorem args_is2 {c:Type}:∀{us:List c},us.length=2->∃b a,us=[b,a]
 |[b,a],_=>⟨b,a,Y⟩
theorem args_is3 {d:Type}:∀{us:List d},us.length=3->∃c a b,us=[c,a,b]
 |[c,a,b],_=>⟨c,a,b,Y⟩
theorem args_is4 {e:Type}:∀{us:List e},us.length=4->∃b a c d,us=[b,a,c,d]
 |[b,a,c,d],_=>⟨b,a,c,d,Y⟩
theorem args_is5 {f:Type}:∀{us:List f},us.length=5->∃b a c e d,us=[b,a,c,e,d]
 |[b,a,c,e,d],_=>⟨b,a,c,e,d,Y⟩
theorem args_is6 {g:Type}:∀{us:List g},us.length=6->∃b a c f d e,us=[b,a,c,f,d,e]
 |[b,a,c,f,d,e],_=>⟨b,a,c,f,d,e,Y⟩
section
open PySem PySem.Spec PyProof.Rows
variable {C:kJ}{P:Program}{w:World}{K:Za1}{mg:Str->Option Value}{base:Heap}{N:List Str}{q:Str}{sc:Scope}{f:Addr}{cd:Value}{A:Around}{outer:List Env}{s:Shared}{H:Hp}{E:XK}
theorem a8:(cf C P w K mg base N q sc f cd A outer s H E).uD.K=K:=rfl
theorem bQ:(cf C P w K mg base N q sc f cd A outer s H E).K=K:=rfl
end
structure d0 (S:RS) (R:Za2) (ks:List Int):Prop where
 sub:∀c,c<S.made->(S.gap c).Sublist ks
 im:∀c,c<S.made->S.ao c=c->∀z∈ks,z∉S.gap c->∃d,Im S R c z d
 by_:∀c z d,S.by c z=some d->z∉S.gap c
section
variable {S:RS}{pend:List Way}{R:Za2}{ks:List Int}
theorem jf {x:Nat}(a:n<S.gaps.length):(S.kQ n z).gap x=if x=n then (S.gap n).filter (λy=>decide (y≠z)) else S.gap x:=by
 unfold RS.kQ RS.setG RS.gap
 grind
theorem xM:(S.kQ n z).gaps.length=S.gaps.length:=by
 exact acx ..
theorem pk {x:Nat}(b:n<S.gaps.length)(c:m<S.gaps.length):y∈(S.keep n z m).gap x↔y∈S.gap x/\¬(x=n/\y=z)/\¬(x=m/\y= -z):=by
 unfold RS.keep;have a:∀x,((S.bY n z m).bY m (-z) n).gap x=S.gap x:=λx=>rfl
 rw[jf (by rw[xM];exact c),jf (by exact b),jf (by exact b),a,a,a]
 grind
theorem qP {x:Nat}(d:n<S.gaps.length)(e:m<S.gaps.length):((S.keep n z m).gap x).Sublist (S.gap x):=by
 unfold RS.keep;have b:∀x,((S.bY n z m).bY m (-z) n).gap x=S.gap x:=λx=>rfl
 rw[jf (by rw[xM];exact e),jf (by exact d),jf (by exact d),b,b,b];by_cases c:x=m
 ·subst c;rw[acv rfl];by_cases a:x=n
  ·subst a;rw[acv rfl];exact List.Sublist.trans ad2 ad2
  ·rw[acm a];exact ad2
 ·rw[acm c];by_cases a:x=n
  ·subst a;rw[acv rfl];exact ad2
  grind
theorem Bz {x:Nat}(b:n<S.ways.length)(a:m<S.ways.length):(S.keep n z m).by x y=if x=m/\y= -z then some n else if x=n/\y=z then some m else S.by x y:=by
 show (((S.bY n z m).bY m (-z) n)).by x y=_;rw[jd (by unfold RS.bY RS.jO;rw[acx];exact a),jd b]
theorem d0.keep (h:d0 S R ks)(g:Good S pend R){c d:Nat}{z:Int}(hc:c<S.made)(hd:d<S.made)(i:Im S R c z d):d0 (S.keep c z d) R ks:=by
 have a:c<S.gaps.length:=by rw[g.wf.g];exact hc
 have k:d<S.gaps.length:=by rw[g.wf.g];exact hd
 refine⟨λx l=>(qP a k).trans (h.sub x l),λx l ex y p m=>?_,λx y e j=>?_⟩
 ·rw[pk a k]at m;by_cases b:x=c/\y=z
  ·rw[b.1,b.2];exact⟨d,i⟩
  ·by_cases f:x=d/\y= -z
   ·rw[f.1,f.2];exact⟨c,i.back g⟩
   ·exact h.im x l ex y p λq=>m ⟨q,b,f⟩
 ·rw[Bz (by rw[g.wf.w];exact hc) (by rw[g.wf.w];exact hd)]at j;rw[pk a k];rintro ⟨q,n,o⟩;rw[acm o,acm n]at j;exact h.by_ x y e j q
theorem G9 {x:Nat}:(S.meet n z x m pend).1.gaps=S.gaps:=by
 have:=(fV (max x m) (S.joined n z (min x m) (max x m)) pend ((S.joined n z (min x m) (max x m)).way (max x m))).2;have:=ac5 RS.gaps this;exact this
theorem d0.meet (h:d0 S R ks)(g:Good S pend R){c x y:Nat}{z:Int}(D:S.by c z=some x)(G:y<S.made)(H:S.ao y=y)(p:x≠y){d:List Way}
 (made:(S.meet c z x y d).1.made=S.made) (ao:∀a,(S.meet c z x y d).1.ao a=if S.ao a=max x y then min x y else S.ao a):d0 (S.meet c z x y d).1 R ks:=by
 have l:∀a,(S.meet c z x y d).1.gap a=S.gap a:=λa=>by unfold RS.gap;rw[G9]
 obtain⟨_,v,_,ex⟩:=g.st _ _ _ D;have j:max x y<S.made:=by rcases ae9 x y with q|q <;> omega
 have eX:∀a,a<S.made->(S.meet c z x y d).1.ao a=a->S.ao a=a/\a≠max x y:=λa i e=>by
  rw[ao]at e;have o:=(g.el a i).1;by_cases q:S.ao a=max x y
  ·rw[acv q]at e;omega
  ·grind
 refine⟨λa i=>by rw[l];exact h.sub a (by rw[<-made];exact i),λa i A s w m=>?_,λa s b t=>?_⟩
 ·rw[l]at m;obtain⟨n,I⟩:=eX a (by rw[<-made];exact i) A;obtain⟨b,B,C,r,E,F⟩:=h.im a (by rw[<-made];exact i) n s w m;exact⟨_,B,C,r,by grind,Y⟩
 ·rw[l]
  have k:∀q∈(S.joined c z (min x y) (max x y)).way (max x y),q.2<(S.joined c z (min x y) (max x y)).ways.length:=λq u=>by
   show q.2<S.ways.length;rw[g.wf.w];exact(g.st _ _ _ (je (g.kn (max x y)) u)).2.1
  have f:(cO (max x y) (S.joined c z (min x y) (max x y)) d ((S.joined c z (min x y) (max x y)).way (max x y))).1.by a s=some b:=t;rw[wH (by show max x y<S.ways.length;rw[g.wf.w];exact j) _ k]at f;split at f
  ·cases f
  ·exact h.by_ a s b f
theorem xN {x:Nat}:(S.meet n z x m pend).1.made=S.made:=by
 have:=(fV (max x m) (S.joined n z (min x m) (max x m)) pend ((S.joined n z (min x m) (max x m)).way (max x m))).2;have:=ac5 RS.made this;exact this
theorem d0.take {w:Way}(hG:d0 S R ks)(h:Good S (pend++[w]) R):d0 (S.takeIn pend w).1 R ks:=by
 have hw:=h.pl w (ab8 _ ack);have f:=h.sp w (ab8 _ ack);have hc:=h.lt hw.1;have hd:=h.lt hw.2;have g:=(h.el _ hw.1).2;have ed:=(h.el _ hw.2).2;have i:∀x∈pend,x∈pend++[w]:=λx b=>acu _ b
 have last:∀x∈pend++[w],x∉pend->x=w:=λx b nx=>by
  grind
 unfold RS.takeIn;by_cases c:(S.by (S.ao w.1) w.2.1).getD (S.ao w.2.2)≠S.ao w.2.2
 ·rw[acv c]
  cases e:S.by (S.ao w.1) w.2.1 with
  |none=>grind
  |some x=>
   rw[e]at c;obtain⟨_,d,_⟩:=h.meet e hd ed c f i (λx b nx=>by rw[last x b nx];exact .inl ⟨Y,Y,Y⟩);exact hG.meet h e hd ed c xN d
 ·rw[acm c];by_cases a:(S.by (S.ao w.2.2) (-w.2.1)).getD (S.ao w.1)≠S.ao w.1
  ·rw[acv a]
   cases e:S.by (S.ao w.2.2) (-w.2.1) with
   |none=>rw[e]at a;exact absurd Y a
   |some x=>
    rw[e]at a;obtain⟨_,d,_⟩:=h.meet e hc g a (f.back h) i (λx b nx=>by rw[last x b nx];exact .inr ⟨Y,(adU _).symm,Y⟩);exact hG.meet h e hc g a xN d
  ·rw[acm a];exact hG.keep h hc hd f
theorem d0.more {e:Za2}(h:d0 S R ks)(f:∀a z b,R a z b->e a z b):d0 S e ks:=⟨h.sub,λc hc g z hz i=>by
 obtain⟨d,l,j,r,k,m⟩:=h.im c hc g z hz i;exact⟨d,l,j,f _ _ _ r,k,m⟩,h.by_⟩
theorem d0.rows (h:d0 S R ks)(rows:List Dt):d0 { S with rows:=rows } R ks:=⟨h.sub,h.im,h.by_⟩
theorem K6 (L:Nat)(g:List Int):d0 (RS.new L g) (λ_ _ _=>False) g:=by
 refine⟨λc a=>?_,λc a _ z f b=>?_,λc z d e=>?_⟩
 ·have a:c<1:=a;rw[show c=0 by omega];exact List.Sublist.refl _
 ·have a:c<1:=a;rw[show c=0 by omega]at b;exact absurd f b
 ·have:(RS.new L g).by c z=none:=by rcases c with _|c <;> rfl
  grind
theorem d0.make (h:d0 S R ks)(g:Good S [] R){c:Nat}{z:Int}(hc:c<S.made)(E:S.ao c=c)(L:S.by c z=none):d0 (S.make c z ks) (ft R c z S.made) ks:=by
 have u:∀x,(S.grown c z ks).gap x=if x=S.made then ks else S.gap x:=λx=>by
  unfold RS.gap;show (S.gaps++[ks]).getD x []=_;rw[acd,acd];by_cases i:x=S.made
  ·subst i;rw[acv Y,acp (by rw[g.wf.g];exact aca _),g.wf.g,adY];rfl
  ·rw[acm i];by_cases C:x<S.gaps.length
   ·rw[acn C]
   ·have:=g.wf.g;rw[acp (by omega),acN (by rw[ada];omega),acN (by omega)]
 have A:∀x y,(S.grown c z ks).by x y=S.by x y:=λx y=>by unfold RS.by;rw[mC g.wf]
 have l:c<(S.grown c z ks).gaps.length:=by show c<(S.gaps++[ks]).length;rw[ab6,g.wf.g];omega
 have m:S.made<(S.grown c z ks).gaps.length:=by show S.made<(S.gaps++[ks]).length;rw[ab6,g.wf.g,ada];omega
 have v:c<(S.grown c z ks).ways.length:=by show c<(S.ways++[[]]).length;rw[ab6,g.wf.w];omega
 have p:S.made<(S.grown c z ks).ways.length:=by show S.made<(S.ways++[[]]).length;rw[ab6,g.wf.w,ada];omega
 have ee:∀x,(S.make c z ks).ao x=if x=S.made then S.made else S.ao x:=λx=>ej g.wf c z ks x
 have j:∀a s b,S.by a s=some b->a≠S.made:=λa s b e q=>by have:=(g.st _ _ _ e).1;omega
 refine⟨λx i=>?_,λx i ex y w f=>?_,λx y e n=>?_⟩
 ·refine(qP l m).trans ?_;rw[u];by_cases q:x=S.made
  ·grind
  ·rw[acm q];have i:x<S.made+ 1:=i;exact h.sub x (by omega)
 ·have f:y∉((S.grown c z ks).keep c z S.made).gap x:=f;rw[pk l m,u]at f;by_cases t:x=c/\y=z
  ·refine⟨S.made,c,S.made,by rw[t.2];exact pj,?_,?_⟩
   ·grind
   grind
  ·by_cases o:x=S.made/\y= -z
   ·refine⟨c,S.made,c,by rw[o.2];exact .inr (.inr ⟨Y,Y,Y⟩),?_,?_⟩
    ·rw[ee,acv Y,o.1]
    ·rw[ee,acm (by omega)];exact E
   ·by_cases q:x=S.made
    ·rw[acv q]at f;exact absurd ⟨w,t,o⟩ f
    ·rw[acm q]at f;have i:x<S.made+ 1:=i;rw[ee,acm q]at ex;obtain⟨d,F,H,r,B,I⟩:=h.im x (by omega) ex y w λk=>f ⟨k,t,o⟩
     have J:=g.rl _ _ _ r;exact⟨d,F,H,.inl r,by rw[ee,acm (by omega)];exact B,by rw[ee,acm (by omega)];exact I⟩
 ·have n:((S.grown c z ks).keep c z S.made).by x y=some e:=n;rw[Bz v p,A]at n;show y∉((S.grown c z ks).keep c z S.made).gap x;rw[pk l m,u];rintro ⟨q,D,G⟩;rw[acm G,acm D]at n;rw[acm (j _ _ _ n)]at q;exact h.by_ x y e n q
theorem d0.fin (h:d0 S R ks)(g:Good S [] R)(nd:ks.Nodup){c:Nat}(hc:c<S.made)(f:S.ao c=c):S.gap c=ks.filter λz=>(S.by c z).isNone:=by
 have sl:∀{l k:List Int},l.Sublist k->k.Nodup->l=k.filter λz=>decide (z∈l):=λ{l k} s=>by
  induction s with
  |slnil=>intro _;rfl
  |cons a s b=>
   grind
  |cons_cons a s b=>
   intro j;have m:=acK.mp j;rw[afi (by simp)]
   congr 1
   conv=>lhs;rw[b m.2]
   refine afq λz hz=>?_
   grind
 rw[sl (h.sub c hc) nd];refine afq λz hz=>?_
 cases e:S.by c z with
 |some d=>
  have:=h.by_ c z d e;simp[this]
 |none=>
  by_cases q:z∈S.gap c
  ·simp[q]
  ·obtain⟨d,i⟩:=h.im c hc f z hz q;have:=g.qN.mpr i
   grind
end
end L2
namespace L2
open PySem PySem.Spec PyProof.Rows
structure Fly (B:Heap) (l:List Env) (x:Addr) (cls a0:Value) (h:Heap):Prop where
 stays:B.StaysIn h
 new:B.get? x=none
 aaU:h.FunFrames B l
 tr:∃fl,h.TracedAtW B x cls a0 fl
theorem K7 {tg:Expr}(d it:Addr)(o:Obj)(m:Array DictEntry)(ep:Nat)(a:List (Key×V))(B:o.data=.dict m ep):Turn P w K tg (y6 d o a) [it] it (λi h=>h.IsKeyIter it d i m.size ep) where
 mem:=by simp
 obj:=λi h st b l=>by
  have e:b=it:=by simpa using l
  subst e;obtain⟨o,e,c,d⟩:=st
  grind
 keep:=λi h C st k=>st.at λo e=>k it (by simp) o e
 item:=by
  intro X hP G D hc i g s σ H E I A st R;subst hP G D;obtain⟨y,Q⟩:=R;obtain⟨f,-,NB,J,rel,o2,O,W,r,S,t,h4,z,h6⟩:=I.aL d _ Q;rw[f]at r;obtain rfl:=Za0 r;rw[B]at t;injection t with F e2
  subst F e2;have hv:=qK z rel;have p:=pairs_len z;have j:a.length=J.length:=KV.length rel;have Z:m.size=a.length:=by rw[<-ad1,p,j]
  have n:m[i]?=some (m[i]'(by omega)):=Array.getElem?_eq_getElem (by omega)
  generalize m[i]'(by omega)=en at n;have u:a[i]?=some (a[i]'y):=ab3 y
  generalize a[i]'y=L at u;obtain⟨u0,q,rk⟩:=hv.get (i:=i) (x:=kV L.1) (by grind);rw[aco,aeL,n]at q;obtain rfl:en.key=u0:=Za0 q;obtain⟨f0,T,f2,U,N,M⟩:=A it (by simp);refine Dk.item st ⟨_,f,S,B⟩ n λC v sb=>?_
  have I1:Inv X g σ H { s with heap:=C }:=I.turned (t':=s.toks) (λb o l e=>(sb.2 b l).trans e) f0 T U N M;obtain⟨oi,e,c,dd⟩:=id v;exact⟨_,Y,yr (s:={ s with heap:=C }) e c dd (by decide) ⟨kV L.1,H,I1,rk,⟨Y,L,u,Y⟩,v,λb l=>(A b l).1⟩⟩
 done:=by
  intro X hP G D hc i g s σ H E I A st R;subst hP G D;obtain⟨y,Q⟩:=R;obtain⟨f,-,NB,J,rel,o2,O,W,r,S,t,h4,z,h6⟩:=I.aL d _ Q;rw[f]at r;obtain rfl:=Za0 r;rw[B]at t;injection t with F e2
  subst F e2;have p:=pairs_len z;have j:a.length=J.length:=KV.length rel;have Z:m.size=a.length:=by rw[<-ad1,p,j]
  obtain⟨f0,T,f2,U,N,M⟩:=A it (by simp);exact Dk.fin (I.ok.hd hc) st ⟨_,f,S,B⟩ (afk (by omega)) λC eb=>⟨Y,I.turned (t':=s.toks) (λb o l e=>eb b o l e) f0 T U N M⟩
 self:=λ_ _ _ _ _ st h=>wpAny_pyIter_keyiter st h
section
variable {X:Cx}{tg:Expr}
def WK (tl:TE):TI:=λ c H R=>tl c H λx b=>∃d a,x=.ref d/\b d=some (.dK a)/\∀o,R (y6 d o a) (upd b d (.cL o (.dK a)))
theorem RC {tl:TE}(r:PE X e tl):PI X tg e (WK tl):=by
 intro c s y H R I h;refine aY (r c s y H _ I h) λu s1 ⟨x,F,f,t,d,g,ex,l,q⟩=>?_
 subst ex;cases t;obtain⟨-,j,D,rel,o,n,k,m,A,p,J,C,G⟩:=f.aL d _ l;refine Dk.iter j ⟨o,m,A,p⟩ ?_;have B:=(f.freeze l True.intro m).kept (h':=s1.heap.push { cls:=.type "dict_keyiterator",data:=.fields #[.ref d,.int 0 0,.int n.size 0,.int k 0] }) (t':=s1.toks) λb o a=>ab2 _ a
 have T:=K7 (P:=X.prog) (w:=X.w) (K:=X.K) (tg:=tg) d s1.heap.objs.size o n k g p;refine⟨_,_,_,_,_,Y,B,T,⟨_,acf _ Y,Y,Y⟩,λb v=>?_,q o⟩;rw[acb.mp v];have i:=f.aL.fresh (aca s1.heap.objs.size);exact f.oX (aca _) (by rw[ai (λz=>by grind)];exact i)
end
theorem NC {o:Obj}{kvs:List (Key×V)}{g:TG}{l:TS}(a:Nat->St->Hp->Prop)(u:a 0 D H)(v:∀i D H,i<=kvs.length->a i D H->H d=some (.cL o (.dK kvs)))
 (A:∀i j D H,kvs[i]?=some j->a i D H->g (kV j.1) D H λ b k=>l { G with nx:=a (i+ 1),ct:=a (i+ 1),bk:=G.nx } b k) (w:∀ D H,a kvs.length D H->G.nx D H):
 ∃W:Nat->Nat->St->Hp->Prop,(∃m,W 0 m D H)/\∀i m D H,W i m D H->
  ((y6 d o kvs).stop i H/\G.nx D H)\/((y6 d o kvs).go i H/\∃N:St->Hp->Prop,(∀ c f,N c f->∃n,n<m/\W (i+ 1) n c f)/\∀x f,(y6 d o kvs).lb i H x f->g x D f λ b k=>l { G with nx:=N,ct:=N,bk:=G.nx } b k):=by
 refine⟨λi m D H=>m=kvs.length - i/\i<=kvs.length/\a i D H,⟨kvs.length,by simp,acF _,u⟩,?_⟩;rintro i m D H ⟨rfl,r,p⟩;have q:=v i D H r p;by_cases h:i<kvs.length
 ·refine .inr ⟨⟨h,q⟩,a (i+ 1),λ c f s=>⟨kvs.length - (i+ 1),by omega,Y,h,s⟩,λx f y=>?_⟩;obtain⟨rfl,j,z,rfl⟩:=y;exact A i j D _ z p
 ·have e:i=kvs.length:=by omega
  subst e;exact .inl ⟨⟨aca _,q⟩,w D H p⟩
inductive SK (a:Addr) (y z:V) (H:Hp) (Q:VK):Prop
 |mk (kvs:List (Key×V)) (k:Key):H a=some (.dK kvs)->y=kV k->kvs.length<sizeLine->(∀v,bz kvs k=some v->Q v H)->(bz kvs k=none->Q z (upd H a (.dK (putK kvs k z))))->SK a y z H Q
def RD (td d tx:TE):TE:=λ b H Q=>td b H λx c=>Bq x c λa=>d b c λy e=>tx b e λz f=>SK a y z f Q
section
variable {X:Cx}{o e f:Expr}{apos bX:Pos}{td ty tx:TE}
theorem mD (ho:PE X o td)(t:PE X e ty)(S:PE X f tx)(m:M2 X o "setdefault" apos e f bX):PE X (.Call (.Attribute o "setdefault" apos) [e,f] [] bX) (RD td ty tx):=by
 intro c s p H Q I h;refine aem m.base m.few m.line ado adW PySem.F.type_dict_setdefault (aY (ho c s p H _ I h) λu G ⟨x,T,C,M,a,ex,d,J⟩=>?_);subst ex;obtain rfl:u=Value.ref a:=M;obtain⟨t1,U,_⟩:=lD C d;refine⟨t1,U,?_⟩;rw[m.trees]
 refine ac6 Y (adE (ac2 (aY (t c G p T _ C J) λiv s2 ⟨y,H2,I2,V,q2⟩=>
  ac2 (aY (S c s2 p H2 _ I2 q2) λW s3 ⟨z,F,j,A,g,k,D,ey,N,q3,Z⟩=>adJ ?_))))
 subst ey;obtain⟨hz,B,w,rel,E⟩:=rX j.aL D;have b:=rel.val k;have n:w.length<=sizeLine:=by rw[<-rel.length];exact hz
 refine aew adW E.typeIs PySem.F.entry_dict_setdefault (PySem.F.args_dict_setdefault_3 _ _ _) (kt_meets_setdefault (bO X.prog X.w) a (jr V) B W) ⟨w,E,n,λv R=>?_,λO g1 i sb=>?_⟩
 ·rw[R]at b
  cases l:bz g k with
  |none=>rw[l]at b;exact b.elim
  |some r=>
   rw[l]at b;exact⟨r,F,j.tok _,b,q3 r l⟩
 ·rw[O]at b
  cases l:bz g k with
  |some r=>rw[l]at b;exact b.elim
  |none=>
   have L:(putK g k z).length<=sizeLine:=by have:=gC g k z;omega
   have t:∃q,g1.get? a=some q:=let ⟨q,_,_,P,_⟩:=i;⟨q,P⟩
   exact⟨z,_,jN j (by rw[D];exact True.intro) sb t (qD L B (rel.put k A) i),A,Z l⟩
end
namespace Di
section
variable {prog:Program}{w:World}{A:Around}{E:Value->Shared->Prop}{s:Shared}{d:Addr}{es:Array DictEntry}{ep:Nat}
theorem meets (d:Addr)(b:(d==sysModules)=false):MeetsIn prog w (Builtin.«dict.items» ⟨[.ref d],[]⟩) (λ_ R s=>(∃es ep,dU s.heap d es ep)/\R (.ok (.ret (.ref s.heap.objs.size))) { s with heap:=s.heap.push { cls:=.type "dict_items",data:=.fields #[.ref d] } }):=
 .of_wp λA R s ⟨⟨es,ep,a⟩,h⟩=>by
  refine ab1 ?_;refine ab1 (aeR (Dk.typ a) ?_);refine ab7 ?_;unfold Builtin.Dict.showsAll;rw[acm (by rw[b];decide)];exact ab1 (ab7 (ab1 (acV (ab7 ⟨_,Y,h⟩))))
theorem iter (e:s.heap.IsItemsView a d)(j:dU s.heap d es ep)
 (i:Q (.ref s.heap.objs.size) { s with heap:=s.heap.push { cls:=.type "dict_itemiterator",data:=.fields #[.none,.bool false,.ref d,.int 0 0,.int es.size 0,.int ep 0,.none,.none] } }):wpAny (model prog w) A (pyIter (.ref a)) Q E s:=by
 obtain⟨k,c,h,f⟩:=id e;obtain⟨o,g,l,b⟩:=id j;refine wpAny_pyIter_slot e.typeIs F.slot_dict_items_iter (ac8 F.slot_dict_items_iter e.typeIs F.entry_dict_items_iter ?_ (F.args_dict_items_iter_1 _));refine ab1 (ab7 (ab1 ?_));refine ab1 (ac4 c f (x:=.ref d) Y (ab7 (ab1 ?_)));refine ab1 (ad0 g b (ab1 (aeS g b ?_)));have own:Builtin.Dict_items.ownsTuple "dict_itemiterator"=true:=by decide
 simp only[own,if_true];refine acV (ab7 ⟨_,Y,"dict_itemiterator",_,⟨_,acf _ Y,Y⟩,adw.lookup,?_⟩) (by simp only[sizeOk,Builtin.Dict_items.ownedTupleFields,acs,ab6,acC,ael,sizeLine_eq];omega);simpa [rawInt,Builtin.Dict_items.ownedTupleFields] using i
theorem item {it:Addr}{en:DictEntry}{ok:Value}{Q:Option Value->Shared->Prop}(hit:IsItemIter s.heap it d i es.size ep ok v)(C:dU s.heap d es ep)(N:es[i]?=some en)
 (z:∀g,IsItemIterOut g it d (i+ 1) es.size ep en.key en.val s.heap.objs.size->g.get? s.heap.objs.size=some { cls:=.type "tuple",data:=.seq #[en.key,en.val] }->
  (∀b o,b≠it->s.heap.get? b=some o->g.get? b=some o)->Q (some (.ref s.heap.objs.size)) { s with heap:=g }):wpAny (model prog w) A (pyNext (.ref it)) Q E s:=by
 obtain⟨f,q,n,p,os⟩:=s;obtain⟨P,k,B,j⟩:=id C;have c:Shared.TypeIs ⟨f,q,n,p,os⟩ (.ref it) "dict_itemiterator":=⟨_,hit,Y⟩;refine ab1 (afd (ac3 (name:=Str.ofString "__next__") c adw (ac8 adw c F.entry_dict_itemiterator_next ?_ (F.args_dict_itemiterator_next_1 _))));refine ab1 (ab7 (ab1 (ab1 ?_)))
 first|(refine ab1 (adR c (ab7 ?_));skip)|(refine ab1 (aef c (ab7 ?_));skip)
 refine ab1 (wpAny_fieldsOf hit Y ?_);have own:Builtin.Dict_items.ownsTuple "dict_itemiterator"=true:=by decide
 show wpAny _ _ (if (Value.ref d==Value.none)=true then _ else _) _ _ _;rw[acm (show ¬((Value.ref d==Value.none)=true) by grind)];refine ab1 (ab7 (ab1 (ad0 k j ?_)));rw[acm (by simp)];refine ab1 (ab7 (ab1 (aeS k j ?_)));rw[acm (by simp)];refine ab7 ?_;simp only[show ¬((i:Int)<0) by omega,aff,acY,N];refine ab1 ?_
 first|(refine ab1 (adR c (ab7 ?_));skip)|(refine ab1 (aef c (ab7 ?_));skip)
 refine ab1 (wpAny_isOneOf_itemiter c ?_);show wpAny _ _ (setField (.ref it) 3 (rawInt ((i:Int)+ 1)) >>=_) _ _ ⟨f,q,n,p,os⟩
 refine ab1 (adj hit (by simp) λg1 r s1=>?_);have h:Shared.TypeIs ⟨g1,q,n,p,os⟩ (.ref it) "dict_itemiterator":=⟨_,r,Y⟩;refine ab1 (ac1 (ab1 (wpAny_isOneOf_itemiter h (ab1 (wpAny_isOneOf_itemiter h ?_)))));refine ab1 (wpAny_newTuple ?_);have m:IsItemIter (g1.push { cls:=.type "tuple",data:=.seq #[en.key,en.val] }) it d (i+ 1) es.size ep ok v:=ab2 _ r;generalize l:g1.push { cls:=.type "tuple",data:=.seq #[en.key,en.val] }=g2 at m;have z1:g1.objs.size=f.objs.size:=s1.1;have J:it<f.objs.size:=acg hit;have G:g2.get? f.objs.size=some { cls:=.type "tuple",data:=.seq #[en.key,en.val] }:=by rw[<-l,<-z1];exact acf _ rfl
 have L:∀b o,b≠it->f.get? b=some o->g2.get? b=some o:=λb o a e=>by rw[<-l];exact ab2 _ (s1.extBut b o a e)
 show wpAny _ _ (Builtin.Dict_items.ownedTupleIsFree (.ref it) >>=_) _ _ ⟨g2,q,n,p,os⟩;rw[z1];refine ab1 ?_;refine ab1 (ac4 m Y (x:=.none) Y (ab7 ?_));refine ab1 (ac4 m Y (x:=ok) Y (ab1 (ac4 m Y (x:=v) Y ?_)));refine ab1 (adj m (by simp) λR y s3=>?_);refine ab1 (adj y (by simp) λS I s4=>?_);refine ab1 (adj I (by simp) λO H s5=>?_);refine ab1 (adj H (by simp) λu D M=>?_);have t:∀b o,b≠it->g2.get? b=some o->u.get? b=some o:=λb o a e=>M.extBut b o a (s5.extBut b o a (s4.extBut b o a (s3.extBut b o a e)))
 exact ab1 (afp (ab7 (ab7 ⟨_,Y,ab7 (z u D (t _ _ (ade J) G) λb o a e=>t b o a (L b o a e))⟩)))
theorem fin {it:Addr}{ok:Value}{Q:Option Value->Shared->Prop}(j:A.handled=none)(hit:IsItemIter s.heap it d i es.size ep ok v)(l:dU s.heap d es ep)(n:es[i]?=none)
 (k:∀g,Heap.ExtBut it s.heap g->Q none { s with heap:=g }):wpAny (model prog w) A (pyNext (.ref it)) Q E s:=by
 obtain⟨o,e,h,f⟩:=id l;have c:s.TypeIs (.ref it) "dict_itemiterator":=⟨_,hit,Y⟩;refine ab1 (afd (ac3 (name:=Str.ofString "__next__") c adw (ac8 adw c F.entry_dict_itemiterator_next ?_ (F.args_dict_itemiterator_next_1 _))));refine ab1 (ab7 (ab1 (ab1 ?_)))
 first|(refine ab1 (adR c (ab7 ?_));skip)|(refine ab1 (aef c (ab7 ?_));skip)
 refine ab1 (wpAny_fieldsOf hit Y ?_);have own:Builtin.Dict_items.ownsTuple "dict_itemiterator"=true:=by decide
 show wpAny _ _ (if (Value.ref d==Value.none)=true then _ else _) _ _ s;rw[acm (show ¬((Value.ref d==Value.none)=true) by grind)];refine ab1 (ab7 (ab1 (ad0 e f ?_)));rw[acm (by simp)];refine ab1 (ab7 (ab1 (aeS e f ?_)));rw[acm (by simp)];refine ab7 ?_;simp only[show ¬((i:Int)<0) by omega,aff,acY,n];refine ab1 ?_
 first|(refine ab1 (adR c (ab7 ?_));skip)|(refine ab1 (aef c (ab7 ?_));skip)
 show wpAny _ _ (setField (.ref it) 2 .none >>=_) _ _ s;refine ab1 (aed hit Y (by simp) ?_);refine ab1 ?_;refine ab1 (m:=firstArgMember _ _) (wpAny_of_eq (a:=Value.none) (by first|rfl|(simp only[firstArgMember];rfl)) ?_);refine acV ?_ (by size_fits);refine ab1 (wpAny_handled ?_);rw[show A.in1.handled=none from j];refine ab1 (ab7 (wpAny_throw ?_));refine ab1 (wpAny_isInstance (T:="StopIteration") (b:=true) ⟨_,acf _ Y,Y⟩ isSubtype_stop ?_);exact ab7 (k _ (((ady ..).extBut.push _).push _))
end
end Di
theorem xO {c b:Type}{R:c->b->Prop}:∀{e:List c} {ys:List b},Paired R e ys->∀{i:Nat} {x:c} {y:b},e[i]?=some x->ys[i]?=some y->R x y
 |[],_,h,i,x,y,a,_=>by simp at a
 |k::j,_,h,i,x,y,a,d=>by
  cases h with
  |cons f g=>
   cases i with
   |zero=>rw[<-Za0 a,<-Za0 d];exact f
   |succ i=>exact xO g a d
def zg (d:Addr)(o:Obj)(a:List (List Key×V)):It:=
 ⟨λi H=>i<a.length/\H d=some (.cL o (.dT a)),λi H x c=>∃p kp b,a[i]?=some b/\H p=none/\H kp=some (.tup (b.1.map kV))/\x=.ref p/\c=upd H p (.tup [.ref kp,b.2]),λi H=>a.length<=i/\H d=some (.cL o (.dT a))⟩
theorem K8 {elts:List Expr}{x1:Nat}{tp:Pos}(d it:Addr)(o:Obj)(C:Array DictEntry)(ep:Nat)(c:List (List Key×V))(D:o.data=.dict C ep):
 Turn P w K (.Tuple elts x1 tp) (zg d o c) [it] it (λi h=>∃ok m,IsItemIter h it d i C.size ep ok m) where
 mem:=by simp
 obj:=λi h st b n=>by
  grind
 keep:=λi h h' ⟨ok,m,e⟩ k=>⟨ok,m,k it (by simp) _ e⟩
 item:=by
  intro X hP hw hK hc i u s σ H E I B st R;obtain⟨ok,m,hit⟩:=st;obtain⟨v,O⟩:=R;obtain⟨f,-,NB,ys,x,o2,N,W,j,T,t,Z,h5⟩:=I.aL d _ O;rw[f]at j;obtain rfl:=Za0 j;rw[D]at t;injection t with G e2
  subst G e2;have F:c.length=ys.length:=Paired.length x;have hy:ys[i]?=some (ys[i]'(by omega)):=ab3 (by omega)
  generalize ys[i]'(by omega)=y at hy;have U:C[i]?=some (entryOfKey (tupleKind (bO X.prog X.w)) y):=by rw[entry_at Z,hy];rfl
  have l:c[i]?=some (c[i]'v):=ab3 v
  generalize c[i]'v=r at l;have hk:r.1=y.1/\H y.2.1=some (.tup (r.1.map kV))/\RelV r.2 y.2.2:=xO x l hy;have il:it<s.heap.objs.size:=acg hit;refine Di.item hit ⟨_,f,T,D⟩ U λg S hT J=>⟨_,Y,wpAny_letOwnedTupleGo_items S λg2 L sb=>?_⟩
  have M:g2.get? s.heap.objs.size=some { cls:=.type "tuple",data:=.seq #[.ref y.2.1,y.2.2] }:=(sb.2 _ (ade il)).trans hT
  have WL:∀b p,b∉[it]->s.heap.get? b=some p->g2.get? b=some p:=λb p n q=>by
   have j:b≠it:=λz=>n (by simp[z])
   exact(sb.2 b j).trans (J b p j q)
  have WM:=I.aL.fresh (aca s.heap.objs.size);refine⟨.ref s.heap.objs.size,_,I.t8 (fp:=[it]) (a:=s.heap.objs.size) (o:=.tup [.ref y.2.1,r.2]) (h':=g2) (t':=s.toks) WL B (aca _) ?_,Y,⟨_,y.2.1,r,l,WM,hk.2.1,Y,Y⟩,⟨_,_,L⟩,λb n=>?_⟩
  ·exact⟨by show 2<=sizeLine;decide,[.ref y.2.1,y.2.2],.cons Y (.cons hk.2.2 .nil),_,M,Y,_,Y⟩
  ·rw[acb.mp n,ai (acz il)];exact(B it (by simp)).1
 done:=by
  intro X hP hw hK hc i u s σ H E I B st R;obtain⟨ok,m,hit⟩:=st;obtain⟨v,O⟩:=R;obtain⟨f,-,NB,ys,x,o2,N,W,j,T,t,Z,h5⟩:=I.aL d _ O;rw[f]at j;obtain rfl:=Za0 j;rw[D]at t;injection t with G e2
  subst G e2;have F:c.length=ys.length:=Paired.length x;have hsz:C.size=ys.length:=size_of_entries Z;exact Di.fin (I.ok.hd hc) hit ⟨_,f,T,D⟩ (afk (by omega)) λg eb=>⟨Y,I.wF (fp:=[it]) (t':=s.toks) (λb p n q=>eb b p (λz=>n (by simp[z])) q) B⟩
 self:=λA i s Q E ⟨ok,m,hit⟩ h=>PySem.W.kcp_self hit h
section
variable {X:Cx}
def WN (tl:TE):TI:=λ c H R=>tl c H λx b=>∃d a,x=.ref d/\b d=some (.dT a)/\∀o,R (zg d o a) (upd b d (.cL o (.dT a)))
theorem RG {tl:TE}{elts:List Expr}{apos c:Pos}(G:PE X e tl)(g:attributeBase e "items" X.env (eval e X.env)=eval e X.env:=by rfl)(hline:(apos.endLine==c.line)=true:=by rfl):
 PI X (.Tuple elts n p) (.Call (.Attribute e "items" apos) [] [] c) (WN tl):=by
 intro t s M H R I h;refine wpAny_Call_method0_late g hline (aY (G t s M H _ I h) λu s1 ⟨x,O,m,J,d,l,ex,y,q⟩=>?_);subst ex;cases J;obtain⟨-,D,ys,W,o,r,i,A,E,C,Z,U⟩:=m.aL d _ y;have j:dU s1.heap d r i:=⟨o,A,E,C⟩;have v:Bp O d:=.inr ⟨l,.inl y⟩;obtain⟨F,Q,_⟩:=lD m v;refine⟨"dict","dict.items",ado,PySem.F.slot_dict_items,PySem.F.type_dict_items,F,Q,ac6 Y (PySem.evalArgs_none ?_)⟩;refine aew PySem.F.slot_dict_items F PySem.F.entry_dict_items (PySem.F.args_dict_items_1 _) (Di.meets d D) ⟨⟨r,i,j⟩,?_⟩;have N:(s1.heap.push { cls:=.type "dict_items",data:=.fields #[.ref d] }).IsItemsView s1.heap.objs.size d:=⟨_,acf _ Y,Y,Y⟩;have f:dU (s1.heap.push { cls:=.type "dict_items",data:=.fields #[.ref d] }) d r i:=⟨o,ab2 _ A,E,C⟩;refine Di.iter (s:={ s1 with heap:=s1.heap.push { cls:=.type "dict_items",data:=.fields #[.ref d] } }) N f ?_;have S:=(m.freeze y True.intro A).kept (h':=(s1.heap.push { cls:=.type "dict_items",data:=.fields #[.ref d] }).push { cls:=.type "dict_itemiterator",data:=.fields #[.none,.bool false,.ref d,.int 0 0,.int r.size 0,.int i 0,.none,.none] }) (t':=s1.toks) λb o a=>ab2 _ (ab2 _ a)
 have k:s1.heap.objs.size<=(s1.heap.push { cls:=.type "dict_items",data:=.fields #[.ref d] }).objs.size:=by rw[adL];omega
 have T:=K8 (P:=X.prog) (w:=X.w) (K:=X.K) (elts:=elts) (x1:=n) (tp:=p) d (s1.heap.push { cls:=.type "dict_items",data:=.fields #[.ref d] }).objs.size o r i l C;refine⟨_,_,_,_,_,Y,S,T,⟨_,_,acf _ Y⟩,λb L=>?_,q o⟩;rw[acb.mp L];have B:=m.aL.fresh k;exact m.oX k (by rw[ai (λz=>by grind)];exact B)
end
theorem ND {o:Obj}{kvs:List (List Key×V)}{g:TG}{l:TS}(a:Nat->St->Hp->Prop)(u:a 0 D H)(v:∀i D H,i<=kvs.length->a i D H->H d=some (.cL o (.dT kvs)))
 (C:∀i h D H p kp,kvs[i]?=some h->H p=none->H kp=some (.tup (h.1.map kV))->a i D H->g (.ref p) D (upd H p (.tup [.ref kp,h.2])) λ b k=>l { G with nx:=a (i+ 1),ct:=a (i+ 1),bk:=G.nx } b k) (w:∀ D H,a kvs.length D H->G.nx D H):
 ∃W:Nat->Nat->St->Hp->Prop,(∃m,W 0 m D H)/\∀i m D H,W i m D H->
  ((zg d o kvs).stop i H/\G.nx D H)\/((zg d o kvs).go i H/\∃N:St->Hp->Prop,(∀ c f,N c f->∃n,n<m/\W (i+ 1) n c f)/\∀x f,(zg d o kvs).lb i H x f->g x D f λ b k=>l { G with nx:=N,ct:=N,bk:=G.nx } b k):=by
 refine⟨λi m D H=>m=kvs.length - i/\i<=kvs.length/\a i D H,⟨kvs.length,by simp,acF _,u⟩,?_⟩;rintro i m D H ⟨rfl,r,p⟩;have q:=v i D H r p;by_cases j:i<kvs.length
 ·refine .inr ⟨⟨j,q⟩,a (i+ 1),λ c f s=>⟨kvs.length - (i+ 1),by omega,Y,j,s⟩,λx f y=>?_⟩;obtain⟨A,kp,h,z,B,E,rfl,rfl⟩:=y;exact C i h D _ A kp z B E p
 ·have e:i=kvs.length:=by omega
  subst e;exact .inl ⟨⟨aca _,q⟩,w D H p⟩
theorem uc:∀(n:Nat) (l:List Int) (lo:Int),l.Nodup->(∀x∈l,lo<=x/\x<lo+ n)->l.length<=n
 |0,[],_,_,_=>aca _
 |0,x::l,lo,_,h=>by have:=h x (ack ..);omega
 |n+ 1,l,lo,b,h=>by
  by_cases c:lo+ n∈l
  ·have d:=uc n (l.erase (lo+ n)) lo (b.erase _) λx a=>by
    have e:=(b.mem_erase_iff.mp a);have f:=h x e.2;omega
   rw[aer c]at d;omega
  ·have d:=uc n l lo b λx a=>by
    have f:=h x a;have g:x≠lo+ n:=λz=>c (by rw[<-z];exact a)
    omega
   omega
section
variable {κ:Type} [DecidableEq κ]
theorem ED (b:List (κ×V))(k j:κ):bz (eP b k) j=if j=k then none else bz b j:=by
 unfold eP
 induction b with
 |nil=>split <;> rfl
 |cons p r e=>
  by_cases c:p.1=k
  ·rw[List.filter_cons_of_neg (by simp[c]),e];by_cases a:j=k
   ·grind
   ·rw[acm a,acm a,cF (λz=>a (z.symm.trans c))]
  ·rw[afi (by simp[c])];by_cases a:p.1=j
   ·rw[cM a,acm (λz=>c (a.trans z)),cM a]
   ·rw[cF a,e];by_cases d:j=k
    ·grind
    ·rw[acm d,acm d,cF a]
theorem zh (a:List (κ×V))(k:κ)(v:V):(putK a k v).map (·.1)=if k∈a.map (·.1) then a.map (·.1) else a.map (·.1)++[k]:=by
 unfold putK;by_cases h:(a.any λb=>decide (b.1=k))=true
 ·have d:k∈a.map (·.1):=by
   obtain⟨b,e,c⟩:=List.any_eq_true.mp h;exact adl.mpr ⟨b,e,acI c⟩
  rw[acv h,acv d,ac7];refine adK λb _=>?_
  grind
 grind
theorem NF {a:List (κ×V)}(k:κ)(v:V)(h:(a.map (·.1)).Nodup):((putK a k v).map (·.1)).Nodup:=by
 rw[zh]
 grind
theorem K9 {a:List (κ×V)}(k:κ)(h:(a.map (·.1)).Nodup):((eP a k).map (·.1)).Nodup:=by
 exact List.Nodup.sublist ((ad2).map _) h
theorem zi {a:List (κ×V)}(h:(a.map (·.1)).Nodup){b:κ×V}(hm:b∈a):bz a b.1=some b.2:=by
 induction a with
 |nil=>cases hm
 |cons p r c=>
  rw[adi,acK]at h;rcases aci.mp hm with e|hm
  ·rw[e];exact cM rfl
  ·rw[cF (λz=>h.1 (by rw[z];exact aeA hm))];exact c h.2 hm
theorem Hc {a:List (κ×V)}{k:κ}(h:bz a k=some q):(k,q)∈a:=by
 unfold bz at h
 cases e:a.find? λb=>decide (b.1=k) with
 |none=>rw[e]at h;cases h
 |some b=>
  grind
end
def DI (H:Hp)(d:Addr)(f:Int->Option V):Prop:=∃a:List (Key×V),H d=some (.dK a)/\(a.map (·.1)).Nodup/\(∀b∈a,∃i:Int,b.1=Sum.inl i)/\∀i:Int,bz a (Sum.inl i)=f i
theorem DI.at {f:Int->Option V}(h:DI H d f)(k:∀o,H d=some o->I d=some o):DI I d f:=by
 obtain⟨a,c,b⟩:=h;exact⟨a,k _ c,b⟩
theorem DI.congr {f g:Int->Option V}(h:DI H d f)(e:∀i,f i=g i):DI H d g:=by
 obtain⟨a,k,b,j,c⟩:=h;exact⟨a,k,b,j,λi=>(c i).trans (e i)⟩
theorem zj {a:List (Key×V)}{f:Int->Option V}(e:(a.map (·.1)).Nodup)(h:∀c∈a,∃i:Int,c.1=Sum.inl i)(g:∀i:Int,bz a (Sum.inl i)=f i)(i:Int)(v:V):DI (upd H d (.dK (putK a (Sum.inl i) v))) d (λj=>if j=i then some v else f j):=by
 refine⟨_,ah,NF _ _ e,λc b=>?_,λj=>?_⟩
 ·have:c.1∈(putK a (Sum.inl i) v).map (·.1):=aeA b;rw[zh]at this
  grind
 ·rw[o8]
  grind
theorem La {a:List (Key×V)}{f:Int->Option V}(e:(a.map (·.1)).Nodup)(g:∀c∈a,∃i:Int,c.1=Sum.inl i)(h:∀i:Int,bz a (Sum.inl i)=f i)(i:Int):DI (upd H d (.dK (eP a (Sum.inl i)))) d (λj=>if j=i then none else f j):=by
 refine⟨_,ah,K9 _ e,λc b=>g c ((adN.mp b).1),λj=>?_⟩;rw[ED]
 grind
theorem uV {c:List (Key×V)}{f:Int->Option V}(k:(c.map (·.1)).Nodup)(m:∀d∈c,∃i:Int,d.1=Sum.inl i)(p:∀i:Int,bz c (Sum.inl i)=f i){n:Nat}{lo:Int}(o:∀i v,f i=some v->lo<=i/\i<lo+ n):c.length<=n:=by
 have h:=uc n (c.map λd=>match d.1 with|Sum.inl i=>i|Sum.inr _=>0) lo ?_ λx r=>?_
 ·rw[ab9]at h;exact h
 ·have e:c.map (·.1)=(c.map λd=>match d.1 with|Sum.inl i=>i|Sum.inr _=>(0:Int)).map Sum.inl:=by
   rw[ac7];refine adK λd g=>?_
   obtain⟨i,j⟩:=m d g;show d.1=Sum.inl (match d.1 with|Sum.inl i=>i|Sum.inr _=>(0:Int));rw[j]
  rw[e]at k;exact List.Pairwise.imp (λ{a b} q z=>q (ac5 Sum.inl z)) (aeX.mp k)
 ·obtain⟨d,g,rfl⟩:=adl.mp r;obtain⟨i,j⟩:=m d g;have l:=zi k g;rw[j,p]at l;rw[j];exact o i _ l
abbrev bE:=Int->Int->Int->Bool
structure dF (H:Hp) (k:Addr) (D:Int->Option Addr) (E:Int->Int->Option Addr) (S:bE):Prop where
 top:DI H k λc=>(D c).map V.ref
 row:∀c d,D c=some d->DI H d λs=>(E c s).map V.ref
 xP:∀c s e,E c s=some e->DI H e λo=>if S c s o=true then some (.bl true) else none
 ed:∀c s e,E c s=some e->∃d,D c=some d
 se:∀c s o,S c s o=true->∃e,E c s=some e
 nd:∀c d,D c=some d->d≠k
 ne:∀c s e,E c s=some e->e≠k
 dd:∀c c' d,D c=some d->D c'=some d->c=c'
 de:∀c c' s d,D c=some d->E c' s=some d->False
 ee:∀c s c' s' e,E c s=some e->E c' s'=some e->c=c'/\s=s'
def ud (k:Addr)(D:Int->Option Addr)(E:Int->Int->Option Addr)(b:Addr):Prop:=b=k\/(∃c,D c=some b)\/∃c s,E c s=some b
section
variable {H H':Hp}{k:Addr}{D:Int->Option Addr}{E:Int->Int->Option Addr}{S:bE}
theorem dF.keep (h:dF H k D E S)(f:∀b o,ud k D E b->H b=some o->H' b=some o):dF H' k D E S:=
 ⟨h.top.at λo e=>f _ _ (.inl Y) e,λc d e=>(h.row c d e).at λo q=>f _ _ (.inr (.inl ⟨c,e⟩)) q,λc s e q=>(h.xP c s e q).at λo r=>f _ _ (.inr (.inr ⟨c,s,q⟩)) r,h.ed,h.se,h.nd,h.ne,h.dd,h.de,h.ee⟩
theorem dF.same (h:dF H k D E S)(s:ay H H'):dF H' k D E S:=h.keep λb o _ e=>s b o e
theorem dF.there (h:dF H k D E S){b:Addr}(d:ud k D E b):∃a,H b=some (.dK a):=by
 rcases d with rfl|⟨c,e⟩|⟨c,s,e⟩
 ·obtain⟨a,q,_⟩:=h.top;exact⟨a,q⟩
 ·obtain⟨a,q,_⟩:=h.row c b e;exact⟨a,q⟩
 ·obtain⟨a,q,_⟩:=h.xP c s b e;exact⟨a,q⟩
theorem dF.congr (h:dF H k D E S){d:Int->Option Addr}{a:Int->Int->Option Addr}{b:bE}(f:∀c,D c=d c)(g:∀c s,E c s=a c s)(e:∀c s o,S c s o=b c s o):dF H k d a b:=by
 obtain rfl:D=d:=funext f;obtain rfl:E=a:=funext λc=>funext (g c)
 obtain rfl:S=b:=funext λc=>funext λs=>funext (e c s)
 exact h
theorem dF.NK (h:dF H k D E S):∃a:List (Key×V),H k=some (.dK a)/\(a.map (·.1)).Nodup/\(∀b∈a,∃i:Int,b.1=Sum.inl i)/\∀i:Int,bz a (Sum.inl i)=(D i).map V.ref:=h.top
theorem dF.Hd (h:dF H k D E S){c:Int}{d:Addr}(hd:D c=some d):∃a:List (Key×V),H d=some (.dK a)/\(a.map (·.1)).Nodup/\(∀b∈a,∃i:Int,b.1=Sum.inl i)/\∀i:Int,bz a (Sum.inl i)=(E c i).map V.ref:=h.row c d hd
theorem dF.NM (h:dF H k D E S){c s:Int}{e:Addr}(d:E c s=some e):∃a:List (Key×V),H e=some (.dK a)/\(a.map (·.1)).Nodup/\(∀b∈a,∃i:Int,b.1=Sum.inl i)/\∀i:Int,bz a (Sum.inl i)=if S c s i=true then some (.bl true) else none:=h.xP c s e d
theorem dF.Lb (h:dF H k D E S){c s:Int}{d e:Addr}(hd:D c=some d)(N:E c s=none){j:List (Key×V)}(B:H d=some (.dK j))(F:H e=some (.dK []))(nw:¬ud k D E e):
 dF (upd H d (.dK (putK j (Sum.inl s) (.ref e)))) k D (λb f=>if b=c/\f=s then some e else E b f) S:=by
 have y:e≠d:=λz=>nw (.inr (.inl ⟨c,by rw[z];exact hd⟩))
 obtain⟨p,C,J,L,G⟩:=h.row c d hd;rw[B]at C;obtain rfl:j=p:=by grind
 refine⟨h.top.at λo q=>?_,λb v i=>?_,λb f l a=>?_,λb f l a=>?_,λb f o I=>?_,h.nd,λb f l a=>?_,h.dd,λb t f v i a=>?_,λb f t A l r m=>?_⟩
 ·rw[ai (h.nd c d hd).symm];exact q
 ·by_cases g:b=c
  ·subst g;have:v=d:=by rw[hd]at i;exact(Za0 i).symm
   subst this;refine(zj J L G s (.ref e)).congr λf=>?_
   grind
  ·have w:v≠d:=λz=>g (h.dd _ _ _ i (by rw[z];exact hd))
   refine((h.row b v i).at λo q=>by rw[ai w];exact q).congr λf=>?_
   grind
 ·by_cases g:b=c/\f=s
  ·rw[acv g]at a;obtain rfl:=Za0 a;obtain⟨rfl,rfl⟩:=g;refine⟨[],by rw[ai y];exact F,by simp,(λM x=>by cases x),λo=>?_⟩
   cases q:S b f o with
   |true=>obtain⟨l,z⟩:=h.se _ _ _ q;grind
   |false=>dsimp only;rw[q];rfl
  ·rw[acm g]at a;exact(h.xP b f l a).at λo q=>by rw[ai (λz=>h.de c b f d hd (by grind))];exact q
 ·by_cases g:b=c/\f=s
  ·grind
  ·rw[acm g]at a;exact h.ed _ _ _ a
 ·by_cases g:b=c/\f=s
  ·exact⟨e,acv g⟩
  ·obtain⟨l,z⟩:=h.se _ _ _ I;grind
 ·by_cases g:b=c/\f=s
  ·rw[acv g]at a;obtain rfl:=Za0 a;exact λz=>nw (.inl z)
  ·rw[acm g]at a;exact h.ne _ _ _ a
 ·by_cases g:t=c/\f=s
  ·rw[acv g]at a;obtain rfl:=Za0 a;exact nw (.inr (.inl ⟨b,i⟩))
  ·rw[acm g]at a;exact h.de _ _ _ _ i a
 ·by_cases u:b=c/\f=s
  ·rw[acv u]at r;obtain rfl:=Za0 r;by_cases n:t=c/\A=s
   ·exact⟨u.1.trans n.1.symm,u.2.trans n.2.symm⟩
   ·rw[acm n]at m;exact(nw (.inr (.inr ⟨t,A,m⟩))).elim
  ·rw[acm u]at r;by_cases n:t=c/\A=s
   ·rw[acv n]at m;obtain rfl:=Za0 m;exact(nw (.inr (.inr ⟨b,f,r⟩))).elim
   ·rw[acm n]at m;exact h.ee _ _ _ _ _ r m
theorem dF.setCell (h:dF H k D E S){c s:Int}{e:Addr}(j:E c s=some e){u:HO}{g:Int->Bool}(p:DI (upd H e u) e λo=>if g o=true then some (.bl true) else none):
 dF (upd H e u) k D E (λa b o=>if a=c/\b=s then g o else S a b o):=by
 refine⟨h.top.at λo q=>?_,λa m d=>(h.row a m d).at λo q=>?_,λa b n f=>?_,h.ed,λa b o l=>?_,h.nd,h.ne,h.dd,h.de,h.ee⟩
 ·rw[ai (h.ne _ _ _ j).symm];exact q
 ·rw[ai (λz=>h.de _ _ _ _ d (by rw[z];exact j))];exact q
 ·by_cases i:a=c/\b=s
  ·grind
  ·refine((h.xP a b n f).at λo q=>?_).congr λo=>by rw[acm i]
   rw[ai (λz=>i (h.ee _ _ _ _ _ f (by rw[z];exact j)))];exact q
 ·by_cases i:a=c/\b=s
  ·grind
  ·rw[acm i]at l;exact h.se _ _ _ l
theorem dF.NP (h:dF H k D E S){c s:Int}{e:Addr}(j:E c s=some e){b:List (Key×V)}(p:H e=some (.dK b))(o:Int):
 dF (upd H e (.dK (putK b (Sum.inl o) (.bl true)))) k D E (λi f a=>S i f a || (decide (i=c) && decide (f=s) && decide (a=o))):=by
 obtain⟨d,n,l,m,q⟩:=h.xP c s e j;rw[p]at n;obtain rfl:b=d:=by grind
 refine(h.setCell (g:=λa=>S c s a || decide (a=o)) j ((zj l m q o (.bl true)).congr λa=>?_)).congr (λ_=>rfl) (λ_ _=>rfl) λi f a=>?_
 ·grind
 grind
theorem dF.Lc (h:dF H k D E S){n:Int}{d:Addr}(hd:D n=none){g:List (Key×V)}(v:H k=some (.dK g))(x:H d=some (.dK []))(nw:¬ud k D E d):
 dF (upd H k (.dK (putK g (Sum.inl n) (.ref d)))) k (λc=>if c=n then some d else D c) E S:=by
 obtain⟨l,w,A,B,y⟩:=h.top;rw[v]at w;obtain rfl:g=l:=by grind
 have r:d≠k:=λz=>nw (.inl z)
 have en:∀s,E n s=none:=λs=>by
  cases q:E n s with
  |none=>rfl
  |some e=>obtain⟨j,z⟩:=h.ed _ _ _ q;grind
 refine⟨(zj A B y n (.ref d)).congr λc=>?_,λc j a=>?_,λc s e p=>(h.xP c s e p).at λo q=>?_,λc s e p=>?_,h.se,λc j a=>?_,h.ne,λc t j b f=>?_,λc t s j b f=>?_,h.ee⟩
 ·grind
 ·by_cases e:c=n
  ·rw[acv e]at a;obtain rfl:=Za0 a;subst e;refine⟨[],by rw[ai r];exact x,by simp,(λC u=>by cases u),λs=>?_⟩;dsimp only;rw[en s];rfl
  ·rw[acm e]at a;exact(h.row c j a).at λo q=>by rw[ai (h.nd _ _ a)];exact q
 ·rw[ai (h.ne _ _ _ p)];exact q
 ·obtain⟨j,z⟩:=h.ed _ _ _ p
  grind
 ·by_cases e:c=n
  ·grind
  ·rw[acm e]at a;exact h.nd _ _ a
 ·by_cases i:c=n
  ·rw[acv i]at b;obtain rfl:=Za0 b;by_cases m:t=n
   ·rw[i,m]
   ·rw[acm m]at f;exact(nw (.inr (.inl ⟨_,f⟩))).elim
  ·rw[acm i]at b;by_cases m:t=n
   ·rw[acv m]at f;obtain rfl:=Za0 f;exact(nw (.inr (.inl ⟨_,b⟩))).elim
   ·rw[acm m]at f;exact h.dd _ _ _ b f
 ·by_cases i:c=n
  ·rw[acv i]at b;obtain rfl:=Za0 b;exact nw (.inr (.inr ⟨_,_,f⟩))
  ·rw[acm i]at b;exact h.de _ _ _ _ b f
end
namespace Et
section
variable {prog:Program}{w:World}{A:Around}{E:Value->Shared->Prop}{s:Shared}
theorem item {it:Addr}{items:Array Value}{x:Value}(hit:s.heap.IsTupleIter it a i)(f:s.heap.IsTuple a items)(k:items[i]?=some x)
 (h:∀g,g.IsTupleIter it a (i+ 1)->Heap.SameBut it s.heap g->Q x { s with heap:=g }):wpAny (model prog w) A (Builtin.SmallTypes.nextOf (.ref it)) Q E s:=by
 obtain⟨o,c,j,b⟩:=id hit;obtain⟨l,d,_,m,e⟩:=f;refine ab1 (ac3 (name:=Str.ofString "__next__") hit.typeIs ad3 (ac8 ad3 hit.typeIs F.entry_tuple_iterator_next ?_ (F.args_tuple_iterator_next_1 _)));show wpAny _ _ (field (.ref it) 0 >>=_) _ _ s;refine ab1 (ac4 c b (x:=.ref a) Y ?_);rw[acm (show ¬((Value.ref a==Value.none)=true) by grind)];refine ab1 (ac4 c b (x:=.int i 0) Y ?_);refine ab1 (aeE d e ?_);simp only[acY,k];exact ab1 (aed c b (by simp) (ab7 ⟨x,Y,ab7 (h _ ⟨_,acL _ c (aea (adC b _)),(Obj.cls_mapFields ..).trans j,by rw[adC b];simp[rawInt]⟩ (ady ..))⟩))
theorem fin {it:Addr}{items:Array Value}(j:A.handled=none)(hit:s.heap.IsTupleIter it a i)(k:s.heap.IsTuple a items)(n:items[i]?=none)
 (l:∀g e,Heap.ExtBut it s.heap g->(∃o,g.get? e=some o/\o.cls=.type "StopIteration")->E (.ref e) { s with heap:=g }):wpAny (model prog w) A (Builtin.SmallTypes.nextOf (.ref it)) Q E s:=by
 obtain⟨o,f,p,d⟩:=id hit;obtain⟨q,h,_,r,c⟩:=k;refine ab1 (ac3 (name:=Str.ofString "__next__") hit.typeIs ad3 (ac8 ad3 hit.typeIs F.entry_tuple_iterator_next ?_ (F.args_tuple_iterator_next_1 _)));show wpAny _ _ (field (.ref it) 0 >>=_) _ _ s;refine ab1 (ac4 f d (x:=.ref a) Y ?_);rw[acm (show ¬((Value.ref a==Value.none)=true) by grind)];refine ab1 (ac4 f d (x:=.int i 0) Y ?_);refine ab1 (aeE h c ?_);simp only[acY,n];refine ab1 (afo (ab1 (aed f d (by simp) ?_)));refine ab1 ?_;refine ab1 (m:=firstArgMember _ _) (wpAny_of_eq (a:=Value.none) (by first|rfl|(simp only[firstArgMember];rfl)) ?_);refine acV ?_ (by size_fits);refine ab1 (wpAny_handled ?_);first|rw[show A.in1.handled=none from j]|rw[j]
 refine ab1 (ab7 (wpAny_throw ?_));exact l _ _ (((ady ..).extBut.push _).push _) ⟨_,acf _ Y,Y⟩
end
theorem meets (l:Addr)(items:Array Value)(n:Nat)(dct:Option Addr)(i:Array (Option Value)):
 Meets (Builtin.«enumerate.__new__» ⟨[.type "enumerate",.ref l],[]⟩) (λ_ R s=>s.heap.get? l=some { cls:=.type "tuple",dict:=dct,data:=.seq items n,slots:=i }/\
  R (.ok (.ret (.ref (s.heap.push { cls:=.type "tuple_iterator",data:=.fields #[.ref l,.int 0 0] }).objs.size)))
    { s with heap:=(s.heap.push { cls:=.type "tuple_iterator",data:=.fields #[.ref l,.int 0 0] }).push { cls:=.type "enumerate",data:=.fields #[.none,.bool false,.ref s.heap.objs.size,rawInt 0,.none,.none] } }):=
 .of_wp λf w A R s h=>by
  obtain⟨j,g,d,k,os⟩:=s;obtain⟨a,h⟩:=h;have b:=sub_enumerate;have e:Heap.IsTuple (Shared.heap ⟨j,g,d,k,os⟩) l items:=⟨_,a,Y,n,Y⟩
  wp_walk using aen a;refine wpAny_stack_any λst=>ab7 ?_
  split
  ·rename_i c _ _ _ _ _;cases (c==Value.type "enumerate") <;> (wp_walk using aen a,wpAny_pyIter_tuple e;exact⟨_,Y,h⟩)
  ·wp_walk using aen a,wpAny_pyIter_tuple e;exact⟨_,Y,h⟩
theorem call {items:Array Value}(k:s.heap.IsTuple a items)
 (h:∀g,IsEnum g (s.heap.objs.size+ 1) s.heap.objs.size 0 .none->g.IsTupleIter s.heap.objs.size a 0->g.objs.size=s.heap.objs.size+ 2->(∀b o,s.heap.get? b=some o->g.get? b=some o)->Q (.ref (s.heap.objs.size+ 1)) { s with heap:=g }):
 wpAny (model P w) A (call (.type "enumerate") [.ref a]) Q E s:=by
 obtain⟨⟨c,dct,l,j⟩,m,d,n,e⟩:=k;replace d:c=.type "tuple":=d;replace e:l=.seq items n:=e;subst d e;refine callType_new F.called_enumerate (by decide) (F.typeCall_enumerate_1 _) (F.newCall_enumerate_1 _) (λobj=>F.args_object_init_2 obj _) F.entry_enumerate_new (meets a items n dct j) ⟨m,?_⟩;have f:(s.heap.push { cls:=.type "tuple_iterator",data:=.fields #[.ref a,.int 0 0] }).objs.size=s.heap.objs.size+ 1:=adL ..;show _/\_;rw[f]
 have i:IsEnum ((s.heap.push { cls:=.type "tuple_iterator",data:=.fields #[.ref a,.int 0 0] }).push { cls:=.type "enumerate",data:=.fields #[.none,.bool false,.ref s.heap.objs.size,rawInt 0,.none,.none] }) (s.heap.objs.size+ 1) s.heap.objs.size 0 .none:=by
  have:=acf (s.heap.push { cls:=.type "tuple_iterator",data:=.fields #[.ref a,.int 0 0] }) (o:={ cls:=.type "enumerate",data:=.fields #[.none,.bool false,.ref s.heap.objs.size,rawInt 0,.none,.none] }) rfl;rw[f]at this;exact this
 exact⟨⟨_,i,Y⟩,h _ i ⟨_,ab2 _ (acf _ Y),Y,Y⟩ (by rw[adL,f]) λb o x=>ab2 _ (ab2 _ x)⟩
end Et
section
variable {K:Za1}{mg:Str->Option Value}{h:Heap}{C f:Addr}{x q:Str}{st:Stmt}{ps:List Str}{oc kV doc pm cy ct:Value}{od an:Option Addr}{yL:Array (Option Value)}
theorem Def.of (X:K.In h)(G:h.Ns mainGlobals mg)(a:PySem.W.nsIn K mainGlobals x=some (some (.ref f)))(l:K.lookup f=some ⟨oc,od,.func (PySem.W.fnOf x x (dv st) (cI st) (aD st) .none kV doc pm an cy ct),yL⟩)(c:PySem.W.codeIn K cy x=true)(k:PySem.W.keepIn K (.ref f)=true)
 (b:∀(kV doc pm:Value) (an:Option Addr) (cy ct:Value) (us:List Value),us.length=ps.length->bindArgs (PySem.W.fnOf x x (dv st) (cI st) (aD st) .none kV doc pm an cy ct) ⟨us,[]⟩=pure (ps.zip us)):Def K mg x st ps f (PySem.W.fnOf x x (dv st) (cI st) (aD st) .none kV doc pm an cy ct):=
 have F:=DY (st:=st) l c k
 ⟨F,PySem.W.mg_of X G a,F.binds (ps:=ps) b⟩
theorem MDef.of (a:PySem.W.findIn K (.ref C) x=some (some (.ref f)))(i:PySem.W.isFn K (.ref f)=true)(l:K.lookup f=some ⟨oc,od,.func (PySem.W.fnOf x q (dv st) (cI st) (aD st) .none kV doc pm an cy ct),yL⟩)(c:PySem.W.codeIn K cy q=true)(k:PySem.W.keepIn K (.ref f)=true)
 (b:∀(kV doc pm:Value) (an:Option Addr) (cy ct:Value) (us:List Value),us.length=ps.length->bindArgs (PySem.W.fnOf x q (dv st) (cI st) (aD st) .none kV doc pm an cy ct) ⟨us,[]⟩=pure (ps.zip us)):MDef K C x q st ps f (PySem.W.fnOf x q (dv st) (cI st) (aD st) .none kV doc pm an cy ct):=
 have F:=DY (st:=st) l c k
 ⟨F,⟨a,i,k⟩,F.binds (ps:=ps) b⟩
theorem Def.fd {fd:FuncData}(D:Def K mg x st ps f fd):∃(kV doc pm:Value) (an:Option Addr) (cy ct:Value),fd=PySem.W.fnOf x x (dv st) (cI st) (aD st) .none kV doc pm an cy ct:=by
 obtain⟨oc,od,kV,doc,pm,an,cy,ct,yL,e,_⟩:=D.F.ex;exact⟨kV,doc,pm,an,cy,ct,e⟩
end
end L2
namespace L2
def wk (b:Nat->Int->Option Nat):Nat->List Int->Option Nat
 |c,[]=>some c
 |c,z::w=>match b c z with
  |none=>none
  |some d=>wk b d w
section
variable {b:Nat->Int->Option Nat}
theorem fL {w:List Int}(h:b n z=some m):wk b n (z::w)=wk b m w:=by
 show (match b n z with|none=>none|some m=>wk b m w)=_;rw[h]
theorem gx (h:wk b n (z::l)=some m):∃d,b n z=some d/\wk b d l=some m:=by
 cases q:b n z with
 |none=>
  have a:(match b n z with|none=>none|some d=>wk b d l)=some m:=h;rw[q]at a;cases a
 |some d=>rw[fL q]at h;exact⟨d,Y,h⟩
theorem nL:∀{u v:List Int} {c d:Nat},wk b c u=some d->wk b c (u++v)=wk b d v
 |[],v,c,d,h=>by rw[Za0 h];rfl
 |z::u,v,c,d,h=>by
  obtain⟨e,f,a⟩:=gx h;rw[aeB,fL f];exact nL a
theorem zk:∀{u v:List Int} {c e:Nat},wk b c (u++v)=some e->∃d,wk b c u=some d/\wk b d v=some e
 |[],v,c,e,h=>⟨c,Y,h⟩
 |z::u,v,c,e,h=>by
  obtain⟨d,j,a⟩:=gx h;obtain⟨f,i,g⟩:=zk a;exact⟨f,by rw[fL j];exact i,g⟩
theorem NQ (h:b n z=some m):wk b n [z]=some m:=by rw[fL h];rfl
theorem take_snoc (h:l[i]?=some z):l.take (i+ 1)=l.take i++[z]:=by rw[aec,h];rfl
theorem drop_cons (h:l[i]?=some z):l.drop i=z::l.drop (i+ 1):=by
 have a:=(ab5.mp h).1;rw[ae1 a,(ab5.mp h).2]
end
structure Later (S S':RS):Prop where
 el:∀c,c<S.made->S'.ao (S.ao c)=S'.ao c
 by_:∀c z d,S.by c z=some d->S'.by (S'.ao c) z=some (S'.ao d)
theorem Later.of {j:Za2}(h:Good S [] R)(l:Good T [] j)(f:∀a z b,R a z b->j a z b)(g:S.made<=T.made):Later S T:=by
 have el:∀c,c<S.made->T.ao (S.ao c)=T.ao c:=λc hc=>(l.fin (acw (h.lt hc) g) (acw hc g)).mpr ((h.cg c hc).mono f).symm
 refine⟨el,λc z d e=>?_⟩;obtain⟨i,k,r,m,o⟩:=h.so _ _ _ e;obtain⟨n,l2,_⟩:=h.rl _ _ _ r;rw[<-m,<-o,el i n,el k l2];exact l.qN.mpr ⟨i,k,f _ _ _ r,Y,Y⟩
theorem Later.wk (h:Later S T):∀{w:List Int} {c d:Nat},wk S.by c w=some d->wk T.by (T.ao c) w=some (T.ao d)
 |[],c,d,e=>by rw[Za0 e];rfl
 |z::w,c,d,e=>by
  obtain⟨f,b,a⟩:=gx e;rw[fL (h.by_ _ _ _ b)];exact Later.wk h a
structure Gg where
 which:Nat
 word:List Int
 start:Nat
 front:Nat
 first:Nat
 bj:Nat
 last:Nat
def Gg.z1 (g:Gg):Int:=g.word.getD g.first 0
def Gg.z2 (g:Gg):Int:=-(g.word.getD g.last 0)
structure GI (S:RS) (g:Gg):Prop where
 fl:g.first<=g.last
 ll:g.last<g.word.length
 s:g.start<S.made
 f:g.front<S.made
 r:g.bj<S.made
 wf:wk S.by (S.ao g.start) (g.word.take g.first)=some (S.ao g.front)
 wr:wk S.by (S.ao g.bj) (g.word.drop (g.last+ 1))=some (S.ao g.start)
theorem GI.later {g:Gg}(h:GI S g)(l:Later S T)(a:S.made<=T.made):GI T g:=by
 have c:=l.wk h.wf;have b:=l.wk h.wr;rw[l.el _ h.s,l.el _ h.f]at c;rw[l.el _ h.r,l.el _ h.s]at b;exact⟨h.fl,h.ll,acw h.s a,acw h.f a,acw h.r a,c,b⟩
theorem Gg.pW {g:Gg}(h:g.first<g.word.length):g.word[g.first]?=some g.z1:=by
 unfold Gg.z1
 grind
theorem Gg.at2 {g:Gg}(h:g.last<g.word.length):g.word[g.last]?=some (-g.z2):=by
 unfold Gg.z2
 grind
structure SM (S:RS) (g g':Gg):Prop where
 wh:g'.which=g.which
 wo:g'.word=g.word
 st:g'.start=g.start
 gi:GI S g'
 ef:S.ao g'.front=g'.front
 er:S.ao g'.bj=g'.bj
 n1:g'.first<g'.last->S.by g'.front g'.z1=none
 n2:g'.first<g'.last->S.by g'.bj g'.z2=none
 k1:S.ao g.front=g.front->S.by g.front g.z1=none->g'.front=g.front/\g'.first=g.first
 k2:S.ao g.bj=g.bj->S.by g.bj g.z2=none->g'.bj=g.bj/\g'.last=g.last
theorem GI.whole {g:Gg}(h:GI S g)(e:g.first=g.last)(b:S.ao g.start=g.start)(ef:S.ao g.front=g.front)(er:S.ao g.bj=g.bj)(d:S.by g.front g.z1=some g.bj):wk S.by g.start g.word=some g.start:=by
 have c:=h.wf;have a:=h.wr;rw[b,ef]at c;rw[b,er,<-e]at a;have hz:=Gg.pW (g:=g) (by rw[e];exact h.ll);have:g.word=g.word.take g.first++(g.z1::g.word.drop (g.first+ 1)):=by rw[<-drop_cons hz,adS]
 rw[this,nL c,fL d];exact a
def eN (m:Nat)(W:bE)(n:Int):Nat:=(List.range (m* 2001)).countP λc=>W ((c / 2001:Nat):Int) (((c % 2001:Nat):Int) - 1000) n
def uW (m G:Nat)(W:bE):Nat:=((List.range G).map λn:Nat=>eN m W n).sum
def fM (W:bE)(r s:Int):bE:=λb a n=>W b a n && !(decide (b=r) && decide (a=s))
theorem NR (a:n<m)(b: -1000<=z/\z<=1000):n* 2001+ (z+ 1000).toNat<m* 2001:=by
 have:(n+ 1)* 2001<=m* 2001:=aeh _ a;omega
theorem EE {c r:Nat}(e: -1000<=z/\z<=1000):(((c / 2001:Nat):Int)=(r:Int)/\((c % 2001:Nat):Int) - 1000=z)↔c=r* 2001+ (z+ 1000).toNat:=by
 constructor
 ·rintro ⟨f,d⟩;have:=Nat.div_add_mod c 2001;omega
 ·intro h;subst h
  have a:(r* 2001+ (z+ 1000).toNat) / 2001=r:=by
   rw[Nat.mul_comm,Nat.mul_add_div (by decide),Nat.div_eq_of_lt (by omega)];omega
  have b:(r* 2001+ (z+ 1000).toNat) % 2001=(z+ 1000).toNat:=by
   rw[Nat.mul_comm,Nat.mul_add_mod,Nat.mod_eq_of_lt (by omega)]
  rw[a,b];omega
theorem NT {W:bE}(a:Int)(f:n<m)(d: -1000<=z/\z<=1000):eN m (fM W n z) a+ (if W n z a=true then 1 else 0)=eN m W a:=by
 have g:=NR f d
 have dec:∀c:Nat,(decide (((c / 2001:Nat):Int)=(n:Int)) && decide (((c % 2001:Nat):Int) - 1000=z))=decide (c=n* 2001+ (z+ 1000).toNat):=λc=>by
  rw[<-Bool.decide_and,decide_eq_decide];exact EE d
 have at_:=(EE (c:=n* 2001+ (z+ 1000).toNat) (r:=n) d).mpr rfl;unfold eN fM;by_cases b:W n z a=true
 ·rw[acv b]
  have:=kT (p:=λc:Nat=>W ((c / 2001:Nat):Int) (((c % 2001:Nat):Int) - 1000) a) (p':=λc:Nat=>W ((c / 2001:Nat):Int) (((c % 2001:Nat):Int) - 1000) a && !(decide (((c / 2001:Nat):Int)=(n:Int)) && decide (((c % 2001:Nat):Int) - 1000=z))) (v:=n* 2001+ (z+ 1000).toNat) (λc=>by
   rw[dec c,<-decide_not]) (by rw[at_.1,at_.2];exact b) (m* 2001)
  rw[acv g]at this;exact this
 ·rw[acm b,Nat.add_zero];refine List.countP_congr λc _=>?_
  rw[ad6];refine⟨λh=>h.1,λh=>⟨h,?_⟩⟩;rw[dec c]
  cases e:decide (c=n* 2001+ (z+ 1000).toNat) with
  |false=>rfl
  |true=>
   rw[acI e,at_.1,at_.2]at h;exact absurd h b
theorem xQ:∀(l:List Nat) (f g h:Nat->Nat),(∀n∈l,f n+ g n=h n)->(l.map f).sum+ (l.map g).sum=(l.map h).sum
 |[],_,_,_,_=>rfl
 |a::l,f,g,h,e=>by
  have c:=xQ l f g h λn b=>e n (acG _ b)
  have:=e a (ack ..);simp only[adi,List.sum_cons];omega
theorem BD (p:Nat->Bool):∀l:List Nat,(l.map λn=>if p n=true then 1 else 0).sum=l.countP p
 |[]=>rfl
 |a::l=>by
  rw[adi,List.sum_cons,BD p l,afw];omega
theorem Ld {G:Nat}{W:bE}(b:n<m)(c: -1000<=z/\z<=1000):uW m G (fM W n z)+ (List.range G).countP (λa:Nat=>W n z a)=uW m G W:=by
 unfold uW;rw[<-BD (λa:Nat=>W n z a)];exact xQ _ _ _ _ λa _=>NT a b c
theorem Le:∀{l:List Nat} {a b:Nat},l.Nodup->(∀x∈l,x=a\/x=b)->l.length<=2
 |[],_,_,_,_=>by decide
 |[_],_,_,_,_=>aex 1
 |[_,_],_,_,_,_=>aca 2
 |x::y::z::r,a,b,d,h=>by
  have e:=h x (by simp);have c:=h y (by simp);have f:=h z (by simp)
  grind
theorem NV {W:bE}{p q:Int×Int}(h:∀r s,W r s z=true->(r,s)=p\/(r,s)=q):eN m W z<=2:=by
 unfold eN;rw[List.countP_eq_length_filter];refine Le (a:=(p.1* 2001+ (p.2+ 1000)).toNat) (b:=(q.1* 2001+ (q.2+ 1000)).toNat) (List.nodup_range.filter _) λc d=>?_
 have f:=Nat.div_add_mod c 2001;rcases h _ _ (adN.mp d).2 with e|e
 ·left;rw[<-e];dsimp only;omega
 ·right;rw[<-e];dsimp only;omega
theorem EF:∀(l:List Nat) (f:Nat->Nat) (k:Nat),(∀n∈l,f n<=k)->(l.map f).sum<=l.length* k
 |[],_,_,_=>by simp
 |a::l,f,k,h=>by
  have c:=EF l f k λn b=>h n (acG _ b)
  have:=h a (ack ..);rw[adi,List.sum_cons,acC,afr];omega
theorem Lf {W:bE}(h:∀a:Nat,∃p q:Int×Int,∀r s,W r s a=true->(r,s)=p\/(r,s)=q):uW m n W<=2* n:=by
 have:=EF (List.range n) (λa:Nat=>eN m W a) 2 λa _=>by
  obtain⟨p,q,e⟩:=h a;exact NV e
 rw[adA]at this;unfold uW;omega
structure CI (S:RS) (bs:List (Nat×List Int×Nat)) (gs:List (Option Gg)) (ag:List Nat) (W:bE) (Ex:Nat->Int->Prop) (x:Option Nat):Prop where
 len:gs.length=bs.length
 al:∀(n:Nat) (g:Gg),gs[n]?=some (some g)->bs[n]?=some (g.which,g.word,g.start)/\GI S g/\(n∈ag\/some n=x\/(g.first<g.last/\W g.front g.z1 n=true/\W g.bj g.z2 n=true))
 de:∀(n:Nat) (b:Nat×List Int×Nat),gs[n]?=some none->some n≠x->bs[n]?=some b->S.ao b.2.2≠b.2.2\/wk S.by b.2.2 b.2.1=some b.2.2
 ab:∀n∈ag,n<gs.length
 en:∀r s n,W r s n=true->∃r' n':Nat,r=r'/\n=n'/\r'<S.made/\n'<gs.length/\(-1000<=s/\s<=1000)/\(S.ao r'=r'/\S.by r' s=none\/Ex r' s)
 sl:∀n:Nat,∃p q:Int×Int,(∀r s,W r s n=true->(r,s)=p\/(r,s)=q)/\∀g,gs[n]?=some (some g)->p=((g.front:Int),g.z1)/\q=((g.bj:Int),g.z2)
 bd:∀b∈bs,∀z∈b.2.1,-1000<=z/\z<=1000
def fu:Nat->Int->Prop:=λ_ _=>False
section
variable {S:RS}{bs:List (Nat×List Int×Nat)}{gs:List (Option Gg)}{ag:List Nat}{W:bE}{Ex:Nat->Int->Prop}{x:Option Nat}{n:Nat}
theorem CI.pop (h:CI S bs gs (ag++[n]) W Ex none):CI S bs gs ag W Ex (some n):=by
 refine⟨h.len,λk g e=>?_,λk b e _=>h.de k b e (λz=>by cases z),λk a=>h.ab k (acu _ a),h.en,h.sl,h.bd⟩;obtain⟨f,c,d⟩:=h.al k g e
 grind
theorem CI.done (h:CI S bs gs ag W Ex (some n))(e:gs[n]?=some none)(k:∀b,bs[n]?=some b->S.ao b.2.2≠b.2.2\/wk S.by b.2.2 b.2.1=some b.2.2):CI S bs gs ag W Ex none:=by
 refine⟨h.len,λm g d=>?_,λm b d _ c=>?_,h.ab,h.en,h.sl,h.bd⟩
 ·obtain⟨i,f,a⟩:=h.al m g d;refine⟨i,f,?_⟩;rcases a with a|a|a
  ·exact .inl a
  ·grind
  ·exact .inr (.inr a)
 ·by_cases q:m=n
  ·rw[q]at c;exact k b c
  ·exact h.de m b d (λz=>q (Za0 z)) c
theorem fe {c:Type}{l:List c}{a b:c}(h:(l.set i a)[j]?=some b):(j=i/\b=a)\/(j≠i/\l[j]?=some b):=by
 grind
theorem CI.kill (h:CI S bs gs ag W Ex (some n)):CI S bs (gs.set n none) ag W Ex (some n):=by
 refine⟨by rw[acx];exact h.len,λm g e=>?_,λm b e q c=>?_,λk f=>by rw[acx];exact h.ab k f,λr s k e=>?_,λm=>?_,h.bd⟩
 ·rcases fe e with ⟨_,z⟩|⟨z,e⟩
  ·cases z
  ·exact h.al m g e
 ·rcases fe e with ⟨z,_⟩|⟨z,e⟩
  ·grind
  ·exact h.de m b e q c
 ·rw[acx];exact h.en r s k e
 ·obtain⟨p,q,d,a⟩:=h.sl m;refine⟨p,q,d,λg e=>?_⟩;rcases fe e with ⟨_,z⟩|⟨_,e⟩
  ·cases z
  ·exact a g e
def addW (W:bE)(r s n:Int):bE:=λc b a=>W c b a || (decide (c=r) && decide (b=s) && decide (a=n))
theorem dk {W:bE}{n c b a:Int}:addW W z y n c b a=true↔W c b a=true\/(c=z/\b=y/\a=n):=by
 unfold addW
 grind
theorem cX {W:bE}{b a c:Int}:fM W z y b a c=true↔W b a c=true/\¬(b=z/\a=y):=by
 unfold fM
 grind
theorem CI.waits (h:CI S bs gs ag W fu (some n)){g c:Gg}(e:gs[n]?=some (some g))(a:SM S g c)(d:c.first<c.last):CI S bs (gs.set n (some c)) ag (addW (addW W c.front c.z1 n) c.bj c.z2 n) fu none:=by
 obtain⟨t,L,_⟩:=h.al n g e;have o:=(ab5.mp e).1;have gi:=a.gi;have C:∀z∈c.word,-1000<=z/\z<=1000:=λz hz=>h.bd _ (ab4 t) z (by rw[<-a.wo];exact hz)
 have b1:=C _ (ab4 (Gg.pW (g:=c) (by have:=gi.ll;omega)));have b2:=C _ (ab4 (Gg.at2 (g:=c) gi.ll));refine⟨by rw[acx];exact h.len,λm u q=>?_,λm b q _ G=>?_,λk F=>by rw[acx];exact h.ab k F,λr s k q=>?_,λm=>?_,h.bd⟩
 ·rcases fe q with ⟨rfl,z⟩|⟨z,q⟩
  ·cases z;refine⟨by rw[t,a.wh,a.wo,a.st],gi,.inr (.inr ⟨d,dk.mpr (.inl (dk.mpr (.inr ⟨Y,Y,Y⟩))),dk.mpr (.inr ⟨Y,Y,Y⟩)⟩)⟩
  ·obtain⟨i,l,f⟩:=h.al m u q;refine⟨i,l,?_⟩;rcases f with f|f|⟨f,I,E⟩
   ·exact .inl f
   ·grind
   ·exact .inr (.inr ⟨f,dk.mpr (.inl (dk.mpr (.inl I))),dk.mpr (.inl (dk.mpr (.inl E)))⟩)
 ·rcases fe q with ⟨_,z⟩|⟨z,q⟩
  ·cases z
  ·exact h.de m b q (λy=>z (Za0 y)) G
 ·rw[acx];rcases dk.mp q with q|⟨rfl,rfl,rfl⟩
  ·rcases dk.mp q with q|⟨rfl,rfl,rfl⟩
   ·exact h.en r s k q
   ·exact⟨_,n,Y,Y,gi.f,o,b1,.inl ⟨a.ef,a.n1 d⟩⟩
  ·exact⟨_,n,Y,Y,gi.r,o,by omega,.inl ⟨a.er,a.n2 d⟩⟩
 ·obtain⟨p,q,i,l⟩:=h.sl m;by_cases J:m=n
  ·subst J;obtain⟨D,eq⟩:=l g e;refine⟨((c.front:Int),c.z1),((c.bj:Int),c.z2),λr s w=>?_,λu v=>?_⟩
   ·rcases dk.mp w with w|⟨rfl,rfl,_⟩
    ·rcases dk.mp w with w|⟨rfl,rfl,_⟩
     ·obtain⟨A,M,er,_,_,_,_,j⟩:=h.en r s m w;rcases j with ⟨B,H⟩|j
      ·rcases i r s w with z|z
       ·rw[D]at z;injection z with z1 z2
        have:A=g.front:=by omega
        subst this;obtain⟨k1,k2⟩:=a.k1 B (by grind)
        left
        rw[Prod.mk.injEq];refine⟨by rw[k1];exact er,?_⟩;rw[z2];unfold Gg.z1;rw[a.wo,k2]
       ·rw[eq]at z;injection z with z1 z2
        have:A=g.bj:=by omega
        subst this;obtain⟨k1,k2⟩:=a.k2 B (by grind)
        right
        rw[Prod.mk.injEq];refine⟨by rw[k1];exact er,?_⟩;rw[z2];unfold Gg.z2;rw[a.wo,k2]
      ·exact j.elim
     ·exact .inl rfl
    ·exact .inr rfl
   ·rcases fe v with ⟨_,z⟩|⟨z,_⟩
    ·grind
    ·exact absurd Y z
  ·refine⟨p,q,λr s w=>?_,λu v=>?_⟩
   ·rcases dk.mp w with w|⟨_,_,z⟩
    ·rcases dk.mp w with w|⟨_,_,z⟩
     ·exact i r s w
     ·omega
    ·omega
   grind
theorem CI.wake (h:CI S bs gs ag W Ex x){r s:Int}{ns:List Nat}(c:∀k:Nat,k∈ns↔W r s k=true):CI S bs gs (ag++ns) (fM W r s) Ex x:=by
 refine⟨h.len,λm g e=>?_,h.de,λk o=>?_,λt u k q=>h.en _ _ _ (cX.mp q).1,λm=>?_,h.bd⟩
 ·obtain⟨d,f,a⟩:=h.al m g e;refine⟨d,f,?_⟩;rcases a with a|a|⟨a,l,j⟩
  ·exact .inl (acu _ a)
  ·exact .inr (.inl a)
  ·by_cases b:(g.front:Int)=r/\g.z1=s
   ·exact .inl (ab8 _ ((c m).mpr (by rw[<-b.1,<-b.2];exact l)))
   ·by_cases i:(g.bj:Int)=r/\g.z2=s
    ·exact .inl (ab8 _ ((c m).mpr (by rw[<-i.1,<-i.2];exact j)))
    ·exact .inr (.inr ⟨a,cX.mpr ⟨l,b⟩,cX.mpr ⟨j,i⟩⟩)
 ·rcases ach.mp o with q|q
  ·exact h.ab k q
  ·obtain⟨_,y,_,en,_,v,_⟩:=h.en _ _ _ ((c k).mp q);omega
 ·obtain⟨p,q,d,f⟩:=h.sl m;exact⟨p,q,λt u w=>d _ _ (cX.mp w).1,f⟩
theorem CI.ex {e:Nat->Int->Prop}(h:CI S bs gs ag W Ex x)(k:∀(r:Nat) s n,W r s n=true->r<S.made->Ex r s->(S.ao r=r/\S.by r s=none)\/e r s):CI S bs gs ag W e x:=by
 refine⟨h.len,h.al,h.de,h.ab,λr s n q=>?_,h.sl,h.bd⟩;obtain⟨g,f,rfl,rfl,a,b,c,d⟩:=h.en r s n q;exact⟨g,f,Y,Y,a,b,c,d.elim .inl (k g s f q a)⟩
end
structure fh (S:RS):Prop where
 a:∀c,c<S.made->S.ao c≠c->c∈S.aX
 b:∀c∈S.aX,S.ao c≠c
 c:∀c∈S.aX,c<S.made
section
variable {S S':RS}{pend:List Way}{w:Way}{R:Za2}{ks:List Int}
theorem EG {x:Nat}:(S.meet n z x m pend).1.aX=S.aX++[max x m]:=by
 have:=(fV (max x m) (S.joined n z (min x m) (max x m)) pend ((S.joined n z (min x m) (max x m)).way (max x m))).2;have:=ac5 RS.aX this;exact this
theorem sS (h:(S.takeIn pend w).1.aX=S.aX):(S.takeIn pend w).1.aS=S.aS:=by
 have no:∀{c x y:Nat} {z:Int},(S.meet c z x y pend).1.aX=S.aX->False:=λ{c x y z} e=>by
  rw[EG]at e;have:=ac5 List.length e
  grind
 unfold RS.takeIn at h ⊢;split
 ·rename_i q;rw[acv q]at h;exact(no h).elim
 ·rename_i q;rw[acm q]at h;split
  ·rename_i a;rw[acv a]at h;exact(no h).elim
  ·rfl
theorem fh.take (f:fh S)(h:Good S (pend++[w]) R)(j:∀c z d,R c z d->z∈ks):fh (S.takeIn pend w).1/\∃l,(S.takeIn pend w).1.aX=S.aX++l:=by
 obtain⟨_,_,g,_,q⟩:=h.take j;rcases q with ⟨_,_,e⟩|⟨_,c,z,x,y,o,_,p,r,k,_,e,el⟩
 ·have ee:=sS e;have el:∀a,(S.takeIn pend w).1.ao a=S.ao a:=λa=>by unfold RS.ao;rw[ee]
  refine⟨⟨λc hc=>?_,λc hc=>?_,λc hc=>by rw[g];rw[e]at hc;exact f.c c hc⟩,[],by rw[e,acD]⟩
  ·rw[g]at hc;rw[el,e];exact f.a c hc
  ·rw[e]at hc;rw[el];exact f.b c hc
 ·obtain⟨_,m,_,ex⟩:=h.st _ _ _ o;refine⟨⟨λa b=>?_,λa b=>?_,λa b=>?_⟩,[max x y],e⟩
  ·rw[g]at b;rw[el,e];intro i;by_cases q:S.ao a=a
   ·grind
   ·exact acu _ (f.a a b q)
  ·rw[el];rw[e]at b;rcases ach.mp b with q|q
   ·have i:=f.b a q
    grind
   grind
  ·rw[g];rw[e]at b;rcases ach.mp b with q|q
   ·exact f.c a q
   ·rw[acb.mp q];rcases ae9 x y with n|n <;> omega
inductive jP:RS->List Way->RS->Prop where
 |nil (S:RS):jP S [] S
 |take {S S':RS} {pend:List Way} {w:Way}:jP (S.takeIn pend w).1 (S.takeIn pend w).2 S'->jP S (pend++[w]) S'
theorem jP.all (l:jP S pend S'):Good S pend R->(∀c z d,R c z d->z∈ks)->fh S->Good S' [] R/\fh S'/\S'.made=S.made/\S'.L=S.L/\∃l,S'.aX=S.aX++l:=by
 induction l with
 |nil S=>exact λg _ w=>⟨g,w,Y,Y,[],(acD _).symm⟩
 |take _ i=>
  intro g e w;obtain⟨h,_,n,m,_⟩:=g.take e;obtain⟨f,l2,o⟩:=w.take g e;obtain⟨a,b,c,d,k,j⟩:=i h e f
  grind
end
section
variable {S S':RS}{R:Za2}{bs:List (Nat×List Int×Nat)}{gs:List (Option Gg)}{ag:List Nat}{W:bE}{n c d:Nat}{z:Int}
theorem CI.lay (h:CI S bs gs ag W fu (some n))(e:gs[n]?=some none)(g:Good S [] R)(x:Good S' [] (ft R c z d))(hm:S'.made=S.made)(O:fh S)(D:fh S'){l:List Nat}(L:S'.aX=S.aX++l)(hc:c<S.made)(N:S.ao c=c)(hd:d<S.made)(ed:S.ao d=d)
 (k:∀b,bs[n]?=some b->S'.ao b.2.2≠b.2.2\/wk S'.by b.2.2 b.2.1=some b.2.2):CI S' bs gs ag W (λr s=>(r=c/\s=z)\/(r=d/\s= -z)\/∃m∈l,r=m\/r=S'.ao m) none:=by
 have lt:=Later.of g x iO (aeJ hm.symm)
 have p:∀e,e<S.made->S.ao e=e->S'.ao e≠e->e∈l:=λe i j C=>by
  have:=D.a e (by rw[hm];exact i) C;rw[L]at this;rcases ach.mp this with q|q
  ·exact absurd j (O.b e q)
  omega
 have h0:CI S' bs gs ag W (λr s=>(r=c/\s=z)\/(r=d/\s= -z)\/∃m∈l,r=m\/r=S'.ao m) (some n):=by
  refine⟨h.len,λm u q=>?_,λm b A H Q=>?_,h.ab,λr s m q=>?_,h.sl,h.bd⟩
  ·obtain⟨i,j,C⟩:=h.al m u q;exact⟨i,j.later lt (aeJ hm.symm),C⟩
  ·by_cases t:S'.ao b.2.2=b.2.2
   ·right
    rcases h.de m b A H Q with q|q
    ·by_cases B:b.2.2<S.made
     ·have i:=(g.el _ B).1;have j:=(x.el _ (by rw[hm];exact g.lt B)).1;rw[lt.el _ B,t]at j;exact absurd (Nat.le_antisymm i j) q
     ·exfalso
      have G:S.aS.length=S.made:=g.wf.e;have I:S'.aS.length=S'.made:=x.wf.e;have J:S.ao b.2.2=0:=by unfold RS.ao;rw[acd,acN (by omega)];rfl
      have y:S'.ao b.2.2=0:=by unfold RS.ao;rw[acd,acN (by omega)];rfl
      exact q (by rw[J,<-y,t])
    ·have:=lt.wk q;rw[t]at this;exact this
   ·exact .inl t
  ·obtain⟨f,P,t,U,F,M,G,q⟩:=h.en r s m q;refine⟨f,P,t,U,by rw[hm];exact F,M,G,?_⟩;rcases q with ⟨A,H⟩|q
   ·by_cases i:S'.ao f=f
    ·cases j:S'.by f s with
     |none=>exact .inl ⟨i,Y⟩
     |some o=>
      right
      obtain⟨w,T,v,f1,X⟩:=x.so _ _ _ j
      have stand:∀e,e<S.made->S.ao e=e->S'.ao e=f->e=f\/∃m∈l,f=m\/f=S'.ao m:=λe a1 V Z=>by
       grind
      rcases v with v|⟨rfl,rfl,rfl⟩|⟨rfl,rfl,rfl⟩
      ·obtain⟨E,l2,_⟩:=g.rl _ _ _ v;rcases stand (S.ao w) (g.lt E) (g.el _ E).2 (by rw[lt.el _ E];exact f1) with a|a
       ·have:=g.qN.mpr ⟨w,T,v,a,Y⟩
        grind
       ·exact .inr (.inr a)
      ·rcases stand w hc N f1 with a|a
       ·exact .inl ⟨a.symm,Y⟩
       ·exact .inr (.inr a)
      ·rcases stand w hd ed f1 with a|a
       ·exact .inr (.inl ⟨a.symm,Y⟩)
       ·exact .inr (.inr a)
    ·exact .inr (.inr (.inr ⟨f,p f F A i,.inl Y⟩))
   ·exact q.elim
 exact h0.done e k
end
def b8 (by_:Nat->Int->Option Nat):Nat->List Int->List Nat
 |_,[]=>[]
 |r,z::a=>match by_ r z with
  |none=>[]
  |some b=>b::b8 by_ b a
theorem xR {by_:Nat->Int->Option Nat}(h:by_ n z=none):b8 by_ n (z::l)=[]:=by
 show (match by_ n z with|none=>[]|some b=>b::b8 by_ b l)=[];rw[h]
theorem mE {by_:Nat->Int->Option Nat}(h:by_ n z=some m):b8 by_ n (z::l)=m::b8 by_ m l:=by
 show (match by_ n z with|none=>[]|some m=>m::b8 by_ m l)=_;rw[h]
def kY (w:Nat)(p:List Nat)(k:Nat):Dt:=.t [.s [114,117,108,101],.i w,.t (p.map λc:Nat=>Dt.i (c:Int)),.i k]
structure uX (ws:Za3) (nr:Nat) (S:RS) (which:Nat) (word:List Int) (start m c d:Nat) (z:Int):Prop where
 w:ws[which]?=some word
 n:which<nr\/start=0
 s:start<S.made/\S.ao start=start
 hz:word[m]?=some z
 f:wk S.by start (word.take m)=some c
 r:wk S.by d (word.drop (m+ 1))=some start
 hc:c<S.made/\S.ao c=c
 hd:d<S.made/\S.ao d=d
 o:S.by c z≠some d
def pz (S:RS)(a:Nat)(word:List Int)(start m d:Nat):RS:={ S with rows:=S.rows++[kY a ((start::b8 S.by start (word.take m))++(d::b8 S.by d (word.drop (m+ 1)))) m] }
inductive Tr (ws:Za3) (nr:Nat):RS->RS->Prop where
 |refl (S:RS):Tr ws nr S S
 |step {S S1 S2:RS} {which:Nat} {word:List Int} {start m c d:Nat} {z:Int}:Tr ws nr S S1->uX ws nr S1 which word start m c d z->jP (pz S1 which word start m d) [(c,z,d)] S2->Tr ws nr S S2
def xS (S:RS)(c:Nat)(word:List Int):Prop:=wk S.by c word=some c\/∃(i j f r:Nat) (y z:Int),i<j/\word[i]?=some y/\word[j]?=some z/\wk S.by c (word.take i)=some f/\S.by f y=none/\wk S.by r (word.drop (j+ 1))=some c/\S.by r (-z)=none
structure wI (rs ps:Za3) (S:RS):Prop where
 r:∀w∈rs,∀c,c<S.made->S.ao c=c->xS S c w
 p:∀w∈ps,xS S 0 w
def UW (U:Za2):Nat->List Int->Nat->Prop
 |p,[],q=>p=q
 |p,z::w,q=>∃r,U p z r/\UW U r w q
structure SN (ws:Za3) (nr M:Nat) (φ:Nat->Nat) (U:Za2):Prop where
 sy:∀p z q,U p z q->U q (-z) p
 fn:∀p z q q',U p z q->U p z q'->q=q'
 cl:∀(which:Nat) (word:List Int) (start m c d:Nat) (z:Int),ws[which]?=some word->which<nr\/start=0->start<M->word[m]?=some z->UW U (φ start) (word.take m) (φ c)->UW U (φ d) (word.drop (m+ 1)) (φ start)->U (φ c) z (φ d)
section
variable {S S':RS}{R:Za2}{φ:Nat->Nat}{U:Za2}{ks:List Int}
theorem uY (k:∀p z q e,U p z q->U p z e->q=e)(d:∀a z b,R a z b->U (φ a) z (φ b)){a b:Nat}(h:Cg R a b):φ a=φ b:=by
 induction h with
 |refl=>rfl
 |symm _ c=>exact c.symm
 |trans _ _ g f=>exact g.trans f
 |step i j _ c=>exact k _ _ _ _ (d _ _ _ i) (by rw[c];exact d _ _ _ j)
theorem NW (g:Good S [] R)(i:∀p z q f,U p z q->U p z f->q=f)(e:∀a z b,R a z b->U (φ a) z (φ b)){c d:Nat}{z:Int}(h:S.by c z=some d):U (φ c) z (φ d):=by
 obtain⟨s,n,r,o,t⟩:=g.so _ _ _ h;obtain⟨k,j,_⟩:=g.rl _ _ _ r;have m:=uY i e (g.cg _ k);have l:=uY i e (g.cg _ j)
 grind
theorem zl (h:∀c z d,S.by c z=some d->U (φ c) z (φ d)):∀{w:List Int} {c d:Nat},wk S.by c w=some d->UW U (φ c) w (φ d)
 |[],c,d,e=>by rw[Za0 e];rfl
 |z::w,c,d,e=>by
  obtain⟨f,b,a⟩:=gx e;exact⟨_,h _ _ _ b,zl h a⟩
theorem Tr.sound {ws:Za3}(t:Tr ws n S S')(l:SN ws n m φ U)(s:∀w∈ws,∀z∈w,z∈ks/\-z∈ks):Good S [] R->fh S->S.made<=m->(∀a z b,R a z b->z∈ks)->(∀a z b,R a z b->U (φ a) z (φ b))->
 ∃j,Good S' [] j/\fh S'/\S'.made=S.made/\S'.L=S.L/\(∀a z b,R a z b->j a z b)/\(∀a z b,j a z b->z∈ks)/\∀a z b,j a z b->U (φ a) z (φ b):=by
 induction t with
 |refl=>exact λg w _ k h=>⟨R,g,w,Y,Y,λ_ _ _ r=>r,k,h⟩
 |step _ ra H A=>
  rename_i I J which word start f c d z _;intro g E F k h;obtain⟨D,g1,o,v,G,B,k1,p⟩:=A g E F k h;have b1:=λc z d=>NW (c:=c) (d:=d) (z:=z) g1 l.fn p
  have u:=l.cl which word start f c d z ra.w ra.n (by have:=ra.s.1;omega) ra.hz (zl b1 ra.f) (zl b1 ra.r);have hz:=s word (ab4 ra.w) z (ab4 ra.hz)
  have i:∀a y b,ft D c z d a y b->y∈ks:=by
   rintro a y b (r|⟨_,e,_⟩|⟨_,e,_⟩)
   ·exact k1 _ _ _ r
   ·rw[e];exact hz.1
   ·rw[e];exact hz.2
  obtain⟨C,x,q,l2,_⟩:=H.all (g1.lay z ra.hc.1 ra.hd.1 _) i ⟨o.a,o.b,o.c⟩;refine⟨_,C,x,q.trans v,l2.trans G,λa y b r=>.inl (B _ _ _ r),i,?_⟩;rintro a y b (r|⟨rfl,rfl,rfl⟩|⟨rfl,rfl,rfl⟩)
  ·exact p _ _ _ r
  ·exact u
  ·exact l.sy _ _ _ u
end
end L2
namespace L2
open PySem PySem.Spec PyProof.Rows
section
variable {X:Cx}
def Lg (K:Za1)(h:TA)(g:TE):TI:=λ c H R=>h c H λe d=>g c d λz b=>∃a n,e=[.ref a]/\z=.int n/\0<=n/\n<1000/\(∃f,aI K b a f)/\R (r0 K a n) b
def NX (Q:V->Hp->Prop):List V->Hp->Prop
 |[z],H=>Q z H
 |_,_=>False
theorem Lh {Q:V->Hp->Prop}:∀{a:List V} {H:Hp},NX Q a H->∃z,a=[z]/\Q z H
 |[z],_,h=>⟨z,Y,h⟩
 |[],_,h=>h.elim
 |_::_::_,_,h=>h.elim
theorem EH {b:Expr}{E:TE}{elts:List Expr}{g a kp:Pos}(V:Gl X "enumerate")(U:X.mg "enumerate"=none)(he:PE X e r)(k:PE X b E)
 (G:starEach [e] X.env=(false,eval e X.env)::starEach [] X.env:=by rfl)
 (D:((backTo a (starEach [e] X.env)).any (·.1) || (backToKw a (keywordEach [⟨some "start",b,kp⟩] X.env)).any (·.1.isNone))=false:=by rfl):
 PI X (.Tuple elts n p) (.Call (.Name "enumerate" g) [e] [⟨some "start",b,kp⟩] a) (Lg X.K (jq r ku) E):=by
 intro i s B H R I h;refine adh (iw I V U boot_enumerate ?_);refine PySem.W.callWith_of (P:=λ_=>True) D (λ_ _=>⟨.machine,.inr (.inl Y),λ_ _ _ _ _ q=>ab7 q⟩) (evalArgs_kw2 Y (aY ((ae he ak G) a i s B H _ I h) λus N ⟨L,H1,W,d,q⟩=>?_) G);refine aY ((Be k DR:PK X [⟨some "start",b,kp⟩] _) a i N B H1 (NX λz m=>∃e c,L=[.ref e]/\z=.int c/\0<=c/\c<1000/\(∃F,aI X.K m e F)/\R (r0 X.K e c) m) W q) λws s2 ⟨zs,m,j,Q,Z⟩=>⟨True.intro,?_⟩
 obtain⟨z,rfl,l,c,e2,rfl,C,x,A,S⟩:=Lh Z;subst e2;obtain⟨F,A⟩:=A;obtain⟨u,rfl,ru⟩:=vals1 d;cases ru;obtain⟨u2,rfl,t2,rfl⟩:=vals1 Q;obtain⟨O,rv,pl,hz⟩:=j.list A;show wpAny _ _ (call (.type "enumerate") [.ref l] [("start",.int c t2)]) _ _ s2;refine En.AQ pl.isList C x λt y hit M=>?_
 have J:Inv X i B m { s2 with heap:=t }:=j.kept (t':=s2.toks) M;have o:(∃v,IsEnum t (s2.heap.objs.size+ 1) s2.heap.objs.size (c+ ((0:Nat):Int)) v)/\t.IsListIter s2.heap.objs.size l 0:=⟨⟨_,by rw[show c+ ((0:Nat):Int)=c by omega];exact y⟩,hit⟩;have T:=AU (P:=X.prog) (w:=X.w) (K:=X.K) (elts:=elts) (x1:=n) (tp:=p) (s2.heap.objs.size+ 1) s2.heap.objs.size l c (Nat.succ_ne_self _);refine T.self _ 0 { s2 with heap:=t } _ _ o ⟨_,_,_,_,m,Y,J,T,o,λb k=>?_,S⟩;rcases aci.mp k with f|k
 ·subst f;exact j.oX (aex _) (j.aL.fresh (aex _))
 ·rw[acb.mp k];exact j.oX (aca _) (j.aL.fresh (aca _))
end
section
variable {prog:Program} {w:World} {K:Type} [DecidableEq K] {knd:HeapKind prog w K} {A:Around} {E:Value->Shared->Prop} {s:Shared} {d a:Addr} {k:K} {xs:List (K×Addr×Value)}
theorem AV {dflt:Value}(l:knd.room A)(b:knd.is s.heap k a)(t:s.heap.DictOfH knd d xs)
 (u:∀v,(atKey xs k).map (·.2)=some v->Q v { s with toks:=s.toks+ knd.draws k })
 (x:atKey xs k=none->∀i,i.DictOfH knd d (storedH xs k a dflt)->Heap.SameBut d s.heap i->Q dflt { s with heap:=i,toks:=s.toks+ knd.draws k })
 (B:xs.length<=sizeLine):wpAny (model prog w) A (dictSetDefault d (.ref a) dflt) Q E s:=by
 obtain⟨H,C,z,f,g2,c,h,m,o⟩:=t;unfold dictSetDefault
 first|(with_reducible refine ac1 ?_)|skip
 refine ab1 (knd.pyHash l b (ab1 (wpAny_dictFind_heap (s:={ s with toks:=s.toks+ knd.draws k }) l b f c h m o (λno=>?_) (λj p n=>?_))))
 ·have G:k∉xs.map (·.1):=not_mem_keys_of_get no;have g:=atKey_none_of_get no;refine ab1 (afo (ab1 (wpAny_updateDictKeys (hz:=by have e:=size_of_entries h;omega) (s:={ s with toks:=s.toks+ knd.draws k }) f c (ab7 (x g _ ?_ (ady ..))))));refine⟨_,_,z+ 1,acL _ f (Obj.isFreed_of_dict (Obj.data_mapDictKeys c _)),g2.mapDictKeys _,Obj.data_mapDictKeys c _,?_,?_,?_⟩
  ·rw[storedH_new g];simp[h,entryOfKey]
  ·rw[storedH_new g];intro y D;rcases ach.mp D with q|q
   ·exact knd.keeps (m y q) f c (ady ..)
   ·rw[acb.mp q];exact knd.keeps b f c (ady ..)
  ·rw[storedH_new g,acR,acZ]
   grind
 ·have r:=atKey_of_get o n;refine ab1 (ad0 (s:={ s with toks:=s.toks+ knd.draws k }) f c ?_)
  have F:C[j]?=some (entryOfKey knd (k,p)):=by
   rw[entry_at h j,n];rfl
  rw[F];exact ab1 (afo (ab7 (u _ (by rw[r];rfl))))
theorem yl (knd:HeapKind prog w K)(d a:Addr)(l:(d==sysModules)=false)(dflt:Value):MeetsIn prog w (Builtin.«dict.setdefault» ⟨[.ref d,.ref a,dflt],[]⟩) (λA R s=>knd.room A.in1/\∃k xs,knd.is s.heap k a/\s.heap.DictOfH knd d xs/\xs.length<=sizeLine/\
 (∀v,(atKey xs k).map (·.2)=some v->R (.ok (.ret v)) { s with toks:=s.toks+ knd.draws k })/\(atKey xs k=none->∀b,b.DictOfH knd d (storedH xs k a dflt)->Heap.SameBut d s.heap b->R (.ok (.ret dflt)) { s with heap:=b,toks:=s.toks+ knd.draws k })):=
 .of_wp λA R s ⟨f,k,xs,c,hm,n,m,e⟩=>by
  unfold Builtin.«dict.setdefault» Builtin.Dict.keyAndDefault;refine ab1 (ab1 (aeR hm.typeIs ?_));show wpAny _ _ (pure (d,Value.ref a,some dflt)) _ _ s;refine ab7 ?_;show wpAny _ _ (if (d==sysModules)=true then _ else (dictSetDefault d (.ref a) dflt >>=_)) _ _ s;rw[l];exact ab1 (AV f c hm (λv i=>ab7 ⟨v,Y,m v i⟩) (λj b g h=>ab7 ⟨dflt,Y,e j b g h⟩) n)
end
inductive NZ (a:Addr) (y z:V) (H:Hp) (Q:VK):Prop
 |mk (kvs:List (List Key×V)) (k:List Key) (b:Addr):H a=some (.dT kvs)->y=.ref b->H b=some (.tup (k.map kV))->kvs.length<sizeLine->(∀v,bz kvs k=some v->Q v H)->(bz kvs k=none->Q z (upd H a (.dT (putK kvs k z))))->NZ a y z H Q
def N0 (td d tx:TE):TE:=λ b H Q=>td b H λx c=>Bq x c λa=>d b c λy e=>tx b e λz f=>NZ a y z f Q
section
variable {X:Cx}{o e f:Expr}{apos bX:Pos}{td ty tx:TE}
theorem He (M:X.A.units+ 1<cLine)(ho:PE X o td)(he:PE X e ty)(hf:PE X f tx)(m:M2 X o "setdefault" apos e f bX):PE X (.Call (.Attribute o "setdefault" apos) [e,f] [] bX) (N0 td ty tx):=by
 intro j s r H Q I h;refine aem m.base m.few m.line ado adW PySem.F.type_dict_setdefault (aY (ho j s r H _ I h) λu R ⟨x,H1,G,U,a,ex,d,S⟩=>?_);subst ex;obtain rfl:u=Value.ref a:=U;obtain⟨t1,t2,_⟩:=lD G d;refine⟨t1,t2,?_⟩;rw[m.trees]
 refine ac6 Y (adE (ac2 (aY (he j R r H1 _ G S) λP s2 ⟨y,H2,I2,ry,q2⟩=>
  ac2 (aY (hf j s2 r H2 _ I2 q2) λfv s3 ⟨z,B,n,C,i,k,b,t,ey,D,V,q3,q4⟩=>adJ ?_))))
 subst ey;cases (show P=Value.ref b from ry);obtain⟨hz,E,xs,rel,L⟩:=I0 n.aL t;have g:=rel.val k;have p:xs.length<=sizeLine:=by rw[<-Paired.length rel];exact hz
 refine aew adW L.typeIs PySem.F.entry_dict_setdefault (PySem.F.args_dict_setdefault_3 _ _ _) (yl _ a b E fv) ⟨ad9 M,k,xs,lC n.aL D,L,p,λv Z=>?_,λW g1 w sb=>?_⟩
 ·rw[Z]at g
  cases l:bz i k with
  |none=>rw[l]at g;exact g.elim
  |some A=>
   rw[l]at g;exact⟨A,B,n.tok _,g,q3 A l⟩
 ·rw[W]at g
  cases l:bz i k with
  |some A=>rw[l]at g;exact g.elim
  |none=>
   have T:(putK i k z).length<=sizeLine:=by have:=gC i k z;omega
   obtain⟨q,es,N,F,h2,h3,h4,_,O⟩:=w;refine⟨z,upd B a (.dT (putK i k z)),jN n (by rw[t];exact True.intro) sb ⟨q,F⟩ ⟨T,E,_,(rel.put k D C).keeps λc ys J=>?_,q,es,N,F,h2,h3,h4,O⟩,C,q4 l⟩;rw[ai (b6 J t (λz=>nomatch z))];exact J
end
section
variable {H:Hp}{k:Addr}{D:Int->Option Addr}{E:Int->Int->Option Addr}{S:bE}
theorem dF.Hf (h:dF H k D E S){c s:Int}{d:Addr}(hd:D c=some d){l:List (Key×V)}(u:H d=some (.dK l)):
 dF (upd H d (.dK (eP l (Sum.inl s)))) k D (λf g=>if f=c/\g=s then none else E f g) (fM S c s):=by
 obtain⟨m,v,C,F,A⟩:=h.row c d hd;rw[u]at v;obtain rfl:l=m:=by grind
 have un:∀{f g:Int} {z:Addr},(if f=c/\g=s then none else E f g)=some z->¬(f=c/\g=s)/\E f g=some z:=λ{f g z} q=>by
  grind
 refine⟨h.top.at λo q=>?_,λf r j=>?_,λf g n i=>?_,λf g n i=>h.ed _ _ _ (un i).2,λf g o B=>?_,h.nd,λf g n i=>h.ne _ _ _ (un i).2,h.dd,λf y g r j i=>h.de _ _ _ _ j (un i).2,λf g y G n w x=>h.ee _ _ _ _ _ (un w).2 (un x).2⟩
 ·rw[ai (h.nd c d hd).symm];exact q
 ·by_cases t:f=c
  ·subst t;obtain rfl:r=d:=by grind
   refine(La C F A s).congr λg=>?_
   grind
  ·refine((h.row f r j).at λo q=>by rw[ai λz=>t (h.dd _ _ _ j (by rw[z];exact hd))];exact q).congr λg=>?_
   grind
 ·obtain⟨ne,p⟩:=un i;refine((h.xP f g n p).at λo q=>by rw[ai (λz=>h.de c f g d hd (by rw[<-z];exact p))];exact q).congr λo=>?_
  have:fM S c s f g o=S f g o:=by
   rw[ads,cX];exact⟨λz=>z.1,λz=>⟨z,ne⟩⟩
  rw[this]
 ·obtain⟨a,b⟩:=cX.mp B;obtain⟨e,p⟩:=h.se _ _ _ a
  grind
end
structure N1 (k:Addr) (D:Int->Option Addr) (E:Int->Int->Option Addr) (W:bE) (O:Addr->Prop):Prop where
 o:∀b,ud k D E b->O b
 d:∀c x,D c=some x->0<=c/\c<100000
 e:∀c s x,E c s=some x-> -1000<=s/\s<=1000
 w:∀c s n,W c s n=true->0<=n/\n<100000
def nM (H:Hp)(k:Addr)(W:bE)(O:Addr->Prop):Prop:=∃D E,dF H k D E W/\N1 k D E W O
def fi (H:Hp)(k:Addr)(W:bE)(O:Addr->Prop)(c:Int)(d:Addr):Prop:=∃D E,dF H k D E W/\N1 k D E W O/\D c=some d
def pA (H:Hp)(k:Addr)(W:bE)(O:Addr->Prop)(c s:Int)(e:Addr):Prop:=∃D E,dF H k D E W/\N1 k D E W O/\E c s=some e
def EI (O:Addr->Prop)(p:Addr):Addr->Prop:=λb=>O b\/b=p
section
variable {H H':Hp}{k:Addr}{W:bE}{O:Addr->Prop}{c s:Int}{d e p:Addr}
theorem nM.keep (h:nM H k W O)(f:∀b o,O b->H b=some o->H' b=some o):nM H' k W O:=by
 obtain⟨D,E,i,a⟩:=h;exact⟨D,E,i.keep λb o g q=>f b o (a.o b g) q,a⟩
theorem nM.pT (h:nM H k W O):Bp H k:=by
 obtain⟨D,E,a,_⟩:=h;obtain⟨b,q,_⟩:=a.top;exact .inl ⟨b,.inl q⟩
theorem nM.room (h:nM H k W O)(t:H p=none)(hc:0<=c/\c<100000):∃a,upd H p (.dK []) k=some (.dK a)/\a.length<sizeLine/\(∀v,bz a (Sum.inl c)=some v->∃d,v=.ref d/\fi (upd H p (.dK [])) k W O c d)/\
 (bz a (Sum.inl c)=none->fi (upd (upd H p (.dK [])) k (.dK (putK a (Sum.inl c) (.ref p)))) k W (EI O p) c p):=by
 obtain⟨D,E,r,g⟩:=h;have u:=ay.upd (o:=.dK []) t;have k1:=r.same u;obtain⟨a,m,y,A,l⟩:=k1.NK;have nw:¬ud k D E p:=λz=>by obtain⟨B,q⟩:=r.there z;grind
 refine⟨a,m,?_,λv f=>?_,λf=>?_⟩
 ·refine ace (uV (n:=100000) (lo:=0) y A l λi v f=>?_) (by decide)
  cases e:D i with
  |none=>rw[e]at f;cases f
  |some x=>have:=g.d i x e;omega
 ·rw[l]at f;obtain⟨d,hd,rfl⟩:=adf.mp f;exact⟨d,Y,D,E,k1,g,hd⟩
 ·rw[l]at f;have hd:D c=none:=afl.mp f;refine⟨_,E,k1.Lc hd m ah nw,⟨λb w=>?_,λj x q=>?_,g.e,g.w⟩,acv Y⟩
  ·rcases w with z|⟨j,z⟩|z
   ·exact .inl (g.o b (.inl z))
   ·dsimp only at z;by_cases e:j=c
    ·rw[acv e]at z;exact .inr (Za0 z).symm
    ·rw[acm e]at z;exact .inl (g.o b (.inr (.inl ⟨j,z⟩)))
   ·exact .inl (g.o b (.inr (.inr z)))
  ·by_cases e:j=c
   ·rw[e];exact hc
   ·rw[acm e]at q;exact g.d j x q
theorem fi.pT (h:fi H k W O c d):Bp H d:=by
 obtain⟨D,E,b,g,a⟩:=h;obtain⟨f,q,_⟩:=b.row c d a;exact .inl ⟨f,.inl q⟩
theorem fi.own (h:fi H k W O c d):O d:=by
 obtain⟨D,E,f,a,b⟩:=h;exact a.o d (.inr (.inl ⟨c,b⟩))
theorem fi.same (h:fi H k W O c d)(s:ay H H'):fi H' k W O c d:=by
 obtain⟨D,E,f,a,b⟩:=h;exact⟨D,E,f.same s,a,b⟩
theorem fi.cell (h:fi H k W O c d)(w:H p=none)(B: -1000<=s/\s<=1000):∃a,upd H p (.dK []) d=some (.dK a)/\a.length<sizeLine/\(∀v,bz a (Sum.inl s)=some v->∃e,v=.ref e/\pA (upd H p (.dK [])) k W O c s e)/\
 (bz a (Sum.inl s)=none->pA (upd (upd H p (.dK [])) d (.dK (putK a (Sum.inl s) (.ref p)))) k W (EI O p) c s p):=by
 obtain⟨D,E,u,g,hd⟩:=h;have y:=ay.upd (o:=.dK []) w;have k1:=u.same y;obtain⟨a,t,C,F,m⟩:=k1.Hd hd;have nw:¬ud k D E p:=λz=>by obtain⟨G,q⟩:=u.there z;grind
 refine⟨a,t,?_,λv f=>?_,λf=>?_⟩
 ·refine ace (uV (n:=2001) (lo:=-1000) C F m λi v f=>?_) (by decide)
  cases e:E c i with
  |none=>rw[e]at f;cases f
  |some x=>have:=g.e c i x e;omega
 ·rw[m]at f;obtain⟨e,r,rfl⟩:=adf.mp f;exact⟨e,Y,D,E,k1,g,r⟩
 ·rw[m]at f;have r:E c s=none:=afl.mp f;refine⟨D,_,k1.Lb hd r t ah nw,⟨λb A=>?_,g.d,λl j x q=>?_,g.w⟩,acv ⟨Y,Y⟩⟩
  ·rcases A with z|z|⟨l,j,z⟩
   ·exact .inl (g.o b (.inl z))
   ·exact .inl (g.o b (.inr (.inl z)))
   ·dsimp only at z;by_cases e:l=c/\j=s
    ·rw[acv e]at z;exact .inr (Za0 z).symm
    ·rw[acm e]at z;exact .inl (g.o b (.inr (.inr ⟨l,j,z⟩)))
  ·by_cases e:l=c/\j=s
   ·rw[e.2];exact B
   ·rw[acm e]at q;exact g.e l j x q
theorem pA.own (h:pA H k W O c s e):O e:=by
 obtain⟨D,E,f,a,b⟩:=h;exact a.o e (.inr (.inr ⟨c,s,b⟩))
theorem pA.put (h:pA H k W O c s e){n:Int}(l:0<=n/\n<100000):∃a,H e=some (.dK a)/\a.length<sizeLine/\nM (upd H e (.dK (putK a (Sum.inl n) (.bl true)))) k (addW W c s n) O:=by
 obtain⟨D,E,g,b,j⟩:=h;obtain⟨a,f,o,r,m⟩:=g.NM j;refine⟨a,f,?_,D,E,g.NP j f n,b.o,b.d,b.e,λx u y q=>?_⟩
 ·refine ace (uV (n:=100000) (lo:=0) o r m λi v t=>?_) (by decide);by_cases w:W c s i=true
  ·have:=b.w _ _ _ w;omega
  grind
 ·rcases dk.mp q with q|⟨_,_,q⟩
  ·exact b.w _ _ _ q
  ·rw[q];exact l
theorem nM.get (h:nM H k W O):∃o,fI H k (.int c) o/\((o=none/\∀s n,W c s n=false)\/∃d,o=some (.ref d)/\fi H k W O c d):=by
 obtain⟨D,E,a,b⟩:=h;obtain⟨j,f,m,q,l⟩:=a.NK;have g:=fI.k (k:=Sum.inl c) f;rw[l]at g;refine⟨_,g,?_⟩
 cases e:D c with
 |none=>
  refine .inl ⟨Y,λs n=>?_⟩
  cases w:W c s n with
  |false=>rfl
  |true=>
   obtain⟨x,i⟩:=a.se _ _ _ w;obtain⟨y,r⟩:=a.ed _ _ _ i
   grind
 |some d=>exact .inr ⟨d,Y,D,E,a,b,e⟩
theorem zm:∀{a:List (Key×V)},(a.map (·.1)).Nodup->(∀b∈a,∃n:Nat,b.1=Sum.inl (n:Int))->∃ns:List Nat,a.map (λb=>kV b.1)=av (nI ns)/\ns.Nodup/\∀n:Nat,n∈ns↔Sum.inl (n:Int)∈a.map (·.1)
 |[],_,_=>⟨[],Y,adM,λn=>⟨(λz=>by cases z),(λz=>by cases z)⟩⟩
 |b::r,f,h=>by
  rw[adi,acK]at f;obtain⟨ns,j,l,i⟩:=zm f.2 λx o=>h x (acG _ o)
  obtain⟨m,g⟩:=h b (ack ..);refine⟨m::ns,?_,acK.mpr ⟨λz=>f.1 (by rw[g];exact(i m).mp z),l⟩,λn=>?_⟩
  ·rw[adi,j,g];rfl
  grind
theorem BE {a:List (Key×V)}{v:V}(h:bz a (Sum.inl z)=some v):Sum.inl z∈a.map (·.1):=adl.mpr ⟨_,Hc h,Y⟩
theorem fi.pop (h:fi H k W O c d)(s:Int):∃a,H d=some (.dK a)/\(bz a (Sum.inl s)=none->∀n,W c s n=false)/\
 ∀v,bz a (Sum.inl s)=some v->∃(e:Addr) (f:List (Key×V)) (ns:List Nat),v=.ref e/\e≠d/\H e=some (.dK f)/\f.map (λt=>kV t.1)=av (nI ns)/\ns.Nodup/\(∀n:Nat,n∈ns↔W c s n=true)/\nM (upd H d (.dK (eP a (Sum.inl s)))) k (fM W c s) O:=by
 obtain⟨D,E,j,l,hd⟩:=h;obtain⟨a,A,Q,R,C⟩:=j.Hd hd;refine⟨a,A,λu n=>?_,λv u=>?_⟩
 ·rw[C]at u
  cases w:W c s n with
  |false=>rfl
  |true=>
   obtain⟨x,S⟩:=j.se _ _ _ w
   grind
 ·rw[C]at u;obtain⟨e,F,rfl⟩:=adf.mp u;obtain⟨f,I,B,M,N⟩:=j.NM F
  have r:∀i:Int,Sum.inl i∈f.map (·.1)↔W c s i=true:=λi=>by
   constructor
   ·intro z;obtain⟨t,g,e⟩:=adl.mp z;have:=zi B g
    grind
   ·intro w;exact BE (v:=.bl true) (by rw[N,acv w])
  obtain⟨ns,J,P,G⟩:=zm B λt g=>by
   obtain⟨i,y⟩:=M t g;have:=l.w _ _ _ ((r i).mp (by rw[<-y];exact aeA g));exact⟨i.toNat,by rw[y];congr 1;omega⟩
  refine⟨e,f,ns,Y,λz=>j.de _ _ _ _ hd (by rw[<-z];exact F),I,J,P,λn=>(G n).trans (r n),_,_,j.Hf hd A,⟨λb L=>l.o b ?_,l.d,λo m x q=>?_,λo m n q=>l.w _ _ _ (cX.mp q).1⟩⟩
  ·rcases L with z|z|⟨o,m,z⟩
   ·exact .inl z
   ·exact .inr (.inl z)
   ·dsimp only at z;by_cases e:o=c/\m=s
    ·grind
    ·rw[acm e]at z;exact .inr (.inr ⟨o,m,z⟩)
  ·by_cases e:o=c/\m=s
   ·rw[acv e]at q;cases q
   ·rw[acm e]at q;exact l.e _ _ _ q
theorem EJ {P:Nat->Bool}{G:Nat}:∀{ns:List Nat},ns.Nodup->(∀n∈ns,n<G/\P n=true)->ns.length<=(List.range G).countP P:=by
 intro ns
 induction ns generalizing P with
 |nil=>exact λ_ _=>acF _
 |cons m r j=>
  intro b h;rw[acK]at b;obtain⟨f,g⟩:=h m (ack ..);have:=kT (p:=P) (p':=λa=>P a && decide (a≠m)) (v:=m) (λa=>rfl) g G;rw[acv f]at this
  grind
theorem wJ {W:bE}{c s:Int}(h:∀n,W c s n=false):fM W c s=W:=by
 funext a b n
 rw[ads,cX]
 grind
end
end L2
namespace L2
section
variable {S:RS}{R:Za2}
theorem zo (g:Good S [] R):∀{w:List Int} {c d e:Nat},wk S.by c w=some e->wk S.by d w=some e->c=d
 |[],c,d,e,b,a=>by rw[Za0 b,Za0 a]
 |z::w,c,d,e,b,a=>by
  obtain⟨n,j,i⟩:=gx b;obtain⟨l,h,f⟩:=gx a;have:=zo g i f;subst this;have m:=g.sy _ _ _ j;have k:=g.sy _ _ _ h
  grind
theorem zp (g:Good S [] R){p c d m:Nat}{word:List Int}{z:Int}(h:xS S p word)(u:word[m]?=some z)(k:wk S.by p (word.take m)=some c)(l:wk S.by d (word.drop (m+ 1))=some p):S.by c z=some d:=by
 have J:=(ab5.mp u).1;rcases h with h|⟨i,j,f,r,y,t,v,A,C,w,M,B,s⟩
 ·have:word=word.take m++(z::word.drop (m+ 1)):=by rw[<-drop_cons u,adS]
  rw[this,nL k]at h;obtain⟨e,D,F⟩:=gx h;rw[D,zo g F l]
 ·exfalso
  have a:m<=i:=by
   rcases ae8 i m with q|q
   ·exfalso
    have e:word.take m=word.take i++(y::(word.take m).drop (i+ 1)):=by
     have n:(word.take m)[i]?=some y:=by rw[List.getElem?_take,acv q];exact A
     rw[<-drop_cons n];have:word.take i=(word.take m).take i:=by rw[List.take_take,aes (by omega)]
     rw[this,adS]
    rw[e,nL w]at k;obtain⟨x,I,_⟩:=gx k
    grind
   ·exact q
  have b:j<=m:=by
   rcases ae8 m j with q|q
   ·exfalso
    have o:(word.drop (m+ 1))[j - (m+ 1)]?=some t:=by rw[List.getElem?_drop,show m+ 1+ (j - (m+ 1))=j by omega];exact C
    have e:word.drop (m+ 1)=(word.drop (m+ 1)).take (j - (m+ 1))++(t::word.drop (j+ 1)):=by
     have:word.drop (j+ 1)=(word.drop (m+ 1)).drop (j - (m+ 1)+ 1):=by rw[List.drop_drop];congr 1;omega
     rw[this,<-drop_cons o,adS]
    rw[e]at l;obtain⟨x,_,G⟩:=zk l;obtain⟨L,H,E⟩:=gx G;have:=zo g E B;subst this;rw[g.sy _ _ _ H]at s;cases s
   ·exact q
  omega
end
end L2
namespace L2
open PySem PySem.Spec PyProof.Rows
theorem Li {CX:kJ}{base:Heap}{k:Nat}{name qual:Str}{params:Arguments}{body:Expr}{scope:Scope}{j:List Str}
 {A:Around} {f:List Env} {s:Shared} {H:Hp} {h:Args} {us:List Value} {vs:List V} {Q:VK} {E:XK} {t:TE} (S:aV Z j scope) (B:vs.length=j.length) (p:cH (k+ 1) A) (l:lg P w K M base A f s H)
 (O:s.heap.get? a=some (PySem.W.kla_obj name qual params body scope [] v c u)) (m:s.heap.CodeRec (.ref c) qual) (C:bindArgs (PySem.W.kla_fn name qual params body scope [] v (.ref c) u) h=pure (j.zip us)) (r:Vals vs us)
 (L:PE (cf CX P w K M base Z qual scope a (.ref c) A f s H E) body t) (D:t (start Z vs) H Q):codeAny (model P w) A (.call (.ref a) h) (CR CX f P w H s Q E) s:=by
 have lim:s.heap.NoLimit:=l.mod.nolimit.keeps λb o e=>(l.bs b o e).1
 have i:∀y∈j.zip us,scope.names.lookup y.1=some .local\/(scope.names.lookup y.1=some .cell/\((cellsFrom (s.heap.objs.size+ 1) scope.names []).lookup y.1).isSome=true):=λ⟨n,g⟩ R=>by
  rcases S.par n (List.of_mem_zip R).1 with q|q
  ·exact .inl q
  ·exact .inr ⟨q,afj _ _ _ (.inl q)⟩
 refine PySem.W.kla_callFunE p.depth O Y S.co S.gen Y m ?_;rw[C];refine ab7 (wpAny_newFunctionEnv_cells S.kind i λenv T z x=>?_);subst T;refine⟨lim.keeps x.toInCall.keep,PySem.W.kla_codeExpr ?_⟩;have I:Inv (cf CX P w K M base Z qual scope a (.ref c) A f s H E) [] (start Z vs) H z:=xr S p.hd l B r x;refine acW (L [] z (start Z vs) H Q I D) (λd G ⟨g,N,J,U,q⟩=>?_) λe G F=>F
 exact⟨g,N,J.os,J.bare,J.base,J.aL,U,q⟩
def cY (a:Addr)(pos:Pos)(qual:Str)(H:Hp):Prop:=
 H a=some (.e9 #[])\/∃(c:Addr) (d:Obj) (b:Array Value) (t:Tok),H a=some (.e9 #[rawInt pos.line,rawInt pos.col,.ref c])/\H c=some (.cL d (.own c))/\d.data=.fields b/\b[1]?=some (.str qual t)
theorem cY.keep {pos:Pos}{qual:Str}(h:cY a pos qual H)(k:∀b u,H b=some u->(∃g,u=.e9 g)\/(∃o v,u=.cL o v)->I b=some u):cY a pos qual I:=by
 rcases h with h|⟨c,f,j,t,l,d,i,e⟩
 ·exact .inl (k _ _ h (.inl ⟨_,Y⟩))
 ·exact .inr ⟨c,f,j,t,k _ _ l (.inl ⟨_,Y⟩),k _ _ d (.inr ⟨_,_,Y⟩),i,e⟩
def jQ (c:Str->Option Value)(base:Heap):Prop:=∃(b:Addr) (a:Obj),c "__builtins__"=some (.ref b)/\base.get? b=some a/\(a.cls=.type "module"/\a.dict=some builtinsNs/\a.data=.plain)/\b≠builtinsNs
section
variable {X:Cx}{pins:List (Addr×Obj)}{σ:St}{H:Hp}{s:Shared}
theorem N2 {params:Arguments}{body:Expr}{scope:Scope}{pos:Pos}(I:Inv X pins σ H s)(A:X.env.code=.ref c)(hC:PySem.W.codeHdIn X.K c a=true)
 (O:closureFor scope X.env=pure []) (N:defaultsOf params X.env=([],[])) (hT:cY a pos (X.env.qual++"<lambda>") H)
 (hB:jQ X.mg X.base)
 (h:∀(f g:Addr) (m:Obj) (D:Array Value) (t:Tok) (pm j:Value) (C:Hp) (s2:Shared),Inv X (pins++[(f,PySem.W.kla_obj "<lambda>" (X.env.qual++"<lambda>") params body scope [] pm g j)]) σ C s2->C g=some (.cL m (.own g))->m.data=.fields D->D[1]?=some (.str (X.env.qual++"<lambda>") t)->
  cY a pos (X.env.qual++"<lambda>") C->(∀b u,b≠a->H b=some u->C b=some u)->Q (.ref f) s2):
 wpAny (model X.prog X.w) X.A (eval (.Lambda params body scope pos) X.env) Q E s:=by
 obtain⟨bm,ob,b1,b2,b3,b4⟩:=hB;refine PySem.W.kla_eval N ?_
 have B:s.heap.Ns mainGlobals X.mg:=by
  obtain⟨o,es,ep,e,r⟩:=I.ok.mod.glob;exact⟨o,es,ep,I.bk _ _ e,r⟩
 have P:=PySem.W.codeHd_of_K I.cZ hC;have R:s.heap.get? bm=some ob:=I.bk _ _ b2
 have WO:∃ps,H a=some (.e9 ps):=by
  rcases hT with z|⟨M,_,_,_,z,_⟩
  ·exact⟨_,z⟩
  ·exact⟨_,z⟩
 obtain⟨T,V⟩:=WO
 have WQ:∀{b:Addr} {o:Obj},s.heap.get? b=some o->o.cls≠.none->b≠a:=λ{b o} e hc z=>by
  have:=I.aL _ _ V;rw[z,show s.heap.get? a=some { cls:=.none,data:=.fields T } from this]at e
  grind
 have WR:bm≠a:=WQ R (by grind)
 have WT:mainGlobals≠a:=λz=>by
  obtain⟨o,es,ep,e,hd,_⟩:=B;have:=I.aL _ _ V;rw[z,show s.heap.get? a=some { cls:=.none,data:=.fields T } from this]at e
  grind
 have WU:bm≠mainGlobals:=λz=>by
  obtain⟨o,es,ep,e,hd,_⟩:=B
  grind
 have hB:s.heap.BuiltinsAt X.mg a:=⟨bm,ob,b1,b4,WU,WR,R,b3.1,b3.2.1,b3.2.2⟩
 have fin:∀{f:Addr} {C:Hp} {s2:Shared} {o:Obj},Inv X pins σ C s2->s.heap.objs.size<=f->s2.heap.get? f=some o->C f=none->(∀v,o.data≠.cell v)->Inv X (pins++[(f,o)]) σ C s2:=λ{f C s2 o} J hf e n hd=>J.i5 λp hp=>by
  rcases ach.mp hp with hp|hp
  ·exact J.pin p (ab8 _ hp)
  ·rw[acb.mp hp];exact⟨e,n,ade (acw I.lt hf),I.Cq hf,hd⟩
 rcases hT with L|⟨M,m,D,t,L,uR,x,w⟩
 ·have G:s.heap.get? a=some (PySem.W.tabObj #[]):=I.aL _ _ L;refine PySem.W.kla_makeFunction (mg:=X.mg) O I.ok.glob B A P G trivial Y WT hB λg j Z tk hx F i7 Vs W=>?_
  obtain⟨c2,m,D,t,e2,S,x,w⟩:=Vs;cases e2;have kH:∀b u,H b=some u->b≠g:=λb u e z=>absurd (I.aL b u e).lt (by rw[z];exact Nat.not_lt.mpr F)
  have WV:g≠a:=(kH a _ L).symm;have k1:∀b o,b≠a->s.heap.get? b=some o->(Z.push (PySem.W.kla_obj "<lambda>" (X.env.qual++"<lambda>") params body scope [] ((X.mg "__name__").getD .none) g j)).get? b=some o:=λb o y e=>ab2 _ (hx b o y e)
  have WW:(upd (upd H a (.e9 #[rawInt pos.line,rawInt pos.col,.ref g])) g (.cL m (.own g))) a=some (.e9 #[rawInt pos.line,rawInt pos.col,.ref g]):=by rw[ai WV.symm,ah]
  have i:∀b u,b≠a->H b=some u->(upd (upd H a (.e9 #[rawInt pos.line,rawInt pos.col,.ref g])) g (.cL m (.own g))) b=some u:=λb u y e=>by rw[ai (kH b u e),ai y];exact e
  have J:Inv X pins σ (upd (upd H a (.e9 #[rawInt pos.line,rawInt pos.col,.ref g])) g (.cL m (.own g))) { s with heap:=Z.push (PySem.W.kla_obj "<lambda>" (X.env.qual++"<lambda>") params body scope [] ((X.mg "__name__").getD .none) g j),toks:=tk }:=by
   refine I.un ⟨λb o e n _ _=>k1 b o (λz=>by grind) e,λb o e n _ _=>⟨o.slots,k1 b o (λz=>by grind) e⟩,λb o e n _=>?_,λb o e _=>?_,λb xs e=>i b _ (λz=>by grind) e,λb o u e=>i b _ (λz=>by grind) e,λb qs e=>?_⟩ λb u e=>?_
   ·rw[ai (acz (acw (acg e) F)),ai (λz=>by grind)];exact n
   ·by_cases y:b=a
    ·subst y;exact⟨_,ab2 _ W⟩
    ·exact⟨o,k1 b o y e⟩
   ·by_cases y:b=a
    ·grind
    ·exact⟨#[],by rw[i b _ y e];simp⟩
   ·by_cases y:b=g
    ·subst y;rw[ah]at e;cases e;exact⟨ab2 _ S,m,ab2 _ S⟩
    ·rw[ai y]at e;by_cases U:b=a
     ·subst U;rw[ah]at e;cases e;exact ab2 _ W
     ·rw[ai U]at e;refine(I.aL b u e).eX (λd v hd q=>k1 d v ?_ q) (λd q=>?_) λd xs q=>?_
      ·grind
      ·exact i d _ (λz=>by grind) q
      ·exact i d _ (λz=>by grind) q
  have l:s.heap.objs.size<=Z.objs.size:=acr F (afu i7);refine h _ g m D t _ j _ _ (fin J l (acf _ Y) ?_ λv z=>nomatch z) ah x w (.inr ⟨g,m,D,t,WW,ah,x,w⟩) i;rw[ai (ade i7),ai (λz=>absurd (I.aL _ _ L).lt (by rw[<-z];exact Nat.not_lt.mpr l))];exact I.aL.fresh l
 ·have G:s.heap.get? a=some (PySem.W.tabObj #[rawInt pos.line,rawInt pos.col,.ref M]):=I.aL _ _ L;refine PySem.W.kla_makeFunctionHit (mg:=X.mg) (cv:=.ref M) O I.ok.glob B A P G (by simp[TriplesOk,rawInt]) (by simp[codeAmong,rawInt]) hB λj Z tk k l=>?_
  have J:Inv X pins σ H { s with heap:=Z.push { cls:=.type "function",data:=.func (PySem.W.kla_fn "<lambda>" (X.env.qual++"<lambda>") params body scope [] ((X.mg "__name__").getD .none) (.ref M) j) },toks:=tk }:=I.kept λb u e=>ab2 _ (k b u e)
  exact h _ M m D t _ j H _ (fin J l (acf _ Y) (I.aL.fresh l) λv z=>nomatch z) uR x w (.inr ⟨M,m,D,t,L,uR,x,w⟩) λb u _ e=>e
structure Fp (X:Cx) (pq:List (Addr×Obj)) (H:Hp) (b:Addr):Prop where
 none:H b=none
 loc:b≠X.env.locals
 fs:b∉X.fs
 new:X.dR.heap.objs.size<=b
 cell:∀x c,X.env.cells.lookup x=some c->c≠b
 pin:∀p∈X.pn++pq,p.1≠b
theorem uZ (I:Inv X o σ H s)(h:s.heap.objs.size<=b):Fp X o H b:=
 ⟨I.aL.fresh h,ade (acw I.lt h),I.Cq h,acr I.sz h,λx c e z=>by
  obtain⟨v,d⟩:=I.cell x c e;exact absurd d.lt (by rw[z];exact Nat.not_lt.mpr h),λp a z=>absurd (acg (I.pin p a).1) (by rw[z];exact Nat.not_lt.mpr h)⟩
theorem Inv.C3 {a:List (Addr×Obj)}(I:Inv X (o++a) σ H s):Inv X o σ H s:=I.i5 λp b=>I.pin p (ab8 _ (acu _ b))
abbrev N3 (a:Array Value) (c:Nat):Obj:={ cls:=.type "list",dict:=none,data:=.seq a c,slots:=#[] }
theorem EK {it l:Addr}{ys:List V}{kf:Nat->Int}{R:Result->Shared->Prop}(hh:X.A.in1.handled=none)(hq:aI X.K H l ys)(lF:l≠it)(n1:a≠it)(D:Fp X o H it)(E:Fp X o H a)
 (turn:∀(i:Nat) (y:V) (m:Value) (pr:List (Addr×Obj)) (s':Shared),ys[i]?=some y->RelV y m->Inv X (o++pr) σ H s'->wpAny (model X.prog X.w) X.A.in1 (call (.ref b) [m]) (λu s2=>∃t,u=.int (kf i) t/\Inv X (o++pr) σ H s2) (λ_ _=>False) s')
 (hR:∀m s',(ys=[]/\m=v\/∃(j:Nat) (y:V),ys[j]?=some y/\RelV y m/\∀q,q<ys.length->kf j<=kf q/\(q<j->kf j<kf q))->Inv X o σ H s'->R (.ok (.ret m)) s'):
 ∀(k i:Nat) (s:Shared) (B:Array Value) (c:Nat),ys.length - i=k->i<=ys.length->Inv X o σ H s->s.heap.IsListIter it l i->s.heap.get? a=some (N3 B c)->
 ((i=0/\B=#[])\/∃(j:Nat) (y:V) (vb:Value) (Z:Tok),j<i/\ys[j]?=some y/\RelV y vb/\B=#[vb,.int (kf j) Z]/\∀q,q<i->kf j<=kf q/\(q<j->kf j<kf q))->
 codeAny (model X.prog X.w) X.A (.builtin "min.loop" ⟨[.ref it,.ref b,.ref a],[("default",v)]⟩) R s:=by
 have nm:(toString "min"++toString ".loop":String)="min.loop":=by decide
 have L:∀f:Addr,f≠it->f∉[it]:=λf r z=>r (acb.mp z)
 intro k
 induction k with
 |zero=>
  intro i s B c hk hi I hit r hold;obtain⟨C,hv,pl,hz⟩:=I.list hq;have N4:=hv.length;have W:=Walks.list (prog:=X.prog) (w:=X.w) (A:=X.A.in1) hh it l lF C.toArray;have ei:i=C.length:=by omega
  refine afe F.entry_min_loop ?_;rw[ae0 aeC _];show wpAny _ X.A.in1 (seqItems? (.ref a) >>=_) _ _ s;refine ab1 (aeE r Y ?_);show wpAny _ X.A.in1 (tryCatch (pyNext (.ref it)) _ >>=_) _ _ s;refine ab1 (aft (W.done s _ _ ⟨by grind,pl.isList⟩ λh' N kp=>?_));have O:=kp a _ (L _ n1) r;have I2:Inv X o σ H { s with heap:=h',toks:=N }:=I.turned (λf n r e=>kp f n (L _ r) e) D.none D.loc (.inr D.new) D.cell D.pin;rcases hold with ⟨e0,rfl⟩|⟨j,y,vb,Z,hj,hy,rb,rfl,d⟩
  ·have en:ys=[]:=adv (by omega);refine ab1 (afo ?_);exact ab7 (hR v _ (.inl ⟨en,Y⟩) I2)
  ·show wpAny _ X.A.in1 (updateSeq a (λ_=>#[]) >>=_) _ _ _;refine ab1 (aep O Y (ab1 (afp (ab7 ?_))));exact hR _ _ (.inr ⟨j,y,hy,rb,λq T=>d q (by omega)⟩) (I2.turned (t':=N) (λf n r e=>(acM _ _ (adn r)).trans e) E.none E.loc (.inr E.new) E.cell E.pin)
 |succ k ih=>
  intro i s B c hk hi I hit r hold;obtain⟨C,hv,pl,hz⟩:=I.list hq;have N4:=hv.length;have i7:i<C.length:=by omega
  have W:=Walks.list (prog:=X.prog) (w:=X.w) (A:=X.A.in1) hh it l lF C.toArray;refine afe F.entry_min_loop ?_;rw[ae0 aeC _];show wpAny _ X.A.in1 (seqItems? (.ref a) >>=_) _ _ s;refine ab1 (aeE r Y ?_);show wpAny _ X.A.in1 (tryCatch (pyNext (.ref it)) _ >>=_) _ _ s;refine ab1 (aft (W.item i s _ _ (by omega) ⟨hit,pl.isList⟩ λm h' N hP y4 kp=>?_));obtain⟨⟨oI,WX,N5,Q⟩,xF⟩:=y4;have O:=kp a _ (L _ n1) r;have I2:Inv X o σ H { s with heap:=h',toks:=N }:=I.turned (λf n r e=>kp f n (L _ r) e) D.none D.loc (.inr D.new) D.cell D.pin;have G:ys[i]?=some (ys[i]'(by omega)):=ab3 (by omega)
  generalize ys[i]'(by omega)=y at G;obtain⟨u,hu,ru⟩:=hv.get (i:=i) (x:=y) G;have SQ:C[i]?=some m:=by simpa using hP
  rw[hu]at SQ;have WY:u=m:=Za0 SQ;subst WY;have dI:∀z,oI.data≠.cell z:=λz e=>by rw[Q]at e;cases e
  have J2:Inv X (o++[(it,oI),(a,N3 B c)]) σ H { s with heap:=h',toks:=N }:=I2.i5 λp S=>by
   rcases ach.mp S with S|S
   ·exact I2.pin p (ab8 _ S)
   ·rcases aci.mp S with rfl|S
    ·exact⟨WX,D.none,D.loc,D.fs,dI⟩
    ·rw[acb.mp S];exact⟨O,E.none,E.loc,E.fs,λz e=>nomatch e⟩
  show wpAny _ X.A.in1 (tryCatch (holding [u] (call (.ref b) [u])) _ >>=_) _ _ _;refine ab1 (aft (ac1 (acW (turn i y u _ _ G ru J2) (λx J he=>?_) λ_ _ hF=>hF.elim)));obtain⟨U,rfl,J3⟩:=he;have pI:=(J3.pin (it,oI) (ab8 _ (ab8 _ (.head _)))).1;have pB:=(J3.pin (a,N3 B c) (ab8 _ (ab8 _ (.tail _ (.head _))))).1;have I3:=J3.C3;have Vt:J.heap.IsListIter it l (i+ 1):=⟨oI,pI,N5,Q⟩;have SR:∀(g:Array Value->Array Value),(J.heap.update a (Obj.mapSeq g)).IsListIter it l (i+ 1):=λg=>⟨oI,(acM _ _ n1).trans pI,N5,Q⟩
  have SV:∀(g:Array Value->Array Value) (N:Nat),Inv X o σ H { J with heap:=J.heap.update a (Obj.mapSeq g),toks:=N }:=λg N=>I3.turned (λf n r e=>(acM _ _ (adn r)).trans e) E.none E.loc (.inr E.new) E.cell E.pin
  rcases hold with ⟨e0,rfl⟩|⟨j,y0,vb,Z,hj,hy,rb,rfl,d⟩
  ·subst e0;show wpAny _ X.A.in1 (updateSeq a (λ_=>#[u,.int (kf 0) U]) >>=_) _ _ _;refine ab1 (aep pB Y ?_);rw[nm]
   exact ab7 ⟨aez aeC _,ih 1 _ _ _ (by omega) (by omega) (SV _ _) (SR _) (acL _ pB Y) (.inr ⟨0,y,u,U,by omega,G,ru,Y,λq T=>by
    have e:q=0:=by omega
    subst e;exact⟨Int.le_refl _,λz=>absurd z (adg _)⟩⟩)⟩
  ·show wpAny _ X.A.in1 (tryCatch (holding [u,.int (kf i) U] (richCompare .Lt (.int (kf i) U) (.int (kf j) Z) >>=_)) _ >>=_) _ _ _;refine ab1 (aft (ac1 (ab1 (CmpOf.ints_lt (prog:=X.prog) (w:=X.w) (A:=X.A.in1) (P:=λi m=>∃t,m=.int (kf i) t) kf (λi m h=>h) i j _ _ _ _ _ ⟨U,Y⟩ ⟨Z,Y⟩ ?_))));refine ab1 (ac1 (adZ ?_));refine ab1 (afp (ab7 ?_));by_cases zq:kf i<kf j
   ·simp only[zq,decide_true,if_true];refine ab1 (aep pB Y (ab1 (afp ?_)));rw[nm];refine ab7 ⟨aez aeC _,ih (i+ 1) _ _ _ (by omega) (by omega) (SV _ _) (SR _) (acL _ pB Y) (.inr ⟨i,y,u,U,by omega,G,ru,Y,λq T=>?_⟩)⟩;by_cases e:q=i
    ·subst e;exact⟨Int.le_refl _,λz=>absurd z (adg _)⟩
    ·have h1:=(d q (by omega)).1;exact⟨by omega,λ_=>by omega⟩
   ·simp only[zq,decide_false,aeI,aff];refine ab1 (afp ?_);rw[nm];refine ab7 ⟨aez aeC _,ih (i+ 1) _ _ _ (by omega) (by omega) I3 Vt pB (.inr ⟨j,y0,vb,Z,by omega,hy,rb,Y,λq T=>?_⟩)⟩;by_cases e:q=i
    ·subst e;exact⟨by omega,λ_=>by omega⟩
    ·exact d q (by omega)
theorem aI.fA {H:Hp}{ys:List V}{d:Array Value}(h:aI K H a ys)(f:H b=some (.e9 d))(k:∀c u,c≠b->H c=some u->I c=some u):aI K I a ys:=by
 rcases h with h|h
 ·rcases h with e|⟨o,e⟩
  ·exact .inl (.inl (k _ _ (λz=>by grind) e))
  ·exact .inl (.inr ⟨o,k _ _ (λz=>by grind) e⟩)
 ·exact .inr h
theorem Hg (a f d:Value):checkBuiltinCall "min" ⟨[a],[("key",f),("default",d)]⟩=pure ():=by kernel_rfl
def RH (K:Za1)(e:Addr)(f:Pos)(qual:Str)(g:TE)(k:TA):TE:=λ σ H Q=>k σ H λh d=>∃(l:Addr) (ys:List V) (c:Nat->Int),h=[.ref l]/\aI K d l ys/\cY e f qual d/\
 ∀a,cY e f qual a->(∀b u,b≠e->d b=some u->a b=some u)->(∀(i:Nat) (y:V),ys[i]?=some y->g [some y] a λv m=>v=.int (c i)/\m=a)/\(ys=[]->Q .non a)/\
  ∀(i:Nat) (y:V),ys[i]?=some y->(∀j,j<ys.length->c i<=c j/\(j<i->c i<c j))->Q y a
theorem Lj {body:Expr}{tb:TE}{w R L kq lp:Pos}{k:Nat}{params:Arguments}{scope:Scope}(hc:X.calm=true)(hg:Gl X "min")(hm:X.mg "min"=none)(he:PE X e r)
 (G:X.env.code=.ref c) (hC:PySem.W.codeHdIn X.K c a=true) (zr:closureFor scope X.env=pure []) (O:defaultsOf params X.env=([],[]))
 (hB:jQ X.mg X.base) (hr:cH (k+ 2) X.A) (S:aV [x] [x] scope)
 (W:∀(pm C:Value) (B:Addr) (u:Value),bindArgs (PySem.W.kla_fn "<lambda>" (X.env.qual++"<lambda>") params body scope [] pm (.ref B) C) ⟨[u],[]⟩=pure [(x,u)])
 (M:∀(A:Around) (N:List Env) (s:Shared) (H:Hp) (f B:Addr),cH k (A.deeper (envOfC (X.env.qual++"<lambda>") scope s.heap.objs.size f (.ref B)))->PE (cf SG X.prog X.w X.K X.mg X.base [x] (X.env.qual++"<lambda>") scope f (.ref B) A N s H E0) body tb)
 (hs:starEach [e] X.env=(false,eval e X.env)::starEach [] X.env:=by rfl)
 (mF:((backTo w (starEach [e] X.env)).any (·.1) || (backToKw w (keywordEach [⟨some "key",.Lambda params body scope lp,R⟩,⟨some "default",.Constant .none j kq,L⟩] X.env)).any (·.1.isNone))=false:=by rfl):
 PE X (.Call (.Name "min" p) [e] [⟨some "key",.Lambda params body scope lp,R⟩,⟨some "default",.Constant .none j kq,L⟩] w) (RH X.K a lp (X.env.qual++"<lambda>") tb (jq r ku)):=by
 intro pins s σ H Q I h;refine adh (iw I hg hm PyProof.Rows.boot_min ?_);refine PySem.W.callWith_of (P:=λ_=>True) mF (λ_ _=>⟨.machine,.inr (.inl Y),λ_ _ _ _ _ q=>ab7 q⟩) (evalArgs_kw2 Y (aY ((ae he ak hs) w pins s σ H _ I h) λus s1 ⟨vs,H1,I1,g,q⟩=>?_) hs);obtain⟨l,ys,kf,rfl,hq,hT,q⟩:=q;obtain⟨u,rfl,ru⟩:=vals1 g;cases ru;refine kwAll_cons (N2 I1 G hC zr O hT hB λf B oc WZ ct pm C H2 s2 I2 El W6 W7 Z n=>?_);refine aY ((Be c9 DR:PK X [⟨some "default",.Constant .none j kq,L⟩] _) w _ s2 σ H2 (λzs D=>zs=[.non]/\D=H2) I2 ⟨Y,Y⟩) λws s3 ⟨zs,D,U,rz,V,e2⟩=>⟨True.intro,?_⟩
 subst V e2;obtain⟨u2,rfl,W8⟩:=vals1 rz;cases W8;obtain⟨q1,q2,q3⟩:=q D Z n
 have T:aI X.K D l ys:=by
  rcases hT with z|⟨_,_,_,_,z,_⟩
  ·exact hq.fA z n
  ·exact hq.fA z n
 show wpAny _ _ (call (.builtin "min") [.ref l] [("key",.ref f),("default",.none)]) _ _ s3;have nm:(toString "min"++toString ".loop":String)="min.loop":=by decide
 refine aeD (adF F.plain_min F.entry_min (wpAny_of_eq (Hg _ _ _) ?_));show wpAny _ X.A.in1 (Builtin.Builtins.bindParams "min" ["key","default"] 0 ⟨[],[("key",.ref f),("default",.none)]⟩ >>=_) _ _ s3;refine ab1 (wpAny_of_eq (show Builtin.Builtins.bindParams "min" ["key","default"] 0 ⟨[],[("key",.ref f),("default",.none)]⟩=pure [some (.ref f),some .none] from Y) ?_);obtain⟨its,rv,pl,hz⟩:=U.list T;refine ab1 (ab7 (ab1 (aek pl.isList ?_)));obtain⟨ol,N6,N5,N7⟩:=id pl.isList;refine ab1 (acV ?_);have i7:=acg N6;have hsz:(s3.heap.push { cls:=.type "list_iterator",data:=.fields #[.ref l,.int 0 0] }).objs.size=s3.heap.objs.size+ 1:=adL ..;have W9:∀(b:Addr) (o:Obj),s3.heap.get? b=some o->((s3.heap.push { cls:=.type "list_iterator",data:=.fields #[.ref l,.int 0 0] }).push { cls:=.type "list",data:=.seq ([]:List Value).toArray }).get? b=some o:=λb o d=>ab2 _ (ab2 _ d)
 have I4:=U.kept (t':=s3.toks) W9;rw[nm];refine ab7 ⟨aez aeC _,EK (X:=X) (σ:=σ) (H:=D) (ys:=ys) (kf:=kf) (it:=s3.heap.objs.size) (l:=l) (U.ok.hd hc) T (acz i7) (by grind) (uZ U (aca _)) (uZ U (by grind)) (λi y v pr s' hy Xa J=>?_) (λv s' hw J=>?_) _ 0 _ #[] 0 Y (acF _) I4 ⟨_,ab2 _ (acf _ Y),Y,Y⟩ (acf _ Y) (.inl ⟨Y,Y⟩)⟩
 ·have hf:=(J.pin (f,_) (ab8 _ (acu _ (ab8 _ (.head _))))).1;have Xb:s'.heap.CodeRec (.ref B) (X.env.qual++"<lambda>"):=⟨B,oc,WZ,ct,Y,(J.aL _ _ El).1,W6,W7⟩;refine aeD (aeu (Li (CX:=SG) (E:=E0) (k:=k) (vs:=[y]) (us:=[v]) S Y hr.in1 J.yH.in1 hf Xb (W pm C B v) (.cons Xa .nil) (M _ _ _ _ f B (hr.in1.deeper _)) (q1 i y hy)) λg s2 m=>?_)
  cases g with
  |error d=>exact m.elim
  |ok fl=>
   cases fl with
   |next=>exact False.elim m
   |brk=>exact False.elim m
   |cont=>exact False.elim m
   |ret u=>
    obtain⟨v2,H4,J4,Xc,V,e2⟩:=J.after m;subst V e2;obtain⟨t,rfl⟩:=Xc;exact⟨t,Y,J4⟩
 ·rcases hw with ⟨V,rfl⟩|⟨i,y,hy,ry,hb⟩
  ·exact⟨.non,D,J.C3,Y,q2 V⟩
  ·exact⟨y,D,J.C3,ry,q3 i y hy hb⟩
end
theorem EL {I:Str->Option Value}{W:kJ}{k:Nat}{fd:FuncData}{T:Sp}{ns:List Int}
 (KX:K.In s.heap) (p:s.heap.Ns mainGlobals M) (g:s.heap.Ns builtinsNs I) (D:∀x:Str,x≠"__name__"->I x=bootBuiltins x) (n:s.heap.NoLimit) (hg:s.gens=#[])
 (F:s.heap.get? b=some { cls:=.type "list",data:=.seq N.toArray }) (Q:IntsAre N ns) (U:ns.length<=sizeLine) (hr:cH k callerA)
 (Fn:∀base:Heap,K.In base->base.Ns mainGlobals M->jQ M base->bx P w K M base W k a fd [x] T) (hB:jQ M s.heap) (l:∀(s:Shared) (u:Value),BindsTo s fd ⟨[u],[]⟩ [(x,u)])
 (L:s.heap.get? c=some (PySem.W.tabObj #[])) (hKP:K.lookup c=none) (B:isCodeTable s.heap c)
 (J:∀H:Hp,H c=some (.e9 #[])->aI K H b (ns.map V.int)->T [.ref b] H (λv _=>v=.bl true) λ_ _ _=>False)
 (E:∀H e i,W [] H s (λ_ _ _=>False) e i->False):
 codeAny (model P w) callerA (.call (.ref a) ⟨[.ref b],[]⟩) (λr i=>r=.ok (.ret (.bool true))/\OldK s.heap i.heap/\i.os=s.os/\AllBare i.gens) s:=by
 have rv:=xu Q;have C:b≠c:=λz=>by grind
 have main:∀H:Hp,H c=some (.e9 #[])->(∀f u,H f=some u->K.lookup f=none/\(f=c\/f=b/\∃R,u=.cL { cls:=.type "list",data:=.seq N.toArray } (.lst R)))->aI K H b (ns.map V.int)->dw P w H s.heap->
  codeAny (model P w) callerA (.call (.ref a) ⟨[.ref b],[]⟩) (λr i=>r=.ok (.ret (.bool true))/\OldK s.heap i.heap/\i.os=s.os/\AllBare i.gens) s:=by
  intro H X Z h3 h4
  have nodict:∀{f:Addr} {o:Obj} {A:Array DictEntry} {t:Nat},s.heap.get? f=some o->o.data=.dict A t->H f=none:=λ{f o A t} e d=>by
   cases q:H f with
   |none=>rfl
   |some u=>
    grind
  have y:∀{f:Addr} {m:Str->Option Value},s.heap.Ns f m->(oS s.heap H).Ns f m:=λ{f m} ⟨o,A,t,e,d,r⟩=>⟨o,A,t,tS e (nodict e d),d,r⟩
  have S:K.In (oS s.heap H):=λf o e=>tS (KX f o e) (by
   cases q:H f with
   |none=>rfl
   |some u=>rw[(Z f u q).1]at e;cases e)
  have md:Mod K M (oS s.heap H):=⟨S,y p,⟨I,y g,D⟩,let ⟨mc,z1,z2⟩:=n;⟨mc,y z1,z2⟩⟩;have e0:lg P w K M (oS s.heap H) callerA [] s H:=⟨Y,md,λf o e=>Kr e,aeJ (DB _ _),trivial,λf z=>absurd (show f∈([]:List Addr) from z) (by simp),h4,.of_eq hg⟩
  have bb:jQ M (oS s.heap H):=by
   obtain⟨O,ob,b1,b2,b3,b4⟩:=hB;refine⟨O,ob,b1,tS b2 ?_,b3,b4⟩
   cases q:H O with
   |none=>rfl
   |some u=>
    grind
  refine aeu ((Fn _ S (y p) bb).run callerA [] s H ⟨[.ref b],[]⟩ [.ref b] [.ref b] _ _ hr e0 (l s (.ref b)) (.cons Y .nil) (J H X h3)) λr i h=>?_
  cases r with
  |error e=>exact(E H e i h).elim
  |ok fl=>
   cases fl with
   |next=>exact False.elim h
   |brk=>exact False.elim h
   |cont=>exact False.elim h
   |ret u=>
    obtain⟨v,H',os,bare,un,j,r',q⟩:=h;have q':v=.bl true:=q;subst q';obtain rfl:u=Value.bool true:=r'
    have each:∀f o,s.heap.get? f=some o->asItWas s.heap i.heap f o/\∃o',i.heap.get? f=some o':=λf o e=>by
     cases q:H f with
     |none=>
      have z:=un.keep f o e q (by intro z;exact absurd (show f∈([]:List Addr) from z) (by simp)) (by simp);exact⟨.inl z,o,z⟩
     |some u=>
      rcases (Z f u q).2 with rfl|⟨rfl,R,rfl⟩
      ·rw[L]at e;cases e;obtain⟨more,z⟩:=un.gO _ _ X;have z2:i.heap.get? f=some { cls:=.none,data:=.fields (#[]++more) }:=j _ _ z;exact⟨.inr (.inl ⟨B,Y,#[],more,Y,z2⟩),_,z2⟩
      ·obtain⟨z1,_⟩:=h4 _ _ q;obtain⟨z2,_⟩:=j _ _ (un.fW _ _ _ q);rw[e]at z1;cases z1;exact⟨.inl z2,_,z2⟩
    exact⟨Y,⟨λf o e=>(each f o e).1,λf o e=>(each f o e).2⟩,os,bare⟩
 cases G:K.lookup b with
 |some o=>
  have e:=KX b o G;rw[F]at e;cases e;refine main (upd (λ_=>none) c (.e9 #[])) ah (λf u z=>?_) (.inr ⟨_,N.toArray,_,G,Y,Y,Y,by rw[acs,Q.length];exact U,by omega⟩) λf u z=>?_
  ·by_cases g:f=c
   ·grind
   ·rw[ai g]at z;cases z
  ·by_cases g:f=c
   ·subst g;rw[ah]at z;cases z;exact L
   ·rw[ai g]at z;cases z
 |none=>
  refine main (upd (upd (λ_=>none) c (.e9 #[])) b (.cL { cls:=.type "list",data:=.seq N.toArray } (.lst (ns.map V.int)))) (by rw[ai C.symm,ah]) (λf u z=>?_) (.inl (.inr ⟨_,ah⟩)) λf u z=>?_
  ·by_cases g:f=b
   ·subst g;rw[ah]at z;cases z;exact⟨G,.inr ⟨Y,_,Y⟩⟩
   ·rw[ai g]at z;by_cases g:f=c
    ·grind
    ·rw[ai g]at z;cases z
  ·by_cases g:f=b
   ·subst g;rw[ah]at z;cases z;exact⟨F,by rw[ab9];exact U,N,_,rv,F⟩
   ·rw[ai g]at z;by_cases g:f=c
    ·subst g;rw[ah]at z;cases z;exact L
    ·rw[ai g]at z;cases z
theorem qA.Xd {mg:Str->Option Value}{base:Heap}{j:kJ}{qual:Str}{st:Stmt}{fd:FuncData}{g:List Str}{k:Nat}{sp:Sp}(F:qA K x qual st a fd)(hc:fd.code=.ref c)(S:aV Z g (aD st))(len:∀d H Q E,sp d H Q E->d.length=g.length)
 (b:∀(A:Around) (outer:List Env) (s:Shared) (H:Hp) (d:List V) (Q:VK) (E:XK),cH k (A.deeper (envOfC qual (aD st) s.heap.objs.size a (.ref c)))->sp d H Q E->
  ∃t,i6 (cf j P w K mg base Z qual (aD st) a (.ref c) A outer s H E).uD (cI st) t/\t { nx:=λ_ o=>Q .non o,rt:=Q } (start Z d) H):bx P w K mg base j (k+ 1) a fd g sp:=by
 obtain⟨u,r,kV,doc,pm,q,i,ct,p,rfl,lk,f⟩:=F.ex;have e:i=.ref c:=hc;subst e;refine yt lk f S len λA outer s H d Q E l h=>?_
 obtain⟨t,m,n⟩:=b A outer s H d Q E l h;exact⟨t,m.uD,n⟩
structure LamAt (K:Za1) (fd:FuncData) (c Pt:Addr):Prop where
 code:fd.code=.ref c
 hd:PySem.W.codeHdIn K c Pt=true
 no:K.lookup Pt=none
theorem Hh {l:PySem.W.OpenLaw}{k:Nat}{loose:List Str}{XP:(Str->Option Value)->Heap->Prop}{D:World->Heap->Prop}{d:DefRec}{K:Params->Za1}{CX:World->kJ}{sp:World->Sp}
 (R:l.most=some n) (p:n<=sizeLine) (r:d.params.defaults=[]) (O:cH k callerA) (hY:∀(w:World) (h:Heap),D w h->(K w.params).In h/\h.get? a=some (PySem.W.tabObj #[]))
 (F:∀(w:World) (g:Str->Option Value) (j:Addr) (h:Heap),(K w.params).In h->h.Ns mainGlobals g->g d.name=some (.ref j)->
  ∃fd:FuncData,(∃fd2 c,LamAt (K w.params) fd2 c a)/\(∀(s:Shared) (u:Value),BindsTo s fd ⟨[u],[]⟩ [(x,u)])/\∀base:Heap,(K w.params).In base->base.Ns mainGlobals g->jQ g base->bx l.prog w (K w.params) g base (CX w) k j fd [x] (sp w))
 (t:∀(w:World) (H:Hp) (b:Addr) (ns:List Int),ns.length<=n->H a=some (.e9 #[])->aI (K w.params) H b (ns.map V.int)->sp w [.ref b] H (λv _=>v=.bl true) λ_ _ _=>False)
 (m:∀(w:World) (H:Hp) (s:Shared) (e:Value) (y:Shared),CX w [] H s (λ_ _ _=>False) e y->False):
 PySem.W.WalkO P loose XP D l.row.toRowW d [] (λf B=>PySem.call f B):=by
 refine Att.AJ R r λw E s g mb j o pm cd doc b B ns G Y ho hd N A i hints hlen X=>?_
 obtain⟨z,hP⟩:=hY w _ Y;obtain⟨fd,⟨fd2,c,C⟩,T,L⟩:=F w g j _ z G.T.g A;obtain⟨Z,q,_,_,_,_,_,_,_,g1,g2,g3,g4,_⟩:=PySem.W.codeHd_of_K z C.hd;have U:jQ g s.heap:=let ⟨I,ob,a1,J,a3,S,W,M⟩:=G.T.bmain;⟨I,ob,a1,a3,⟨S,W,M⟩,J⟩
 exact EL z G.T.g G.T.b G.T.builtins G.T.nolimit X i hints (acr hlen p) O L U T hP C.no ⟨c,Z,q,g1,g2,g3,g4⟩ (λH hO Q=>t w H b ns hlen hO Q) λH e y=>m w H s e y
namespace Lr
theorem N8:typeLookup (.type "list_reverseiterator") "__len__"=pure none:=by kernel_rfl
theorem Lk:typeLookup (.type "list_reverseiterator") "__length_hint__"=pure (some (.builtin "list_reverseiterator.__length_hint__")):=by kernel_rfl
section
variable {prog:Program}{w:World}{A:Around}{E:Value->Shared->Prop}{s:Shared}{it l:Addr}{items:Array Value}
theorem hint {Q:Bool->Shared->Prop}(hm:s.heap.IsRevIter it l z)(h:Q false s):wpAny (model prog w) A (Builtin.List.listLengthHint (.ref it)) Q E s:=by
 refine ab1 (wpAny_specialOf hm.typeIs N8 ?_);refine ab1 (wpAny_specialOf hm.typeIs Lk ?_);generalize c:("list_reverseiterator.__length_hint__":String)=d
 wp_delta
 subst c;refine ab1 (wpAny_isInstance (T:="list_reverseiterator") (b:=true) hm.typeIs (by kernel_rfl) ?_);refine afg (λa=>absurd a (by decide)) (λ_=>?_);refine afg (λ_=>?_) (λa=>absurd (by decide) a);exact ab7 h
theorem extend {R:Result->Shared->Prop}(u:A.handled=none)(hit:s.heap.IsRevIter it l ((items.size:Int) - 1))(y:s.heap.IsList l items)(n:l≠it)(hlen:items.size<=sizeLine)(S:Addr)(m:S≠it)(r:S≠l)(res:Value)(j:Nat)(t:s.heap.get? S=some { cls:=.type "list",data:=.seq #[] j })
 (D:∀g1 B a d,(∀b o,b≠S->b≠it->s.heap.get? b=some o->g1.get? b=some o)->g1.get? S=some { cls:=.type "list",dict:=none,data:=.seq a d,slots:=#[] }->
  ItemsOf (λi v=>items[items.size - 1 - i]?=some v) a items.size->R (.ok (.ret res)) { s with heap:=g1,toks:=B }):
 wpAny (model prog w) A.in1 (Builtin.List.listExtendWith (.ref S) (.ref it) res)
  (λfin c=>match fin with|.done f=>R (.ok f) c|.again d=>d.quiet=true/\codeAny (model prog w) A d R c) (λe c=>R (.error e) c) s:=by
 refine ab1 (aev (T:="list_reverseiterator") hit.typeIs ?_);have z:Builtin.List.listSameRef (.ref S) (.ref it)=false:=by simp[Builtin.List.listSameRef,m]
 have C:(Value.type "list_reverseiterator"==Value.type "list")=false:=by decide
 have G:(Value.type "list_reverseiterator"==Value.type "tuple")=false:=by decide
 simp only[z,C,G,Bool.or_false,aeI,aff];refine ab1 (wpAny_pyIter_revIter hit ?_);refine ab1 (ac1 (hint hit ?_));have W:=(Walks.listRev (prog:=prog) (w:=w) (A:=A.in1) u it l n items).toS
 have p:S∉[it,l]:=λH=>by
  grind
 refine ab7 ⟨aez F.plain_extend_loop _,?_⟩;refine codeAny_extend_loopS W hlen S p res items.size 0 _ #[] _ Y (acF _) ⟨acF _,by simpa using hit,y⟩ t (ItemsOf.nil _) λc a d g k h=>?_
 rw[Moved.eq_with g];refine D c.heap c.toks a d (λb o I x e=>g.heap b o (λq=>?_) e) k h
 grind
theorem init {R:Result->Shared->Prop}(x:A.handled=none)(hit:s.heap.IsRevIter it l ((items.size:Int) - 1))(y:s.heap.IsList l items)(t:l≠it)(hlen:items.size<=sizeLine)(S:Addr)(j:S≠it)(g:S≠l)(n:s.heap.get? S=some { cls:=.type "list",data:=.seq #[] })
 (B:∀g1 q a d,(∀b o,b≠S->b≠it->s.heap.get? b=some o->g1.get? b=some o)->g1.get? S=some { cls:=.type "list",dict:=none,data:=.seq a d,slots:=#[] }->
  ItemsOf (λi v=>items[items.size - 1 - i]?=some v) a items.size->R (.ok (.ret .none)) { s with heap:=g1,toks:=q }):
 wpAny (model prog w) A.in1 (Builtin.«list.__init__» ⟨[.ref S,.ref it],[]⟩)
  (λfin m=>match fin with|.done f=>R (.ok f) m|.again d=>d.quiet=true/\codeAny (model prog w) A d R m) (λe m=>R (.error e) m) s:=by
 show wpAny _ _ (do let old <-Builtin.List.listItems (.ref S);Builtin.List.listUpdate (.ref S) (λ_=>#[]);letGo old.toList.reverse;Builtin.List.listExtendWith (.ref S) (.ref it) .none) _ _ s;refine ab1 ?_;unfold Builtin.List.listItems;refine ab1 (aeE n Y (ab7 ?_));show wpAny _ _ (updateSeq S (λ_=>#[]) >>=λ_=>letGo (#[]:Array Value).toList.reverse >>=λ_=>Builtin.List.listExtendWith (.ref S) (.ref it) .none) _ _ s;refine ab1 (aep n Y ?_);have z:=acL (Obj.mapSeq (λ_=>(#[]:Array Value))) n rfl;have c:∀b o,b≠S->s.heap.get? b=some o->(s.heap.update S (Obj.mapSeq (λ_=>(#[]:Array Value)))).get? b=some o:=λb o k e=>(acM _ _ (adn k)).trans e
 refine extend (s:={ s with heap:=s.heap.update S (Obj.mapSeq (λ_=>(#[]:Array Value))) }) x (hit.at λo e=>c _ o j.symm e) (y.at λo e=>c _ o g.symm e) t hlen S j g .none _ z λg1 q a d u r h=>?_
 exact B g1 q a d (λb o k p e=>u b o k p (c b o k e)) r h
theorem call (y:A.handled=none)(hit:s.heap.IsRevIter it l ((items.size:Int) - 1))(r:s.heap.IsList l items)(p:l≠it)(hlen:items.size<=sizeLine)
 (u:∀g1 g a h,(∀b o,b≠it->s.heap.get? b=some o->g1.get? b=some o)->g1.get? s.heap.objs.size=some { cls:=.type "list",dict:=none,data:=.seq a h,slots:=#[] }->ItemsOf (λi v=>items[items.size - 1 - i]?=some v) a items.size->Q (.ref s.heap.objs.size) { s with heap:=g1,toks:=g }):
 wpAny (model prog w) A (PySem.call (.type "list") [.ref it]) Q E s:=by
 refine callType_codes (Q₁:=λobj c=>obj=.ref s.heap.objs.size/\c={ s with heap:=s.heap.push { cls:=.type "list",data:=.seq #[] } }) F.called_list (F.typeCall_list_1 _) F.entry_list_init (code_list_new _ ⟨Y,Y⟩) λobj c d=>?_
 obtain⟨rfl,rfl⟩:=d;have q:(s.heap.push { cls:=.type "list",data:=.seq #[] }).get? s.heap.objs.size=some { cls:=.type "list",data:=.seq #[] }:=acf _ rfl;have j:it<s.heap.objs.size:=let ⟨o,n,_⟩:=hit;acg n
 have k:l<s.heap.objs.size:=let ⟨o,n,_⟩:=r;acg n
 refine⟨⟨_,q,Y⟩,F.args_list_init_2 _ _,init (A:=A.in1) (s:={ s with heap:=s.heap.push { cls:=.type "list",data:=.seq #[] } }) y (hit.at λo e=>ab2 _ e) (r.at λo e=>ab2 _ e) p hlen _ (ade j) (ade k) q λg1 g a h x m f=>?_⟩;exact⟨Y,u g1 g a h (λb o z e=>x b o (acz (acg e)) z (ab2 _ e)) m f⟩
end
end Lr
section
variable {X:Cx}{a e:Expr}{ta:TA}{p p2 pos GY:Pos}
def Hi (K:Za1)(ta:TA):TE:=λ d H Q=>ta d H λc b=>∃(l:Addr) (ys:List V),c=[.ref l]/\aI K b l ys/\∀D,b D=none->Q (.ref D) (upd b D (.lst ys.reverse))
theorem Hj {ys:List V}{acc:Array Value}(d:Vals ys N)(h:ItemsOf (λi v=>N.toArray[N.toArray.size - 1 - i]?=some v) acc N.toArray.size):acc.toList=N.reverse:=by
 have f:acc.size=N.length:=by simpa using h.1
 refine aeU λi=>?_
 by_cases b:i<N.length
 ·have e:acc[i]?=some (acc[i]'(by omega)):=Array.getElem?_eq_getElem (by omega)
  have c:=h.2 i _ e
  grind
 grind
theorem qQ:∀{ys:List V} {b:List Value},Vals ys b->Vals ys.reverse b.reverse
 |_,_,.nil=>.nil
 |_,_,.cons r t=>by rw[List.reverse_cons,List.reverse_cons];exact(qQ t).append (.cons r .nil)
theorem C4 (E:X.calm=true)(O:Gl X "list")(P:X.mg "list"=none)(hg:Gl X "reversed")(J:X.mg "reversed"=none)(V:PA X [a] ta)(hs:starEach [a] X.env=[(false,eval a X.env)]:=by rfl)
 (G:starEach [.Call (.Name "reversed" p) [a] [] pos] X.env=[(false,eval (.Call (.Name "reversed" p) [a] [] pos) X.env)]:=by rfl):PE X (.Call (.Name "list" p2) [.Call (.Name "reversed" p) [a] [] pos] [] GY) (Hi X.K ta):=by
 intro i s L H Q I h;refine adh (iw I O P boot_list ?_);refine adk ?_ G rfl;refine ac2 ?_;refine Call_ (iw I hg J boot_reversed (adk (aY (V pos i s L H _ I h) λus s1 ⟨vs,B,t,r1,Z⟩=>?_) hs Y));obtain⟨l,ys,e,hq,q⟩:=Z;subst e;obtain⟨u,rfl,ru⟩:=vals1 r1;cases ru;obtain⟨f,R,pl,hz⟩:=t.list hq;have hl:=R.length;have k:∀b o,s1.heap.get? b=some o->(s1.heap.push (revObj l ((f.toArray.size:Int) - 1))).get? b=some o:=λb o e=>ab2 _ e
 have F:l<s1.heap.objs.size:=let ⟨o,ho,_⟩:=pl.isList;acg ho
 have w:=uZ t (aca s1.heap.objs.size);refine call_reversed_list pl.isList (adJ ?_);have I2:Inv X i L B { s1 with heap:=s1.heap.push (revObj l ((f.toArray.size:Int) - 1)) }:=t.kept (t':=s1.toks) k;refine Lr.call (s:={ s1 with heap:=s1.heap.push (revObj l ((f.toArray.size:Int) - 1)) }) (I.ok.hd E) ⟨_,acf _ Y,Y,Y⟩ (pl.isList.at λo e=>k _ _ e) (acz F) (by rw[acs];omega) λM y acc c W T r=>?_
 have x:=Hj R r;have C:Inv X i L B { s1 with heap:=M,toks:=y }:=I2.turned (t':=y) (λb o j e=>W b o j e) w.none w.loc (.inr w.new) w.cell w.pin;have N:(s1.heap.push (revObj l ((f.toArray.size:Int) - 1))).objs.size=s1.heap.objs.size+ 1:=adL ..;generalize hD:(s1.heap.push (revObj l ((f.toArray.size:Int) - 1))).objs.size=D at T N ⊢;have g:B D=none:=t.aL.fresh (by omega);have A:=uZ t (b:=D) (by omega);have nD:∀{b:Addr},b∉[D]->b≠D:=λj z=>j (by simp[z])
 refine⟨.ref D,upd B D (.lst ys.reverse),Inv.step (s:={ s1 with heap:=M,toks:=y }) C (h':=M) (t':=y) (g':=s1.gens) (d':=s1.drawn) (ch:=[D]) (λb j=>by rw[acb.mp j];exact⟨.inr A.new,A.loc,A.cell,A.pin⟩) (λb o _ _ _ e _=>e) (λb o _ _ _ e _=>⟨o.slots,e⟩) (λb o E _ n=>by rw[ai (nD E)];exact n) (λb o _ e=>⟨o,e⟩)
  (λb U e=>by rw[ai (au e g)];exact e) (λb o u e=>by rw[ai (au e g)];exact e) (λb ps e=>⟨#[],by rw[ai (au e g),e];simp⟩) (λm J=>J) (λb u e=>?_) C.bare,Y,q D g⟩
 ·by_cases j:b=D
  ·subst j;rw[ah]at e;cases e;refine⟨by rw[List.length_reverse];exact hz,f.reverse,c,qQ R,?_⟩;rw[<-x,Array.toArray_toList];exact T
  ·rw[ai j]at e;exact(C.aL b u e).eX (λd v _ q=>q) (λd q=>by rw[ai (au q g)];exact q) λd U q=>by rw[ai (au q g)];exact q
def zt (d c:TE):TE:=λ b H Q=>d b H Q\/c b H Q
theorem u6 {d:TE}(g:PE X e r)(f:PE X e d):PE X e (zt r d):=λb s c H Q I h=>h.elim (g b s c H Q I) (f b s c H Q I)
def N9 (C:Addr):TE:=λ_ H Q=>∀x d,H x=none->H d=none->d≠x->Q (.ref x) (upd (upd H d (.own x)) x (.ins C d []))
theorem uf (d:PySem.W.makesIn X.K b=true)(i:PySem.W.findIn X.K (.ref b) "__init__"=some (some (.builtin "object.__init__")))(kp:PySem.W.keepIn X.K (.ref b)=true)(l:Gl X x)(j:X.mg x=some (.ref b))
 (f:(x==("__debug__":Str))=false:=by decide):PE X (.Call (.Name x p) [] [] pos) (N9 b):=by
 intro g s r H Q I h;refine adh (jK I l j ?_ f);refine PySem.W.callWith_K0 I.cZ kp (aeD ?_);have q:=Inv.made (C:=b) I;have k:=h (s.heap.objs.size+ 1) s.heap.objs.size (I.aL.fresh (aex _)) (I.aL.fresh (aca _)) (acz (adu _));have Y:=PySem.W.makes_of (M:=model X.prog X.w) I.cZ d;refine DP I.cZ d i (λself=>PySem.W.Looks.of_pure (PySem.W.oi_bind self)) ?_
 have m:((s.heap.push PySem.W.emptyDict).push (PySem.W.instObj b s.heap.objs.size)).get? (s.heap.objs.size+ 1)=some (PySem.W.instObj b s.heap.objs.size):=by
  have:=acf (s.heap.push PySem.W.emptyDict) (o:=PySem.W.instObj b s.heap.objs.size) rfl
  rwa [adL]at this
 have t1:PySem.W.Looks (model X.prog X.w) ((s.heap.push PySem.W.emptyDict).push (PySem.W.instObj b s.heap.objs.size)) (typeOf (.ref (s.heap.objs.size+ 1))) (.ref b):=(PySem.W.Looks.ld m).andThen .now;have n:PySem.W.Looks (model X.prog X.w) ((s.heap.push PySem.W.emptyDict).push (PySem.W.instObj b s.heap.objs.size)) (isInstance (.ref (s.heap.objs.size+ 1)) (.type "object")) true:=t1.andThen (Y.top.keeps λc o e=>ab2 _ (ab2 _ e));refine adF PySem.W.oi_plain PySem.W.entry_oi (@PySem.W.check_slot (model X.prog X.w) _ _ _ "object.__init__" "object" "__init__" (.ref (s.heap.objs.size+ 1)) [] [] _ PySem.W.oi_kind PySem.W.oi_split n (PySem.W.oi_args (.ref (s.heap.objs.size+ 1))) ?_);exact ab7 (And.intro rfl ⟨.ref (s.heap.objs.size+ 1),_,q,rfl,k⟩)
inductive RJ (K:Za1) (xs:List V) (H:Hp) (Q:VK):Prop
 |mk (x:V) (D:Addr) (t:Value) (b:Bool):xs=[x,.ref D]->jo K H x t->PySem.W.kitOne K t (.ref D)=some b->Q (.bl b) H->RJ K xs H Q
end
end L2
namespace L2
def nm (E:List Nat)(c:Nat):Nat:=E.getD c 0
def pX (R:Za2)(E:List Nat)(a:Nat)(z:Int)(b:Nat):Prop:=∃c d,R c z d/\nm E c=a/\nm E d=b
def u9 (x y a:Nat):Nat:=if a=y then x else a
theorem va (h:n<m)(E:List Nat)(c:Nat):nm (E.map (u9 n m)) c=u9 n m (nm E c):=by
 unfold nm;rw[acd,acd,aco]
 cases E[c]? with
 |some x=>rfl
 |none=>show 0=u9 n m 0;unfold u9;rw[acm (by omega)]
def Ob (u v:Nat)(W:Za2)(a:Nat)(z:Int)(b:Nat):Prop:=∃c d,W c z d/\u9 u v c=a/\u9 u v d=b
inductive One (ws:Za3) (nr:Nat):List Nat->(Za2)->Dt->List Nat->(Za2)->Prop
 |meet {E:List Nat} {W:Za2} {c u v:Nat} {z:Int}:u<v->E[u]?=some u->E[v]?=some v->W c z u->W c z v->One ws nr E W (gE c z u v) (E.map (u9 u v)) (Ob u v W)
 |rule {E:List Nat} {W:Za2} {which k c d:Nat} {word:List Int} {p:List Nat} {z:Int}:ws[which]?=some word->p.length=word.length+ 1->p[0]?=p[word.length]?->(which<nr\/p[0]?=some 0)->(∀x∈p,E[x]?=some x)->word[k]?=some z->p[k]?=some c->p[k+ 1]?=some d->
  (∀(i a b:Nat) (y:Int),i≠k->word[i]?=some y->p[i]?=some a->p[i+ 1]?=some b->W a y b)->One ws nr E W (kY which p k) E (ft W c z d)
inductive Go (ws:Za3) (nr:Nat):List Nat->(Za2)->List Dt->List Nat->(Za2)->Prop
 |nil {E:List Nat} {W W':Za2}:(∀a z b,W a z b↔W' a z b)->Go ws nr E W [] E W'
 |cons {E E1 E2:List Nat} {W W1 W2:Za2} {row:Dt} {ms:List Dt}:One ws nr E W row E1 W1->Go ws nr E1 W1 ms E2 W2->Go ws nr E W (row::ms) E2 W2
section
variable {ws:Za3}{nr:Nat}{E E1 E2:List Nat}{W W' W1 W2:Za2}{ms ns:List Dt}
theorem Go.congr (h:Go ws nr E W ms E1 W1):∀{W':Za2},(∀a z b,W' a z b↔W a z b)->Go ws nr E W' ms E1 W1:=by
 induction h with
 |nil e=>exact λh=>.nil λa z b=>(h a z b).trans (e a z b)
 |cons o _ m=>
  intro W' h
  cases o with
  |meet g j k l c=>exact .cons (.meet g j k ((h _ _ _).mpr l) ((h _ _ _).mpr c)) (m λa z b=>by
   constructor
   ·rintro ⟨f,d,q,r⟩;exact⟨f,d,(h _ _ _).mp q,r⟩
   ·rintro ⟨f,d,q,r⟩;exact⟨f,d,(h _ _ _).mpr q,r⟩)
  |rule g j k l c x n s u=>exact .cons (.rule g j k l c x n s λi a b y p v w t=>(h _ _ _).mpr (u i a b y p v w t)) (m λa z b=>by
   unfold ft;rw[h])
theorem Go.app (h:Go ws nr E W ms E1 W1):∀{E2:List Nat} {W2:Za2} {ns:List Dt},Go ws nr E1 W1 ns E2 W2->Go ws nr E W (ms++ns) E2 W2:=by
 induction h with
 |nil e=>exact λg=>g.congr e
 |cons o _ a=>exact λg=>.cons o (a g)
end
theorem Ln (h:n<m)(a:Nat)(z:Int)(b:Nat):Ob n m (pX R B) a z b↔pX R (B.map (u9 n m)) a z b:=by
 constructor
 ·rintro ⟨g,i,⟨c,d,r,rfl,rfl⟩,e,f⟩;exact⟨c,d,r,by rw[va h,e],by rw[va h,f]⟩
 ·rintro ⟨c,d,r,e,f⟩;exact⟨_,_,⟨c,d,r,Y,Y⟩,by rw[<-va h,e],by rw[<-va h,f]⟩
section
variable {ws:Za3}{nr:Nat}{S S':RS}{pend:List Way}{R:Za2}{ks:List Int}
theorem pC {S:RS}(wf:S.Wf){c:Nat}(a:c<S.made):S.aS[c]?=some (S.ao c):=by
 unfold RS.ao;rw[acd,ab3 (by rw[wf.e];exact a)];rfl
theorem Oc (l:jP S pend S'):Good S pend R->(∀c z d,R c z d->z∈ks)->∃f,S'.rows=S.rows++f/\Go ws nr S.aS (pX R S.aS) f S'.aS (pX R S'.aS):=by
 induction l with
 |nil S=>exact λ_ _=>⟨[],(acD _).symm,.nil λ_ _ _=>Iff.rfl⟩
 | @take S S' pend w _ C=>
   intro g v;obtain⟨g1,_,u,_,q⟩:=g.take v;obtain⟨f,t,k⟩:=C g1 v;rcases q with ⟨_,h,B⟩|⟨_,c,z,x,y,A,m,E,F,o,h,_,G⟩
   ·rw[sS B]at k;exact⟨f,by rw[t,h],k⟩
   ·obtain⟨_,p,_,ex⟩:=g.st _ _ _ A;have e:min x y<max x y:=by rcases Nat.lt_or_gt_of_ne o with q|q <;> omega
    have D:(S.takeIn pend w).1.aS=S.aS.map (u9 (min x y) (max x y)):=by
     refine aeU λi=>?_
     rw[aco];by_cases r:i<S.made
     ·rw[pC g1.wf (by rw[u];exact r),pC g.wf r,G];rfl
     ·rw[acN (by rw[g1.wf.e,u];omega),acN (by rw[g.wf.e];omega)];rfl
    have ix:pX R S.aS c z x:=g.so _ _ _ A;have m:pX R S.aS c z y:=m;have j:=pC g.wf p;have n:=pC g.wf E;rw[ex]at j;rw[F]at n;refine⟨gE c z (min x y) (max x y)::f,by rw[t,h,adb];rfl,.cons (.meet e ?_ ?_ ?_ ?_) ((D ▸ k).congr λa s b=>Ln e a s b)⟩
    ·rcases ae9 x y with q|q
     ·rw[aes q];exact j
     ·rw[ae2 q];exact n
    ·rcases ae9 x y with q|q
     ·rw[afv q];exact n
     ·rw[afh q];exact j
    ·rcases ae9 x y with q|q
     ·grind
     ·rw[ae2 q];exact m
    ·rcases ae9 x y with q|q
     ·grind
     ·rw[afh q];exact ix
theorem qR {by_:Nat->Int->Option Nat}:∀{w:List Int} {r e:Nat},wk by_ r w=some e->(r::b8 by_ r w).length=w.length+ 1/\(r::b8 by_ r w)[w.length]?=some e/\∀(i:Nat) (y:Int),w[i]?=some y->∃a b,(r::b8 by_ r w)[i]?=some a/\(r::b8 by_ r w)[i+ 1]?=some b/\by_ a y=some b
 |[],r,e,h=>by
  refine⟨Y,by rw[<-Za0 h];rfl,λi y q=>by simp at q⟩
 |z::w,r,e,h=>by
  obtain⟨d,c,f⟩:=gx h;obtain⟨j,g,k⟩:=qR f;rw[mE c];refine⟨by rw[acC,j];rfl,g,λi y q=>?_⟩
  cases i with
  |zero=>exact⟨r,d,Y,Y,by rw[<-Za0 q];exact c⟩
  |succ i=>exact k i y q
theorem ug (g:Good S [] R):∀{w:List Int} {r e:Nat},wk S.by r w=some e->S.aS[r]?=some r->∀x∈r::b8 S.by r w,S.aS[x]?=some x
 |[],r,e,h,b,x,a=>by rw[acb.mp a];exact b
 |z::w,r,e,h,b,x,a=>by
  obtain⟨d,c,f⟩:=gx h;rcases aci.mp a with rfl|a
  ·exact b
  ·rw[mE c]at a;obtain⟨_,j,_,i⟩:=g.st _ _ _ c;have:=pC g.wf j;rw[i]at this;exact ug g f this x a
theorem Hk (f:nm B n=n)(e:nm B m=m)(a:Nat)(y:Int)(b:Nat):ft (pX R B) n z m a y b↔pX (ft R n z m) B a y b:=by
 constructor
 ·rintro (⟨g,h,r,c,d⟩|⟨rfl,rfl,rfl⟩|⟨rfl,rfl,rfl⟩)
  ·exact⟨g,h,.inl r,c,d⟩
  ·exact⟨_,_,.inr (.inl ⟨Y,Y,Y⟩),f,e⟩
  ·exact⟨_,_,.inr (.inr ⟨Y,Y,Y⟩),e,f⟩
 ·rintro ⟨g,h,r|⟨rfl,rfl,rfl⟩|⟨rfl,rfl,rfl⟩,c,d⟩
  ·exact .inl ⟨g,h,r,c,d⟩
  ·exact .inr (.inl ⟨c.symm.trans f,Y,d.symm.trans e⟩)
  ·exact .inr (.inr ⟨c.symm.trans e,Y,d.symm.trans f⟩)
theorem Hl {start:Nat}{word:List Int}(g:Good S [] R)(c:uX ws nr S n word start m i j z):One ws nr S.aS (pX R S.aS) (kY n ((start::b8 S.by start (word.take m))++(j::b8 S.by j (word.drop (m+ 1)))) m) S.aS (ft (pX R S.aS) i z j):=by
 have H:m<word.length:=(ab5.mp c.hz).1;obtain⟨d,u,E⟩:=qR c.f;obtain⟨w,F,B⟩:=qR c.r;have lt:(word.take m).length=m:=by rw[acQ];omega
 have ld:(word.drop (m+ 1)).length=word.length - (m+ 1):=ad5 ..;rw[lt]at d u;rw[ld]at w F;have A:=pC g.wf c.s.1;rw[c.s.2]at A;have v:=pC g.wf c.hd.1;rw[c.hd.2]at v;have left:∀h,h<=m->((start::b8 S.by start (word.take m))++(j::b8 S.by j (word.drop (m+ 1))))[h]?=(start::b8 S.by start (word.take m))[h]?:=λh t=>acn (by rw[d];omega)
 have right:∀h,((start::b8 S.by start (word.take m))++(j::b8 S.by j (word.drop (m+ 1))))[m+ 1+ h]?=(j::b8 S.by j (word.drop (m+ 1)))[h]?:=λh=>by
  rw[acp (by rw[d];omega),d]
  congr 1
  omega
 refine .rule c.w (by rw[ab6,d,w];omega) ?_ ?_ (λx k=>?_) c.hz ?_ ?_ λh a b y t G l o=>?_
 ·grind
 ·rw[left 0 (by omega)];exact c.n.imp id λe=>by rw[e];rfl
 ·rcases ach.mp k with k|k
  ·exact ug g c.f A x k
  ·exact ug g c.r v x k
 ·rw[left m (aca _)];exact u
 ·rw[right 0];rfl
 ·rcases Nat.lt_or_gt_of_ne t with q|q
  ·obtain⟨D,C,p,r,s⟩:=E h y (by grind);rw[left h (by omega),p]at l;rw[left (h+ 1) (by omega),r]at o;obtain rfl:=Za0 l;obtain rfl:=Za0 o;exact g.so _ _ _ s
  ·obtain⟨f,rfl⟩:∃f,h=m+ 1+ f:=⟨h - (m+ 1),by omega⟩;obtain⟨D,C,p,r,s⟩:=B f y (by rw[List.getElem?_drop];exact G);rw[right,p]at l;rw[show m+ 1+ f+ 1=m+ 1+ (f+ 1) by omega,right,r]at o;obtain rfl:=Za0 l;obtain rfl:=Za0 o;exact g.so _ _ _ s
theorem Jd (t:Tr ws nr S S')(v:∀w∈ws,∀z∈w,z∈ks/\-z∈ks):Good S [] R->fh S->(∀a z b,R a z b->z∈ks)->∃p,Good S' [] p/\fh S'/\(∀a z b,p a z b->z∈ks)/\∃l,S'.rows=S.rows++l/\Go ws nr S.aS (pX R S.aS) l S'.aS (pX p S'.aS):=by
 induction t with
 |refl=>exact λg w k=>⟨R,g,w,k,[],(acD _).symm,.nil λ_ _ _=>Iff.rfl⟩
 |step _ f u A=>
  rename_i j H h word start m c d z _;intro g E k;obtain⟨D,g1,n,F,l,G,o⟩:=A g E k;have s:=v word (ab4 f.w) z (ab4 f.hz)
  have i:∀a y b,ft D c z d a y b->y∈ks:=by
   rintro a y b (r|⟨_,e,_⟩|⟨_,e,_⟩)
   ·exact F _ _ _ r
   ·rw[e];exact s.1
   ·rw[e];exact s.2
  have gl:=g1.lay z f.hc.1 f.hd.1 (j.rows++[kY h ((start::b8 j.by start (word.take m))++(d::b8 j.by d (word.drop (m+ 1)))) m]);obtain⟨C,x,_⟩:=u.all gl i ⟨n.a,n.b,n.c⟩;obtain⟨q,B,go2⟩:=Oc (ws:=ws) (nr:=nr) u gl i;refine⟨_,C,x,i,l++(_::q),?_,o.app (.cons (Hl g1 f) (go2.congr λa y b=>Hk f.hc.2 f.hd.2 a y b))⟩;rw[B];show (j.rows++[_])++q=_
  grind
end
end L2
namespace L2
open PySem PySem.Spec PyProof.Rows
def SW (a:Program)(w:World)(A:Around)(env:Env):List Expr->(Bool->Shared->Prop)->Shared->Prop
 |[],K,s=>K true s
 |c::_,K,s=>wpAny (model a w) A (isTrue c env (eval c env)) K (λ_ _=>False) s
theorem zu {R:Result->Shared->Prop}{elt target iter:Expr}{cs:List Expr}{scope:Scope}{it acc:Value}{env:Env}(i:cs.length<=1)(I:Nat->Shared->Prop)
 (turn:∀n s,I n s->wpAny (model P w) A (pyNext it) (λr c=>match r with
  |none=>R (.ok .next) c
  |some v=>wpAny (model P w) A (letOwnedTupleGo target it v) (λ_ g=>wpAny (model P w) A (assign target env v) (λ_ e=>SW P w A env cs (λb a=>
   match b with
   |true=>wpAny (model P w) A (eval elt env) (λx d=>wpAny (model P w) A (call (.builtin "list.append") [acc,x]) (λ_ f=>∃m,m<n/\I m f) (λ_ _=>False) d) (λ_ _=>False) a
   |false=>∃m,m<n/\I m a) e) (λ_ _=>False) g) (λ_ _=>False) c) (λ_ _=>False) s)
 (n:Nat) (h:I n s):codeAny (model P w) A (.compLoop (.ListComp elt [⟨target,iter,cs,0⟩] scope p) 0 it acc env) R s:=
 match cs,i,turn with
 |[],_,turn=>AK I turn n h
 |[_],_,turn=>yj I turn n h
def Je (X:Cx):List Expr->TT->Prop
 |[],a=>a=λ_ H Q=>Q true H
 |c::_,a=>PT X c a
theorem Lp {e:TT}{Q:Bool->Hp->Prop}{K:Bool->Shared->Prop}(h:Je X C e)(f:X.xe=λ_ _=>False)(I:Inv X o D H s)(q:e D H Q)(k:∀b a d,Inv X o D d a->Q b d->K b a):SW X.prog X.w X.A X.env C K s:=
 match C,h with
 |[],h=>by
  rw[h]at q;exact k true s H I q
 |c::_,h=>by
  have:=h o s D H Q I q;rw[f]at this;exact aY this λb a ⟨d,g,i⟩=>k b a d g i
section
variable {X:Cx}{elt iter uQ:Expr}{x:Str}{px pos:Pos}{scope:Scope}{cl:List (Str×Addr)}{fns:List Str}{ixs:List Nat}{wi:TI}{tt:TT}{te:TE}
theorem xT {cs:List Expr}{use:Option (Value->Sem Unit)}{RQ:Value->Shared->Prop}{Q:VK}(hl:cs.length<=1)(hc:X.calm=true)(hi:PI X (.Name x px) iter wi)(S:dJ X x fns ixs scope cl)
 (ht:∀(C:Addr) (s:Shared) (H:Hp) (ex:List Addr),Je (dg X (x::fns) scope cl C s H ex) cs tt) (he:∀(C:Addr) (s:Shared) (H:Hp) (ex:List Addr),PE (dg X (x::fns) scope cl C s H ex) elt te)
 (hs:∀x,foldedSetIterable iter X.env x=pure x) (I:Inv X o D H s) (h:nB wi (iq ixs) tt te D H Q)
 (fin:∀(C f:Addr) (H3:Hp) (ys:List V) (s4:Shared) (m:Str->Option Value),s4.heap.Ns C m->(∀L,Heap.SameBut C s4.heap L->Inv X o D (upd H3 f (.lst ys)) { s4 with heap:=L })->upd H3 f (.lst ys) C=none->X.env.locals≠C->(∀z c,X.env.cells.lookup z=some c->c≠C)->X.dR.heap.objs.size<=C->(∀g∈X.pn++o,g.1≠C)->Q (.ref f) (upd H3 f (.lst ys))->compPost (model X.prog X.w) X.A X.xe use RQ (.ref f) C (.ok .next) s4):
 wpAny (model X.prog X.w) X.A (comprehension (.ListComp elt [⟨.Name x px,iter,cs,0⟩] scope pos) scope X.env p (newList []) false (eval iter X.env) use) RQ X.xe s:=by
 refine wpAny_comprehension_free Y hs S.yN S.kind S.names (aY (hi o s D H _ I h) λv s1 h1=>aY h1 λWj s2 h2=>?_);obtain⟨it,Z,tn,J,H2,e,A,T,y4,f2,W,⟨m0,w0⟩,turn⟩:=h2;subst e
 have E:∀b∈Z,b<s2.heap.objs.size:=λb t=>by
  obtain⟨k,ho,_⟩:=T.obj _ _ y4 b t;exact acg ho
 refine acV (wpAny_newFunctionEnv S.cell (by intro y hy;simp at hy) (λHm N P=>?_) S.kind);generalize zv:s2.heap.push { cls:=.type "list",dict:=none,data:=.seq ([]:List Value).toArray }=M at N P ⊢;generalize hD:s2.heap.objs.size=f at E ⊢;have hC:M.objs.size=f+ 1:=by rw[<-zv,adL,hD]
 generalize Xe:M.objs.size=C at hC N P ⊢;have w:f<C:=by omega
 have ER:f≠C:=acz w;have G:∀b u,s2.heap.get? b=some u->M.get? b=some u:=λb u q=>by rw[<-zv];exact ab2 _ q
 have Jf:∀{b u},s2.heap.get? b=some u->b<f:=λq=>by rw[<-hD];exact acg q
 have U:∀b u,M.get? b=some u->Hm.get? b=some u:=λb u q=>
  P.extBut b u (acz (acw (acg q) (aeJ Xe))) (ab2 _ q)
 have Xf:M.get? f=some { cls:=.type "list",dict:=none,data:=.seq ([]:List Value).toArray }:=by rw[<-zv,<-hD];exact acf _ rfl
 have I3:Inv X o D H2 { s2 with heap:=M }:=A.kept (t':=s2.toks) G;have Jg:H2 f=none:=A.aL.fresh (by omega);have Xg:H2 C=none:=A.aL.fresh (by omega)
 have Hn:∀b∈f::Z,b∉cx X.stack:=λb t z=>by
  rcases aci.mp (A.yA b z) with e|z
  ·rcases aci.mp t with e2|t
   ·exact absurd A.lt (by rw[<-e,e2,<-hD];exact adg _)
   ·exact(f2 b t).2.1 e
  ·rcases aci.mp t with e2|t
   ·exact A.Cq (by rw[e2,<-hD];exact aca _) z
   ·exact(f2 b t).2.2.1 z
 have kH:∀y c,cl.lookup y=some c->∀b∈f::Z,c≠b:=λy c q b t z=>by
  obtain⟨v,hv⟩:=A.cell y c (S.sub y c q);rcases aci.mp t with e2|t
  ·exact absurd hv.lt (by rw[z,e2,<-hD];exact adg _)
  ·exact(f2 b t).2.2.2.2.1 y c (S.sub y c q) z
 let R:Cx:=dg X (x::fns) scope cl C { s2 with heap:=M } H2 (f::Z)
 have ok:R.Ok:={
  mod:=A.ok.mod
  kind:=S.kind
  glob:=A.ok.glob
  blt:=A.ok.blt
  above:=by show M.objs.size<=C;omega
  inj:=λy z c q1 q2=>A.ok.inj y z c (S.sub _ _ q1) (S.sub _ _ q2)
  has:=S.has
  yz:=λy c q=>nomatch q
  hd:=A.ok.hd
  frames:=A.ok.frames
  A8:=.inl rfl
  IG:=λb t=>⟨by
   rcases aci.mp t with e2|t
   ·rw[e2];exact ER
   ·exact acz (ae7 (E b t) w),λy c q=>kH y c q b t⟩
  bs:=I3.bs
  qw:=acr I3.ok.qw I3.sz
  tU:=λb k q t=>by
   rcases aci.mp t with e2|t
   ·exact absurd (Jf (A.bs b k q).1) (by rw[e2];exact adg _)
   ·rcases (f2 b t).2.2.2.1 with z|z
    ·exact A.ok.tU b k q z
    ·exact absurd (acg (A.ok.bs b k q).1) (Nat.not_lt.mpr z)
  wu:=Hn
  iJ:=I3.stack
  sN:=I3.nk }
 have start:∀(v0:Option V),v0=none->Inv R [(f,{ cls:=.type "list",dict:=none,data:=.seq ([]:List Value).toArray })] (v0::iq ixs D) H2 { s2 with heap:=Hm,toks:=s2.toks+ ([]:List (Str×Value)).length }:=λv0 Xh=>{
  ok:=ok
  os:=rfl
  bare:=A.bare
  base:=Un.kept U
  loc:=⟨_,N,λi y v e1 e2 e3=>by
   cases i with
   |zero=>rw[Xh]at e2;cases e2
   |succ j=>
    have Xi:fns[j]?=some y:=e1
    have Od:(iq ixs D)[j]?=some (some v):=e2
    obtain⟨i,Xj,SX,hk,c,uR,El⟩:=S.at_ j y Xi;unfold iq at Od;rw[aco,Xj]at Od
    have Xk:D[i]?=some (some v):=by
     have z:(D[i]?).join=some v:=Za0 Od
     cases q:D[i]? with
     |none=>rw[q]at z;cases z
     |some k=>rw[q]at z;rw[show k=some v from z]
    obtain⟨m,_,hl⟩:=A.loc;obtain⟨u,r,l⟩:=hl i y v SX Xk (hk.elim (λz=>.inr (.inl z)) λz=>.inr (.inr z));refine⟨u,r,.inr ⟨El,c,uR,?_⟩⟩;rcases l with ⟨z,_⟩|⟨_,c',Mj,RK⟩
    ·rcases hk with hk|hk <;> grind
    ·have:c'=c:=Za0 (Mj.symm.trans (S.sub _ _ uR));subst this;obtain⟨k,ho,hd⟩:=RK;exact⟨k,U _ _ (G _ _ ho),hd⟩⟩
  cell:=λy c q=>by
   obtain⟨v,k,ho,hd⟩:=A.cell y c (S.sub y c q);exact⟨v,k,U _ _ (G _ _ ho),hd⟩
  free:=Xg
  fX:=λy c q=>A.fX y c (S.sub y c q)
  pin:=λg hp=>by
   have Oe:g=(f,{ cls:=.type "list",dict:=none,data:=.seq ([]:List Value).toArray }):=by simpa [R,dg] using hp
   subst Oe;exact⟨U _ _ Xf,Jg,ER,Hn f (ack ..),λv z=>nomatch z⟩
  aL:=(A.aL.kept G).kept U
  len:=by show (v0::iq ixs D).length=(x::fns).length;simp[iq,S.len] }
 have Og:∀{H':Hp} {O:List (Addr×Obj)},(∀b∈Z,H' b=none)->(∀g∈O,g.1=f)->∀b∈Z,oW R O H' b:=λ{H' O} hn hp b t=>
  ⟨hn b t,acz (ae7 (E b t) w),Hn b (acG _ t),.inl (acG _ t),λy c q=>kH y c q b (acG _ t),λg q=>by
   have q':g∈O:=by simpa [R,dg] using q
   rw[hp g q'];exact ade (E b t)⟩
 have loop:codeAny (model X.prog X.w) X.A (.compLoop (.ListComp elt [⟨.Name x px,iter,cs,0⟩] scope pos) 0 (.ref it) (.ref f) (compEnvC scope cl C X.env))
  (compPost (model X.prog X.w) X.A X.xe use RQ (.ref f) C) { s2 with heap:=Hm,toks:=s2.toks+ ([]:List (Str×Value)).length }:=by
  refine zu hl (λn s'=>∃(i:Nat) (ys:List V) (F:List Value) (nn:Nat) (v0:Option V) (H':Hp),Inv R [(f,{ cls:=.type "list",dict:=none,data:=.seq F.toArray nn })] (v0::iq ixs D) H' s'/\tn i s'.heap/\(∀b∈Z,H' b=none)/\Vals ys F/\W i n ys H') ?_ m0
   ⟨0,[],[],0,none,H2,start none Y,T.keep _ _ _ y4 λb _ k q=>U _ _ (G _ _ q),λb t=>(f2 b t).1,.nil,w0⟩
  rintro n s3 ⟨i,ys,F,nn,v0,H3,J3,SY,S0,vv,w3⟩
  have Ho:∀g∈([(f,({ cls:=.type "list",dict:=none,data:=.seq F.toArray nn }:Obj))]:List (Addr×Obj)),g.1=f:=λg hp=>by
   grind
  rcases turn i n ys H3 w3 with ⟨stop,hlen,q⟩|⟨go,hlen,step⟩
  ·-- the end
   refine aY (T.done R Y Y Y hc i _ s3 _ H3 _ J3 (Og S0 Ho) SY stop) λr s4 ⟨hr,J4⟩=>?_
   subst hr;obtain⟨m,hn,_⟩:=J4.loc;obtain⟨gD,nD,_,_,_⟩:=J4.pin (f,{ cls:=.type "list",dict:=none,data:=.seq F.toArray nn }) (by simp[R,dg]);have B:=J4.base
   have inv:∀L,Heap.SameBut C s4.heap L->Inv X o D (upd H3 f (.lst ys)) { s4 with heap:=L }:=λL Xl=>by
    have kC:∀b u,b≠C->s4.heap.get? b=some u->L.get? b=some u:=λb u t q=>(Xl.2 b t).trans q
    have ne:∀{b k},s2.heap.get? b=some k->b≠C/\b≠f:=λq=>⟨acz (ae7 (Jf q) w),acz (Jf q)⟩
    have vd:∀{b k},s2.heap.get? b=some k->b∉Z->b∉f::Z:=λq hx z=>(aci.mp z).elim (ne q).2 hx
    have uu:Un (cx X.stack) Z H2 (upd H3 f (.lst ys)) s2.heap L:={
     keep:=λb k q n t hx=>kC b k (ne q).1 (B.keep b k (G b k q) n t (vd q hx))
     slot:=λb k q n t hx=>by
      obtain⟨sl,e⟩:=B.slot b k (G b k q) n t (vd q hx);exact⟨sl,kC b _ (ne q).1 e⟩
     free:=λb k q n hx=>by rw[ai (ne q).2];exact B.free b k (G b k q) n (vd q hx)
     there:=λb k q hx=>by
      obtain⟨o',e⟩:=B.there b k (G b k q) (vd q hx);exact⟨o',kC b _ (ne q).1 e⟩
     gN:=λb xs q=>by rw[ai (au q Jg)];exact B.gN b xs q
     fW:=λb k xs q=>by rw[ai (au q Jg)];exact B.fW b k xs q
     gO:=λb ps q=>by
      obtain⟨more,e⟩:=B.gO b ps q;exact⟨more,by rw[ai (au q Jg)];exact e⟩ }
    have aL:dw X.prog X.w (upd H3 f (.lst ys)) L:=λb u e=>by
     by_cases t:b=f
     ·subst t;rw[ah]at e;cases e;exact⟨hlen,F,nn,vv,kC _ _ ER gD⟩
     ·rw[ai t]at e;refine(J4.aL b u e).eX (λc v hc q=>kC c v ?_ q) (λc q=>by rw[ai (au q nD)];exact q) λc xs q=>by rw[ai (au q nD)];exact q
      have fC:H3 C=none:=J4.free
      grind
    exact A.Cr (s':={ s4 with heap:=L }) J4.os uu aL J4.bare (λb t=>⟨(f2 b t).2.2.2.1,(f2 b t).2.1,(f2 b t).2.2.2.2.1,(f2 b t).2.2.2.2.2⟩)
   have ab:∀{b k},s2.heap.get? b=some k->b≠C:=λq z=>absurd (Jf q) (by rw[z];exact Nat.not_lt.mpr (afu w))
   refine fin C f H3 ys s4 m hn inv (by rw[ai (adn ER)];exact J4.free) (λz=>?_) (λz c hz=>?_) (acr (by have:=A.sz;rw[hD]at this;exact this) (afu w)) (λg hp=>ab (A.pin g hp).1) (q f nD)
   ·have h1:=A.lt
    grind
   ·obtain⟨v,k,ho,_⟩:=A.cell z c hz;exact ab ho
  ·-- a turn
   refine aY (T.item R Y Y Y hc i _ s3 _ H3 _ J3 (Og S0 Ho) SY go) λr s4 ⟨u,hr,h4⟩=>?_
   subst hr;refine aY h4 λ_ s5 ⟨xv,H5,J5,r5,y5,EV,EW⟩=>?_
   have Xm:=J5.pinned (Og EW Ho) (T.obj _ _ EV);have hg:PG R (.Name x px) (rQ 0):=cC (X:=R) (i:=0) S.nd Y (.inl (sP S.own)) (.inr (sP S.own));refine aY (hg _ s5 _ H5 xv u (λ fU H'=>fU=some xv::iq ixs D/\H'=H5) Xm r5 ⟨Y,Y⟩) λ_ s6 ⟨σ6,H6,J6,e6,Xn⟩=>?_
   subst e6 Xn;refine Lp (ht C { s2 with heap:=M } H2 (f::Z)) Y J6 (step xv H6 y5) λbt S5 Oh EX q6=>?_
   cases bt with
   |true=>
    refine aY (he C { s2 with heap:=M } H2 (f::Z) _ S5 _ Oh _ EX q6) λyv s7 ⟨y,H7,J7,r7,m',Oi,w7⟩=>?_
    obtain⟨gD,nD,_,_,_⟩:=J7.pin (f,{ cls:=.type "list",dict:=none,data:=.seq F.toArray nn }) (by simp[R,dg]);have Oj:tn (i+ 1) s7.heap:=T.keep _ _ _ EV λb t k e=>(J7.pin (b,k) (ab8 _ (ab8 _ (hH t e)))).1
    have Ol:∀b∈Z,H7 b=none:=λb t=>by
     obtain⟨k,e,d⟩:=T.obj _ _ EV b t;exact(J7.pin (b,k) (ab8 _ (ab8 _ (hH t e)))).2.1
    have Xo:Inv R [] (some xv::iq ixs D) H7 s7:=J7.i5 λg hp=>nomatch hp
    refine wpAny_list_append_plain (hsz:=by rw[acs,<-vv.length];omega) ⟨nn,gD⟩ λh8 Xp S7=>?_
    obtain⟨n8,g8⟩:=Xp
    have J8:Inv R [] (some xv::iq ixs D) H7 { s7 with heap:=h8 }:=Xo.turned (t':=s7.toks) (it:=f) (λb k t e=>(S7.2 b t).trans e) nD (ER) (.inl (ack ..))
     (λy c q=>kH y c q f (ack ..)) (λg hp=>by simp[R,dg]at hp)
    refine⟨m',Oi,i+ 1,ys++[y],F++[yv],n8,some xv,H7,J8.i5 λg hp=>?_,?_,Ol,vv.append (.cons r7 .nil),w7⟩
    ·grind
    ·exact T.keep _ _ _ Oj λb t k e=>(S7.2 b (acz (E b t))).trans e
   |false=>
    obtain⟨m',Oi,w7⟩:=q6;obtain⟨gD,nD,_,_,_⟩:=EX.pin (f,{ cls:=.type "list",dict:=none,data:=.seq F.toArray nn }) (by simp[R,dg]);have Oj:tn (i+ 1) S5.heap:=T.keep _ _ _ EV λb t k e=>(EX.pin (b,k) (ab8 _ (ab8 _ (hH t e)))).1
    have Ol:∀b∈Z,Oh b=none:=λb t=>by
     obtain⟨k,e,d⟩:=T.obj _ _ EV b t;exact(EX.pin (b,k) (ab8 _ (ab8 _ (hH t e)))).2.1
    refine⟨m',Oi,i+ 1,ys,F,nn,some xv,Oh,EX.i5 λg hp=>?_,Oj,Ol,vv,w7⟩
    grind
 exact codeAny_compStart_list loop (T.self _ 0 _ _ _ (T.keep _ _ _ y4 λb _ k q=>U _ _ (G _ _ q)) loop)
theorem zx {cs:List Expr}(f:cs.length<=1)(e:X.calm=true)(d:PI X (.Name x px) iter wi)(S:dJ X x fns ixs scope cl)(i:∀(C:Addr) (s:Shared) (H:Hp) (ex:List Addr),Je (dg X (x::fns) scope cl C s H ex) cs tt)
 (k:∀(C:Addr) (s:Shared) (H:Hp) (ex:List Addr),PE (dg X (x::fns) scope cl C s H ex) elt te) (j:∀x,foldedSetIterable iter X.env x=pure x):PE X (.ListComp elt [⟨.Name x px,iter,cs,0⟩] scope pos) (nB wi (iq ixs) tt te):=by
 intro c s n H Q I h;exact xT f e d S i k j I h λC D l ys o m g inv _ _ _ _ _ q=>⟨m,g,λa b=>⟨.ref D,_,inv a b,Y,q⟩⟩
theorem sT {cs:List Expr}{a:Pos}(F:cs.length<=1)(T:X.N.Nodup)(l:X.N[n]?=some f)(P:Loc X.env.scope f)(E:X.calm=true)(B:PI X (.Name x px) iter wi)(S:dJ X x fns ixs scope cl)(M:∀(C:Addr) (s:Shared) (H:Hp) (ex:List Addr),Je (dg X (x::fns) scope cl C s H ex) cs tt)
 (Q:∀(C:Addr) (s:Shared) (H:Hp) (ex:List Addr),PE (dg X (x::fns) scope cl C s H ex) elt te) (O:∀x,foldedSetIterable iter X.env x=pure x) (i:swapsWith (.ListComp elt [⟨.Name x px,iter,cs,0⟩] scope pos) (some (.Name f p)) a.line X.env=pure true)
 (g:X.fn f=true\/X.env.scope.names.lookup f=some .local):PS X (.Assign [.Name f p] (.ListComp elt [⟨.Name x px,iter,cs,0⟩] scope pos) a) (yD (nB wi (iq ixs) tt te) (rQ n)):=by
 intro d s Z H R I h;rw[exec_Assign_Name_used _ _ _ _ i];refine ab1 (aeT (ab1 ?_));refine ab1 (acW (xT (RQ:=λ_ z=>SP X d R .next z) F E B S M Q O I h λC D V ys s4 m G inv j U w sz N q=>?_) (λ_ z L=>ab7 (ab7 L)) λ_ _ e=>e);refine wpAny_assign_Name (w9 (inv _ ⟨Y,λ_ _=>rfl⟩) T l P (v:=.ref D) Y (λs5 A c=>?_) g);obtain⟨y,u,t⟩:=c
 have k:C≠y:=by
  rcases t with e|e
  ·grind
  ·exact adn (w f y e)
 refine⟨m,G.sameBut u k,λh6 r=>?_⟩;exact⟨_,_,A.turned (t':=s5.toks) (it:=C) (λb o J e=>(r.2 b J).trans e) j (adn U) (.inr sz) w N,q⟩
theorem lJ (d:X.calm=true)(c:PI X (.Name x px) iter wi)(S:dJ X x fns ixs scope cl)
 (b:∀(C:Addr) (s:Shared) (H:Hp) (ex:List Addr),PE (dg X (x::fns) scope cl C s H ex) elt te)
 (a:∀x,foldedSetIterable iter X.env x=pure x:=by intro _;rfl):
 PE X (.ListComp elt [⟨.Name x px,iter,[],0⟩] scope pos) (IW wi (iq ixs) te):=zx (cs:=[]) (by decide) d c S (λ_ _ _ _=>rfl) b a
theorem ve (e:X.calm=true)(d:PI X (.Name x px) iter wi)(S:dJ X x fns ixs scope cl)
 (a:∀(C:Addr) (s:Shared) (H:Hp) (ex:List Addr),PT (dg X (x::fns) scope cl C s H ex) uQ tt) (c:∀(C:Addr) (s:Shared) (H:Hp) (ex:List Addr),PE (dg X (x::fns) scope cl C s H ex) elt te)
 (b:∀x,foldedSetIterable iter X.env x=pure x:=by intro _;rfl):
 PE X (.ListComp elt [⟨.Name x px,iter,[uQ],0⟩] scope pos) (nB wi (iq ixs) tt te):=zx (cs:=[uQ]) (aca _) e d S a c b
theorem AW {iy:Nat}{a:Pos}(j:X.N.Nodup)(c:X.N[iy]?=some f)(g:Loc X.env.scope f)(k:X.calm=true)(h:PI X (.Name x px) iter wi)(S:dJ X x fns ixs scope cl)
 (i:∀(C:Addr) (s:Shared) (H:Hp) (ex:List Addr),PE (dg X (x::fns) scope cl C s H ex) elt te)
 (e:∀x,foldedSetIterable iter X.env x=pure x:=by intro _;rfl) (d:swapsWith (.ListComp elt [⟨.Name x px,iter,[],0⟩] scope pos) (some (.Name f p)) a.line X.env=pure true:=by rfl)
 (b:X.fn f=true\/X.env.scope.names.lookup f=some .local:=by first|exact .inl rfl|exact .inr rfl|assumption):
 PS X (.Assign [.Name f p] (.ListComp elt [⟨.Name x px,iter,[],0⟩] scope pos) a) (yD (IW wi (iq ixs) te) (rQ iy)):=sT (cs:=[]) (by decide) j c g k h S (λ_ _ _ _=>rfl) i e d b
theorem ym {iy:Nat}{a:Pos}(k:X.N.Nodup)(c:X.N[iy]?=some f)(h:Loc X.env.scope f)(l:X.calm=true)(i:PI X (.Name x px) iter wi)(S:dJ X x fns ixs scope cl)
 (e:∀(C:Addr) (s:Shared) (H:Hp) (ex:List Addr),PT (dg X (x::fns) scope cl C s H ex) uQ tt) (j:∀(C:Addr) (s:Shared) (H:Hp) (ex:List Addr),PE (dg X (x::fns) scope cl C s H ex) elt te)
 (g:∀x,foldedSetIterable iter X.env x=pure x:=by intro _;rfl) (d:swapsWith (.ListComp elt [⟨.Name x px,iter,[uQ],0⟩] scope pos) (some (.Name f p)) a.line X.env=pure true:=by rfl)
 (b:X.fn f=true\/X.env.scope.names.lookup f=some .local:=by first|exact .inl rfl|exact .inr rfl|assumption):
 PS X (.Assign [.Name f p] (.ListComp elt [⟨.Name x px,iter,[uQ],0⟩] scope pos) a) (yD (nB wi (iq ixs) tt te) (rQ iy)):=sT (cs:=[uQ]) (aca _) k c h l i S e j g d b
end
def Xq (h base:Heap)(e:Addr)(cls:Value)(f:Option Addr)(g:Value):Prop:=
 ∃a c T b d,h.get? e=some a/\(a.cls=cls/\a.dict=f)/\a.data=.fields c/\c[1]?=some (.ref T)/\base.get? T=none/\T≠e/\h.get? T=some b/\b.data=.fields d/\d[3]?=some g
def ky (base:Heap)(l:List Env)(e:Addr)(cls:Value)(a:Option Addr)(b:Value)(h:Heap):Prop:=base.StaysIn h/\base.get? e=none/\h.FunFrames base l/\Xq h base e cls a b
theorem xU (f:Array Value->Array Value)(o:Obj):(Obj.mapFields f o).dict=o.dict:=by
 obtain⟨a,b,d,e⟩:=o;cases d <;> rfl
section
variable {M:Model}{A:Around}{E:Value->Shared->Prop}{s:Shared}{base:Heap}{env:Env}{outer:List Env}{L e:Addr}{cls:Value}{dx:Option Addr}
theorem EY {w:Obj}{y:Array Value}{head:Value}{g:Bool}(F:A.frames=some (env::outer))(z:s.heap.FunFrames base (env::outer))(P:env.frame=some L)
 (Q:s.heap.get? e=some w) (J:base.StaysIn s.heap) (C:base.get? e=none) (O:w.data=.fields y) (x:1<y.size)
 (h:∀I,ky base (env::outer) e w.cls w.dict (rawInt L) I->s.heap.UpToSlots I->U () { s with heap:=I }):
 wpAny M A (do let a <-frameOf env;let pl <-entryPlaceOf L g;let b <-EntryCells.newEntry head a .none (rawInt L) .none pl;setField (.ref e) 1 b) U E s:=by
 have v:e∉(env::outer).filterMap (·.frame):=λB=>by
  obtain⟨_,o,R,l⟩:=z.mem B
  grind
 refine ab1 (wpAny_frameOf_fun F z P λc f=>?_);refine ab1 (wpAny_entryPlaceOf λpl H=>?_);unfold EntryCells.newEntry newFields;refine ab1 (acV ?_ (H.sizeOk5 _ _ _ _ _));have k:c.get? e=some w:=(f.2.1 e v).trans Q;have n:base.StaysIn c:=λb o m=>(f.2.1 b λB=>by rw[(z.mem B).1]at m;cases m).trans (J b o m)
 have i:=ab2 (h:=c) { cls:=.type "traceback",dict:=none,data:=.fields ([head,.ref L,.none,rawInt L,.none]++(if pl.isEmpty then List.replicate 6 Value.none else pl)).toArray } k;refine aed i O x ?_;have u:c.objs.size≠e:=ade (acg k);have j:=adC O (·.setIfInBounds 1 (Value.ref c.objs.size));have r:=acL (Obj.mapFields (·.setIfInBounds 1 (Value.ref c.objs.size))) i (aea j)
 have t:=(acM (c.push { cls:=.type "traceback",dict:=none,data:=.fields ([head,.ref L,.none,rawInt L,.none]++(if pl.isEmpty then List.replicate 6 Value.none else pl)).toArray })
  (Obj.mapFields (·.setIfInBounds 1 (Value.ref c.objs.size))) (adn u)).trans (acf c rfl)
 have keep:∀b o,b≠e->c.get? b=some o->_=some o:=λb o G p=>(acM (c.push { cls:=.type "traceback",dict:=none,data:=.fields ([head,.ref L,.none,rawInt L,.none]++(if pl.isEmpty then List.replicate 6 Value.none else pl)).toArray }) (Obj.mapFields (·.setIfInBounds 1 (Value.ref c.objs.size))) (adn G)).trans (ab2 _ p)
 have d:∀b o,s.heap.get? b=some o->(∀y,o.data≠.fields y)->b≠e:=λb o p l q=>by
  grind
 refine h _ ⟨λb o m=>keep b o (λq=>by grind) (n b o m),C,z.of_keeps λb o p l=>?_,?_⟩ λb o p l=>?_
 ·obtain⟨N,D⟩:=f.2.2 b o p;exact⟨_,keep b _ (d b o p l) D,Y⟩
 ·exact⟨_,_,c.objs.size,_,_,r,⟨Obj.cls_mapFields _ _,xU _ _⟩,j,by simp[x],n.fresh,u,t,Y,by grind⟩
 ·obtain⟨N,D⟩:=f.2.2 b o p;exact⟨N,keep b _ (d b o p l) D⟩
theorem Om {y:Obj}{w:Array Value}{m:Obj}{k:Array Value}{l:List Env}(x:base.StaysIn s.heap)(r:base.get? e=none)(C:s.heap.FunFrames base l)
 (H:s.heap.get? e=some m) (B:m.cls=cls/\m.dict=dx) (D:m.data=.fields k) (F:k[1]?=some (.ref a)) (p:base.get? a=none) (j:a≠e) (z:s.heap.get? a=some y) (i:y.data=.fields w) (G:w[3]?=some v)
 (h:∀t,ky base l e cls dx u t->s.heap.UpToSlots t->U () { s with heap:=t }):wpAny M A (setField (.ref a) 3 u) U E s:=by
 have f:3<w.size:=(adI.mp G).1;have other:∀b,b≠a->(s.heap.update a (Obj.mapFields (·.setIfInBounds 3 u))).get? b=s.heap.get? b:=λb g=>acM _ _ (adn g)
 have c:∀b o,s.heap.get? b=some o->(∀k,o.data≠.fields k)->b≠a:=λb o g d q=>by
  grind
 refine aed z i f (h _ ⟨λb o n=>(other b λq=>by grind).trans (x b o n),r,
  C.of_keeps λb o g d=>⟨o,(other b (c b o g d)).trans g,Y⟩,?_⟩ λb o g d=>⟨o.slots,(other b (c b o g d)).trans g⟩)
 exact⟨m,k,a,_,_,(other e (adn j)).trans H,B,D,F,p,j,acL _ z (aea (adC i _)),adC i _,by simp[f]⟩
theorem vg {l:List Env}(n:ky base l e cls dx v s.heap)(m:∀g,ky base l e cls dx .none g->s.heap.UpToSlots g->U () { s with heap:=g }):wpAny M A (setFlight (.ref e) none) U E s:=by
 obtain⟨h,f,o,u,r,T,t,w,k,a,i,j,d,b,p,c,q⟩:=n;unfold setFlight;refine ab1 (ac4 k i j ?_);rw[acv (show (Value.ref T !=Value.none)=true from by simp)];exact Om h f o k a i j d b p c q m
theorem Jh (m:A.frames=some (env::outer))(r:env.frame=some L)(k:ky base (env::outer) e cls dx .none s.heap)
 (v:∀d,ky base (env::outer) e cls dx (rawInt L) d->s.heap.UpToSlots d->U () { s with heap:=d }):wpAny M A (noteFrame (.ref e) env) U E s:=by
 obtain⟨b,a,j,N,I,T,J,P,u,⟨rfl,rfl⟩,p,q,l,f,o,c,t⟩:=k;unfold noteFrame;simp only[r];refine ab1 (ac4 u p q ?_);rw[acv (show (Value.ref T !=Value.none)=true from by simp)];refine ab1 (ac4 o c t ?_);rw[acm (show ¬((Value.none==rawInt L)=true) from by simp[rawInt])];refine ab1 (Om b a j u ⟨Y,Y⟩ p q l f o c t λy x G=>?_);obtain⟨b,a,j,D,w,O,F,z,h,⟨C,B⟩,g,i,_⟩:=x;refine EY (s:={ s with heap:=y }) m j r h b a g (adI.mp i).1 λd n H=>?_
 rw[C,B]at n;exact v d n (G.trans H)
theorem Lq (c:A.frames=some (env::outer))(n:env.frame=some L)(a:ky base (env::outer) e cls dx .none s.heap)
 (h:∀b,ky base outer e cls dx .none b->s.heap.UpToSlots b->U () { s with heap:=b }):wpAny M A (leaving env (.ref e)) U E s:=by
 unfold leaving;refine ab1 (Jh c n a λl d o=>vg (s:={ s with heap:=l }) d λf ⟨m,j,⟨_,_,i⟩,g⟩ k=>h f ⟨m,j,i,g⟩ (o.trans k))
theorem Hq {b:Obj}{h:Array Value}(d:A.frames=some (env::outer))(n:s.heap.FunFrames base (env::outer))(j:env.frame=some L)
 (k:s.heap.get? e=some b) (g:base.StaysIn s.heap) (c:base.get? e=none) (i:b.data=.fields h) (a:h[1]?=some .none)
 (l:∀f,ky base outer e b.cls b.dict .none f->s.heap.UpToSlots f->U () { s with heap:=f }):wpAny M A (leaving env (.ref e)) U E s:=by
 unfold leaving noteFrame;simp only[j];refine ab1 (ab1 (ac4 k i a ?_));rw[acm (by decide)];exact EY d n j k g c i (adI.mp a).1 λa p m=>vg (s:={ s with heap:=a }) p λq ⟨v,r,⟨_,_,t⟩,o⟩ u=>l q ⟨v,r,t,o⟩ (m.trans u)
end
end L2
namespace L2
open PySem PySem.Spec PyProof.Rows PySem.Calls PySem.W Builtin Builtin.ObjectAttr
def xV (x C:Addr)(d:Option Addr)(e:Bool)(h:Heap):Prop:=∃b c,h.get? x=some b/\b.cls=.ref C/\b.dict=d/\b.data=.fields c/\(e=true->c[1]?=some .none/\∃a,c[0]?=some (.ref a))
def XO (x C:Addr)(a:Option Addr)(b:Bool):HO:=.ext (xV x C a b)
theorem xV.eX {x:Addr}{dx:Option Addr}{nw:Bool}(p:xV x a dx nw h)(k:∀o,h.get? x=some o->g.get? x=some o):xV x a dx nw g:=by
 obtain⟨b,c,e,r⟩:=p;exact⟨b,c,k _ e,r⟩
theorem xV.ex {x:Addr}{dx:Option Addr}{nw:Bool}(p:xV x a dx nw h):CM x a h:=let ⟨b,f,e,c,_,d,_⟩:=p;⟨b,f,e,c,d⟩
def zy (d:Addr)(fs:List (Str×V))(h:Heap):Prop:=∃a,h.Ns1 d a/\(∀f,dY (fs.lookup f) (a f))/\Within a (fs.map (·.1))
def XD (d:Addr)(fs:List (Str×V)):HO:=.ext (zy d fs)
theorem zy.eX {fs:List (Str×V)}(p:zy d fs h)(k:∀o,h.get? d=some o->g.get? d=some o):zy d fs g:=by
 obtain⟨a,n,r⟩:=p;exact⟨a,n.at k,r⟩
theorem yw {x:Addr}{b:Option Addr}{c:Bool}(p:xV x a b c h):bU P w H h x (XO x a b c):=⟨p,let ⟨d,_,e,_⟩:=p;⟨d,e⟩,λ_ _ q k=>q.eX k⟩
theorem Ji {fs:List (Str×V)}(p:zy d fs h):bU P w H h d (XD d fs):=⟨p,let ⟨_,⟨o,_,_,e,_⟩,_⟩:=p;⟨o,e⟩,λ_ _ q k=>q.eX k⟩
def lK:List Value->Bool
 |.ref _::r=>lK r
 |l=>l==yX
theorem C5 (e:lK N=true):(∃c r,N=.ref c::r/\lK r=true)\/N=yX:=by
 cases N with
 |nil=>exact .inr (afn.mp e)
 |cons c r=>cases c <;> first|exact .inl ⟨_,_,rfl,e⟩|exact .inr (afn.mp e)
theorem pY (self:Value):∀(l:List Value),lK l=true->refuseLoop self "__setattr__" l=pure ()/\l.contains (.type "object")=true/\l.isEmpty=false
 |[],e=>by cases e
 |v::l,e=>by
  rcases C5 e with ⟨c,r,q,e⟩|q
  ·injection q with b a
   subst b a;have d:=pY self l e;exact⟨by rw[refuseLoop_ref];exact d.1,by grind,Y⟩
  ·rw[q];exact⟨PySem.F.store_ValueError.passes self,by decide,Y⟩
structure wL (K:Za1) (C:Addr):Prop where
 mr:(clsIn K C).any (λcd=>lK cd.mro)=true
 hd:hasDictIn K C=true
 sa:findIn K (.ref C) "__setattr__"=some (some (.builtin "object.__setattr__"))
 ga:findIn K (.ref C) "__getattribute__"=some (some (.builtin "BaseException.__getattribute__"))
 gt:findIn K (.ref C) "__getattr__"=some none
 be:subIn K (.ref C) (.type "BaseException")=some true
section
variable {prog:Program}{w:World}{A:Around}{R:Result->Shared->Prop}{s:Shared}{K:Za1}{x C:Addr}{name:Str}{v:Value}
theorem BF {p:Obj}{k:Option Obj}{d:Tok}(X:K.In s.heap)(I:PySem.W.InstAt s.heap x p C k)(u:(clsIn K C).any (λcd=>lK cd.mro)=true)(t:takerIn K C name=some none)
 (h:∀b,wpAny (model prog w) A.in1 (storeInOwnDict (.ref x) (.ref C) (.str name d) name v b)
  (λfin g=>match fin with|.done f=>R (.ok f) g|.again i=>i.quiet=true/\codeAny (model prog w) A i R g) (λe g=>R (.error e) g) s):
 codeAny (model prog w) A (.call (.builtin "object.__setattr__") ⟨[.ref x,.str name d,v],[]⟩) R s:=by
 have c:=PySem.F.store_object;obtain⟨cd,l,y⟩:=any_some u;obtain⟨j,z,B⟩:=pY (.ref x) _ y;have sub:Looks (model prog w) s.heap (isInstance (.ref x) (.type "object")) true:=I.type.andThen (looks_mroIn X (by unfold mroIn;grind));refine adF c.slot.plain c.entry (@check_slot (model prog w) _ _ s "object.__setattr__" "object" "__setattr__" (.ref x) [.str name d,v] [] _ c.kind c.split sub (c.args (.ref x) (.str name d) v) ?_);obtain⟨attr,m,n⟩:=Option.bind_eq_some_iff.mp t;have hm:Looks (model prog w) s.heap (mroOf (.ref C)) cd.mro:=(looks_clsIn X l).andThen .now
 have o:Looks (model prog w) s.heap (storeTaker? attr) none:=by
  cases attr with
  |none=>exact .now
  |some a=>
   obtain⟨b,r,q⟩:=adf.mp n;refine(looks_takesIn X r).andThen ?_
   cases b with
   |true=>cases q
   |false=>exact .now
 rw[osa_eq,refuse_eq];refine ab1 (ab1 (I.type.here (ab1 (hm.here ?_))));rw[j];refine ab7 (ab1 (I.type.here (ab1 ((looks_findIn X m).here (ab1 (o.here ?_))))));exact h _
theorem Vu {ns:List Str}{f:Obj}{q:Array Value}(X:K.In s.heap)(c:wL K C)(B:s.heap.get? x=some f)(i:f.cls=.ref C)(z:f.data=.fields q)(H:takerIn K C name=some none)
 (g:f.dict=some d) (t:s.heap.Ns1 d M) (G:PySem.Within M ns) (L:ns.length<=sizeLine)
 (h:∀j,j.Ns1 d (λy=>if y=name then some v else M y)->Heap.SameBut d s.heap j->U () { s with heap:=j,toks:=s.toks+ 2 }):
 wpAny (model prog w) A (setAttr (.ref x) name v) U E s:=by
 obtain⟨S,D,O,n⟩:=f;dsimp only at i z g;subst i z g;obtain⟨u,T,P,I,r⟩:=id t;have J:PySem.W.InstAt s.heap x ⟨.ref C,some d,.fields q,n⟩ C (some u):=⟨B,Y,Y,I⟩;refine set_plain X J c.sa (BF (s:={ s with toks:=s.toks+ 1 }) X J c.mr H λb=>?_);obtain⟨Q,i,l⟩:=any_some c.hd;refine ab1 (ab7 (ab1 (ab1 (wpAny_loadPart B (ab1 (Looks.here (s:={ s with toks:=s.toks+ 1 }) (looks_clsIn X i) ?_))))));rw[l];refine ab7 (a:=some d) (ab1 (ab7 (ab1 ?_)));refine wpAny_nsSet1 (s:={ s with toks:=s.toks+ 1 }) t λj e k=>?_
 obtain⟨u,F,N,o,m,p⟩:=e.count (PySem.Within.cons name v G);refine ab1 (wpAny_lookBehind o (by rw[m];exact pastItsLine_dict (acr p (by rw[acC];omega))) ?_);exact ab7 (h _ e k)
theorem RL {f:Obj}{q:Array Value}(X:K.In s.heap)(c:wL K C)(p:s.heap.get? x=some f)(n:f.cls=.ref C)(F:f.data=.fields q)(L:takerIn K C name=some none)(j:f.dict=none)
 (h:∀m,m.Ns1 s.heap.objs.size (λy=>if y=name then some v else none)->m.get? x=some { f with dict:=some s.heap.objs.size }->(∀b o,b≠x->s.heap.get? b=some o->m.get? b=some o)->U () { s with heap:=m,toks:=s.toks+ 2 }):
 wpAny (model prog w) A (setAttr (.ref x) name v) U E s:=by
 obtain⟨S,G,O,l⟩:=f;dsimp only at n F j;subst n F j;have J:PySem.W.InstAt s.heap x ⟨.ref C,none,.fields q,l⟩ C none:=⟨p,Y,Y,True.intro⟩;refine set_plain X J c.sa (BF (s:={ s with toks:=s.toks+ 1 }) X J c.mr L λb=>?_);obtain⟨P,n,r⟩:=any_some c.hd;refine ab1 (ab7 (ab1 (ab1 (wpAny_loadPart p (ab1 (Looks.here (s:={ s with toks:=s.toks+ 1 }) (looks_clsIn X n) ?_))))));rw[r];have d:(s.heap.push { cls:=.type "dict",data:=.dict #[] }).get? x=some ⟨.ref C,none,.fields q,l⟩:=ab2 _ p;have k:x≠s.heap.objs.size:=acz (acg p);refine ab1 (wpAny_alloc' ?_);refine ab1 (wpAny_update' d ?_);refine ab7 (a:=some s.heap.objs.size) (ab1 (ab7 (ab1 ?_)))
 have u:((s.heap.push { cls:=.type "dict",data:=.dict #[] }).update x λo=>{ cls:=o.cls,dict:=some s.heap.objs.size,data:=o.data,slots:=o.slots }).get? s.heap.objs.size
  =some { cls:=.type "dict",data:=.dict #[] }:=(Heap.get?_update_ne _ _ _ _ k.symm).trans (Heap.get?_push_at Y Y)
 have z:((s.heap.push { cls:=.type "dict",data:=.dict #[] }).update x λo=>{ cls:=o.cls,dict:=some s.heap.objs.size,data:=o.data,slots:=o.slots }).Ns s.heap.objs.size (λ_=>none):=
  ⟨_,#[],_,u,Y,λe N=>absurd N (by simp),λ_=>rfl⟩
 refine wpAny_nsSet1 (s:={ s with heap:=(s.heap.push { cls:=.type "dict",data:=.dict #[] }).update x λo=>{ cls:=o.cls,dict:=some s.heap.objs.size,data:=o.data,slots:=o.slots },toks:=s.toks+ 1 }) (Heap.Ns1.of_empty z) λm i g=>?_
 obtain⟨Q,H,M,B,t,D⟩:=i.count (Within.cons name v Within.nil);refine ab1 (wpAny_lookBehind B (by rw[t];exact pastItsLine_dict (acr D (by rw[acC,ael,sizeLine_eq];omega))) ?_);refine ab7 (h _ i ?_ λb o I e=>?_)
 ·exact(g.2 x k).trans (acL _ d rfl)
 ·exact(g.2 b (acz (acg e))).trans ((Heap.get?_update_ne _ _ _ _ I).trans (ab2 _ e))
end
section
variable {prog:Program}{w:World}{A:Around}{E:Value->Shared->Prop}{s:Shared}{K:Za1}{x C:Addr}{name:Str}
theorem Vv {b:Bool}{k:Obj}{f:Obj}(X:K.In s.heap)(c:wL K C)(I:PySem.W.InstAt s.heap x k C (some f))(m:findObj K C (some f) name=some (.value v))(l:handedIn v=true)(h:Q v { s with toks:=s.toks+ 1 }):
 wpAny (model prog w) A (getAttr (.ref x) name b) Q E s:=by
 obtain⟨j,g,d,t,os⟩:=s;have i:=I.type (M:=model prog w);have q:=looks_findIn (M:=model prog w) X c.ga;have L2:=looks_findIn (M:=model prog w) X c.gt;have p:Looks (model prog w) j (isSubtype (.ref C) (.type "BaseException")) true:=looks_subIn X c.be;have r:=looks_find (M:=model prog w) X I m;have a:(Value.builtin "BaseException.__getattribute__"==Value.builtin "object.__getattribute__")=false:=by decide
 have e:(onTheHeap (Value.ref C) && Value.builtin "BaseException.__getattribute__"==Value.builtin "object.__getattribute__")=false:=by rw[a];rfl
 have o:(b && onTheHeap (Value.builtin "BaseException.__getattribute__"))=false:=by cases b <;> rfl
 have n:=PySem.F.excAttr_ValueError.ga.bind (.ref x);unfold getAttr getAttrBy;refine ab1 (wpAny_mkText (ac1 (ab1 (i.at (ab1 (q.at ?_))))));dsimp only;rw[acm (by rw[e];decide)];unfold getAttrByItsOwn hookBefore;rw[acv (show onTheHeap (Value.ref C)=true from Y)];refine ab1 (L2.at (ab1 (afd (ac1 ?_))));unfold callGetattribute boundAndCalled;rw[acm (by grind),n];refine ab1 (ab7 ?_);show wpAny _ _ (call (.builtin "BaseException.__getattribute__") [.ref x,.str name t]) _ _ _;refine aeD (adF PySem.F.excAttr_ValueError.ga.plain PySem.F.entry_bexc_ga (Eh i p ?_));unfold Builtin.«object.__getattribute__»
 repeat lk
 show wpAny _ _ (handedOut v) _ _ _;rw[handedOut_of l];exact ab7 h
end
end L2
namespace L2
open PySem PySem.Spec PyProof.Rows PySem.Calls PySem.W
def wM (K:Frag)(C f:Addr):Bool:=match K.lookup C with
 |some ⟨.type "type",_,.cls cd,b⟩=>(match cd.mro,b.toList with
  |.ref c::a,[_,_,_,_,some (.builtin n),_]=>c==C && n=="ValueError.__new__" && !cd.hasDel && tailIn K yX a && nsOkIn K cd.ns && nsIn K cd.ns "__init__"==some (some (.ref f))
  |_,_=>false)
 |_=>false
theorem Ls {K:Frag}(X:K.In h)(G:h.Ns a M)(e:nsIn K a x=some (some v)):M x=some v:=by
 obtain⟨o,m,l,g,b,_,f⟩:=G;unfold nsIn at e;split at e
 ·rename_i c d j n k q;have:=X _ _ q;rw[g]at this;cases this;cases b;split at e
  ·rename_i p i;cases e;rw[<-f];unfold nsFind findBy;rw[<-Array.find?_toList,i];rfl
  ·split at e <;> cases e
 ·cases e
theorem zz (XK:K.In h)(q:wM K a b=true):∃n N nm t bs m r sub o col s A G E F D w,
 h.get? a=some (excClassObj nm t a N bs n m r sub o col s A G E F D "ValueError.__new__")/\h.Ns N w/\w "__init__"=some (.ref b)/\OwnTail h yX n:=by
 unfold wM at q;split at q
 ·rename_i s cls k g;split at q
  ·rename_i H n x z u y nid v f c;simp only[ad6,afn,Bool.not_eq_true']at q;obtain⟨⟨⟨⟨⟨rfl,rfl⟩,e⟩,i⟩,j⟩,d⟩:=q;obtain⟨nm,bs,mro,C,t,B,r,sub,o,col,del⟩:=cls;dsimp only at f e j d;subst f e
   have p:k=#[x,z,u,y,some (.builtin "ValueError.__new__"),v]:=by
    obtain⟨l⟩:=k;simp only at c;rw[c]
   subst p;exact⟨n,C,nm,t,bs,B,r,sub,o,col,s,x,z,u,y,v,_,XK _ _ g,.of_isNs (PySem.W.isNs_of_in XK j),Ls XK (.of_isNs (PySem.W.isNs_of_in XK j)) d,PySem.W.tail_of_in XK i⟩
  ·cases q
 ·cases q
section
variable {prog:Program}{w:World}{A:Around}{E:Value->Shared->Prop}{h:Heap}{g:Array GenState}{d:Drawn}{t:Nat}{os:OsState}
variable {nm q:Str}{C N:Addr}{bs bm Jj:List Value}{hdct:Bool}{sn:List Str}{sub:List Value}{ab:Bool}{col:Option Bool}{dd:Option Addr}{k0 k1 k2 k3 k5:Option Value}{B newId EZ:String}
theorem vh (F:ExcBaseFacts B newId EZ Jj)(T:OwnTail h Jj bm){p:Str->Option Value}{rest:List Value}{l:Addr}{y:Obj}{Q:Fin->Shared->Prop}
 (k:h.get? C=some (excClassObj nm q C N bs bm hdct sn sub ab col dd k0 k1 k2 k3 k5 newId)) (I:h.Ns N p) (D:p "__init__"=some (.ref l))
 (m:h.get? l=some y) (n:y.cls=.type "function")
 (L:∀u e,Heap.MadeExcOf h u e (.ref C) rest->
  wpAny (model prog w) A (call (.ref l) (.ref e::rest)) (λr v=>r=.none/\Q (.done (.ret (.ref e))) v) E ⟨u,g,d,t,os⟩) (RM:rest.length<=sizeLine):
 wpAny (model prog w) A (Builtin.«type.__call__» ⟨.ref C::rest,[]⟩) Q E ⟨h,g,d,t,os⟩:=by
 repeat (first|with_reducible refine aeY k ?_|with_reducible refine wpAny_madeBy_exc k ?_|wp_step)
 refine codeAny_call_builtin_code (Code.quiet_builtin _ F.quiet) (wpAny_check_new_subT F T k ?_);refine codeAny_exc_new_subT F T k ?_ RM;show wpAny _ _ _ _ _ _
 have a:=ab2 { cls:=.ref C,data:=.fields #[.ref h.objs.size,.none,.none,.none,.bool false,.none] }
  (ab2 { cls:=.type "tuple",data:=.seq rest.toArray } k)
 have c:=ab2 { cls:=.ref C,data:=.fields #[.ref h.objs.size,.none,.none,.none,.bool false,.none] }
  (ab2 { cls:=.type "tuple",data:=.seq rest.toArray } m)
 have i:((h.push { cls:=.type "tuple",data:=.seq rest.toArray }).push { cls:=.ref C,data:=.fields #[.ref h.objs.size,.none,.none,.none,.bool false,.none] }).Ns N p:=
  let ⟨o,M,G,e,r⟩:=I;⟨o,M,G,ab2 _ (ab2 _ e),r⟩
 have f:((h.push { cls:=.type "tuple",data:=.seq rest.toArray }).push
  { cls:=.ref C,data:=.fields #[.ref h.objs.size,.none,.none,.none,.bool false,.none] }).get? (h.objs.size+ 1)=some
  { cls:=.ref C,data:=.fields #[.ref h.objs.size,.none,.none,.none,.bool false,.none] }:=by heap_get
 have s:(Value.ref C::bm).contains (.ref C)=true:=by simp
 have j:=T.keeps (h':=(h.push { cls:=.type "tuple",data:=.seq rest.toArray }).push { cls:=.ref C,data:=.fields #[.ref h.objs.size,.none,.none,.none,.bool false,.none] })
  λb o e=>ab2 _ (ab2 _ e)
 unfold isInstance
 repeat (first|with_reducible refine aeY f ?_|(with_reducible refine wpAny_isSubtype_exc a ?_;rw[s])|wp_step)
 show wpAny _ _ (typeLookup (.ref C) _) _ _ _;refine wpAny_typeLookup_tail a i j F.mroIs F.init.lookup ?_;rw[D];refine ac1 (ab1 ?_);unfold bindSpecial;refine ab1 (aev (T:="function") ⟨_,c,n⟩ ?_);rw[acv (by decide)];refine ab7 (ab1 (acW (L _ (h.objs.size+ 1) ⟨λb o J=>ab2 _ (ab2 _ J),Heap.get?_none_of_le (aex _),h.objs.size,f,Heap.get?_none_of_le (aca _),?_⟩) (λr v H=>?_) λ_ _ x=>x))
 ·exact ab2 _ (Heap.get?_push_at Y Y)
 ·obtain⟨rfl,z⟩:=H
  wp_walk
  exact z
theorem C6 (F:ExcBaseFacts B newId EZ Jj)(T:OwnTail h Jj bm){l:Str->Option Value}{rest:List Value}{f:Addr}{k:Obj}{Q:Value->Shared->Prop}
 (b:h.get? C=some (excClassObj nm q C N bs bm hdct sn sub ab col dd k0 k1 k2 k3 k5 newId)) (n:h.Ns N l) (m:l "__init__"=some (.ref f))
 (i:h.get? f=some k) (j:k.cls=.type "function")
 (p:∀c e,Heap.MadeExcOf h c e (.ref C) rest->
  wpAny (model prog w) (A.under (.builtin "type.__call__" ⟨.ref C::rest,[]⟩)) (call (.ref f) (.ref e::rest)) (λr s=>r=.none/\Q (.ref e) s) E ⟨c,g,d,t,os⟩) (a:rest.length<=sizeLine):
 wpAny (model prog w) A (call (.ref C) rest) Q E ⟨h,g,d,t,os⟩:=by
 have x:=tc_lookup;have u:=tc_bind (.ref C);have v:(⟨h,g,d,t,os⟩:Shared).TypeIs (.ref C) "type":=⟨_,b,Y⟩;refine aeD (codeAny_of_tree ?_);show wpAny _ _ (callAny (.ref C) _) _ _ _
 repeat (any_goals (first|assumption|with_reducible refine aeY b ?_|wp_step))
 refine⟨Y,?_⟩;refine codeAny_call_builtin_at (Code.quiet_builtin _ (by decide)) entry_typeCall (wpAny_check_type_call_sub b (vh (RM:=a) F T b n m i j λc e o=>?_));exact p c e o
theorem Hr {M:Model}{env:Env}{x:Sem Value}{Q:Flow->Shared->Prop}(b:bm.contains (.type "BaseException")=true)(o:A.handled=none)
 (h:wpAny M A x (λv a=>∃e f i,v=.ref e/\a.heap.get? C=some (excClassObj nm q C N bs bm hdct sn sub ab col dd k0 k1 k2 k3 k5 newId)/\
  a.heap.get? e=some f/\f.cls=.ref C/\f.data=.fields i/\i[1]?=some .none/\E (.ref e) a) E s):
 wpAny M A (raiseStmt env (some x) none) Q E s:=by
 have j:(Value.ref C::bm).contains (.type "BaseException")=true:=by rw[List.contains_cons,b,Bool.or_true]
 unfold raiseStmt;refine ab1 (acW h (λv a c=>?_) λ_ _ x=>x);obtain⟨e,f,i,rfl,m,n,k,l,p,r⟩:=c;obtain⟨G,g,d,F,os⟩:=a;obtain⟨D,z,y,u⟩:=f;dsimp only at k l;subst k l
 repeat (first|with_reducible refine aeY n ?_|with_reducible refine aeY m ?_|(with_reducible refine wpAny_isSubtype_exc m ?_;rw[j])|with_reducible refine ab1 (ac4 n rfl p ?_)|wp_step)
 all_goals exact wpAny_raiseNew_none o r
end
end L2
namespace L2
open PySem PySem.Spec PyProof.Rows
inductive bD (P:Program) (w:World) (outer:List Env) (H:Hp) (s:Shared) (E:XK) (e:Value) (s':Shared):Prop
 |mk (x C:Addr) (dx:Option Addr) (B:Heap) (H':Hp):e=.ref x->s'.os=s.os->AllBare s'.gens->ky B outer x (.ref C) dx .none s'.heap->Un (cx outer) [] H H' s.heap s'.heap->dw P w H' B->(∀b o,s.heap.get? b=some o->H b=none->b∉cx outer->B.get? b=some o)->(∀b o,s.heap.get? b=some o->b∉cx outer->∃o',B.get? b=some o')->E (.ref C) dx H'->bD P w outer H s E e s'
def del (H:Hp)(x:Addr):Hp:=λb=>if b=x then none else H b
theorem qS {x:Addr}(h:b≠x):del H x b=H b:=by unfold del;rw[acm h]
theorem Hs {x:Addr}{u:HO}(h:del H x b=some u):b≠x/\H b=some u:=by
 unfold del at h
 grind
theorem aJ:Passes (bD P w) X (λ_ _ _=>False):=λ_ _ _ _ _ _ _ ⟨_,_,_,_,_,_,_,_,_,_,_,_,_,q⟩=>q.elim
theorem Jk {a:List Env}(h:bD P w a H s (λ_ _ _=>False) v t):False:=let ⟨_,_,_,_,_,_,_,_,_,_,_,_,_,q⟩:=h;q
section
variable {P:Program}{w:World}{K:Za1}{mg:Str->Option Value}{base:Heap}{N:List Str}{qual:Str}{scope:Scope}{f:Addr}{cd:Value}{A:Around}{outer:List Env}{s:Shared}{H:Hp}{E:XK}{pins:List (Addr×Obj)}{σ:St}{H1:Hp}{s1:Shared}
theorem pD {o:Obj}(I:Inv (cf (bD P w) P w K mg base N qual scope f cd A outer s H E) pins σ H1 s1)(e:s.heap.get? b=some o)(a:b∉cx outer):b∉cx (cf (bD P w) P w K mg base N qual scope f cd A outer s H E).stack:=λz=>by
 rcases aci.mp (show b∈s.heap.objs.size::cx outer from z) with z|z
 ·exact absurd (acg e) (by rw[z];exact adg _)
 ·exact a z
theorem Oo {x:Addr}{R:Option Addr}(I:Inv (cf (bD P w) P w K mg base N qual scope f cd A outer s H E) pins σ H1 s1)(G:H1 x=some (XO x a R true))(h0:s.heap.get? x=none)(q:E (.ref a) R (del H1 x)):
 (cf (bD P w) P w K mg base N qual scope f cd A outer s H E).xe (.ref x) s1:=by
 have J:=I.ok.frames;have F:∀env∈(cf (bD P w) P w K mg base N qual scope f cd A outer s H E).stack,∀b,env.frame=some b->b∈x::cx (cf (bD P w) P w K mg base N qual scope f cd A outer s H E).stack:=λenv Z b k=>acG _ (afb.mpr ⟨env,Z,k⟩)
 have D:=PySem.W.funFrames_hide I.stack F;obtain⟨⟨ob,vs,d,rfl',rfl,i,p⟩,_,_⟩:=I.aL x _ G;have nx:∀b o,s.heap.get? b=some o->b≠x:=λb o e z=>by grind
 have out:∀b o,s.heap.get? b=some o->b∉cx outer->b∉x::cx (cf (bD P w) P w K mg base N qual scope f cd A outer s H E).stack:=λb o e k z=>(aci.mp z).elim (nx b o e) (pD I e k)
 refine Hq (s:=s1) (base:=PySem.W.hideAll s1.heap (x::cx (cf (bD P w) P w K mg base N qual scope f cd A outer s H E).stack)) (L:=s.heap.objs.size) J D Y d (λb o z=>PySem.W.of_hideAll _ z) (PySem.W.hideAll_none _ (.head _)) i (p Y).1 λC r ups=>?_
 have O:∀b o,s.heap.get? b=some o->H b=none->b∉cx outer->(PySem.W.hideAll s1.heap (x::cx (cf (bD P w) P w K mg base N qual scope f cd A outer s H E).stack)).get? b=some o:=λb o d g h=>
  ae3 _ (I.base.keep b o d g h (by simp[cf])) (out b o d h)
 have M:∀b o,s.heap.get? b=some o->b∉cx outer->∃j,(PySem.W.hideAll s1.heap (x::cx (cf (bD P w) P w K mg base N qual scope f cd A outer s H E).stack)).get? b=some j:=λb o d h=>by
  obtain⟨j,i⟩:=I.base.there b o d (by simp[cf]);exact⟨j,ae3 _ i (out b o d h)⟩
 have S:∀b o,s1.heap.get? b=some o->b∈cx outer->∃t,C.get? b=some { o with slots:=t }:=λb o d g=>by
  obtain⟨_,o2,h,X⟩:=I.stack.mem (show b∈cx (cf (bD P w) P w K mg base N qual scope f cd A outer s H E).stack from acG _ g);rw[d]at h;cases h;exact ups b o d X
 have dl:∀{b:Addr} {u:HO},H1 b=some u->(∀ V,u≠.ext V)->del H1 x b=some u:=λ{b u} e n=>by
  rw[qS]
  ·exact e
  ·intro z;rw[z,G]at e;exact n _ (Za0 e).symm
 rw[rfl']at r;refine⟨x,a,_,_,del H1 x,Y,I.os,I.bare,r,⟨λb o d g h _=>r.1 b o (O b o d g h),λb o d g h _=>?_,λb o d g _=>?_,λb o d _=>?_,λb Q e=>dl (I.base.gN b Q e) (by grind),λb o u e=>dl (I.base.fW b o u e) (by grind),λb T e=>?_⟩,?_,O,M,q⟩
 ·obtain⟨t,i⟩:=I.base.slot b o d g h (by simp[cf]);obtain⟨y,p⟩:=S b _ i h;exact⟨y,p⟩
 ·rw[qS (nx b o d)];exact I.base.free b o d g (by simp[cf])
 ·by_cases k:b∈cx outer
  ·obtain⟨j,i⟩:=I.base.there b o d (by simp[cf]);obtain⟨t,p⟩:=S b j i k;exact⟨_,p⟩
  ·obtain⟨j,i⟩:=M b o d k;exact⟨j,r.1 b j i⟩
 ·obtain⟨m,g⟩:=I.base.gO b T e;exact⟨m,dl g (by grind)⟩
 ·intro b u d;obtain⟨U,d⟩:=Hs d
  have l:∀c v,c≠x->H1 c=some v->c∉x::cx (cf (bD P w) P w K mg base N qual scope f cd A outer s H E).stack:=λc v B g z=>by
   rcases aci.mp z with z|z
   ·exact B z
   ·rw[I.nk c z]at g;cases g
  refine(I.aL b u d).eX (λc v B z=>ae3 _ z ?_) (λc z=>dl z (by grind)) λc Q z=>dl z (by grind)
  rcases B with z2|z2
  ·rw[z2];exact l b u U d
  ·exact l c _ (λz=>by rw[z,G]at z2;cases z2) z2
theorem RN:Passes (bD P w) (cf (bD P w) P w K mg base N qual scope f cd A outer s H E) E:=by
 intro pins σ H1 s1 e U I Q;obtain⟨x,C,D,B,M,rfl,os,bare,z,un,n,y,v,q⟩:=Q;refine Lq (L:=s.heap.objs.size) I.ok.frames Y z λt k ups=>?_
 have m:∀b o,s.heap.get? b=some o->H b=none->b∉cx outer->B.get? b=some o:=λb o a d c=>
  y b o (I.base.keep b o a d c (by simp[cf])) (I.base.free b o a d (by simp[cf])) (pD I a c)
 have p:∀b o,s.heap.get? b=some o->b∉cx outer->∃h,B.get? b=some h:=λb o a c=>by
  obtain⟨h,g⟩:=I.base.there b o a (by simp[cf]);exact v b h g (pD I a c)
 have J:∀b o,s1.heap.get? b=some o->b∈cx outer->∃r,t.get? b=some { o with slots:=r }:=λb o a d=>by
  have j:b∈cx (cf (bD P w) P w K mg base N qual scope f cd A outer s H E).stack:=acG _ d;obtain⟨_,T,c,O⟩:=I.stack.mem j;rw[a]at c;cases c;obtain⟨r,g⟩:=un.slot b o a (I.nk b j) j (by simp);obtain⟨i,u⟩:=ups b _ g O;exact⟨i,u⟩
 refine⟨x,C,D,B,M,Y,os.trans I.os,bare,k,⟨λb o a d c _=>k.1 b o (m b o a d c),λb o a d c _=>?_,λb o a d _=>?_,λb o a _=>?_,λb l a=>un.gN b l (I.base.gN b l a),λb o l a=>un.fW b o l (I.base.fW b o l a),λb F a=>?_⟩,n,m,p,q⟩
 ·obtain⟨r,g⟩:=I.base.slot b o a d c (by simp[cf]);obtain⟨i,u⟩:=J b _ g c;exact⟨i,u⟩
 ·obtain⟨h,g⟩:=I.base.there b o a (by simp[cf]);exact un.free b h g (I.base.free b o a d (by simp[cf])) (by simp)
 ·by_cases G:b∈cx outer
  ·obtain⟨h,g⟩:=I.base.there b o a (by simp[cf])
   grind
  ·obtain⟨h,g⟩:=p b o a G;exact⟨h,k.1 b h g⟩
 ·obtain⟨S,d⟩:=I.base.gO b F a;obtain⟨R,c⟩:=un.gO b _ d
  grind
end
section
variable {P:Program}{w:World}{K:Za1}{mg:Str->Option Value}{base:Heap}
theorem qA.Oq {qual:Str}{st:Stmt}{fd:FuncData}{f:List Str}{k:Nat}{sp:Sp}(F:qA K x qual st a fd)(S:aV Z f (aD st))(len:∀d H Q E,sp d H Q E->d.length=f.length)
 (c:∀(b:Value) (A:Around) (outer:List Env) (s:Shared) (H:Hp) (d:List V) (Q:VK) (E:XK),cH k (A.deeper (envOfC qual (aD st) s.heap.objs.size a b))->sp d H Q E->
  ∃t,i6 (cf (bD P w) P w K mg base Z qual (aD st) a b A outer s H E) (cI st) t/\t { nx:=λ_ i=>Q .non i,rt:=Q } (start Z d) H):bx P w K mg base (bD P w) (k+ 1) a fd f sp:=by
 obtain⟨n,m,kV,doc,pm,l,b,ct,j,rfl,lk,e⟩:=F.ex;exact yt lk e S len λA outer s H d Q E h g=>c b A outer s H d Q E h g
end
section
variable {X:Cx}{pins:List (Addr×Obj)}{σ:St}{H:Hp}{s:Shared}{h':Heap}{e C:Addr}{vs:List Value}
theorem Inv.RP (I:Inv X pins σ H s)(hm:Heap.MadeExcOf s.heap h' e (.ref C) vs)(hex:X.ex=[]):H e=none/\X.dR.heap.get? e=none/\Inv X pins σ (upd H e (XO e C none true)) { s with heap:=h' }:=by
 have a:H e=none:=by
  cases q:H e with
  |none=>rfl
  |some u=>
   obtain⟨o,d⟩:=(I.aL e u q).get;rw[hm.new]at d;cases d
 have ne:∀b o,s.heap.get? b=some o->b≠e:=λb o q z=>by rw[z,hm.new]at q;cases q
 have h:X.dR.heap.get? e=none:=by
  cases q:X.dR.heap.get? e with
  |none=>rfl
  |some o=>
   obtain⟨k,d⟩:=I.base.there e o q (by rw[hex];simp)
   grind
 refine⟨a,h,I.un (t':=s.toks) ⟨λb u q _ _ _=>hm.keeps b u q,λb u q _ _ _=>⟨u.slots,hm.keeps b u q⟩,λb u q n _=>by rw[ai (ne b u q)];exact n,λb u q _=>⟨u,hm.keeps b u q⟩,λb f q=>by rw[ai (au q a)];exact q,λb u f q=>by rw[ai (au q a)];exact q,λb l q=>⟨#[],by rw[ai (au q a),q];simp⟩⟩ λb u q=>?_⟩;by_cases g:b=e
 ·subst g;rw[ah]at q;cases q;obtain⟨t,i,_,_⟩:=hm.there;exact yw ⟨_,_,i,Y,Y,Y,λ_=>⟨Y,_,Y⟩⟩
 ·rw[ai g]at q;exact(I.aL b u q).eX (λc v _ q=>hm.keeps c v q) (λc q=>by rw[ai (au q a)];exact q) λc f q=>by rw[ai (au q a)];exact q
end
section
variable {X:Cx}{k:Nat}{f C:Addr}{fd:FuncData}{ps:List Str}{sp:Sp}{x:Str}{p pos bX:Pos}{e:Expr}{es:List Expr}{t:TA}{E:XK}
def S8 (X:Cx)(C:Addr)(E:XK):Prop:=∀(a:List (Addr×Obj)) (c:St) (H:Hp) (s:Shared) (x:Addr) (b:Option Addr),Inv X a c H s->H x=some (XO x C b true)->X.dR.heap.get? x=none->E (.ref C) b (del H x)->X.xe (.ref x) s
theorem Xr {base:Heap}{qual:Str}{scope:Scope}{f C:Addr}{a:List Env}{E:XK}:S8 (cf (bD P w) P w K M base Z qual scope f v A a s H E) C E:=λ_ _ _ _ _ _ I c b q=>Oo I c b q
def Lv (C:Addr)(sp:Sp)(E:XK)(t:TA):TS:=λ_ g H=>t g H λd b=>∀x,b x=none->sp (.ref x::d) (upd b x (XO x C none true)) (λv c=>v=.non/\∃a,c x=some (XO x C a true)/\E (.ref C) a (del c x)) (λ_ _ _=>False)
theorem E3 (F:bx X.prog X.w X.K X.mg X.base (bD X.prog X.w) k f fd ps sp)(hr:cH (k+ 1) X.A)(hb:Binds X.K fd ps [])(hc:X.calm=true)(hg:Gl X x)(hm:X.mg x=some (.ref C))(hC:wM X.K C f=true)(hf:PySem.W.isFn X.K (.ref f)=true)(hk:PySem.W.keepIn X.K (.ref C)=true)
 (ha:PA X (e::es) t) (lv:S8 X C E) (hex:X.ex=[]:=by rfl) (E4:ps.length<=1000:=by decide) (z:(x==("__debug__":Str))=false:=by decide) (he:starEach (e::es) X.env=(false,eval e X.env)::starEach es X.env:=by rfl) (P:(backTo bX (starEach es X.env)).any (·.1)=false:=by rfl):
 PS X (.Raise (some (.Call (.Name x p) (e::es) [] bX)) none pos) (Lv C sp E t):=by
 intro a s σ H D I h;obtain⟨U,N,nm,qn,bs,i,sn,sub,W,col,Z,k0,T,k2,k3,k5,mN,o1,o2,o3,o4⟩:=zz I.ok.mod.uB hC;have kp:∀{B G n},Inv X a B G n->∀b o,X.base.get? b=some o->n.heap.get? b=some o:=λJ b o q=>(J.bs b o q).1
 rw[arm_exec_Raise];refine ab1 (aeT (Hr (C:=C) (nm:=nm) (q:=qn) (N:=N) (bs:=bs) (bm:=U) (hdct:=i) (sn:=sn) (sub:=sub) (ab:=W) (col:=col) (dd:=Z) (k0:=k0) (k1:=T) (k2:=k2) (k3:=k3) (k5:=k5) (newId:="ValueError.__new__") (o4.hasType (by decide)) (I.ok.hd hc) (ab1 (acW (E:=X.xe) ?_ (λv S l=>ab1 (aeT (ab7 l))) λ_ _ x=>x))));refine adh (jK I hg hm ?_ z);refine aeH (h₀:=X.base) I.ok.mod.uB hk (aY (ha bX a s σ H _ I h) λus s1 ⟨vs,H1,j,r,q⟩=>⟨j.cZ,?_⟩) he P;obtain⟨oI,M,L⟩:=adf.mp (afn.mp hf)
 have len:us.length<=1000:=by
  have h1:=F.len _ _ _ _ (q (s1.heap.objs.size) (j.aL.fresh (aca _)));rw[acC]at h1;rw[<-r.length];omega
 obtain⟨hh,g,d,tk,os⟩:=s1;refine C6 (A:=X.A) ad4 (o4.keeps (kp j)) (kp j _ _ o1) (o2.keeps (kp j)) o3 (j.cZ _ _ M) L (λh' y w=>?_) (acr len (by decide));obtain⟨hn,h0,J⟩:=j.RP w hex;have R:=q y hn;have r2:Vals (V.ref y::vs) (Value.ref y::us):=.cons Y r
 have hl:(Value.ref y::us++[]).length=ps.length:=by
  rw[acD,<-r2.length];exact F.len _ _ _ _ R
 have m:=hb _ (Value.ref y::us) J.cZ hl;rw[acD]at m;refine aeD (aeu (F.run _ X.stack _ _ ⟨Value.ref y::us,[]⟩ (Value.ref y::us) _ _ _ (hr.make C us []) (J.yH.make C us []) m r2 R) λr n c=>?_)
 cases r with
 |error e=>exact(Jk c).elim
 |ok fl=>
  cases fl with
  |ret u=>
   obtain⟨v,G,O,rv,ev,dx,hx,q3⟩:=J.after c;subst ev;obtain⟨⟨ob,ws,a1,a2,a3,a4,a5⟩,_,_⟩:=O.aL y _ hx;exact⟨rv,y,ob,ws,Y,kp O _ _ o1,a1,a2,a4,(a5 Y).1,lv a σ G n y dx O hx h0 q3⟩
  |next=>exact False.elim c
  |brk=>exact False.elim c
  |cont=>exact False.elim c
end
end L2
namespace L2
open PySem PySem.Spec PyProof.Rows PySem.W
section
variable {M:Model}{A:Around}{E:Value->Shared->Prop}{s:Shared}{x a:Addr}{ob:Obj}{vs:Array Value}{tv:Value}
theorem Ht {Q:Fin->Shared->Prop}(e:s.heap.get? x=some ob)(d:ob.data=.fields vs)(c:vs[0]?=some (.ref a))
 (h:Q (.done (.ret .none)) { s with heap:=(s.heap.push { cls:=.type "tuple",data:=.seq #[tv] }).update x (Obj.mapFields (·.setIfInBounds 0 (.ref s.heap.objs.size))) }):wpAny M A (Builtin.«BaseException.__init__» ⟨[.ref x,tv],[]⟩) Q E s:=by
 have b:=ab2 { cls:=.type "tuple",data:=.seq #[tv] } e;unfold Builtin.«BaseException.__init__»;refine ab1 (wpAny_newTuple ?_);unfold Builtin.BaseException.bexcPut;refine ab1 (ab1 (ac4 b d c (ab1 (aed b d (adI.mp c).1 ?_))))
 wp_walk
 exact h
end
section
variable {X:Cx}{Y:Addr}{y f:Str}{np apos pos pos':Pos}{e:Expr}{es:List Expr}{t:TA}
structure Hu (K:Za1) (Y:Addr):Prop where
 sp:specialIn K (.ref Y) "__getattribute__"=some (some (.builtin "type.__getattribute__"))
 rd:readsIn K Y (.type "type")=true
 fc:(match findCls K (.ref Y) (.type "type") "__init__" with|some (.val (.builtin i))=>i=="ValueError.__init__" | _=>false)=true
theorem Hu.find {Y:Addr}(b:Hu K Y):findCls K (.ref Y) (.type "type") "__init__"=some (.val (.builtin "ValueError.__init__")):=by
 have:=b.fc
 grind
def Vw (C:Addr)(t:TA):TE:=λ d H Q=>t d H λc a=>∃(x:Addr) (b:Option Addr) (l:List Nat),c=[.ref x,.str (tx l)]/\a x=some (XO x C b true)/\Q .non a
theorem Hv {pl:Sem Bool}(V:wM X.K a b=true)(B:Hu X.K Y)(hg:Gl X y)(R:X.mg y=some (.ref Y))(ha:PA X (e::es) t)(n:(y==("__debug__":Str))=false:=by decide)
 (w:starEach (e::es) X.env=(false,eval e X.env)::starEach es X.env:=by rfl) (D:(backTo pos (starEach es X.env)).any (·.1)=false:=by rfl)
 (ht:eval (.Call (.Attribute (.Name y np) "__init__" apos) (e::es) [] pos) X.env=(do
  let M <-eval (.Name y np) X.env
  standAt apos.atName
  let (f,first) <-holding [M] (getMethod M "__init__" pl)
  callWith pos f first (backTo pos (starEach (e::es) X.env)) (backToKw pos (keywordEach [] X.env))):=by rfl):
 PE X (.Call (.Attribute (.Name y np) "__init__" apos) (e::es) [] pos) (Vw a t):=by
 intro j s σ H Q I h;refine methodCall_KW (pl:=pl) (jK I hg R ?_ n) ht;refine method_cls I.cZ B.sp (cls_value I.cZ B.rd B.find rfl ?_);refine PyProof.Rows.callWith_builtin1 (aY (ha pos j _ σ H _ (I.tok _) h) λus s1 ⟨vs,v,p,r,x,O,l,ev,A,q⟩=>?_) w D;subst ev;obtain⟨u,F,rfl,U,ry⟩:=vals2 r;cases U;obtain⟨bm,N,nm,qn,bs,L,sn,sub,ab,col,dd,k0,k1,k2,k3,k5,mN,o1,o2,o3,W⟩:=zz I.ok.mod.uB V;have kp:∀d o,X.base.get? d=some o->s1.heap.get? d=some o:=λd o q=>(p.bs d o q).1
 obtain⟨⟨ob,ws,m,E,S,G,a5⟩,_,_⟩:=p.aL x _ A;obtain⟨b1,c,P⟩:=a5 rfl;obtain⟨g,gg,dr,tk,os⟩:=s1;refine aeD (adF ad4.init.plain ad4.initEntry (wpAny_check_init_subT ad4 (W.keeps kp) (kp _ _ o1) m E ?_));refine Ht m G P ?_;have T:x≠g.objs.size:=acz (acg m);have C:=ab2 { cls:=.type "tuple",data:=.seq #[F] } m;have i:=adC G (·.setIfInBounds 0 (Value.ref g.objs.size));have k:=acL (Obj.mapFields (·.setIfInBounds 0 (Value.ref g.objs.size))) C (aea i)
 have J:=p.write (h':=(g.push { cls:=.type "tuple",data:=.seq #[F] }).update x (Obj.mapFields (·.setIfInBounds 0 (.ref g.objs.size)))) (t':=tk) (o:=XO x a O true) (x:=x) (e:=x) (by rw[A];exact True.intro) (.inl rfl) (λd u Z z=>(acM _ _ (adn Z)).trans (ab2 _ z)) ⟨_,k⟩
  (yw ⟨_,_,k,(Obj.cls_mapFields _ _).trans E,(xU _ _).trans S,i,λ_=>⟨by grind,g.objs.size,by simp[(adI.mp P).1]⟩⟩)
 have eH:upd v x (XO x a O true)=v:=by
  funext d
  by_cases z:d=x
  ·rw[z,ah,A]
  ·rw[ai z]
 rw[eH]at J;exact⟨.non,v,J,rfl,q⟩
def RT (K:Za1)(k j:TE)(f:Str):TS:=λD c H=>j c H λy i=>k c i λx b=>∃(a C:Addr) (g:Option Addr) (h:Bool),x=.ref a/\b a=some (XO a C g h)/\wL K C/\j3 K C f/\
 match g with
 |none=>∀d,b d=none->D.nx c (upd (upd b d (XD d [(f,y)])) a (XO a C (some d) h))
 |some d=>∃fs,d≠a/\b d=some (XD d fs)/\fs.length<1000/\D.nx c (upd b d (XD d (bJ f y fs)))
theorem E5 {fs:List (Str×V)}{mA:Str->Option Value}{y:V}(r:∀f,dY (fs.lookup f) (mA f))(c:PySem.Within mA (fs.map (·.1)))(a:RelV y u):(∀g,dY ((bJ f y fs).lookup g) (if g=f then some u else mA g))/\PySem.Within (λg=>if g=f then some u else mA g) ((bJ f y fs).map (·.1)):=by
 refine⟨λg=>?_,λg b=>?_⟩
 ·rw[m8];by_cases q:g=f
  ·rw[acv q,acv q];exact a
  grind
 ·by_cases q:g=f
  ·rw[q];exact(j2 f y fs).1
  ·refine(j2 f y fs).2 g (c g λz=>b ?_)
   grind
theorem BG {o value:Expr}{P:TE}(Z:PE X o r)(hv:PE X value P)(hs:swapsWith value (some (.Attribute o f pos')) pos.line X.env=pure false):PS X (.Assign [.Attribute o f pos'] value pos) (RT X.K r P f):=by
 intro k s w H D I h;refine plainObj_wpAny_Assign_Attribute (aY (hv k s w H _ I h) λu s1 ⟨y,H1,I1,R,q⟩=>aY (Z k s1 w H1 _ I1 q) λW s2 ⟨x,H2,l,rx,a,C,dx,nw,ex,Q,c,n,A⟩=>?_) hs;subst ex;obtain rfl:W=Value.ref a:=rx;obtain⟨⟨ob,vs,N,E,S,G,a5⟩,_,_⟩:=l.aL a _ Q
 cases dx with
 |some d=>
  obtain⟨fs,nd,U,hl,A⟩:=A;obtain⟨⟨mA,hn,i,T⟩,_,_⟩:=l.aL d _ U;refine Vu l.cZ c N E G n.Cy S hn T (by rw[ab9,sizeLine_eq];omega) λB j sb=>?_
  obtain⟨F,M⟩:=E5 (f:=f) i T R;obtain⟨v,_,_,p,_⟩:=id j;exact⟨w,_,l.write (x:=d) (e:=d) (by rw[U];exact True.intro) (.inl Y) (λb u L z=>(sb.2 b L).trans z) ⟨v,p⟩ (Ji ⟨_,j,F,M⟩),A⟩
 |none=>
  refine RL l.cZ c N E G n.Cy S λB j m kp=>?_
  have hd:H2 s2.heap.objs.size=none:=l.aL.fresh (aca _);have O:s2.heap.objs.size≠a:=ade (acg N);obtain⟨v,es,V,p,r'⟩:=id j;obtain⟨F,M⟩:=E5 (fs:=[]) (mA:=λ_=>none) (f:=f) (λ_=>True.intro) (λg hg=>absurd Y hg) R;have J:=l.laid (a:=s2.heap.objs.size) (o:=XD s2.heap.objs.size [(f,y)]) (h':=s2.heap.push v) (t':=s2.toks) (λb u z=>ab2 _ z) (aca _) (Ji ⟨_,⟨v,es,V,Heap.get?_push_at Y (Heap.get?_some_iff.mp p).2,r'⟩,F,M⟩);refine⟨w,_,J.write (h':=B) (x:=a) (e:=a) (o:=XO a C (some s2.heap.objs.size) nw) (by rw[ai O.symm,Q];exact True.intro) (.inl Y) (λb u L z=>?_) ⟨_,m⟩ (yw ⟨_,_,m,E,Y,G,a5⟩),A _ hd⟩;rcases Heap.get?_push_cases z with ⟨rfl,rfl⟩|z
  ·exact p
  ·exact kp b u L z
inductive Ot (K:Za1) (f:Str) (x:V) (H:Hp) (Q:VK):Prop
 |mk (a C d:Addr) (nw:Bool) (fs:List (Str×V)) (v:V):x=.ref a->H a=some (XO a C (some d) nw)->H d=some (XD d fs)->wL K C->j3 K C f->fs.lookup f=some v->Q v H->Ot K f x H Q
def RV (K:Za1)(c:TE)(f:Str):TE:=λ b H Q=>c b H λx a=>Ot K f x a Q
theorem wN {e:Expr}(U:PE X e r)(G:attributeBase e f X.env (eval e X.env)=eval e X.env):PE X (.Attribute e f pos) (RV X.K r f):=by
 intro g s L H Q I h;refine Bd G (aY (U g s L H _ I h) λu s1 ⟨x,N,i,D,a,C,d,Z,fs,v,ex,O,V,c,n,l,q⟩=>?_);subst ex;obtain rfl:u=Value.ref a:=D;obtain⟨⟨P,A,S,k,p,m,a5⟩,_,_⟩:=i.aL a _ O;obtain⟨⟨M,E,b,wi⟩,_,_⟩:=i.aL d _ V;obtain⟨u,z,w⟩:=dY.some_of (v:=v) (o:=M f) (by rw[<-l];exact b f);obtain⟨F,R,B⟩:=xk E;obtain⟨oc,W,T,j⟩:=P;dsimp only at k p m;subst k p m;have J:PySem.W.InstAt s1.heap a ⟨.ref C,some d,.fields A,j⟩ C (some F):=⟨S,Y,Y,R⟩;exact Vv i.cZ c J (findObj_own c.hd n Y (by rw[B,z])) (xl w) ⟨v,N,i.tok _,w,q⟩
end
end L2
namespace L2
open PySem PySem.Spec PyProof.Rows
def eG (X:Cx)(a:List (Addr×Obj))(g:St)(d:Hp)(x C:Addr)(f:Option Addr)(s:Shared):Prop:=
 ∃(B:Heap) (c:Hp) (s1:Shared),Inv X a g c s1/\s.os=s1.os/\AllBare s.gens/\ky B X.stack x (.ref C) f .none s.heap/\Un (cx X.stack) [] c d s1.heap s.heap/\dw X.prog X.w d B/\
  (∀b o,s1.heap.get? b=some o->c b=none->b∉cx X.stack->B.get? b=some o)/\(∀b o,s1.heap.get? b=some o->b∉cx X.stack->∃e,B.get? b=some e)
section
variable {X:Cx}{pins:List (Addr×Obj)}{σ:St}{H':Hp}{x C:Addr}{dx:Option Addr}{s:Shared}
theorem eG.of {E:XK}(I:Inv X pins σ H t)(b:bD X.prog X.w X.stack H t E v s):∃x C dx H',v=.ref x/\eG X pins σ H' x C dx s/\E (.ref C) dx H':=by
 obtain⟨x,C,dx,B,H',rfl,os,bare,fl,un,a,d,c,q⟩:=b;exact⟨x,C,dx,H',Y,⟨B,H,t,I,os,bare,fl,un,a,d,c⟩,q⟩
theorem eG.step {fl:Value}{s1:Shared}(I:Inv X pins σ H s1)(os:s.os=s1.os)(bare:AllBare s.gens)(un:Un (cx X.stack) [] H H' s1.heap s.heap)(aL:dw X.prog X.w H' g)
 (p:∀b o,s1.heap.get? b=some o->H b=none->b∉cx X.stack->g.get? b=some o) (n:∀b o,s1.heap.get? b=some o->b∉cx X.stack->∃f,g.get? b=some f) (a:ky g X.stack x (.ref C) dx .none h) (u:s.heap.UpToSlots h):eG X pins σ H' x C dx { s with heap:=h }:=by
 have q:∀b o,s1.heap.get? b=some o->b∈cx X.stack->∃sl,h.get? b=some { o with slots:=sl }:=λb o e d=>by
  obtain⟨t,i,r⟩:=I.I9 d;rw[e]at i;cases i;obtain⟨sl,m⟩:=un.slot b o e (I.nk b d) d (by simp);obtain⟨k,l⟩:=u b _ m r;exact⟨k,l⟩
 refine⟨g,H,s1,I,os,bare,a,⟨λb o c i j _=>a.1 b o (p b o c i j),λb o c _ j _=>q b o c j,un.free,λb o c _=>?_,un.gN,un.fW,un.gO⟩,aL,p,n⟩;by_cases d:b∈cx X.stack
 ·obtain⟨sl,l⟩:=q b o c d;exact⟨_,l⟩
 ·obtain⟨f,m⟩:=n b o c d;exact⟨f,a.1 b f m⟩
theorem eG.look (t:eG X pins σ H' x C dx s)(a:X.stack=X.env::X.outer)(j:X.env.frame=some X.env.locals)(hA:A.frames=some X.stack)
 (h:∀d,eG X pins σ H' x C dx { s with heap:=d }->U () { s with heap:=d }):
 wpAny (model X.prog X.w) A (noteFrame (.ref x) X.env) (λ_ m=>wpAny (model X.prog X.w) A (setFlight (.ref x) none) U E m) E s:=by
 obtain⟨B,p,o,I,os,bare,fl,un,aL,f,e⟩:=t;have b:=fl;rw[a]at b;refine Jh (base:=B) (hA.trans (by rw[a])) j b λk i g=>?_
 refine vg (s:={ s with heap:=k }) i λl c n=>h l (eG.step (fl:=.none) I os bare un aL f e (by rw[a];exact c) (g.trans n))
theorem eG.again (t:eG X pins σ H' x C dx s)(h:∀b,eG X pins σ H' x C dx { s with heap:=b }->U () { s with heap:=b }):
 wpAny (model X.prog X.w) A (setFlight (.ref x) none) U E s:=by
 obtain⟨B,g,f,I,os,bare,fl,un,aL,e,c⟩:=t;exact vg fl λd a u=>h d (eG.step (fl:=.none) I os bare un aL e c a u)
theorem eG.inv (t:eG X pins σ H' x C dx s):Inv X pins σ H' s:=by
 obtain⟨B,c,a,I,os,bare,fl,un,aL,e,d⟩:=t;exact I.Cr (ch:=[]) os un (aL.kept fl.1) bare (λb z=>absurd z (by simp))
theorem eG.none (t:eG X pins σ H' x C dx s):H' x=none:=by
 obtain⟨B,c,b,I,os,bare,fl,un,aL,f,d⟩:=t
 cases e:H' x with
 |none=>rfl
 |some u=>
  obtain⟨o,a⟩:=(aL x u e).get;rw[fl.2.1]at a;cases a
theorem eG.at (t:eG X pins σ H' x C dx s):xV x C dx false s.heap:=by
 obtain⟨B,e,d,I,os,bare,fl,un,aL,g,f⟩:=t;obtain⟨_,_,_,a,c,_,_,_,b,hc,hd,_⟩:=fl;exact⟨a,c,b,hc.1,hc.2,hd,λz=>by cases z⟩
theorem eG.Vx (t:eG X pins σ H' x C dx s):Inv X pins σ (upd H' x (XO x C dx false)) s:=by
 have w:=t.none;have h:=t.at;obtain⟨B,A,r,I,os,bare,fl,un,aL,k,n⟩:=t;obtain⟨D,p,G,_,_,hd,_⟩:=id h;have ne:∀b u,H' b=some u->b≠x:=λb u e z=>by grind
 refine I.Cr (ch:=[]) os ⟨un.keep,un.slot,λb o d f j=>?_,un.there,λb g e=>?_,λb o u e=>?_,λb l e=>?_⟩ (λb u e=>?_) bare (λb z=>absurd z (by simp))
 ·refine(ai ?_).trans (un.free b o d f j);rintro rfl;by_cases a:b∈cx X.stack
  ·obtain⟨F,i,y⟩:=I.I9 a;rw[d]at i;cases i;obtain⟨sl,E⟩:=un.slot b o d f a (by simp)
   grind
  ·have:=k b o d f a;rw[fl.2.1]at this
   grind
 ·have:=un.gN b g e;rw[ai (ne _ _ this)];omega
 ·have:=un.fW b o u e;rw[ai (ne _ _ this)];omega
 ·obtain⟨m,this⟩:=un.gO b l e;exact⟨m,by rw[ai (ne _ _ this)];omega⟩
 ·by_cases a:b=x
  ·subst a;rw[ah]at e;cases e;exact yw h
  ·rw[ai a]at e;exact(aL b u e).eX (λc v _ q=>fl.1 c v q) (λc q=>by rw[ai (ne _ _ q)];exact q) λc g q=>by rw[ai (ne _ _ q)];exact q
end
abbrev E6:=Addr->Option Addr->St->Hp->Prop
abbrev Jl:=St->Hp->VK->E6->Prop
abbrev xW:=Ends->E6->St->Hp->Prop
def Ou (X:Cx)(a:List (Addr×Obj))(R:E6)(e:Value)(s:Shared):Prop:=∃x C b c H,e=.ref x/\eG X a c H x C b s/\R C b c H
def S9 (X:Cx)(e:Expr)(t:Jl):Prop:=
 ∀(a:List (Addr×Obj)) (s:Shared) (b:St) (H:Hp) (Q:VK) (R:E6),Inv X a b H s->t b H Q R->wpAny (model X.prog X.w) X.A (eval e X.env) (EP X a b Q) (Ou X a R) s
def BH (X:Cx)(st:Stmt)(t:xW):Prop:=
 ∀(a:List (Addr×Obj)) (s:Shared) (b:St) (H:Hp) (D:Ends) (R:E6),Inv X a b H s->t D R b H->wpAny (model X.prog X.w) X.A (exec st X.env) (SP X a D) (Ou X a R) s
section
variable {X:Cx}{k:Nat}{f:Addr}{fd:FuncData}{ps:List Str}{sp:Sp}{x:Str}{p pos:Pos}{e:Expr}{es:List Expr}{t:TA}{ds:List Value}{dvs:List V}
def Ov (sp:Sp)(dvs:List V)(t:TA):Jl:=λ a H Q R=>t a H λg d=>sp (g++dvs) d Q λc b h=>∃C,c=.ref C/\R C b a h
theorem zA (F:bx X.prog X.w X.K X.mg X.base (bD X.prog X.w) k f fd ps sp)(G:cH k X.A)(P:Gl X x)(M:X.mg x=some (.ref f))(D:PySem.W.keepIn X.K (.ref f)=true)(N:Binds X.K fd ps ds)(O:Vals dvs ds)
 (B:PA X.uD (e::es) t) (m:(x==("__debug__":Str))=false:=by decide) (W:starEach (e::es) X.env=(false,eval e X.env)::starEach es X.env:=by rfl) (l:(backTo pos (starEach es X.env)).any (·.1)=false:=by rfl):
 S9 X (.Call (.Name x p) (e::es) [] pos) (Ov sp dvs t):=by
 intro b s j H Q R I h;refine adh (jK I P M ?_ m);refine aeH (h₀:=X.base) I.ok.mod.uB D (acW (B pos b s j H _ (I.wish _) h) (λd g ⟨o,w,v,r,q⟩=>⟨v.cZ,?_⟩) λ_ _ z=>False.elim z) W l;have J:=v.gP;have y:Vals (o++dvs) (d++ds):=r.append O;have L:(d++ds).length=ps.length:=by rw[<-y.length];exact F.len _ _ _ _ q
 refine aeD (aeu (F.run X.A X.stack g w ⟨d,[]⟩ (d++ds) (o++dvs) Q _ G J.yH (N g d J.cZ L) y q) λr S a=>?_)
 cases r with
 |error e=>
  have a:bD X.prog X.w X.stack w g (λc i Z=>∃C,c=Value.ref C/\R C i j Z) e S:=a;obtain⟨x,C,i,U,rfl,T,C',A,z⟩:=eG.of J a;cases A;exact⟨x,C,i,j,U,Y,T,z⟩
 |ok E=>
  cases E with
  |ret u=>exact J.after a
  |next=>exact False.elim a
  |brk=>exact False.elim a
  |cont=>exact False.elim a
def RW (i:Nat)(c:Jl):xW:=λD R a H=>c a H (λv b=>D.nx (a.set i (some v)) b) R
theorem BI {x:Str}{b:Jl}{pos':Pos}(r:X.N.Nodup)(c:X.N[i]?=some x)(u:Loc X.env.scope x)(q:S9 X e b)(n:swapsWith e (some (.Name x pos')) pos.line X.env=pure false:=by rfl)(l:X.fn x=true\/X.env.scope.names.lookup x=some .local:=by first|exact .inl rfl|exact .inr rfl|assumption):
 BH X (.Assign [.Name x pos'] e pos) (RW i b):=by
 intro a s g H D R I h;refine wpAny_Assign_Name (aY (q a s g H _ R I h) λv z ⟨y,m,j,o,d⟩=>?_) n;exact oT j r c u o (λA w=>⟨_,m,w,d⟩) l
def Vy (c:TT)(t u:xW):xW:=λD R a H=>c a H λb d=>if b=true then t D R a d else u D R a d
theorem Ow {c:Expr}{a b:Stmt}{n:TT}{r o:xW}(y:PT X.uD c n)(A:BH X a r)(C:BH X b o):BH X (.If c [a] [b] pos) (Vy n r o):=by
 intro g s l H D R I h
 have one:∀{st:Stmt} {m:xW} {i:Shared} {j:Hp},BH X st m->Inv X g l j i->m D R l j->wpAny (model X.prog X.w) X.A (execs [st] X.env) (SP X g D) (Ou X g R) i:=λ{st m i j} E J q=>
  wpAny_execs_cons (aY (E g i l j D R J q) λB F z=>by
   cases B with
   |next=>exact aei z
   |ret v=>exact z
   |brk=>exact z
   |cont=>exact z)
 refine wpAny_If (acW (y g s l H _ (I.wish _) h) (λd i ⟨j,w,u⟩=>?_) λ_ _ z=>False.elim z)
 cases d with
 |true=>exact one A w.gP u
 |false=>exact one C w.gP u
end
abbrev zB:=Ends->Addr->Option Addr->St->Hp->Prop
def Jm (X:Cx)(d:List ExceptHandler)(t:zB):Prop:=
 ∀(a:List (Addr×Obj)) (s:Shared) (c:St) (H:Hp) (x C:Addr) (b:Option Addr) (D:Ends),eG X a c H x C b s->t D C b c H->wpAny (model X.prog X.w) X.A (handleBy (.ref x) X.env d) (SP X a D) X.xe s
section
variable {X:Cx}{y n:Str}{Y:Addr}{np pos:Pos}{GW:Stmt}{suite:List Stmt}{rest:List ExceptHandler}{tb:TS}{tr:zB}{i:Nat}
def RX (K:Za1)(Y:Addr)(i:Nat)(tb:TS)(tr:zB):zB:=λD C d e H=>∃b,PySem.W.exmOne K (.ref C) (.ref Y)=some b/\
 if b=true then ∀x,H x=none->tb { nx:=λ a c=>D.nx (a.set i none) c,rt:=D.rt,bk:=λ a c=>D.bk (a.set i none) c,ct:=λ a c=>D.ct (a.set i none) c } (e.set i (some (.ref x))) (upd H x (XO x C d false)) else tr D C d e H
theorem Ox (l:X.N.Nodup)(j:X.N[i]?=some n)(g:X.env.scope.names.lookup n=some .local)(M:Gl X y)(F:X.mg y=some (.ref Y))(G:∀x,i6 (X.xE x) (GW :: suite) tb)(E:Jm X rest tr)(w:(y==("__debug__":Str))=false:=by decide):
 Jm X (.ExceptHandler (some (.Name y np)) (some n) (GW :: suite) pos::rest) (RX X.K Y i tb tr):=by
 intro a s L H x C B D k h;obtain⟨b,o,h⟩:=h;have I:=k.inv;refine wpAny_handleBy_cons (codeAny_handlers_test ?_) (by intro q;cases q);refine jK (X:=X.xE x) (I.xE x) M F ?_ w;refine PySem.W.exm_one I.cZ k.at.ex.Rm o _ _ _ _ (λ_ _ e=>e) ?_
 cases b with
 |false=>exact E a s L H x C B D k h
 |true=>
  have h:=h x k.none;refine codeAny_handlers_suite_as (k.again λQ m=>?_);have J:=m.Vx;refine oT (X:=X.xE x) (J.xE x) l j (.inl g) (v:=.ref x) rfl (λN O=>?_) (.inr g);refine acW (G x a N _ _ _ O h) (λA P q=>?_) λ_ _ z=>False.elim z
  cases A with
  |next=>obtain⟨f,p,c,q⟩:=q;exact rZ (c.yu I.ok) l j g λt d=>⟨_,_,d,q⟩
  |brk=>obtain⟨f,p,c,q⟩:=q;exact rZ (c.yu I.ok) l j g λt d=>⟨_,_,d,q⟩
  |cont=>obtain⟨f,p,c,q⟩:=q;exact rZ (c.yu I.ok) l j g λt d=>⟨_,_,d,q⟩
  |ret u=>obtain⟨v,f,p,c,r,q⟩:=q;exact rZ (c.yu I.ok) l j g λt d=>⟨v,_,_,d,r,q⟩
def RZ:zB:=λ_ _ _ _ _=>False
theorem Oy:Jm X rest RZ:=λ_ _ _ _ _ _ _ _ _ h=>h.elim
def R6 (t:xW)(e:zB):TS:=λD c H=>t D (λC b a d=>e D C b a d) c H
theorem Lx {st:Stmt}{t:xW}{a:ExceptHandler}{j:List ExceptHandler}{c:zB}(g:X.stack=X.env::X.outer)(u:X.env.frame=some X.env.locals)(p:BH X st t)(o:Jm X (a :: j) c):
 PS X (.Try [st] (a :: j) [] [] pos) (R6 t c):=by
 intro b s r H D I h;refine wpAny_Try_except (wpAny_execs_cons (acW (p b s r H D _ I h) (λk l q=>?_) λe l q=>?_))
 ·cases k with
  |next=>exact aei (aei q)
  |ret v=>exact q
  |brk=>exact q
  |cont=>exact q
 ·obtain⟨x,C,m,f,w,rfl,c,q⟩:=q;exact c.look g u I.ok.frames λz d=>o b _ f w x C m D d q
end
def C7 (K:Za1)(C:Addr):Bool:=match PySem.W.findIn K (.ref C) "__init__" with
 |some (some (.ref f))=>wM K C f
 |_=>false
theorem BJ (h:C7 K a=true)(e:PySem.W.findIn K (.ref a) "__init__"=some (some (.ref b))):wM K a b=true:=by
 unfold C7 at h;rw[e]at h;exact h
structure Vz (K:Za1) (x qual:Str) (st:Stmt) (f:Addr) (fd:FuncData) (dV:Value):Prop where
 ex:∃(oc:Value) (od:Option Addr) (kV doc pm:Value) (an:Option Addr) (cy ct:Value) (yL:Array (Option Value)),
  fd=PySem.W.fnOf x qual (dv st) (cI st) (aD st) dV kV doc pm an cy ct/\K.lookup f=some ⟨oc,od,.func fd,yL⟩/\PySem.W.codeIn K cy qual=true
 kp:PySem.W.keepIn K (.ref f)=true
structure DDef (K:Za1) (mg:Str->Option Value) (x:Str) (st:Stmt) (ps:List Str) (f:Addr) (fd:FuncData) (d:Str):Prop where
 F:∃dV,Vz K x x st f fd dV
 kp:PySem.W.keepIn K (.ref f)=true
 m:mg x=some (.ref f)
 b:Binds K fd ps []
 bd:∃t,Binds K fd ps [.str d t]
section
variable {P:Program}{w:World}{K:Za1}{mg:Str->Option Value}{base:Heap}
theorem DDef.Oq {st:Stmt}{fd:FuncData}{e:List Str}{k:Nat}{sp:Sp}(D:DDef K mg x st e a fd f)(S:aV Z e (aD st))(len:∀d H Q E,sp d H Q E->d.length=e.length)
 (c:∀(b:Value) (A:Around) (outer:List Env) (s:Shared) (H:Hp) (d:List V) (Q:VK) (E:XK),cH k (A.deeper (envOfC x (aD st) s.heap.objs.size a b))->sp d H Q E->
  ∃t,i6 (cf (bD P w) P w K mg base Z x (aD st) a b A outer s H E) (cI st) t/\t { nx:=λ_ j=>Q .non j,rt:=Q } (start Z d) H):bx P w K mg base (bD P w) (k+ 1) a fd e sp:=by
 obtain⟨p,F⟩:=D.F;obtain⟨o,n,kV,doc,pm,m,b,ct,l,rfl,lk,g⟩:=F.ex;exact yt lk g S len λA outer s H d Q E i h=>c b A outer s H d Q E i h
theorem DDef.of {st:Stmt}{y d:Option Addr}{j o:Array (Option Value)}{kV doc pm ct z:Value}{dd:Option Addr}{t:Tok}(X:K.In h)(G:h.Ns mainGlobals mg)(e:PySem.W.nsIn K mainGlobals x=some (some (.ref a)))(l:K.lookup a=some ⟨v,y,.func (PySem.W.fnOf x x (dv st) (cI st) (aD st) (.ref b) kV doc pm d u ct),j⟩)(c:PySem.W.codeIn K u x=true)(k:PySem.W.keepIn K (.ref a)=true)
 (lt:K.lookup b=some ⟨z,dd,.seq #[.str f t] n,o⟩)
 (g:∀(kV doc pm:Value) (d:Option Addr) (u ct:Value) (us:List Value),us.length=Z.length->∃i:Option (Array Value)->Sem (List (Str×Value)),bindArgs (PySem.W.fnOf x x (dv st) (cI st) (aD st) (.ref b) kV doc pm d u ct) ⟨us,[]⟩=seqItems? (.ref b) >>=i/\i (some #[.str f t])=pure (Z.zip us))
 (b1:∀(kV doc pm:Value) (d:Option Addr) (u ct:Value) (us:List Value),us.length+ 1=Z.length->∃i:Option (Array Value)->Sem (List (Str×Value)),bindArgs (PySem.W.fnOf x x (dv st) (cI st) (aD st) (.ref b) kV doc pm d u ct) ⟨us,[]⟩=seqItems? (.ref b) >>=i/\i (some #[.str f t])=pure (Z.zip (us++[.str f t]))):
 DDef K mg x st Z a (PySem.W.fnOf x x (dv st) (cI st) (aD st) (.ref b) kV doc pm d u ct) f:=by
 refine⟨⟨_,⟨v,y,kV,doc,pm,d,u,ct,j,Y,l,c⟩,k⟩,k,PySem.W.mg_of X G e,λs us r m=>?_,t,λs us r m=>?_⟩
 ·rw[acD]at m ⊢;obtain⟨i,p,q⟩:=g kV doc pm d u ct us m;exact BindsTo.of_defaults (T:=b) Y (r _ _ lt) Y p q
 ·obtain⟨i,p,q⟩:=b1 kV doc pm d u ct us (by simpa using m);exact BindsTo.of_defaults (T:=b) Y (r _ _ lt) Y p q
end
end L2
namespace L2
theorem C8 {c:Nat}{g:List Int}(b:S.Wf):(S.make c z g).stand=S.stand+ 1:=by
 unfold RS.stand;show (List.range (S.made+ 1)).countP _=_;rw[adP,adD,adQ]
 have d:(S.make c z g).ao S.made=S.made:=by
  show (S.grown c z g).ao S.made=S.made;rw[ej b,acv rfl]
 rw[show decide ((S.make c z g).ao S.made=S.made)=true from acy d,acv rfl]
 congr 1
 refine List.countP_congr λa e=>?_
 have:(S.make c z g).ao a=S.ao a:=by
  show (S.grown c z g).ao a=S.ao a;rw[ej b,acm (by have:=adq.mp e;omega)]
 rw[this]
theorem zC (hw:S.Wf)(d:n<S.made):(S.make n z l).by m y=if m=S.made/\y= -z then some n else if m=n/\y=z then some S.made else S.by m y:=by
 unfold RS.make RS.keep;have b:(S.grown n z l).ways.length=S.made+ 1:=by show (S.ways++[[]]).length=_;rw[ab6,hw.w];rfl
 have c:∀a s,(S.grown n z l).by a s=S.by a s:=λa s=>by unfold RS.by;rw[mC hw]
 show (((S.grown n z l).bY n z S.made).bY S.made (-z) n).by m y=_;rw[jd (by show ((S.grown n z l).ways.set n _).length > _;rw[acx,b];omega),jd (by rw[b];omega),c]
theorem xX (h:fh S)(f:S.Wf)(c:Nat)(z:Int)(ks:List Int):fh (S.make c z ks):=by
 have e:∀b,(S.make c z ks).ao b=if b=S.made then S.made else S.ao b:=λb=>ej f c z ks b
 refine⟨λb a d=>?_,λb a=>?_,λb a=>?_⟩
 ·have a:b<S.made+ 1:=a;rw[e]at d;by_cases q:b=S.made
  ·grind
  ·rw[acm q]at d;exact h.a b (by omega) d
 ·have a:b∈S.aX:=a;have:=h.c b a;rw[e,acm (by omega)];exact h.b b a
 ·have a:b∈S.aX:=a;have:=h.c b a;show b<S.made+ 1;omega
def BK (d:Dt):Prop:=(∃n,d=.i n)\/∃l,d=.s l
theorem BK.low {k:Nat}{d:Dt}(h:BK d)(a:bF H k q d):bF H n q d:=by
 rcases h with ⟨b,rfl⟩|⟨l,rfl⟩
 ·cases a;exact .i
 ·cases a;exact .s
theorem Ly {k:Nat}{b:List Dt}(h:∀x∈b,BK x)(a:bF H (k+ 1) q (.t b)):bF H (n+ 1) q (.t b):=by
 cases a with
 |t i e f=>exact .t i e λj q d g c=>(h d (ab4 c)).low (f j q d g c)
def Dp (d:Dt):Prop:=∃a,d=.t a/\∀x∈a,BK x\/∃as,x=.t as/\∀y∈as,BK y
theorem Dp.low {d:Dt}(h:Dp d)(b:bF H 4 q d):bF H 2 q d:=by
 obtain⟨k,rfl,h⟩:=h
 cases b with
 |t i e f=>
  refine .t i e λj q d g c=>?_
  have b:=f j q d g c;rcases h d (ab4 c) with a|⟨as,rfl,a⟩
  ·exact a.low b
  ·exact Ly a b
theorem BL {a:List Dt}(h:∀x∈a,BK x):Dp (.t a):=⟨a,Y,λx b=>.inl (h x b)⟩
theorem Oz (c:Nat)(z:Int)(n:Nat):Dp (j5 c z n):=BL λx a=>by
 simp only[aci,ac0,aeV]at a;rcases a with rfl|rfl|rfl|rfl
 ·exact .inr ⟨_,Y⟩
 all_goals exact .inl ⟨_,Y⟩
theorem OB {b:Za3}{e:List Nat}{W:Za2}{row:Dt}(h:One b n B W row e R):Dp row:=by
 cases h with
 |meet=>
  refine BL λx a=>?_
  simp only[aci,ac0,aeV]at a;rcases a with rfl|rfl|rfl|rfl|rfl
  ·exact .inr ⟨_,Y⟩
  all_goals exact .inl ⟨_,Y⟩
 |rule=>
  refine⟨_,Y,λx a=>?_⟩;simp only[aci,ac0,aeV]at a;rcases a with rfl|rfl|rfl|rfl
  ·exact .inl (.inr ⟨_,Y⟩)
  ·exact .inl (.inl ⟨_,Y⟩)
  ·refine .inr ⟨_,Y,λy d=>?_⟩;obtain⟨c,_,rfl⟩:=adl.mp d;exact .inl ⟨_,Y⟩
  ·exact .inl (.inl ⟨_,Y⟩)
theorem R7 {c:Za3}{d:List Nat}{W:Za2}{b:List Dt}(h:Go c n B W b d R):∀x∈b,Dp x:=by
 induction h with
 |nil=>grind
 |cons o _ e=>
  intro x a;rcases aci.mp a with rfl|a
  ·exact OB o
  ·exact e x a
section
variable {S S':RS}{R:Za2}{ks:List Int}{pend:List Way}
theorem jP.gap (l:jP S pend S'):Good S pend R->(∀c z d,R c z d->z∈ks)->d0 S R ks->d0 S' R ks:=by
 induction l with
 |nil S=>exact λ_ _ h=>h
 |take _ b=>
  intro g a h;exact b (g.take a).1 a (h.take g)
theorem jP.wr (l:jP S pend S'):Good S pend R->(∀c z d,R c z d->z∈ks)->S.aX.length<=S.rows.length->S'.aX.length<=S'.rows.length:=by
 induction l with
 |nil S=>exact λ_ _ h=>h
 |take _ i=>
  intro g e h;obtain⟨f,_,_,_,q⟩:=g.take e;refine i f e ?_;rcases q with ⟨_,a,b⟩|⟨_,_,_,_,_,_,_,_,_,_,a,b,_⟩
  ·rw[a,b];exact h
  ·rw[a,b,ab6,ab6,ada,ada];omega
structure YS (S:RS) (L:Nat) (ks:List Int) (R:Za2):Prop where
 g:Good S [] R
 w:fh S
 k:∀a z b,R a z b->z∈ks
 gi:d0 S R ks
 l:S.L=L
 m:0<S.made
 d:∀x∈S.rows,Dp x
 wr:S.aX.length<=S.rows.length
theorem YS.new {L:Nat}{ks:List Int}:YS (RS.new L ks) L ks (λ_ _ _=>False):=by
 refine⟨t9 L _,⟨λc hc e=>?_,(λc hc=>by cases hc),(λc hc=>by cases hc)⟩,(λ_ _ _ z=>z.elim),K6 L _,Y,Nat.one_pos,(λx a=>by cases a),aca _⟩;have:c=0:=by have:c<1:=hc;omega
 subst this;exact absurd Y e
theorem YS.make (h:YS S n ks R)(hc:m<S.made)(f:S.ao m=m)(g:S.by m z=none)(hz:z∈ks)(c: -z∈ks):YS (S.make m z ks) n ks (ft R m z S.made):=by
 refine⟨h.g.make hc f g _,xX h.w h.g.wf _ _ _,λa y b r=>?_,h.gi.make h.g hc f g,h.l,Nat.succ_pos _,λx d=>?_,?_⟩
 ·rcases r with r|⟨_,e,_⟩|⟨_,e,_⟩
  ·exact h.k _ _ _ r
  ·rw[e];exact hz
  ·rw[e];exact c
 ·have d:x∈S.rows++[j5 m z S.made]:=d;rcases ach.mp d with p|p
  ·exact h.d x p
  ·rw[acb.mp p];exact Oz _ _ _
 ·show S.aX.length<=(S.rows++[_]).length;rw[ab6];have:=h.wr;omega
theorem YS.tr {ws:Za3}(t:Tr ws m S S')(l:∀w∈ws,∀z∈w,z∈ks/\-z∈ks)(h:YS S n ks R):∃s,YS S' n ks s/\S'.made=S.made/\(∀a z b,R a z b->s a z b)/\∃F,S'.rows=S.rows++F/\∃E W B D,Go ws m E W F B D:=by
 induction t with
 |refl=>exact⟨R,h,Y,λ_ _ _ r=>r,[],(acD _).symm,_,_,_,_,.nil (E:=S.aS) (W:=λ_ _ _=>False) λ_ _ _=>Iff.rfl⟩
 |step N ra j J=>
  rename_i k S2 which word start f c d z;obtain⟨C,g,H,M,P,U,E,W,B,D,g1⟩:=J;have hz:=l word (ab4 ra.w) z (ab4 ra.hz)
  have i:∀a y b,ft C c z d a y b->y∈ks:=by
   rintro a y b (r|⟨_,e,_⟩|⟨_,e,_⟩)
   ·exact g.k _ _ _ r
   ·rw[e];exact hz.1
   ·rw[e];exact hz.2
  have gl:=g.g.lay z ra.hc.1 ra.hd.1 (pz k which word start f d).rows;obtain⟨O,I,v,l2,_⟩:=j.all gl i ⟨g.w.a,g.w.b,g.w.c⟩;have gp:=j.gap gl i ((g.gi.more λa y b r=>.inl r).rows _);obtain⟨s,g',V,T,Q,L,o⟩:=Jd (Tr.step (Tr.refl k) ra j) (R:=C) l g.g g.w g.k;obtain⟨R0,X,w0,Z,p,G,u⟩:=Jd (Tr.step N ra j) (R:=R) l h.g h.w h.k;refine⟨_,⟨O,I,i,gp,l2.trans g.l,by rw[v];exact g.m,λx A=>?_,j.wr gl i (by show k.aX.length<=(k.rows++[_]).length;rw[ab6];have:=g.wr;omega)⟩,v.trans H,λa y b r=>.inl (M _ _ _ r),p,G,_,_,_,_,u⟩;rw[L]at A;rcases ach.mp A with q|q
  ·exact g.d x q
  ·exact R7 o x q
end
def isNew:Dt->Bool
 |.t (.s l::_)=>decide (l=[110,101,119])
 |_=>false
theorem Lz {a:Za3}{b:List Nat}{W:Za2}{row:Dt}(h:One a n B W row b R):isNew row=false:=by
 cases h <;> rfl
theorem E7 {a:Za3}{b:List Nat}{W:Za2}{ms:List Dt}(h:Go a n B W ms b R):ms.countP isNew=0:=by
 induction h with
 |nil=>rfl
 |cons o _ c=>rw[afw,c,Lz o];rfl
theorem LC (c:Nat)(z:Int)(n:Nat):isNew (j5 c z n)=true:=rfl
theorem CI.make {bs:List (Nat×List Int×Nat)}{gs:List (Option Gg)}{W:bE}(h:CI S bs gs [] W fu none)(d:Good S [] R)(hc:n<S.made)(D:S.ao n=n)(A:S.by n z=none)(i:∀b∈bs,b.2.2<S.made)(g:List Int):CI (S.make n z g) bs gs [] W (λr s=>r=n/\s=z) none:=by
 have f:=d.make hc D A g;have k:S.made<=(S.make n z g).made:=aex _;have lt:=Later.of d f iO k;have el:∀b,b<S.made->(S.make n z g).ao b=S.ao b:=λb c=>(ej d.wf n z g b).trans (acm (by omega))
 refine⟨h.len,λa u q=>?_,λa b x H o=>?_,(λa j=>by cases j),λr s a q=>?_,h.sl,h.bd⟩
 ·obtain⟨B,C,F⟩:=h.al a u q;exact⟨B,C.later lt k,F⟩
 ·have c:=i b (ab4 o);rw[el _ c];rcases h.de a b x H o with w|w
  ·exact .inl w
  ·by_cases e:S.ao b.2.2=b.2.2
   ·right
    have:=lt.wk w;rw[el _ c,e]at this;exact this
   ·exact .inl e
 ·obtain⟨m,G,t,I,l,j,E,w⟩:=h.en r s a q;refine⟨m,G,t,I,acw l k,j,E,?_⟩;rcases w with ⟨p,v⟩|w
  ·by_cases e:m=n/\s=z
   ·exact .inr e
   ·left
    rw[el _ l,zC d.wf hc,acm (λy=>by omega),acm e];exact⟨p,v⟩
  ·exact w.elim
def pw (s:Int)(n:Nat):List Int:=List.replicate n s
theorem sj (h:(pw z n)[m]?=some y):m<n/\y=z:=by
 unfold pw at h;rw[List.getElem?_replicate]at h;split at h
 ·exact⟨by omega,(Za0 h).symm⟩
 ·cases h
theorem nS (s:Int){n m:Nat}(h:m<=n):(pw s n).take m=pw s m:=by unfold pw;grind
theorem sk (s:Int)(n m:Nat):(pw s n).drop m=pw s (n - m):=by unfold pw;grind
structure fN (S:RS) (P:Nat->Int) (lo:Int):Prop where
 el:∀c,c<S.made->S.ao c=c
 rg:∀c,c<S.made->lo<=P c/\P c<lo+ S.made
 on:∀t:Int,lo<=t->t<lo+ S.made->∃c,c<S.made/\P c=t
 inj:∀a b,a<S.made->b<S.made->P a=P b->a=b
 by_:∀a z b,S.by a z=some b->(z=1\/z= -1)/\P b=P a+ z
 ch:∀a b,a<S.made->b<S.made->P b=P a+ 1->S.by a 1=some b
section
variable {S S':RS}{P:Nat->Int}{lo:Int}{R R':Za2}
theorem fN.wk (h:fN S P lo){s:Int}:∀{n c d:Nat},wk S.by c (pw s n)=some d->P d=P c+ s* n
 |0,c,d,e=>by have:c=d:=Za0 e;rw[this];simp
 |n+ 1,c,d,e=>by
  obtain⟨b,f,a⟩:=gx (show L2.wk S.by c (s::pw s n)=some d from e);have g:=(h.by_ _ _ _ f).2;have i:=h.wk a;have:s* ((n+ 1:Nat):Int)=s* n+ s:=by rw[Int.natCast_add,Int.mul_add];simp
  omega
theorem fN.OD (h:fN S P lo){ws:Za3}{b which start m c d n:Nat}{z s:Int}(a:s=1\/s= -1)(g:S.made<n)(ra:uX ws b S which (pw s n) start m c d z):False:=by
 obtain⟨j,rfl⟩:=sj ra.hz;have f:=ra.f;have r:=ra.r;rw[nS _ (by omega)]at f;rw[sk]at r;have i:=h.wk f;have k:=h.wk r;have b1:=h.rg c ra.hc.1;have b2:=h.rg d ra.hd.1;have e:((n - (m+ 1):Nat):Int)=(n:Int) - m - 1:=by omega
 rcases a with rfl|rfl
 ·omega
 ·omega
theorem fN.tr {ws:Za3}(t:Tr ws n S S')(d:∀w∈ws,∃s a,w=pw s a/\(s=1\/s= -1)/\S.made<a)(h:fN S P lo):S'=S:=by
 induction t with
 |refl=>rfl
 |step g ra i f=>
  have e:=f;subst e;obtain⟨s,a,e,b,c⟩:=d _ (ab4 ra.w);subst e;exact(h.OD b c ra).elim
theorem fN.new (L:Nat)(g:List Int):fN (RS.new L g) (λ_=>0) 0:=by
 have z:∀c,c<(RS.new L g).made->c=0:=λc hc=>by have:c<1:=hc;omega
 refine⟨λc hc=>by rw[z c hc];rfl,λc _=>⟨Int.le_refl _,by show (0:Int)<0+ ((1:Nat):Int);decide⟩,λt i d=>⟨0,Nat.one_pos,?_⟩,λa b h f _=>by rw[z a h,z b f],λa y b e=>?_,λa b _ _ e=>by simp at e⟩
 ·have:t<0+ ((1:Nat):Int):=d;omega
 ·obtain⟨_,_,r,_⟩:=(t9 L g).so _ _ _ e;exact r.elim
theorem fN.make (h:fN S P lo)(l:Good S [] R){c:Nat}{z:Int}(hc:c<S.made)(o:S.by c z=none)(hz:z=1\/z= -1)(g:List Int):∃q n,fN (S.make c z g) q n:=by
 have x:(S.make c z g).made=S.made+ 1:=rfl;have el:∀b,(S.make c z g).ao b=if b=S.made then S.made else S.ao b:=λb=>ej l.wf c z g b
 have b2:∀a y,(S.make c z g).by a y=if a=S.made/\y= -z then some c else if a=c/\y=z then some S.made else S.by a y:=λa y=>zC l.wf hc
 have v:=h.rg c hc
 have beyond:(z=1/\P c=lo+ S.made - 1)\/(z= -1/\P c=lo):=by
  rcases hz with rfl|rfl
  ·left
   refine⟨Y,?_⟩;by_cases e:P c=lo+ S.made - 1
   ·exact e
   ·obtain⟨b,j,i⟩:=h.on (P c+ 1) (by omega) (by omega);rw[h.ch c b hc j i]at o;cases o
  ·right
   refine⟨Y,?_⟩;by_cases e:P c=lo
   ·exact e
   ·obtain⟨b,j,i⟩:=h.on (P c - 1) (by omega) (by omega);have:=l.sy _ _ _ (h.ch b c j hc (by omega))
    grind
 have ne:∀a,a<S.made->P a≠P c+ z:=λa k e=>by
  have:=h.rg a k;rcases beyond with ⟨rfl,d⟩|⟨rfl,d⟩ <;> omega
 refine⟨λa=>if a=S.made then P c+ z else P a,if z=1 then lo else lo - 1,?_,?_,?_,?_,?_,?_⟩
 ·intro a k;rw[el];split
  ·rename_i e;exact e.symm
  ·exact h.el a (by omega)
 ·intro a k;by_cases e:a=S.made
  ·rcases beyond with ⟨rfl,d⟩|⟨rfl,d⟩
   ·omega
   ·omega
  ·have:=h.rg a (by omega);rcases beyond with ⟨rfl,d⟩|⟨rfl,d⟩
   ·omega
   ·omega
 ·intro t r s;by_cases e:t=P c+ z
  ·exact⟨S.made,by omega,by rw[acv Y,e]⟩
  ·have:lo<=t/\t<lo+ S.made:=by
    rcases beyond with ⟨rfl,d⟩|⟨rfl,d⟩
    ·omega
    ·omega
   obtain⟨b,j,i⟩:=h.on t this.1 this.2;exact⟨b,by omega,by rw[acm (by omega),i]⟩
 ·intro a b k o e;by_cases f:a=S.made
  ·by_cases d:b=S.made
   ·rw[f,d]
   ·rw[acv f,acm d]at e;exact absurd e.symm (ne b (by omega))
  ·by_cases d:b=S.made
   ·rw[acm f,acv d]at e;exact absurd e (ne a (by omega))
   ·rw[acm f,acm d]at e;exact h.inj a b (by omega) (by omega) e
 ·intro a y b e;rw[b2]at e;by_cases f:a=S.made/\y= -z
  ·rw[acv f]at e;have:=Za0 e;subst this;exact⟨by omega,by omega⟩
  ·rw[acm f]at e;by_cases d:a=c/\y=z
   ·rw[acv d]at e;have:=Za0 e;subst this;rw[acv Y,acm (by omega),d.1,d.2];exact⟨hz,Y⟩
   ·rw[acm d]at e;obtain⟨w,l2,_⟩:=l.st _ _ _ e;rw[acm (by omega),acm (by omega)];exact h.by_ a y b e
 ·intro a b k p e;rw[b2];by_cases f:a=S.made
  ·by_cases d:b=S.made
   ·omega
   ·rcases beyond with ⟨rfl,m⟩|⟨rfl,m⟩
    ·have:=h.rg b (by omega);omega
    ·have:b=c:=h.inj b c (by omega) hc (by omega)
     grind
  ·rw[acm f]at e;rw[acm (by omega)];by_cases d:b=S.made
   ·rcases beyond with ⟨rfl,m⟩|⟨rfl,m⟩
    ·have:a=c:=h.inj a c (by omega) hc (by omega);rw[acv ⟨this,Y⟩,d]
    ·have:=h.rg a (by omega);omega
   ·rw[acm d]at e;have u:=h.ch a b (by omega) (by omega) e
    grind
theorem fN.up (h:fN S P lo)(lt:Later S S'):∀{j a b:Nat},a<S.made->b<S.made->P b=P a+ j->L2.wk S'.by (S'.ao a) (pw 1 j)=some (S'.ao b)
 |0,a,b,f,d,e=>by rw[h.inj a b f d (by omega)];rfl
 |j+ 1,a,b,f,d,e=>by
  have k:=h.rg a f;have i:=h.rg b d;obtain⟨c,hc,g⟩:=h.on (P a+ 1) (by omega) (by omega);have:=lt.by_ _ _ _ (h.ch a c f hc g);exact(fL (w:=pw 1 j) this).trans (h.up lt hc d (by omega))
theorem fN.down (h:fN S P lo)(g:Good S [] R)(lt:Later S S'):∀{j a b:Nat},a<S.made->b<S.made->P a=P b+ j->L2.wk S'.by (S'.ao a) (pw (-1) j)=some (S'.ao b)
 |0,a,b,f,d,e=>by rw[h.inj a b f d (by omega)];rfl
 |j+ 1,a,b,f,d,e=>by
  have l:=h.rg a f;have i:=h.rg b d;obtain⟨c,hc,k⟩:=h.on (P a - 1) (by omega) (by omega);have:=lt.by_ _ _ _ (g.sy _ _ _ (h.ch c a hc f (by omega)));exact(fL (w:=pw (-1) j) this).trans (h.down g lt hc d (by omega))
theorem fN.full (h:fN S P lo)(j:Good S [] R)(b:Good S' [] R')(lt:Later S S'){s:Int}(o:s=1\/s= -1){e top a:Nat}(hc:e<S.made)(g:xS S' (S'.ao e) (pw s S.made))(l:top<S.made)(q:P top=lo+ S.made - 1)(k:a<S.made)(t:P a=lo):S'.by (S'.ao top) 1=some (S'.ao a):=by
 have u:=h.rg e hc;have el:∀{i n:Nat},i<n->(pw s n)[i]?=some s:=λ{i n} r=>by unfold pw;grind
 rcases o with rfl|rfl
 ·obtain⟨m,p⟩:∃m:Nat,(m:Int)=lo+ S.made - 1 - P e:=⟨(lo+ S.made - 1 - P e).toNat,by omega⟩;have f:m<S.made:=by omega
  refine zp b g (el f) ?_ ?_
  ·rw[nS _ (by omega)];exact h.up lt hc l (by omega)
  ·rw[sk];exact h.up lt k hc (by omega)
 ·obtain⟨m,p⟩:∃m:Nat,(m:Int)=P e - lo:=⟨(P e - lo).toNat,by omega⟩;have f:m<S.made:=by omega
  have:=zp b g (el f) (c:=S'.ao a) (d:=S'.ao top) ?_ ?_
  ·exact b.sy _ _ _ this
  ·rw[nS _ (by omega)];exact h.down j lt hc k (by omega)
  ·rw[sk];exact h.down j lt l hc (by omega)
structure qT (S:RS) (G:Int->Nat) (M:Nat):Prop where
 st:∀t,S.by (G t) 1=some (G (t+ 1))
 pm:∀t,G (t+ M)=G t
theorem fN.ring (h:fN S P lo)(r:Good S [] R)(g:Good S' [] R')(lt:Later S S')(w:0<S.made){s:Int}(u:s=1\/s= -1){n:Nat}(hc:n<S.made)(p:xS S' (S'.ao n) (pw s S.made)):∃G,qT S' G S.made/\(∀a,a<S.made->S'.ao a=G (P a))/\∀t,∃a,a<S.made/\G t=S'.ao a/\((S.made:Nat):Int)∣t - P a:=by
 have o:(0:Int)<(S.made:Int):=by omega
 have ch:∀t:Int,∃c,lo<=t->t<lo+ S.made->c<S.made/\P c=t:=λt=>by
  by_cases q:lo<=t/\t<lo+ S.made
  ·obtain⟨c,i,j⟩:=h.on t q.1 q.2;exact⟨c,λ_ _=>⟨i,j⟩⟩
  ·exact⟨0,λa b=>absurd ⟨a,b⟩ q⟩
 obtain⟨f,k⟩:=Classical.axiomOfChoice ch
 have rl:∀t:Int,f (lo+ (t - lo) % S.made)<S.made/\P (f (lo+ (t - lo) % S.made))=lo+ (t - lo) % S.made:=λt=>by
  have i:=Int.emod_nonneg (t - lo) (show ((S.made:Nat):Int)≠0 by omega);have j:=Int.emod_lt_of_pos (t - lo) o;exact k _ (by omega) (by omega)
 refine⟨λt=>S'.ao (f (lo+ (t - lo) % S.made)),⟨λt=>?_,λt=>?_⟩,λa m=>?_,λt=>⟨_,(rl t).1,Y,?_⟩⟩
 ·obtain⟨d,l⟩:=rl t;obtain⟨b1,b2⟩:=rl (t+ 1);have i:=Int.emod_nonneg (t - lo) (show ((S.made:Nat):Int)≠0 by omega);have j:=Int.emod_lt_of_pos (t - lo) o;by_cases e:(t - lo) % S.made=S.made - 1
  ·have v:(t+ 1 - lo) % S.made=0:=by
    have:t+ 1 - lo=(t - lo)+ 1:=by omega
    rw[this,Int.add_emod,e]
    have:((S.made:Nat):Int) - 1+ 1 % S.made=S.made\/(S.made:Int)=1:=by
     by_cases q:(S.made:Int)=1
     ·exact .inr q
     ·rw[afs (by omega) (by omega)];omega
    rcases this with q|q
    ·rw[q,Int.emod_self]
    ·rw[q];omega
   exact h.full r g lt u hc p d (by omega) b1 (by omega)
  ·have v:(t+ 1 - lo) % S.made=(t - lo) % S.made+ 1:=by
    have:t+ 1 - lo=(t - lo)+ 1:=by omega
    rw[this,Int.add_emod,afs (a:=1) (by omega) (by omega),afs (by omega) (by omega)]
   exact lt.by_ _ _ _ (h.ch _ _ d b1 (by omega))
 ·rw[show t+ (S.made:Int) - lo=t - lo+ S.made by omega,Int.add_emod_right]
 ·obtain⟨d,l⟩:=rl (P a);have b:=h.rg a m;have:(P a - lo) % S.made=P a - lo:=afs (by omega) (by omega);rw[this]at d l;show S'.ao a=S'.ao (f (lo+ (P a - lo) % S.made));rw[this];exact ac5 S'.ao (h.inj _ _ m d (by omega))
 ·rw[(rl t).2];have:=Int.mul_ediv_add_emod (t - lo) S.made;exact⟨(t - lo) / S.made,by omega⟩
end
def gW (G:Int->Nat)(k:Int):Prop:=∀t,G (t+ k)=G t
section
variable {G:Int->Nat}{a b:Int}
theorem gW.neg (h:gW G a):gW G (-a):=λt=>by rw[<-h (t + -a),show t + -a+ a=t by omega]
theorem gW.add (h:gW G a)(k:gW G b):gW G (a+ b):=λt=>by rw[show t+ (a+ b)=t+ a+ b by omega,k,h]
theorem gW.Hw (h:gW G a):∀n:Nat,gW G (a* n)
 |0=>λt=>by simp
 |n+ 1=>by
  rw[show a* ((n+ 1:Nat):Int)=a* n+ a by rw[Int.natCast_add,Int.mul_add];simp];exact(h.Hw n).add h
theorem gW.mul (h:gW G a)(n:Int):gW G (a* n):=by
 rcases Int.le_total 0 n with q|q
 ·have:=h.Hw n.toNat
  rwa [aey q]at this
 ·have:=(h.Hw (-n).toNat).neg;rw[aey (by omega),Int.mul_neg,adU]at this;exact this
theorem gW.gcd:∀{m:Nat},gW G m->gW G n->gW G (Nat.gcd m n:Nat):=by
 intro m
 induction m,n using Nat.gcd.induction with
 |H0 n=>grind
 |H1 m n d c=>
  intro h k;rw[Nat.gcd_rec];refine c ?_ h;have:=k.add ((h.mul (n / m:Nat)).neg)
  have e:((n % m:Nat):Int)=(n:Int) + -((m:Int)* ((n / m:Nat):Int)):=by
   have:=Nat.mod_add_div n m;omega
  rw[e];exact this
end
section
variable {S:RS}{R:Za2}{G:Int->Nat}{M:Nat}
theorem qT.back (h:qT S G M)(a:Good S [] R)(t:Int):S.by (G t) (-1)=some (G (t - 1)):=a.sy _ _ _ (by have:=h.st (t - 1);rwa [show t - 1+ 1=t by omega]at this)
theorem qT.by_ (h:qT S G M)(b:Good S [] R){s:Int}(a:s=1\/s= -1)(t:Int):S.by (G t) s=some (G (t+ s)):=by
 rcases a with rfl|rfl
 ·exact h.st t
 ·exact h.back b t
theorem qT.wk (h:qT S G M)(b:Good S [] R){s:Int}(a:s=1\/s= -1):∀(n:Nat) (t:Int),L2.wk S.by (G t) (pw s n)=some (G (t+ s* n))
 |0,t=>by simp;rfl
 |n+ 1,t=>by
  refine(fL (w:=pw s n) (h.by_ b a t)).trans ?_;rw[h.wk b a n (t+ s)]
  grind
theorem qT.Jn (h:qT S G M)(a:Good S [] R){s t:Int}{n:Nat}(b:s=1\/s= -1)(g:xS S (G t) (pw s n)):G (t+ s* n)=G t:=by
 rcases g with e|⟨i,j,f,r,y,z,d,k,m,c,n1,_⟩
 ·rw[h.wk a b]at e;exact Za0 e
 ·obtain⟨l,rfl⟩:=sj k;rw[nS _ (by omega),h.wk a b]at c;rw[<-Za0 c,h.by_ a b]at n1;cases n1
theorem qT.all (h:qT S G M)(c:Good S [] R)(i:0<M){a k:Int}(e:G (a+ k)=G a):gW G k:=λt=>by
 have pm:gW G M:=h.pm;have m:=Int.emod_nonneg (t - a) (show (M:Int)≠0 by omega);obtain⟨j,n⟩:∃j:Nat,(j:Int)=(t - a) % M:=⟨((t - a) % M).toNat,by omega⟩;have l:=Int.mul_ediv_add_emod (t - a) M;have b:=h.wk c (.inl Y) j (a+ k);have g:=h.wk c (.inl Y) j a;rw[e,g]at b;have b:=Za0 b;rw[Int.one_mul]at b;have f:=pm.mul ((t - a) / M) (a+ j);have d:=pm.mul ((t - a) / M) (a+ k+ j);rw[show t+ k=a+ k+ j+ (M:Int)* ((t - a) / M) by omega,d,<-b,<-f]
 congr 1
 omega
end
theorem zD (s:Int):∀n:Nat,(pw s n).sum=s* n
 |0=>by simp[pw]
 |n+ 1=>by
  have:pw s (n+ 1)=s::pw s n:=rfl;rw[this,List.sum_cons,zD s n,Int.natCast_add,Int.mul_add];omega
theorem xY (b:m<n)(c:i<n)(h:(n:Int)∣(m:Int) - i):m=i:=by
 obtain⟨k,a⟩:=h;rcases Int.lt_trichotomy k 0 with l|l|l
 ·have:=Int.mul_le_mul_of_nonneg_left (show k<= -1 by omega) (show (0:Int)<=n by omega);omega
 ·rw[l,Int.mul_zero]at a;omega
 ·have:=Int.mul_le_mul_of_nonneg_left (show 1<=k by omega) (show (0:Int)<=n by omega);omega
section
variable {S S':RS}{P:Nat->Int}{lo:Int}{R:Za2}
def UR (d:Nat)(p:Nat)(z:Int)(q:Nat):Prop:=p<d/\q<d/\(d:Int)∣(p:Int)+ z - q
theorem zE:∀{w:List Int} {p q:Nat},UW (UR n) p w q->(n:Int)∣(p:Int)+ w.sum - q
 |[],p,q,h=>by rw[show p=q from h];simp
 |z::w,p,q,h=>by
  obtain⟨r,d,a⟩:=h;have b:=d.2.2;have c:=zE a;have:=Int.dvd_add b c
  rwa [show (p:Int)+ z - r+ (r+ w.sum - q)=p+ (z+ w.sum) - q by omega]at this
theorem fN.sound (h:fN S P lo)(k:Good S [] R)(L:fh S){ks:List Int}(D:∀a z b,R a z b->z∈ks){ws:Za3}{x d:Nat}(hd:0<d)(t:Tr ws x S S')(C:∀w∈ws,∀z∈w,z∈ks/\-z∈ks)(J:∀w∈ws,∃s n,w=pw s n/\d∣n){a b:Nat}(Q:a<S.made)(U:b<S.made)(e:S'.ao a=S'.ao b):(d:Int)∣P a - P b:=by
 have j:(0:Int)<d:=by omega
 have fd:∀c,(((P c % d).toNat:Nat):Int)=P c % d:=λc=>aey (Int.emod_nonneg _ (by omega))
 have fl:∀c,(P c % d).toNat<d:=λc=>by have:=Int.emod_lt_of_pos (P c) j;omega
 have g:∀c,(d:Int)∣P c - ((P c % d).toNat:Nat):=λc=>by
  rw[fd];have:=Int.mul_ediv_add_emod (P c) d;exact⟨P c / d,by omega⟩
 have i:SN ws x S.made (λc=>(P c % d).toNat) (UR d):=by
  refine⟨λp z q u=>⟨u.2.1,u.1,?_⟩,λp z q y u A=>xY u.2.1 A.2.1 ?_,λwhich word start m c M z l _ _ hz E N=>⟨fl c,fl M,?_⟩⟩
  ·have:=Int.dvd_neg.mpr u.2.2
   grind
  ·have:=afx A.2.2 u.2.2
   rwa [show (p:Int)+ z - y - (p+ z - q)=q - y by omega]at this
  ·obtain⟨s,n,rfl,F⟩:=J _ (ab4 l);obtain⟨T,rfl⟩:=sj hz;have v:=zE E;have o:=zE N;rw[nS _ (by omega),zD]at v;rw[sk,zD]at o;have B:(d:Int)∣z* n:=Int.dvd_mul_of_dvd_right (Int.natCast_dvd_natCast.mpr F)
   have H:z* ((n - (m+ 1):Nat):Int)=z* n - z* m - z:=by
    rw[show ((n - (m+ 1):Nat):Int)=n - m - 1 by omega,Int.mul_sub,Int.mul_sub,Int.mul_one]
   rw[H]at o;have:=afx (afx B v) o
   grind
 obtain⟨V,g1,_,W,_,_,_,f⟩:=t.sound i C k L (aca _) D λa z b r=>by
  obtain⟨O,l2,_⟩:=k.rl _ _ _ r;have:=k.qN.mpr ⟨a,b,r,Y,Y⟩;rw[h.el a O,h.el b l2]at this;have e:=(h.by_ _ _ _ this).2;refine⟨fl a,fl b,?_⟩;have:=afx (g b) (g a)
  grind
 have G:=uY i.fn f (g1.cg a (by omega));have I:=uY i.fn f (g1.cg b (by omega));rw[e,<-I]at G;have:=afx (g a) (g b)
 grind
end
end L2
namespace M11
def flip (k:Nat):Nat:=if k % 2=0 then k+ 1 else k - 1
def nx (T:Za3)(k i:Nat):Nat:=((T.getD i []).getD k 0).toNat
structure Tab (L:Nat) (T:Za3):Prop where
 pos:1<=T.length
 top:T.length<=300
 let1:1<=L
 aaV:L<=40
 row:∀(i:Nat) (r:List Int),T[i]?=some r->r.length=2* L
 val:∀i k,i<T.length->k<2* L->∃r:List Int,T[i]?=some r/\r[k]?=some ((nx T k i:Nat):Int)
 lt:∀i k,i<T.length->k<2* L->nx T k i<T.length
 back:∀i k,i<T.length->k<2* L->nx T (flip k) (nx T k i)=i
def pl (s:Int):Nat:=if 0<s then 2* s.natAbs - 2 else 2* s.natAbs - 1
def walk (T:Za3)(w:List Int)(i:Nat):Nat:=w.foldl (λi s=>nx T (pl s) i) i
def back (w:List Int):List Int:=w.reverse.map λz=>-z
structure Pm (p:Nat) (r:List Int):Prop where
 len:r.length=p
 nd:r.Nodup
 rg:∀z∈r,0<=z/\z<(p:Int)
def aaJ (L:Nat)(f:Nat->Int->Int)(come:List Int)(x:Int)(r:List Int)(m:Nat):Prop:=r.length=m/\∀k,k<m->∃j:Nat,r[k]?=some (j:Int)/\come[j]?=some (f k x)
theorem mG:∀(n:Nat) (l:List Nat),l.Nodup->(∀x∈l,x<n)->l.length<=n
 |0,[],_,_=>aca _
 |0,a::l,_,h=>absurd (h a (ack ..)) (by omega)
 |n+ 1,l,b,h=>by
  by_cases c:n∈l
  ·have:=mG n (l.erase n) (b.erase n) (λx d=>by
    grind)
   rw[aer c]at this;omega
  ·have:=mG n l b (λx d=>by
    grind)
   omega
def aaK (p:Nat)(r t:List Int):Prop:=t.length=p/\∀k j:Nat,r[k]?=some (j:Int)->t[j]?=some (k:Int)
def aaL (p:Nat)(r t:List Int)(n:Nat):Prop:=t.length=p/\∀k j:Nat,k<n->r[k]?=some (j:Int)->t[j]?=some (k:Int)
end M11
namespace M12
open M11
def Fc (W:Nat)(E:List Int)(N:Nat):Prop:=(∀z∈E,0<=z/\z<(N:Int))/\∀j:Nat,0<j->j<N->∃p:Nat,p<j* W/\E[p]?=some (j:Int)/\∀(q:Nat) (z:Int),q<p->E[q]?=some z->z<(j:Int)
def st (k:Nat):Int:=if k % 2=0 then ((k / 2+ 1:Nat):Int) else -((k / 2+ 1:Nat):Int)
theorem Jo (k:Nat):pl (st k)=k:=by
 unfold pl st;by_cases h:k % 2=0
 ·rw[acv h,acv (by omega)];omega
 ·rw[acm h,acm (by omega)];omega
theorem R8 {k:Nat}(h:k<2* n):st k≠0/\(st k).natAbs<=n:=by
 unfold st;split <;> omega
def OG:List Nat->List Nat->Prop
 |a::u,b::v=>a<b\/(a=b/\OG u v)
 |_,_=>False
def Xs (u v:List Nat):Prop:=u.length<v.length\/(u.length=v.length/\OG u v)
def Lw (L:Nat)(T:Za3)(ws:List (List Nat)):Prop:=ws.length=T.length/\ws[0]?=some []/\
 ∀(j p:Nat),0<j->j<T.length->T.flatten[p]?=some (j:Int)->(∀(q:Nat) (z:Int),q<p->T.flatten[q]?=some z->z<(j:Int))->∃u,ws[p / (2* L)]?=some u/\ws[j]?=some (u++[p % (2* L)])
end M12
namespace M24
def add (come:List Nat)(y:Nat):List Nat:=if y∈come then come else come++[y]
def iR (f:Nat->Nat->Nat)(x:Nat)(come:List Nat)(k:Nat):List Nat:=(List.range k).foldl (λc i=>add c (f i x)) come
theorem jg (f:Nat->Nat->Nat)(x:Nat)(come:List Nat)(k:Nat):iR f x come (k+ 1)=add (iR f x come k) (f k x):=by
 unfold iR;rw[adP,List.foldl_append];rfl
def bp (f:Nat->Nat->Nat)(k a:Nat):Nat->List Nat
 |0=>[a]
 |n+ 1=>match (bp f k a n)[n]? with
  |some x=>iR f x (bp f k a n) k
  |none=>bp f k a n
theorem zF (f:Nat->Nat->Nat)(k a:Nat):bp f k a 0=[a]:=rfl
theorem fw {f:Nat->Nat->Nat}{k x:Nat}(h:(bp f k n m)[m]?=some x):bp f k n (m+ 1)=iR f x (bp f k n m) k:=by
 rw[bp,h]
theorem iS {f:Nat->Nat->Nat}{k:Nat}(h:(bp f k n m)[m]?=none):bp f k n (m+ 1)=bp f k n m:=by
 rw[bp,h]
theorem LD (come:List Nat)(y:Nat):∃t,add come y=come++t:=by
 unfold add;split
 ·exact⟨[],(acD _).symm⟩
 grind
theorem uh (f:Nat->Nat->Nat)(x:Nat)(come:List Nat):∀k,∃t,iR f x come k=come++t
 |0=>⟨[],(acD _).symm⟩
 |k+ 1=>by
  obtain⟨t,a⟩:=uh f x come k;obtain⟨u,b⟩:=LD (iR f x come k) (f k x);exact⟨t++u,by rw[jg,b,a,adb]⟩
theorem zG (f:Nat->Nat->Nat)(k a n:Nat):∃t,bp f k a (n+ 1)=bp f k a n++t:=by
 cases h:(bp f k a n)[n]? with
 |none=>exact⟨[],by rw[iS h,acD]⟩
 |some x=>obtain⟨t,b⟩:=uh f x (bp f k a n) k;exact⟨t,by rw[fw h,b]⟩
theorem LJ {come:List Nat}:m∈add come n↔m∈come\/m=n:=by
 unfold add
 grind
theorem OI {come:List Nat}(h:come.Nodup)(y:Nat):(add come y).Nodup:=by
 unfold add
 grind
theorem sq {f:Nat->Nat->Nat}{x:Nat}{come:List Nat}(h:come.Nodup):∀k,(iR f x come k).Nodup
 |0=>h
 |k+ 1=>by rw[jg];exact OI (sq h k) _
theorem ju (f:Nat->Nat->Nat)(k a:Nat):∀n,(bp f k a n).Nodup
 |0=>by rw[zF];simp
 |n+ 1=>by
  cases h:(bp f k a n)[n]? with
  |none=>rw[iS h];exact ju f k a n
  |some x=>rw[fw h];exact sq (ju f k a n) k
theorem iT {f:Nat->Nat->Nat}{x:Nat}{come:List Nat}{z:Nat}:∀{k:Nat},z∈iR f x come k↔z∈come\/∃i,i<k/\z=f i x
 |0=>⟨.inl,λq=>q.elim id λ⟨i,a,_⟩=>absurd a (Nat.not_lt_zero _)⟩
 |k+ 1=>by
  rw[jg,LJ,iT (k:=k)]
  grind
theorem jR {f:Nat->Nat->Nat}{k:Nat}{P:Nat->Prop}(b:P m)(c:∀x i,P x->i<k->P (f i x)):∀n,∀z∈bp f k m n,P z
 |0,z,a=>by rw[zF,acb]at a;rw[a];exact b
 |n+ 1,z,a=>by
  cases h:(bp f k m n)[n]? with
  |none=>rw[iS h]at a;exact jR b c n z a
  |some x=>
   rw[fw h,iT]at a;rcases a with a|⟨i,d,rfl⟩
   ·exact jR b c n z a
   ·exact c _ _ (jR b c n x (ab4 h)) d
theorem jv {f:Nat->Nat->Nat}{k:Nat}:∀{n j x i:Nat},j<n->(bp f k m n)[j]?=some x->i<k->f i x∈bp f k m n
 |n+ 1,j,x,i,p,b,c=>by
  cases h:(bp f k m n)[n]? with
  |none=>
   rw[iS h]at b ⊢;have o:=List.getElem?_eq_none_iff.mp h;have g:=(ab5.mp b).1;exact jv (show j<n by omega) b c
  |some y=>
   obtain⟨t,d⟩:=uh f y (bp f k m n) k;have l:=(ab5.mp h).1
   have a:(bp f k m n)[j]?=some x:=by
    rw[fw h,d,acn (by omega)]at b;exact b
   by_cases e:j=n
   ·rw[e,h]at a;rw[fw h,iT];exact .inr ⟨i,c,by grind⟩
   ·rw[fw h,iT];exact .inl (jv (show j<n by omega) a c)
theorem ui {f:Nat->Nat->Nat}{k:Nat}(h:(bp f k n i).length=i):∀m,bp f k n (i+ m)=bp f k n i
 |0=>rfl
 |m+ 1=>by
  have a:=ui h m;rw[<-Nat.add_assoc,iS (by rw[a];exact List.getElem?_eq_none_iff.mpr (by omega)),a]
theorem LK {f:Nat->Nat->Nat}{k:Nat}(h:(bp f k n m).length=m)(a:(bp f k n i).length=i):m=i:=by
 rcases ae9 m i with q|q
 ·have:=ui h (i - m);rw[show m+ (i - m)=i by omega]at this;rw[this,h]at a;exact a
 ·have:=ui a (m - i);rw[show i+ (m - i)=m by omega]at this;rw[this,a]at h;exact h.symm
section
variable {f g:Nat->Nat->Nat} {φ:Nat->Nat} {P:Nat->Prop} {k:Nat} (inj:∀a b,P a->P b->φ a=φ b->a=b) (cl:∀x i,P x->i<k->P (f i x)) (co:∀x i,P x->i<k->φ (f i x)=g i (φ x))
theorem LN {come:List Nat}(inj:∀a b,P a->P b->φ a=φ b->a=b)(d:∀x∈come,P x)(c:P n):(add come n).map φ=add (come.map φ) (φ n):=by
 unfold add
 grind
include inj cl co in
theorem zH {come:List Nat}{x:Nat}(d:∀x∈come,P x)(c:P x):∀m,m<=k->(iR f x come m).map φ=iR g (φ x) (come.map φ) m
 |0,_=>rfl
 |m+ 1,l=>by
  have e:=zH d c m (by omega);rw[jg,jg,<-e,<-co x m c (by omega)];refine LN inj (λz h=>?_) (cl x m c (by omega));rcases iT.mp h with q|⟨i,j,rfl⟩
  ·exact d z q
  ·exact cl x i c (by omega)
include inj cl co in
theorem BM {x0:Nat}(e:P x0):∀n,(bp f k x0 n).map φ=bp g k (φ x0) n
 |0=>rfl
 |n+ 1=>by
  have c:=BM e n;have j:=jR e cl n
  cases h:(bp f k x0 n)[n]? with
  |none=>
   have d:(bp g k (φ x0) n)[n]?=none:=by rw[<-c,aco,h];rfl
   rw[iS h,iS d,c]
  |some x=>
   have d:(bp g k (φ x0) n)[n]?=some (φ x):=by rw[<-c,aco,h];rfl
   rw[fw h,fw d,<-c];exact zH inj cl co j (j x (ab4 h)) k (aca _)
end
def ix (come:List Nat)(y:Nat):Nat:=come.findIdx λz=>z==y
theorem sr:∀{come:List Nat} {i y:Nat},come.Nodup->come[i]?=some y->ix come y=i
 |[],i,y,_,h=>by simp at h
 |a::l,0,y,_,h=>by
  have e:a=y:=Za0 h;unfold ix
  grind
 |a::l,i+ 1,y,c,h=>by
  rw[List.getElem?_cons_succ]at h;have f:=ab4 h
  have b:(a==y)=false:=by
   rw[acj];intro e;exact(acK.mp c).1 (by grind)
  have d:ix l y=i:=sr (acK.mp c).2 h;unfold ix at d ⊢;rw[List.findIdx_cons,b];show l.findIdx _+ 1=i+ 1;rw[d]
theorem E8 {come:List Nat}(b:(come++B).Nodup)(h:n∈come):ix (come++B) n=ix come n:=by
 obtain⟨i,a⟩:=acJ h;have c:(come++B)[i]?=some n:=by rw[acn (ab5.mp a).1];exact a
 rw[sr b c,sr (acZ.mp b).1 a]
theorem OJ {a:Nat->Nat}{come:List Nat}(c:come.Nodup)(d:(come.map a).Nodup)(h:n∈come):ix (come.map a) (a n)=ix come n:=by
 obtain⟨i,b⟩:=acJ h;rw[sr c b,sr d (by rw[aco,b];rfl)]
def lL (f:Nat->Nat->Nat)(k:Nat)(come:List Nat):Za3:=come.map λx=>(List.range k).map λi=>((ix come (f i x):Nat):Int)
theorem Hx {f g:Nat->Nat->Nat}{a:Nat->Nat}{k:Nat}{come:List Nat}(d:come.Nodup)(h:(come.map a).Nodup)(j:∀x∈come,∀i,i<k->f i x∈come)(e:∀x∈come,∀i,i<k->a (f i x)=g i (a x)):lL g k (come.map a)=lL f k come:=by
 unfold lL;rw[ac7];refine adK λx c=>?_
 refine adK λi b=>?_
 have b:=adq.mp b;show ((ix (come.map a) (g i (a x)):Nat):Int)=_;rw[<-e x c i b,OJ d h (j x c i b)]
theorem OL {come:List Nat}(h:n∉come):ix (come++[n]) n=come.length:=by
 induction come with
 |nil=>unfold ix;rw[aeM,List.findIdx_cons];simp
 |cons a l c=>
  rw[aci,not_or]at h;have b:(a==n)=false:=by rw[acj];exact λe=>h.1 e.symm
  have:=c h.2;unfold ix at this ⊢
  grind
def m9 (f:Nat->Nat->Nat)(k a n:Nat):Za3:=((bp f k a n).take n).map λx=>(List.range k).map λi=>((ix (bp f k a n) (f i x):Nat):Int)
theorem E9 {f:Nat->Nat->Nat}{k x:Nat}(h:(bp f k n m)[m]?=some x):m9 f k n (m+ 1)=m9 f k n m++[(List.range k).map λi=>((ix (bp f k n (m+ 1)) (f i x):Nat):Int)]:=by
 obtain⟨t,e⟩:=zG f k n m;have a:=ju f k n (m+ 1);have q:=(ab5.mp h).1
 have l:(bp f k n (m+ 1)).take (m+ 1)=(bp f k n m).take m++[x]:=by
  rw[e,List.take_append_of_le_length (by omega),aec,h];rfl
 unfold m9;rw[l,acR]
 congr 1
 refine adK λc p=>?_
 refine adK λi g=>?_
 obtain⟨j,d⟩:=acJ p
 have b:j<m:=by
  have:=(ab5.mp d).1;rw[acQ]at this;omega
 rw[ae6 b]at d;have o:=jv b d (adq.mp g);rw[e]at a ⊢;rw[E8 a o]
theorem Hy {f:Nat->Nat->Nat}{k:Nat}(h:(bp f k n m).length=m):m9 f k n m=lL f k (bp f k n m):=by
 unfold m9 lL
 grind
end M24
namespace K30
open PySem L2
def top (i:Nat):Stmt:=PySem.Challenge.pw_cosetyard_k30_one_letter.main.body.getD i (.Pass ⟨0,0,0,0⟩)
abbrev zI:Stmt:=top 1
abbrev nT:Stmt:=top 2
abbrev vi:Stmt:=top 10
abbrev vj:Stmt:=top 12
abbrev vk:Stmt:=top 13
abbrev vl:Stmt:=top 18
abbrev vm:Stmt:=top 19
abbrev vn:Stmt:=top 22
abbrev Jp:Stmt:=top 23
abbrev Fb:Stmt:=top 25
abbrev nU:Stmt:=top 27
abbrev qU:Stmt:=top 28
abbrev pZ:Stmt:=top 29
abbrev sU:Stmt:=top 30
abbrev p1:Stmt:=top 31
abbrev sV:Stmt:=top 32
abbrev sW:Stmt:=top 33
abbrev Jq:Stmt:=top 34
abbrev lM:Stmt:=inClass (top 3) 0
abbrev mH:Stmt:=inClass (top 3) 1
abbrev sX:Stmt:=inClass (top 3) 2
abbrev j6:Stmt:=inClass (top 4) 0
abbrev jh:Stmt:=inClass (top 4) 1
abbrev mI:Stmt:=inClass (top 4) 2
abbrev lO:Stmt:=inClass (top 4) 3
abbrev nV:Stmt:=inClass (top 4) 4
abbrev mJ:Stmt:=inClass (top 4) 5
abbrev nX:Stmt:=inClass (top 4) 6
abbrev p5:Stmt:=inClass (top 4) 7
abbrev nY:Stmt:=inClass (top 4) 8
abbrev nZ:Stmt:=inClass (top 4) 9
abbrev j7:Stmt:=inClass (top 4) 10
abbrev j8:Stmt:=inClass (top 8) 0
abbrev sY:Stmt:=inClass (top 15) 0
abbrev jw:Stmt:=inClass (top 16) 0
abbrev qV:Stmt:=inClass (top 17) 0
abbrev lP:Stmt:=inClass (top 21) 0
abbrev qW:Stmt:=inClass (top 21) 1
abbrev sZ:Stmt:=inClass (top 21) 2
abbrev vp:Stmt:=inClass (top 21) 3
abbrev p6:Stmt:=inClass (top 21) 4
abbrev lQ:Stmt:=inClass (top 21) 5
abbrev p7:Stmt:=inClass (top 21) 6
abbrev kK:Stmt:=inClass (top 21) 7
abbrev qX:Stmt:=inClass (top 21) 8
abbrev mK:Stmt:=inClass (top 21) 9
abbrev jx:Stmt:=inClass (top 21) 10
abbrev mL:Stmt:=inClass (top 21) 11
set_option genInjectivity false in
structure p8 where
 zJ:Addr
 zK:FuncData
 oh:Addr
 oj:FuncData
 vq:Addr
 vt:FuncData
 vu:Addr
 vw:FuncData
 vx:Addr
 vy:FuncData
 vz:Addr
 vA:FuncData
 vB:Addr
 vC:FuncData
 vD:Addr
 vE:FuncData
 su:Addr
 sv:FuncData
 Fd:Addr
 Fe:FuncData
 om:Addr
 oq:FuncData
 qY:Addr
 qZ:FuncData
 p9:Addr
 qb:FuncData
 tf:Addr
 ti:FuncData
 qc:Addr
 qd:FuncData
 tj:Addr
 tm:FuncData
 tq:Addr
 tu:FuncData
 Jr:Addr
 Js:FuncData
 iU:Addr
 lS:FuncData
 mM:Addr
 mO:FuncData
 tD:Addr
 tE:FuncData
 gX:Addr
 j9:FuncData
 ji:Addr
 jj:FuncData
 mP:Addr
 mQ:FuncData
 lT:Addr
 lU:FuncData
 ou:Addr
 ov:FuncData
 mR:Addr
 mS:FuncData
 oy:Addr
 oz:FuncData
 qe:Addr
 qf:FuncData
 oB:Addr
 oC:FuncData
 oD:Addr
 oE:FuncData
 kb:Addr
 kc:FuncData
 kg:Addr
 kh:FuncData
 tF:Addr
 tG:FuncData
 mU:Addr
 jy:FuncData
 q8:Addr
 q9:FuncData
 iV:Addr
 lV:FuncData
 rh:Addr
 ri:FuncData
 tH:Addr
 tI:FuncData
 vF:Addr
 vG:FuncData
 qg:Addr
 qh:FuncData
 lW:Addr
 lX:FuncData
 qi:Addr
 qj:FuncData
 kL:Addr
 kM:FuncData
 rj:Addr
 rn:FuncData
 mV:Addr
 mW:FuncData
 jz:Addr
 jA:FuncData
 mX:Addr
 mY:FuncData
 jX:Addr
 mZ:Addr
 bh:Addr
 cK:Addr
 bK:Addr
 ck:Addr
 aw:Addr
 aH:Addr
 az:Addr
 VA:Addr
 dW:Addr
set_option genInjectivity false in
structure Txt (K:Za1) (mg:Str->Option Value) (A:p8):Prop where
 walked:Def K mg "walked" zI ["rooms","room","word"] A.zJ A.zK
 jB:Def K mg "first_places" nT ["rules"] A.oh A.oj
 iW:Def K mg "steps_of" vi ["letters"] A.vq A.vt
 numbered:Def K mg "numbered" vj ["rooms"] A.vu A.vw
 pE:Def K mg "place_of" vk ["step"] A.vx A.vy
 pF:Def K mg "order_by" vl ["name"] A.vz A.vA
 gS:Def K mg "first_of" vm ["rooms","some"] A.vB A.vC
 iX:Def K mg "all_gaps" vn ["letters"] A.vD A.vE
 own:Def K mg "own" Jp ["value"] A.su A.sv
 fill:DDef K mg "fill" Fb ["letters","rules","part","limit","order"] A.Fd A.Fe (tx [114,111,111,109,115])
 _law_cell_at:Def K mg "_law_cell_at" nU ["_law_script","_law_k"] A.om A.oq
 _law_whole:Def K mg "_law_whole" qU ["_law_found"] A.qY A.qZ
 _law_filled:Def K mg "_law_filled" pZ ["_law_letters","_law_rules","_law_part","_law_limit","_law_order"] A.p9 A.qb
 _law_ring:Def K mg "_law_ring" sU ["_law_many"] A.tf A.ti
 _law_common:Def K mg "_law_common" p1 ["_law_one","_law_other"] A.qc A.qd
 _law_news:Def K mg "_law_news" sV ["_law_rows"] A.tj A.tm
 _law_same:Def K mg "_law_same" sW ["_law_table","_law_due"] A.tq A.tu
 law:Def K mg "law" Jq ["_law_script"] A.Jr A.Js
 hU:MDef K A.aH "__init__" "Going.__init__" lM ["self","which","word","start"] A.iU A.lS
 kz:MDef K A.aH "advance" "Going.advance" mH ["self","rooms"] A.mM A.mO
 ro:MDef K A.aH "row" "Going.row" sX ["self","rooms"] A.tD A.tE
 gj:MDef K A.az "__init__" "Closing.__init__" j6 ["self","rooms","rules","part"] A.gX A.j9
 dy:MDef K A.az "begin_rules" "Closing.begin_rules" jh ["self","room"] A.ji A.jj
 gy:MDef K A.az "begin" "Closing.begin" mI ["self","which","word","room"] A.mP A.mQ
 fO:MDef K A.az "settle" "Closing.settle" lO ["self"] A.lT A.lU
 lY:MDef K A.az "make" "Closing.make" nV ["self","room","step"] A.ou A.ov
 kA:MDef K A.az "go_on" "Closing.go_on" mJ ["self","number"] A.mR A.mS
 gY:MDef K A.az "wait" "Closing.wait" nX ["self","number","room","step"] A.oy A.oz
 nh:MDef K A.az "lay" "Closing.lay" p5 ["self","going"] A.qe A.qf
 cP:MDef K A.az "wake" "Closing.wake" nY ["self","room","step"] A.oB A.oC
 lZ:MDef K A.az "hear" "Closing.hear" nZ ["self"] A.oD A.oE
 iY:MDef K A.az "wake_all" "Closing.wake_all" j7 ["self","room"] A.kb A.kc
 eI:MDef K A.bh "__init__" "TooMany.__init__" j8 ["self","made","rows"] A.kg A.kh
 ki:MDef K A.cK "gap" "Order.gap" sY ["self","rooms"] A.tF A.tG
 gA:MDef K A.bK "gap" "ByLetters.gap" jw ["self","rooms"] A.mU A.jy
 jC:MDef K A.ck "gap" "Newest.gap" qV ["self","rooms"] A.q8 A.q9
 hV:MDef K A.aw "__init__" "Rooms.__init__" lP ["self","letters"] A.iV A.lV
 pG:MDef K A.aw "make" "Rooms.make" qW ["self","room","step"] A.rh A.ri
 rq:MDef K A.aw "lay" "Rooms.lay" sZ ["self","room","step","other","row"] A.tH A.tI
 dC:MDef K A.aw "by" "Rooms.by" vp ["self","room","step"] A.vF A.vG
 dH:MDef K A.aw "elder" "Rooms.elder" p6 ["self","room"] A.qg A.qh
 cQ:MDef K A.aw "standing" "Rooms.standing" lQ ["self"] A.lW A.lX
 iC:MDef K A.aw "paper" "Rooms.paper" p7 ["self"] A.qi A.qj
 dm:MDef K A.aw "first_gap" "Rooms.first_gap" kK ["self","room"] A.kL A.kM
 jD:MDef K A.aw "keep" "Rooms.keep" qX ["self","room","step","other"] A.rj A.rn
 kB:MDef K A.aw "take_in" "Rooms.take_in" mK ["self","way","pending"] A.mV A.mW
 dM:MDef K A.aw "put_together" "Rooms.put_together" jx ["self","room","step","one","other","pending"] A.jz A.jA
 kD:MDef K A.aw "put_off" "Rooms.put_off" mL ["self","room","pending"] A.mX A.mY
 tJ:mg "enumerate"=none
 C9:mg "min"=none
 Jt:mg "max"=none
 BO:mg "range"=none
 fj:mg "len"=none
 oF:mg "tuple"=none
 fP:mg "list"=none
 cz:mg "isinstance"=none
 OO:mg "bool"=none
 Sb:mg "int"=none
 zL:mg "dict"=none
 Dc:mg "reversed"=none
 AX:mg "YardError"=some (.ref A.jX)
 Ta:mg "NoOrder"=some (.ref A.mZ)
 xZ:mg "TooMany"=some (.ref A.bh)
 LQ:mg "Order"=some (.ref A.cK)
 AY:mg "ByLetters"=some (.ref A.bK)
 Hz:mg "Newest"=some (.ref A.ck)
 LR:mg "Rooms"=some (.ref A.aw)
 LV:mg "Going"=some (.ref A.aH)
 Ff:mg "Closing"=some (.ref A.az)
 HB:PySem.W.plainGet K A.aw Str.empty=true
 HC:PySem.W.hasDictIn K A.aw=true
 HD:PySem.W.plainOver K A.aw=true
 HF:PySem.W.findIn K (.ref A.aw) "__setattr__"=some (some (.builtin "object.__setattr__"))
 uj:PySem.W.makesIn K A.aw=true
 HG:PySem.W.keepIn K (.ref A.aw)=true
 rA:PySem.W.findIn K (.ref A.aw) "letters"=some none
 oH:PySem.W.findIn K (.ref A.aw) "made"=some none
 rB:PySem.W.findIn K (.ref A.aw) "rows"=some none
 iD:PySem.W.findIn K (.ref A.aw) "ways"=some none
 rD:PySem.W.findIn K (.ref A.aw) "gaps"=some none
 iZ:PySem.W.findIn K (.ref A.aw) "elders"=some none
 l0:PySem.W.findIn K (.ref A.aw) "called"=some none
 rE:PySem.W.findIn K (.ref A.aw) "went"=some none
 HJ:PySem.W.plainGet K A.aH Str.empty=true
 HK:PySem.W.hasDictIn K A.aH=true
 HL:PySem.W.plainOver K A.aH=true
 HM:PySem.W.findIn K (.ref A.aH) "__setattr__"=some (some (.builtin "object.__setattr__"))
 uk:PySem.W.makesIn K A.aH=true
 HN:PySem.W.keepIn K (.ref A.aH)=true
 zM:PySem.W.findIn K (.ref A.aH) "which"=some none
 jk:PySem.W.findIn K (.ref A.aH) "word"=some none
 pH:PySem.W.findIn K (.ref A.aH) "start"=some none
 gk:PySem.W.findIn K (.ref A.aH) "front"=some none
 eJ:PySem.W.findIn K (.ref A.aH) "first"=some none
 gF:PySem.W.findIn K (.ref A.aH) "rear"=some none
 hX:PySem.W.findIn K (.ref A.aH) "last"=some none
 Dd:PySem.W.plainGet K A.az Str.empty=true
 De:PySem.W.hasDictIn K A.az=true
 Df:PySem.W.plainOver K A.az=true
 Dg:PySem.W.findIn K (.ref A.az) "__setattr__"=some (some (.builtin "object.__setattr__"))
 pJ:PySem.W.makesIn K A.az=true
 Dh:PySem.W.keepIn K (.ref A.az)=true
 eK:PySem.W.findIn K (.ref A.az) "rooms"=some none
 zN:PySem.W.findIn K (.ref A.az) "rules"=some none
 jl:PySem.W.findIn K (.ref A.az) "goings"=some none
 kj:PySem.W.findIn K (.ref A.az) "agenda"=some none
 jE:PySem.W.findIn K (.ref A.az) "waiting"=some none
 mh:PySem.W.findIn K (.ref A.az) "heard"=some none
 HP:PySem.W.plainGet K A.cK Str.empty=true
 HQ:PySem.W.hasDictIn K A.cK=true
 HR:PySem.W.plainOver K A.cK=true
 HS:PySem.W.findIn K (.ref A.cK) "__setattr__"=some (some (.builtin "object.__setattr__"))
 HV:PySem.W.makesIn K A.cK=true
 HW:PySem.W.keepIn K (.ref A.cK)=true
 HX:PySem.W.findIn K (.ref A.cK) "__init__"=some (some (.builtin "object.__init__"))
 VB:PySem.W.findIn K (.ref A.cK) "__class__"=some (some (.builtin "object.__class__"))
 VC:PySem.W.mroIn K A.cK (.type "object")=some true
 zO:PySem.W.plainGet K A.bK Str.empty=true
 zP:PySem.W.hasDictIn K A.bK=true
 zQ:PySem.W.plainOver K A.bK=true
 zR:PySem.W.findIn K (.ref A.bK) "__setattr__"=some (some (.builtin "object.__setattr__"))
 zS:PySem.W.makesIn K A.bK=true
 zT:PySem.W.keepIn K (.ref A.bK)=true
 zU:PySem.W.findIn K (.ref A.bK) "__init__"=some (some (.builtin "object.__init__"))
 OQ:PySem.W.findIn K (.ref A.bK) "__class__"=some (some (.builtin "object.__class__"))
 OS:PySem.W.mroIn K A.bK (.type "object")=some true
 Fg:PySem.W.plainGet K A.ck Str.empty=true
 Fh:PySem.W.hasDictIn K A.ck=true
 Fi:PySem.W.plainOver K A.ck=true
 Fj:PySem.W.findIn K (.ref A.ck) "__setattr__"=some (some (.builtin "object.__setattr__"))
 Fm:PySem.W.makesIn K A.ck=true
 Fo:PySem.W.keepIn K (.ref A.ck)=true
 Fq:PySem.W.findIn K (.ref A.ck) "__init__"=some (some (.builtin "object.__init__"))
 Tc:PySem.W.findIn K (.ref A.ck) "__class__"=some (some (.builtin "object.__class__"))
 Td:PySem.W.mroIn K A.ck (.type "object")=some true
 Te:PySem.W.excIn K A.mZ yX "ValueError.__new__"=true
 vH:L2.C7 K A.bh=true
 Dj:PySem.W.keepIn K (.ref A.bh)=true
 Tf:PySem.W.exmOne K (.ref A.bh) (.ref A.bh)=some true
 Dl:(PySem.W.clsIn K A.bh).any (λcd=>L2.lK cd.mro)=true
 Dm:PySem.W.hasDictIn K A.bh=true
 Dq:PySem.W.findIn K (.ref A.bh) "__setattr__"=some (some (.builtin "object.__setattr__"))
 Dr:PySem.W.findIn K (.ref A.bh) "__getattribute__"=some (some (.builtin "BaseException.__getattribute__"))
 Ds:PySem.W.findIn K (.ref A.bh) "__getattr__"=some none
 Du:PySem.W.subIn K (.ref A.bh) (.type "BaseException")=some true
 wO:PySem.W.findIn K (.ref A.bh) "made"=some none
 BP:PySem.W.findIn K (.ref A.bh) "rows"=some none
 VD:PySem.W.specialIn K (.ref A.jX) "__getattribute__"=some (some (.builtin "type.__getattribute__"))
 VF:PySem.W.readsIn K A.jX (.type "type")=true
 VG:(match PySem.W.findCls K (.ref A.jX) (.type "type") "__init__" with|some (.val (.builtin i))=>i=="ValueError.__init__" | _=>false)=true
 lam:LamAt K A.jy A.VA A.dW
theorem aF {A:p8}(T:Txt K M A):kI K A.aw:=⟨T.HB,T.HC,T.HD,T.HF⟩
theorem uj {A:p8}(T:Txt K M A):Mk K A.aw A.iV:=⟨T.uj,T.hV.m.at_,T.hV.m.fn,T.HG⟩
theorem aO {A:p8}(T:Txt K M A):kI K A.aH:=⟨T.HJ,T.HK,T.HL,T.HM⟩
theorem uk {A:p8}(T:Txt K M A):Mk K A.aH A.iU:=⟨T.uk,T.hU.m.at_,T.hU.m.fn,T.HN⟩
theorem aK {A:p8}(T:Txt K M A):kI K A.az:=⟨T.Dd,T.De,T.Df,T.Dg⟩
theorem pJ {A:p8}(T:Txt K M A):Mk K A.az A.gX:=⟨T.pJ,T.gj.m.at_,T.gj.m.fn,T.Dh⟩
theorem zV {A:p8}(T:Txt K M A):kI K A.cK:=⟨T.HP,T.HQ,T.HR,T.HS⟩
theorem rF {A:p8}(T:Txt K M A):kI K A.bK:=⟨T.zO,T.zP,T.zQ,T.zR⟩
theorem x6 {A:p8}(T:Txt K M A):kI K A.ck:=⟨T.Fg,T.Fh,T.Fi,T.Fj⟩
theorem m3:aV ["rooms","room","word","path","step"] ["rooms","room","word"] (aD zI):=(by ac_rfl)
theorem gL:aV ["rules","places","which","rule"] ["rules"] (aD nT):=(by ac_rfl)
theorem ni:aV ["letters","steps","letter"] ["letters"] (aD vi):=(by ac_rfl)
theorem fx:aV ["rooms","steps","found","numbers","rows","others","other"] ["rooms"] (aD vj):=(by ac_rfl)
theorem AZ:aV ["step"] ["step"] (aD vk):=(by ac_rfl)
theorem A0:aV ["name"] ["name"] (aD vl):=(by ac_rfl)
theorem nj:aV ["rooms","some","room","step"] ["rooms","some"] (aD vm):=(by ac_rfl)
theorem A1:aV ["letters"] ["letters"] (aD vn):=(by ac_rfl)
theorem Fs:aV ["value"] ["value"] (aD Jp):=(by ac_rfl)
theorem kZ:aV ["letters","rules","part","limit","order","chosen","rooms","closing","gap"] ["letters","rules","part","limit","order"] (aD Fb):=(by ac_rfl)
theorem vI:aV ["_law_script","_law_k"] ["_law_script","_law_k"] (aD nU):=(by ac_rfl)
theorem yn:aV ["_law_found"] ["_law_found"] (aD qU):=(by ac_rfl)
theorem dD:aV ["_law_letters","_law_rules","_law_part","_law_limit","_law_order","_law_found","_law_refused","e"] ["_law_letters","_law_rules","_law_part","_law_limit","_law_order"] (aD pZ):=(by ac_rfl)
theorem gZ:aV ["_law_many","_law_spots","_law_at","_law_spot"] ["_law_many"] (aD sU):=(by ac_rfl)
theorem ia:aV ["_law_one","_law_other","_law_rest"] ["_law_one","_law_other"] (aD p1):=(by ac_rfl)
theorem zW:aV ["_law_rows"] ["_law_rows"] (aD sV):=(by ac_rfl)
theorem rH:aV ["_law_table","_law_due","_law_row"] ["_law_table","_law_due"] (aD sW):=(by ac_rfl)
theorem eM:aV ["_law_script","_law_often","_law_rules","_law_part","_law_need","_law_other","_law_limit","_law_order","_law_handed","_law_found","_law_refused"] ["_law_script"] (aD Jq):=(by ac_rfl)
theorem sF:aV ["self","which","word","start"] ["self","which","word","start"] (aD lM):=(by ac_rfl)
theorem i3:aV ["self","rooms","room"] ["self","rooms"] (aD mH):=(by ac_rfl)
theorem mj:aV ["self","rooms","ahead","behind"] ["self","rooms"] (aD sX):=(by ac_rfl)
theorem eQ:aV ["self","rooms","rules","part","room","which","word"] ["self","rooms","rules","part"] (aD j6):=(by ac_rfl)
theorem fy:aV ["self","room","rule","which"] ["self","room"] (aD jh):=(by ac_rfl)
theorem um:aV ["self","which","word","room"] ["self","which","word","room"] (aD mI):=(by ac_rfl)
theorem sG:aV ["self"] ["self"] (aD lO):=(by ac_rfl)
theorem vJ:aV ["self","room","step"] ["self","room","step"] (aD nV):=(by ac_rfl)
theorem ml:aV ["self","number","going"] ["self","number"] (aD mJ):=(by ac_rfl)
theorem jF:aV ["self","number","room","step","steps","numbers"] ["self","number","room","step"] (aD nX):=(by ac_rfl)
theorem oJ:aV ["self","going","step"] ["self","going"] (aD p5):=(by ac_rfl)
theorem vK:aV ["self","room","step"] ["self","room","step"] (aD nY):=(by ac_rfl)
theorem vL:aV ["self"] ["self"] (aD nZ):=(by ac_rfl)
theorem eR:aV ["self","room","step","elder"] ["self","room"] (aD j7):=(by ac_rfl)
theorem qq:aV ["self","made","rows"] ["self","made","rows"] (aD j8):=(by ac_rfl)
theorem zX:aV ["self","rooms"] ["self","rooms"] (aD sY):=(by ac_rfl)
theorem mn:aV ["self","rooms","gaps"] ["self","rooms"] (aD jw):=(by ac_rfl)
theorem yo:aV ["self","rooms"] ["self","rooms"] (aD qV):=(by ac_rfl)
theorem sH:aV ["self","letters"] ["self","letters"] (aD lP):=(by ac_rfl)
theorem qk:aV ["self","room","step","number"] ["self","room","step"] (aD qW):=(by ac_rfl)
theorem rJ:aV ["self","room","step","other","row","pending"] ["self","room","step","other","row"] (aD sZ):=(by ac_rfl)
theorem A2:aV ["self","room","step"] ["self","room","step"] (aD vp):=(by ac_rfl)
theorem wQ:aV ["self","room"] ["self","room"] (aD p6):=(by ac_rfl)
theorem sI:aV ["self"] ["self"] (aD lQ):=(by ac_rfl)
theorem wR:aV ["self"] ["self"] (aD p7):=(by ac_rfl)
theorem kl:aV ["self","room","step"] ["self","room"] (aD kK):=(by ac_rfl)
theorem yp:aV ["self","room","step","other"] ["self","room","step","other"] (aD qX):=(by ac_rfl)
theorem dE:aV ["self","way","pending","room","step","other","led_to","come_from"] ["self","way","pending"] (aD mK):=(by ac_rfl)
theorem dQ:aV ["self","room","step","one","other","pending","less","more","number"] ["self","room","step","one","other","pending"] (aD jx):=(by ac_rfl)
theorem gn:aV ["self","room","pending","ways","step","other"] ["self","room","pending"] (aD mL):=(by ac_rfl)
section
variable {P:Program}{w:World}{K:Za1}{mg:Str->Option Value}{base:Heap}{A:p8}
theorem vM {c:PySem.Const}{p:PySem.Pos}{a:List PySem.Expr}{env:PySem.Env}:PySem.starEach (.Constant c j p::a) env=(false,PySem.eval (.Constant c j p) env)::PySem.starEach a env:=rfl
def yx (K:Za1)(b:Addr):Sp:=λc H Q _=>∃(a:Addr) (ns:List Int),c=[.ref a]/\aI K H a (ns.map V.int)/\ns.length<=63/\H b=some (.e9 #[])/\∀d,Q (.bl true) d
def bu (n:Nat):List Int:=(List.range n).map M12.st
theorem sx (n:Nat):(bu n).length=n:=by unfold bu;grind
theorem vN (h:i<n):(bu n)[i]?=some (M12.st i):=by
 unfold bu;rw[aco,List.getElem?_range h];rfl
theorem LW (i:Nat):bu (2* i)++[1+ (i:Int)]++[-(1+ (i:Int))]=bu (2* (i+ 1)):=by
 have e:2* (i+ 1)=2* i+ 1+ 1:=by omega
 rw[e];unfold bu;rw[adP,adP,acR,acR];have a:M12.st (2* i)=1+ (i:Int):=by unfold M12.st;rw[acv (by omega)];omega
 have b:M12.st (2* i+ 1)= -(1+ (i:Int)):=by unfold M12.st;rw[acm (by omega)];omega
 show _=(List.range (2* i)).map M12.st++[M12.st (2* i)]++[M12.st (2* i+ 1)];rw[a,b]
theorem Ft (n:Nat):(bu n).Nodup:=by
 unfold bu;refine aeX.mpr (List.Pairwise.imp ?_ List.nodup_range);intro a b c z;have d:=M12.Jo a;rw[z,M12.Jo]at d;exact c d.symm
theorem fQ {rs:List Addr}(h:rs[i]?=some a):lu (rs.map V.ref) (i:Int)=some (V.ref a):=dA (by rw[aco,h];rfl)
def HY:Sp:=λb H Q _=>∃L:Nat,b=[.int L]/\1<=L/\L<=200/\∀l a,ay H a->a l=some (.lst (av ((List.range (2* L)).map M12.st)))->Q (.ref l) a
def OU:Sp:=λb H Q _=>∃L:Nat,b=[.int L]/\1<=L/\L<=200/\∀d a,ay H a->H d=none->a d=some (.dK (gK (bu (2* L))))->Q (.ref d) a
inductive Ju (C:Addr) (vs:List V) (H:Hp) (Q:VK) (E_:XK):Prop
 |mk (x dx:Addr) (L:Nat):vs=[.ref x,.int L]->H x=some (.ins C dx [])->1<=L->L<=200->(∀a H',(∀b o,H b=some o->b≠x->H' b=some o)->aq C H' x (RS.new L (bu (2* L))) a->(∀b,a.own x b->b=x\/H b=none)->Q .non H')->Ju C vs H Q E_
def cR (a:RA)(r:Addr)(H c:Hp):Prop:=∀b o,¬a.own r b->H b=some o->c b=some o
inductive Fu (C:Addr) (vs:List V) (H:Hp) (Q:VK) (E_:XK):Prop
 |mk (r:Addr) (S:RS) (a:RA) (c d:Nat) (z:Int):vs=[.ref r,.int c,.int z,.int d]->aq C H r S a->S.Wf->c<S.made->d<S.made->(∀l∈S.ways,l.length<=100000)->(∀H',cR a r H H'->aq C H' r (S.keep c z d) a->Q .non H')->Fu C vs H Q E_
inductive Fv (C:Addr) (vs:List V) (H:Hp) (Q:VK) (E_:XK):Prop
 |mk (r:Addr) (S:RS) (a:RA) (c:Nat) (z:Int):vs=[.ref r,.int c,.int z]->aq C H r S a->S.Wf->1<=S.L->S.L<=200->c<S.made->S.made<=100000->S.rows.length<=1000000->(∀l∈S.ways,l.length<=100000)->(∀a' H',cR a r H H'->aq C H' r (S.make c z (bu (2* S.L))) a'->(∀b,a'.own r b->a.own r b\/H b=none)->Q (.int S.made) H')->Fv C vs H Q E_
inductive Jv (C:Addr) (vs:List V) (H:Hp) (Q:VK) (E_:XK):Prop
 |mk (r:Addr) (S:RS) (a:RA) (c:Nat) (z:Int):vs=[.ref r,.int c,.int z]->aq C H r S a->c<S.ways.length->(Q (((S.by c z).map λn:Nat=>V.int (n:Int)).getD .non) H)->Jv C vs H Q E_
inductive BQ (C:Addr) (vs:List V) (H:Hp) (Q:VK) (E_:XK):Prop
 |mk (r:Addr) (S:RS) (a:RA) (c e:Nat):vs=[.ref r,.int c]->aq C H r S a->S.aS[c]?=some e->Q (.int e) H->BQ C vs H Q E_
inductive vO (C:Addr) (vs:List V) (H:Hp) (Q:VK) (E_:XK):Prop
 |mk (r:Addr) (S:RS) (a:RA):vs=[.ref r]->aq C H r S a->S.Wf->S.made<=100000->(∀l,H l=none->Q (.ref l) (upd H l (.lst (av (nI ((List.range S.made).filter λc=>decide (S.aS[c]?=some c)))))))->vO C vs H Q E_
def vP (k:Nat):Sp:=λc H Q _=>∃(v:V) (d:Dt),c=[v]/\bF H k v d/\lH d/\∀b a,ay H a->bF a k b d->Q b a
inductive BR (k:Nat) (C:Addr) (vs:List V) (H:Hp) (Q:VK) (E_:XK):Prop
 |mk (r:Addr) (S:RS) (a:RA):vs=[.ref r]->aq C H r S a->S.rows.length<=1000000->(∀p d,d∈S.rows->bF H 4 (.ref p) d->bF H k (.ref p) d)->(∀l ps H',ay H H'->H l=none->H' l=some (.lst (ps.map V.ref))->Each (λp d=>bF H' 4 (.ref p) d) ps S.rows->Q (.ref l) H')->BR k C vs H Q E_
theorem Fw (T:Txt K mg A):bx P w K mg base (bD P w) 2 A.su A.sv ["value"] (vP 0):=by
 refine T.own.F.okN Fs (λc H Q E h=>?_) (λr x f s H c Q E u h=>?_)
 ·obtain⟨v,d,rfl,_⟩:=h;rfl
 ·obtain⟨v,d,rfl,g,j,k⟩:=h
  refine⟨_,(aj (bV (fF (bA dS Y T.cz acE (ae (pv 0) (ae (e8 (v:=.ty "tuple") Y T.oF adX Y) ak))))
   j0
   bG)
   (aj (bV (fF (bA dS Y T.cz acE (ae (pv 0) (ae (e8 (v:=.ty "list") Y T.fP acO Y) ak))))
    j0
    bG)
   (aj (bV (fF (bA dS Y T.cz acE (ae (pv 0) (ae (e8 (v:=.ty "dict") Y T.zL afm Y) ak))))
    j0
    bG)
   (ax (bB (pv 0)))))),?_⟩
  try dsimp only[a8,bQ]
  refine iQ ?_;intro p o q
  have atom:(∃n,v=.int n)\/(∃l,v=.str (tx l))\/∃(a:Addr) (c:List V) (m:List Dt),v=.ref a/\d=.t m/\False:=by
   cases g with
   |i=>exact .inl ⟨_,Y⟩
   |s=>exact .inr (.inl ⟨_,Y⟩)
   |n=>cases j
   |b=>cases j
  rcases atom with ⟨n,rfl⟩|⟨l,rfl⟩|⟨a,c,m,rfl,rfl,t⟩
  ·refine⟨_,Y,_,_,_,_,Y,.int n,pU K,_,Y,dc ?_⟩;refine⟨_,Y,_,_,_,_,Y,.int n,qG K,_,Y,dc ?_⟩;refine⟨_,Y,_,_,_,_,Y,.int n,qH K,_,Y,dc ?_⟩;exact⟨_,Y,k _ H (λ_ _ e=>e) g⟩
  ·refine⟨_,Y,_,_,_,_,Y,.str (tx l),pV K,_,Y,dc ?_⟩;refine⟨_,Y,_,_,_,_,Y,.str (tx l),qI K,_,Y,dc ?_⟩;refine⟨_,Y,_,_,_,_,Y,.str (tx l),qJ K,_,Y,dc ?_⟩;exact⟨_,Y,k _ H (λ_ _ e=>e) g⟩
  ·exact t.elim
theorem zY (T:Txt K mg A)(o:bx P w K mg base (bD P w) j A.su A.sv ["value"] (vP m)):bx P w K mg base (bD P w) (j+ 1) A.su A.sv ["value"] (vP (m+ 1)):=by
 refine T.own.F.okN Fs (λg H Q E h=>?_) (λcy AA G s H g Q E I h=>?_)
 ·obtain⟨v,d,rfl,_⟩:=h;rfl
 ·obtain⟨v,d,rfl,J,z,k⟩:=h
  refine⟨_,(aj (bV (fF (bA dS Y T.cz acE (ae (pv 0) (ae (e8 (v:=.ty "tuple") Y T.oF adX Y) ak))))
   (ax (bB (eh pP Y T.oF adX (ae (lJ (fns:=[]) (ixs:=[]) (cl:=[]) Y (DG (pv 0)) (kP (by decide) (by decide) Y (by decide) Y) (λC s H ex=>(bH (o) I Y T.own.m T.own.F.kp T.own.b .nil aJ (ae (pv 0) ak)))) ak))))
   bG)
   (aj (bV (fF (bA dS Y T.cz acE (ae (pv 0) (ae (e8 (v:=.ty "list") Y T.fP acO Y) ak))))
    j0
    bG)
   (aj (bV (fF (bA dS Y T.cz acE (ae (pv 0) (ae (e8 (v:=.ty "dict") Y T.zL afm Y) ak))))
    j0
    bG)
   (ax (bB (pv 0)))))),?_⟩
  try dsimp only[a8,bQ]
  refine iQ ?_;intro X U gM
  have atom:(∃n,v=.int n)\/(∃l,v=.str (tx l))\/∃(a:Addr) (g:List V) (ds:List Dt),v=.ref a/\d=.t ds/\(H a=some (.tup g)/\g.length=ds.length/\∀(c:Nat) (v:V) (x:Dt),g[c]?=some v->ds[c]?=some x->bF H m v x):=by
   cases J with
   |i=>exact .inl ⟨_,Y⟩
   |s=>exact .inr (.inl ⟨_,Y⟩)
   |n=>cases z
   |b=>cases z
   |t p R L=>exact .inr (.inr ⟨_,_,_,Y,Y,p,R,L⟩)
   |l=>cases z
  rcases atom with ⟨n,rfl⟩|⟨l,rfl⟩|⟨a,g,ds,rfl,rfl,F⟩
  ·refine⟨_,Y,_,_,_,_,Y,.int n,pU K,_,Y,dc ?_⟩;refine⟨_,Y,_,_,_,_,Y,.int n,qG K,_,Y,dc ?_⟩;refine⟨_,Y,_,_,_,_,Y,.int n,qH K,_,Y,dc ?_⟩;exact⟨_,Y,k _ H (λ_ _ e=>e) J⟩
  ·refine⟨_,Y,_,_,_,_,Y,.str (tx l),pV K,_,Y,dc ?_⟩;refine⟨_,Y,_,_,_,_,Y,.str (tx l),qI K,_,Y,dc ?_⟩;refine⟨_,Y,_,_,_,_,Y,.str (tx l),qJ K,_,Y,dc ?_⟩;exact⟨_,Y,k _ H (λ_ _ e=>e) J⟩
  ·obtain⟨p,R,L⟩:=F;obtain⟨hz,r⟩:ds.length<=100000/\∀x∈ds,lH x:=by cases z with|t a b=>exact⟨a,b⟩
   refine⟨_,Y,_,_,_,_,Y,.tup p,jM K "tuple",_,Y,iL ?_⟩;refine⟨_,Y,a,Y,⟨_,bT.of p⟩,?_⟩;refine mB g.length (λi=>g.getD i .non) (λf v i=>∃x,ds[i]?=some x/\lH x/\bF f m v x) (λH1 f v i s ⟨x,e,hn,q⟩=>⟨x,e,hn,q.same s⟩) ?_ (λi f s2 u=>MY (bT.of (s2 _ _ p)) i u) (λi x f H3 s2 u y=>?_) (λf s2=>GJ (bT.of (s2 _ _ p))) (λi f Rr u s2 kk=>?_) (λD f ys s2 hD hl I=>?_)
   ·exact acr (by omega) (show 100000<=sizeLine by decide)
   ·obtain⟨e,F⟩:=Kx (bT.of (s2 _ _ p)) i x H3 u y
    grind
   ·have F:g[i]?=some (g.getD i .non):=by rw[acd,ab3 u];rfl
    have B:ds[i]?=some (ds[i]'(by omega)):=ab3 (by omega)
    refine⟨_,Y,_,_,Y,(L i _ _ F B).same s2,r _ (ab4 B),λv' H' s' q'=>kk v' H' s' ⟨_,B,r _ (ab4 B),q'⟩⟩
   ·refine⟨D,ys,Y,.inl ⟨aI.of ah,λl M=>?_⟩⟩;have O:ay f (upd f D (.lst ys)):=ay.upd hD;have N:ay (upd f D (.lst ys)) (upd (upd f D (.lst ys)) l (.tup ys)):=ay.upd M;refine k _ _ (s2.trans (O.trans N)) (.t ah (by omega) λc v x e1 e2=>?_);obtain⟨y,S,-,q⟩:=I c v e1;obtain rfl:y=x:=Za0 (S.symm.trans e2);exact q.same (O.trans N)
theorem Fx (T:Txt K mg A):bx P w K mg base (bD P w) 3 A.su A.sv ["value"] (vP 1):=zY T (Fw T)
theorem x8 (T:Txt K mg A):bx P w K mg base (bD P w) 4 A.su A.sv ["value"] (vP 2):=zY T (Fx T)
theorem tK (T:Txt K mg A):bx P w K mg base (bD P w) 1 A.vq A.vt ["letters"] HY:=by
 refine T.iW.F.okN ni (λr H Q E h=>?_) (λz D d s H r Q E C h=>?_)
 ·obtain⟨L,rfl,_⟩:=h;rfl
 ·obtain⟨L,rfl,y,t,k⟩:=h
  refine⟨_,(aj (a9 (i:=1) ni.nd Y (Or.inl Y) (cq ak))
   (aj (eB acH Y (DJ Y T.BO (ae aM (ae (bP iz (pv 0) aM) ak))) (cC (i:=2) ni.nd Y (Or.inl Y))
    (aj (aZ (dP acq acA acB cu (pv 1) (ae (pv 2) ak)))
    (ax (aZ (dP acq acA acB cu (pv 1) (ae (gI fb (pv 2)) ak))))))
   (ax (bB (pv 1))))),?_⟩
  try dsimp only[a8,bQ]
  refine eF ?_;intro q u;refine⟨acF _,λl f=>?_⟩;have p:ay H (upd H l (.lst [])):=ay.upd f;have m:upd H l (.lst []) l=some (.lst (av (bu (2* 0)))):=ah;generalize upd H l (.lst [])=H0 at p m ⊢;refine⟨_,Y,_,_,Y,Y,1,(L:Int)+ 1,Y,⟨by omega,by omega,by omega,by omega⟩,?_⟩;refine DL (lo:=1) (n:=((L:Int)+ 1 - 1).toNat) (λi g c=>∃v:Option V,g=[some (.int L),some (.ref l),v]/\ay H c/\c l=some (.lst (av (bu (2* i))))) ⟨none,Y,p,m⟩ ?_ ?_
  ·rintro i g c B ⟨v,rfl,j,a⟩;have x:i<L:=by omega
   refine⟨_,Y,.inl ⟨Y,_,aI.of a⟩,_,Y,l,_,_,Y,Y,a,?_,?_⟩
   ·rw[aT,sx];exact ace (show 2* i<=400 by omega) (by decide)
   refine⟨_,Y,.inl ⟨Y,_,aI.of ah⟩,_,Y,_,Y,l,_,_,Y,Y,ah,?_,?_⟩
   ·rw[ab6,aT,sx];exact ace (show 2* i+ 1<=400 by omega) (by decide)
   refine⟨_,Y,λb o e=>?_,?_⟩
   ·rw[ai (au e f),ai (au e f)];exact j _ _ e
   ·rw[ah,<-LW,ints_app,ints_app];rfl
  ·rintro g c ⟨v,rfl,j,a⟩;rw[show ((L:Int)+ 1 - 1).toNat=L by omega]at a;exact⟨_,Y,k l c j a⟩
theorem tL (T:Txt K mg A):bx P w K mg base (bD P w) 2 A.vD A.vE ["letters"] OU:=by
 refine T.iX.F.okN A1 (λR H Q E h=>?_) (λcy AA n s H R Q E o h=>?_)
 ·obtain⟨L,rfl,_⟩:=h;rfl
 ·obtain⟨L,rfl,F,u,k⟩:=h;refine⟨_,(ax (bB (eh (uS Y) Y T.zL afm (ae (lJ (fns:=[]) (ixs:=[]) (cl:=[]) Y (du (bH (tK T) (o.mono (by decide)) Y T.iW.m T.iW.F.kp T.iW.b .nil aJ (ae (pv 0) ak))) (kP (by decide) (by decide) Y (by decide) Y) (λC s H ex=>(gw (ae (pv 0) (ae oU ak))))) ak)))),?_⟩
  try dsimp only[a8,bQ]
  refine⟨_,Y,L,Y,F,u,λl H1 s1 j=>⟨l,Y,⟨_,aI.of j⟩,?_⟩⟩;have X:(av ((List.range (2* L)).map M12.st)).length=2* L:=by rw[aT,ab9,adA]
  refine mB (2* L) (λi=>.int (M12.st i)) (λc v i=>∃p,v=.ref p/\c p=some (.tup [.int (M12.st i),.bl true])) (λH1 c v i s ⟨p,e,q⟩=>⟨p,e,s _ _ q⟩) ?_ (λi c s2 f=>lA (aI.of (s2 _ _ j)) i (by omega)) (λi x c S s2 f y=>?_) (λc s2=>?_) (λi c Rr f s2 kk=>?_) (λD c ys s2 hD r o=>?_)
  ·exact acr (show 2* L<=400 by omega) (by decide)
  ·obtain⟨e,hx⟩:=jL (aI.of (s2 _ _ j)) i x S (by omega) y;refine⟨e,?_⟩;rw[show (av ((List.range (2* L)).map M12.st))[i]?=some (.int (M12.st i)) from cJ (vN f)]at hx
   grind
  ·have:=iM (aI.of (K:=K) (s2 _ _ j));rw[X]at this;exact this
  ·refine⟨_,Y,(Za4 2),λt ht=>kk _ _ (ay.upd ht) ⟨t,Y,ah⟩⟩
  ·obtain⟨g,rfl,B⟩:=si (P:=λi p=>c p=some (.tup [.int (M12.st i),.bl true])) ys 0 (λi v Z=>by rw[afa];exact o i v Z);have M:ay c (upd c D (.lst (g.map V.ref))):=ay.upd hD;rw[ab9]at r;refine⟨D,g,gK (bu (2* L)),Y,ah,by rw[Nr,sx,r],λi p kv I G=>?_,λd N=>?_⟩
   ·have f:i<2* L:=by rw[<-r];exact(ab5.mp I).1
    have:=B i p I;rw[afa]at this;unfold gK at G;rw[aco,vN f]at G;rw[<-Za0 G];exact M _ _ this
   ·have e:iA [] (gK (bu (2* L)))=gK (bu (2* L)):=by
     rw[xG _ _ ?_,aeM];rw[aeM];unfold gK;rw[ac7];exact aeX.mpr (List.Pairwise.imp (λ{a b} m z=>m (Sum.inl.inj z)) (Ft _))
    rw[e];have U:ay (upd c D (.lst (g.map V.ref))) (upd (upd c D (.lst (g.map V.ref))) d (.dK (gK (bu (2* L))))):=ay.upd N;have J:=s1.trans (s2.trans M);exact k d _ (J.trans U) (J.free N) ah
theorem gG (T:Txt K mg A):bx P w K mg base (bD P w) 1 A.vF A.vG ["self","room","step"] (Jv A.aw):=by
 refine T.dC.F.okN A2 (λf H Q E h=>?_) (λm n b s H f Q E i h=>?_)
 ·obtain⟨r,S,a,c,z,rfl,_⟩:=h;rfl
 ·obtain⟨r,S,a,c,z,rfl,h,g,k⟩:=h;have d:=jW i;refine⟨_,(ax (bB (GU d (bN bS (aB (pv 0) Y) (pv 1) (λ_ _=>rfl)) (pv 2) ⟨Y,Y,Y,Y⟩))),?_⟩
  try dsimp only[a8,bQ]
  have j:S.ways[c]?=some (S.way c):=by unfold RS.way;rw[acd,ab3 g];rfl
  obtain⟨p,l,e⟩:=h.rW.at j;refine⟨_,Y,r,_,a.dx,_,_,Y,h.ins,aF T,T.iD,hL _ _ _,_,Y,a.aW,_,_,_,Y,Y,aI.of h.hW,fQ l,p,Y,.inl ⟨_,.inl e⟩,_,Y,_,fI.k (k:=Sum.inl z) e,?_⟩;rw[j4];exact k
theorem ib (T:Txt K mg A):bx P w K mg base (bD P w) 1 A.qg A.qh ["self","room"] (BQ A.aw):=by
 refine T.dH.F.okN wQ (λg H Q E h=>?_) (λd j b s H g Q E i h=>?_)
 ·obtain⟨r,S,a,c,e,rfl,_⟩:=h;rfl
 ·obtain⟨r,S,a,c,e,rfl,h,f,k⟩:=h;refine⟨_,(ax (bB (bN bS (aB (pv 0) Y) (pv 1) (λ_ _=>rfl)))),?_⟩
  try dsimp only[a8,bQ]
  exact⟨_,Y,r,_,a.dx,_,_,Y,h.ins,aF T,T.iZ,i9 _ _ _,_,Y,a.aE,_,_,_,Y,Y,aI.of h.hE,dA (cJ (iB f)),k⟩
theorem oK {c:Nat}(h:c<S.ways.length):S.ways[c]?=some (S.way c):=by unfold RS.way;grind
theorem vQ {c:Nat}(h:c<S.gaps.length):S.gaps[c]?=some (S.gap c):=by unfold RS.gap;grind
theorem zZ (h:∀l∈S.ways,l.length<=m):(S.way n).length<=m:=by
 unfold RS.way;rw[acd]
 cases e:S.ways[n]? with
 |none=>exact acF _
 |some l=>exact h l (ab4 e)
theorem Jw (h:O.ws[i]?=some b):O.own a b:=.inr (.inr (di (ab4 h)))
theorem Sd (h:O.gs[i]?=some b):O.own a b:=.inr (.inr (fK (ab4 h)))
theorem cR.upd {o:HO}(h:O.own a b):cR O a H (upd H b o):=λc u d e=>by rw[ai (λz=>d (by rw[z];exact h))];exact e
theorem cR.trans (h:cR O a H I)(d:cR O a I J):cR O a H J:=λb u c e=>d b u c (h b u c e)
theorem ql (T:Txt K mg A):bx P w K mg base (bD P w) 1 A.rj A.rn ["self","room","step","other"] (Fu A.aw):=by
 refine T.jD.F.okN yp (λvs H Q E h=>?_) (λcy AA D s H vs Q E hr h=>?_)
 ·obtain⟨r,S,a,c,d,z,rfl,_⟩:=h;rfl
 ·obtain⟨r,S,a,c,d,z,rfl,h,hw,O,U,Z,k⟩:=h;have j:=jW hr
  refine⟨_,(aj (rY j (bN bS (aB (pv 0) Y) (pv 1) (λ_ _=>rfl)) (pv 2) (pv 3) Y)
   (aj (rY j (bN bS (aB (pv 0) Y) (pv 3) (λ_ _=>rfl)) (gI fb (pv 2)) (pv 1) Y)
   (aj (aZ (t7 (bN bS (aB (pv 0) Y) (pv 1) (λ_ _=>rfl)) (pv 2) c9 ⟨Y,Y,Y,Y⟩))
   (ax (aZ (t7 (bN bS (aB (pv 0) Y) (pv 3) (λ_ _=>rfl)) (gI fb (pv 2)) c9 ⟨Y,Y,Y,Y⟩)))))),?_⟩
  try dsimp only[a8,bQ]
  refine iQ ?_;intro oM jG gM;obtain⟨p,b,L⟩:=h.rW.at (oK (S:=S) (c:=c) (by rw[hw.w];exact O));have b1:(S.way c).length<=100000:=zZ Z;refine⟨_,Y,_,Y,r,_,a.dx,_,_,Y,h.ins,aF T,T.iD,hL _ _ _,_,Y,a.aW,_,_,_,Y,Y,aI.of h.hW,fQ b,_,Y,p,_,Y,qC.k (k:=Sum.inl z) L (by rw[y8];exact ace b1 (by decide)),?_⟩;rw[y9];have m:aq A.aw _ r (S.bY c z d) a:=h.zb b (iu (S.way c) z d);have R:cR a r H (upd H p (.dK (wK (iu (S.way c) z d)))):=cR.upd (Jw b);generalize upd H p (.dK (wK (iu (S.way c) z d)))=I at m R ⊢;have w1:(S.bY c z d).ways.length=S.made:=by show (S.ways.set c _).length=_;rw[acx,hw.w]
  obtain⟨q,G,B⟩:=m.rW.at (oK (S:=S.bY c z d) (c:=d) (by rw[w1];exact U))
  have b2:((S.bY c z d).way d).length<=100001:=zZ λl f=>by
   rcases aee f with f|rfl
   ·exact Nat.le_succ_of_le (Z l f)
   ·exact acr (G6 _ _ _) (by omega)
  refine⟨_,Y,_,Y,r,_,a.dx,_,_,Y,m.ins,aF T,T.iD,hL _ _ _,_,Y,a.aW,_,_,_,Y,Y,aI.of m.hW,fQ G,_,Y,_,Y,q,_,Y,qC.k (k:=Sum.inl (-z)) B (by rw[y8];exact ace b2 (by decide)),?_⟩;rw[y9];have g:aq A.aw _ r ((S.bY c z d).bY d (-z) c) a:=m.zb G (iu ((S.bY c z d).way d) (-z) c);have u2:cR a r I (upd I q (.dK (wK (iu ((S.bY c z d).way d) (-z) c)))):=cR.upd (Jw G);generalize upd I q (.dK (wK (iu ((S.bY c z d).way d) (-z) c)))=H2 at g u2 ⊢;generalize e2:(S.bY c z d).bY d (-z) c=C at g ⊢;have X:C.gaps.length=S.made:=by rw[<-e2];exact hw.g
  obtain⟨p3,t,y⟩:=g.rG.at (vQ (S:=C) (c:=c) (by rw[X];exact O))
  have pop:∀{H:Hp} {S:RS} {c:Nat} {z:Int} {p:Addr},aq A.aw H r S a->a.gs[c]?=some p->H p=some (.dK (gK (S.gap c)))->∀{Q:V->Hp->Prop},(∀v J,cR a r H J->aq A.aw J r (S.kQ c z) a->Q v J)->
   GR p (.int z) .non H Q:=by
   intro H S c z p h b L Q B
   suffices q:(∀v,bz (gK (S.gap c)) (Sum.inl z)=some v->Q v (upd H p (.dK (eP (gK (S.gap c)) (Sum.inl z)))))/\(bz (gK (S.gap c)) (Sum.inl z)=none->Q .non H) from ⟨_,Sum.inl z,L,Y,q.1,q.2⟩
   rw[Es,KZ];by_cases F:z∈S.gap c
   ·rw[acv F];exact⟨λv _=>B _ _ (cR.upd (Sd b)) (h.Nw b _),λz=>by cases z⟩
   ·rw[acm F];refine⟨λv z=>(by cases z),λ_=>B _ _ (λ_ _ _ e=>e) ?_⟩;have e:(S.gap c).filter (λx=>decide (x≠z))=S.gap c:=List.filter_eq_self.mpr λx hx=>acy λz=>F (z ▸ hx)
    have f:c<S.gaps.length:=by rw[<-h.rG.1];exact(ab5.mp b).1
    have:S.kQ c z=S:=by
     unfold RS.kQ RS.setG;rw[e]
     have es:S.gaps.set c (S.gap c)=S.gaps:=aeU λi=>by
      by_cases N:c=i
      ·subst N;rw[acT f,vQ f]
      ·rw[adp N]
     rw[es]
    rw[this];exact h
  refine⟨_,Y,r,_,a.dx,_,_,Y,g.ins,aF T,T.rD,sf _ _ _,_,Y,a.aG,_,_,_,Y,Y,aI.of g.hG,fQ t,p3,Y,.inl ⟨_,.inl y⟩,_,Y,pop g t y λv H3 u3 n=>?_⟩;generalize M:C.kQ c z=S3 at n;have g3:S3.gaps.length=S.made:=by rw[<-M];show (C.gaps.set c _).length=_;rw[acx,X]
  obtain⟨p4,u,o⟩:=n.rG.at (vQ (S:=S3) (c:=d) (by rw[g3];exact U));refine⟨_,Y,r,_,a.dx,_,_,Y,n.ins,aF T,T.rD,sf _ _ _,_,Y,a.aG,_,_,_,Y,Y,aI.of n.hG,fQ u,p4,Y,.inl ⟨_,.inl o⟩,_,Y,_,Y,pop n u o λv H4 u4 h4=>?_⟩;refine k H4 (R.trans (u2.trans (u3.trans u4))) ?_;rw[<-M,<-e2]at h4;exact h4
theorem sJ (T:Txt K mg A):bx P w K mg base (bD P w) 3 A.iV A.lV ["self","letters"] (Ju A.aw):=by
 refine T.hV.F.okN sH (λvs H Q E h=>?_) (λcy AA outer s H vs Q E hr h=>?_)
 ·obtain⟨x,j,L,rfl,_⟩:=h;rfl
 ·obtain⟨x,j,L,rfl,hx,qm,z0,k⟩:=h
  refine⟨_,(aj (bW (pv 0) (pv 1) Y)
   (aj (bW (pv 0) aM Y)
   (aj (bW (pv 0) (cq ak) Y)
   (aj (bW (pv 0) (cq (ae fq ak)) Y)
   (aj (bW (pv 0) (cq (ae (bH (tL T) hr.Za5 Y T.iX.m T.iX.F.kp T.iX.b .nil aJ (ae (pv 1) ak)) ak)) Y)
   (aj (bW (pv 0) (cq (ae aM ak)) Y)
   (aj (bW (pv 0) (cq (ae (cq (ae aM ak)) ak)) Y)
   (ax (bW (pv 0) (cq ak) Y))))))))),?_⟩
  try dsimp only[a8,bQ]
  refine zf ?_;intro OV BU ya tM oM jG gM
  have st:∀{H0:Hp} {fs:List (Str×V)} {f:Str} {v:V},H0 x=some (.ins A.aw j fs)->(∀b o,H b=some o->b≠x->H0 b=some o)->upd H0 x (.ins A.aw j (bJ f v fs)) x=some (.ins A.aw j (bJ f v fs))/\(∀b o,H b=some o->b≠x->upd H0 x (.ins A.aw j (bJ f v fs)) b=some o)/\∀b o,b≠x->H0 b=some o->upd H0 x (.ins A.aw j (bJ f v fs)) b=some o:=
   λ_ h=>⟨ah,λb o e n=>by rw[ai n];exact h b o e n,λb o n e=>by rw[ai n];exact e⟩
  refine⟨_,Y,_,Y,x,_,j,_,Y,hx,aF T,T.rA,(by show 0<1000;decide),?_⟩;obtain⟨x1,o1,-⟩:=st (f:="letters") (v:=.int L) hx (λb o e _=>e);generalize upd H x (.ins A.aw j (bJ "letters" (.int L) []))=H1 at x1 o1 ⊢;have f1:(bJ "letters" (.int L) ([]:List (Str×V))).length<=1:=jb (n:=0) (aca _);refine⟨_,Y,x,_,j,_,Y,x1,aF T,T.oH,ace f1 (by decide),?_⟩;obtain⟨x2,o2,-⟩:=st (f:="made") (v:=.int 1) x1 o1;have f2:=jb (f:="made") (v:=.int 1) f1;generalize e2:bJ "made" (.int 1) (bJ "letters" (.int L) [])=Tg at x2 o2 f2 ⊢;generalize upd H1 x (.ins A.aw j Tg)=H2 at x2 o2 ⊢;refine⟨acF _,λC nR=>⟨_,Y,x,_,j,_,Y,ay.upd nR _ _ x2,aF T,T.rB,ace f2 (by decide),?_⟩⟩;have Ti:upd H2 C (.lst []) C=some (.lst []):=ah;have I:C≠x:=(au x2 nR).symm;have s3:=ay.upd (o:=.lst []) nR
  have n0:∀{b:Addr} {H0:Hp},(∀c o,H c=some o->c≠x->H0 c=some o)->H0 b=none->b≠x->H b=none:=λ{b H0} h n nx=>by
   cases e:H b with
   |none=>rfl
   |some o=>rw[h b o e nx]at n;cases n
  have kR:=n0 o2 nR I;generalize upd H2 C (.lst [])=H3 at Ti s3 ⊢;obtain⟨x4,o4,k4⟩:=st (f:="rows") (v:=.ref C) (s3 _ _ x2) (λb o e n=>s3 _ _ (o2 b o e n));have f4:=jb (f:="rows") (v:=.ref C) f2;generalize e4:bJ "rows" (.ref C) Tg=Tj at x4 o4 f4 k4 ⊢;have OW:=k4 _ _ I Ti;generalize upd H3 x (.ins A.aw j Tj)=H4 at x4 o4 OW ⊢;intro wd OX;have q:wd≠x:=(au x4 OX).symm;have Tn:=n0 o4 OX q;have s5:=ay.upd (o:=.dK []) OX;have OY:upd H4 wd (.dK []) wd=some (.dK []):=ah;generalize upd H4 wd (.dK [])=H5 at s5 OY ⊢;refine⟨(Za4 1),λD nW=>⟨_,Y,x,_,j,_,Y,ay.upd nW _ _ (s5 _ _ x4),aF T,T.iD,ace f4 (by decide),?_⟩⟩;have BV:D≠x:=(au (s5 _ _ x4) nW).symm;have kW:=n0 (λb o e n=>s5 _ _ (o4 b o e n)) nW BV;have nWR:D≠C:=(au (s5 _ _ OW) nW).symm;have s6:=ay.upd (o:=.lst [.ref wd]) nW;have To:upd H5 D (.lst [.ref wd]) D=some (.lst [.ref wd]):=ah;generalize upd H5 D (.lst [.ref wd])=H6 at s6 To ⊢;obtain⟨x7,o7,k7⟩:=st (f:="ways") (v:=.ref D) (s6 _ _ (s5 _ _ x4)) (λb o e n=>s6 _ _ (s5 _ _ (o4 b o e n)));have f7:=jb (f:="ways") (v:=.ref D) f4;generalize e7:bJ "ways" (.ref D) Tj=Tp at x7 o7 f7 k7 ⊢;have OZ:=k7 _ _ I (s6 _ _ (s5 _ _ OW));have O6:=k7 _ _ BV To;have HZ:=k7 _ _ q (s6 _ _ OY);generalize upd H6 x (.ins A.aw j Tp)=H7 at x7 o7 OZ O6 HZ ⊢;refine⟨_,Y,L,Y,qm,z0,λgd H8 s8 O8 VH=>?_⟩;have u:gd≠x:=(au x7 O8).symm;have Xt:=n0 o7 O8 u;have Xu:gd≠wd:=(au HZ O8).symm;refine⟨(Za4 1),λB nG=>⟨_,Y,x,_,j,_,Y,ay.upd nG _ _ (s8 _ _ x7),aF T,T.rD,ace f7 (by decide),?_⟩⟩;have Fy:B≠x:=(au (s8 _ _ x7) nG).symm;have kG:=n0 (λb o e n=>s8 _ _ (o7 b o e n)) nG Fy;have nGR:B≠C:=(au (s8 _ _ OZ) nG).symm;have nGW:B≠D:=(au (s8 _ _ O6) nG).symm;have s9:=ay.upd (o:=.lst [.ref gd]) nG;have Tq:upd H8 B (.lst [.ref gd]) B=some (.lst [.ref gd]):=ah;generalize upd H8 B (.lst [.ref gd])=H9 at s9 Tq ⊢;obtain⟨x10,Jx,BW⟩:=st (f:="gaps") (v:=.ref B) (s9 _ _ (s8 _ _ x7)) (λb o e n=>s9 _ _ (s8 _ _ (o7 b o e n)));have O9:=jb (f:="gaps") (v:=.ref B) f7;generalize Xv:bJ "gaps" (.ref B) Tp=Pa at x10 Jx O9 BW ⊢;have Ia:=BW _ _ I (s9 _ _ (s8 _ _ OZ));have Ib:=BW _ _ BV (s9 _ _ (s8 _ _ O6));have Jy:=BW _ _ q (s9 _ _ (s8 _ _ HZ));have Ic:=BW _ _ Fy Tq;have Jz:=BW _ _ u (s9 _ _ VH);generalize upd H9 x (.ins A.aw j Pa)=BX at x10 Jx Ia Ib Jy Ic Jz ⊢;refine⟨by decide,λG nE=>⟨_,Y,x,_,j,_,Y,ay.upd nE _ _ x10,aF T,T.iZ,ace O9 (by decide),?_⟩⟩;have JA:G≠x:=(au x10 nE).symm;have kE:=n0 Jx nE JA;have nER:G≠C:=(au Ia nE).symm;have nEW:G≠D:=(au Ib nE).symm;have nEG:G≠B:=(au Ic nE).symm;have t:=ay.upd (o:=.lst [.int 0]) nE;have Pb:upd BX G (.lst [.int 0]) G=some (.lst [.int 0]):=ah;generalize upd BX G (.lst [.int 0])=Fz at t Pb ⊢;obtain⟨Z,FC,M⟩:=st (f:="elders") (v:=.ref G) (t _ _ x10) (λb o e n=>t _ _ (Jx b o e n));have FD:=jb (f:="elders") (v:=.ref G) O9;generalize Xw:bJ "elders" (.ref G) Pa=Pg at Z FC FD M ⊢;have U:=M _ _ I (t _ _ Ia);have X:=M _ _ BV (t _ _ Ib);have JB:=M _ _ q (t _ _ Jy);have R:=M _ _ Fy (t _ _ Ic);have JC:=M _ _ u (t _ _ Jz);have S:=M _ _ JA Pb;generalize upd Fz x (.ins A.aw j Pg)=Ts at Z FC U X JB R JC S ⊢;refine⟨by decide,λz y=>⟨(Za4 1),λF nC=>⟨_,Y,x,_,j,_,Y,ay.upd nC _ _ (ay.upd y _ _ Z),aF T,T.l0,ace FD (by decide),?_⟩⟩⟩;have Ie:z≠x:=(au Z y).symm;have Xx:=n0 FC y Ie;have ncR:z≠C:=(au U y).symm;have ncW:z≠D:=(au X y).symm;have ncG:z≠B:=(au R y).symm;have ncE:z≠G:=(au S y).symm;have a:=ay.upd (o:=.lst [.int 0]) y;have N:upd Ts z (.lst [.int 0]) z=some (.lst [.int 0]):=ah;generalize upd Ts z (.lst [.int 0])=Tt at a N nC ⊢;have Ph:F≠x:=(au (a _ _ Z) nC).symm;have kC:=n0 (λb o e n=>a _ _ (FC b o e n)) nC Ph;have nCR:F≠C:=(au (a _ _ U) nC).symm;have nCW:F≠D:=(au (a _ _ X) nC).symm;have nCG:F≠B:=(au (a _ _ R) nC).symm;have nCE:F≠G:=(au (a _ _ S) nC).symm;have nCc:F≠z:=(au N nC).symm;have m:=ay.upd (o:=.lst [.ref z]) nC;have Pj:upd Tt F (.lst [.ref z]) F=some (.lst [.ref z]):=ah;generalize upd Tt F (.lst [.ref z])=Xy at m Pj ⊢;obtain⟨FE,JD,r⟩:=st (f:="called") (v:=.ref F) (m _ _ (a _ _ Z)) (λb o e n=>m _ _ (a _ _ (FC b o e n)));have JF:=jb (f:="called") (v:=.ref F) FD;generalize Xz:bJ "called" (.ref F) Pg=Pk at FE JD JF r ⊢;have Ig:=r _ _ I (m _ _ (a _ _ U));have Ih:=r _ _ BV (m _ _ (a _ _ X));have JG:=r _ _ q (m _ _ (a _ _ JB));have Ii:=r _ _ Fy (m _ _ (a _ _ R));have JH:=r _ _ u (m _ _ (a _ _ JC));have Ij:=r _ _ JA (m _ _ (a _ _ S));have J:=r _ _ Ie (m _ _ N);have Ik:=r _ _ Ph Pj;generalize upd Xy x (.ins A.aw j Pk)=Tv at FE JD Ig Ih JG Ii JH Ij J Ik ⊢;refine⟨acF _,λO nN=>⟨_,Y,x,_,j,_,Y,ay.upd nN _ _ FE,aF T,T.rE,ace JF (by decide),?_⟩⟩;have Tw:O≠x:=(au FE nN).symm;have kN:=n0 JD nN Tw;have nNR:O≠C:=(au Ig nN).symm;have nNW:O≠D:=(au Ih nN).symm;have nNG:O≠B:=(au Ii nN).symm;have nNE:O≠G:=(au Ij nN).symm;have nNC:O≠F:=(au Ik nN).symm;have nNc:O≠z:=(au J nN).symm;have g:=ay.upd (o:=.lst []) nN;have Pl:upd Tv O (.lst []) O=some (.lst []):=ah;generalize upd Tv O (.lst [])=H16 at g Pl ⊢;obtain⟨Tx,Tz,l⟩:=st (f:="went") (v:=.ref O) (g _ _ FE) (λb o e n=>g _ _ (JD b o e n))
  have ef:bJ "went" (.ref O) Pk=eZ (L:Int) 1 ⟨j,C,D,B,G,F,O,[],[wd],[gd],[z]⟩:=by
   rw[<-Xz,<-Xw,<-Xv,<-e7,<-e4,<-e2]
   kernel_rfl
  rw[ef]at Tx Tz l ⊢;refine k ⟨j,C,D,B,G,F,O,[],[wd],[gd],[z]⟩ _ Tz ⟨Tx,l _ _ I (g _ _ Ig),l _ _ BV (g _ _ Ih),l _ _ Fy (g _ _ Ii),l _ _ JA (g _ _ Ij),l _ _ Ph (g _ _ Ik),l _ _ Tw Pl,⟨Y,(λi p d h=>by simp at h)⟩,?_,?_,?_,(λd hd=>by cases hd),?_,?_⟩ ?_
  ·exact Each.snoc (ps:=[]) (xs:=[]) ⟨Y,λi p d h=>by simp at h⟩ (l _ _ q (g _ _ JG))
  ·exact Each.snoc (ps:=[]) (xs:=[]) ⟨Y,λi p d h=>by simp at h⟩ (l _ _ u (g _ _ JH))
  ·exact Each.snoc (ps:=[]) (xs:=[]) ⟨Y,λi p d h=>by simp at h⟩ (l _ _ Ie (g _ _ J))
  ·show [C,D,B,G,F,O,z].Nodup;simp only[acK,aci,ac0,aeV,not_or,adM,and_true,aeq]
   grind
  ·show [wd,gd].Nodup;simp only[acK,aci,ac0,aeV,adM,and_true,aeq];exact Xu.symm
  ·intro b hb;rcases hb with rfl|hb|hb
   ·exact .inl rfl
   ·simp only[RA.lists,aci,ac0,aeV]at hb
    grind
   ·simp only[RA.dZ,ach,aci,ac0,aeV]at hb
    grind
theorem _root_.L2.aq.Aa (h:aq a H b S O){p:Addr}(c:H p=none):¬O.own b p:=λz=>by
 obtain⟨o,e⟩:=h.there z
 grind
theorem yq (T:Txt K mg A):bx P w K mg base (bD P w) 3 A.rh A.ri ["self","room","step"] (Fv A.aw):=by
 refine T.pG.F.okN qk (λvs H Q E h=>?_) (λcy AA outer s H vs Q E hr h=>?_)
 ·obtain⟨r,S,a,c,z,rfl,_⟩:=h;rfl
 ·obtain⟨r,S,a,c,z,rfl,h,hw,qm,z0,hc,hm,vR,hz,k⟩:=h
  refine⟨_,(aj (a9 (i:=3) qk.nd Y (Or.inl Y) (aB (pv 0) Y))
   (aj (bW (pv 0) (bP iz (pv 3) aM) Y)
   (aj (aZ (dP acq acA acB cu (aB (pv 0) Y) (ae (gw (ae (eA (l:=[110,101,119]) Y) (ae (pv 1) (ae (pv 2) (ae (pv 3) ak))))) ak)))
   (aj (aZ (dP acq acA acB cu (aB (pv 0) Y) (ae fq ak)))
   (aj (aZ (dP acq acA acB cu (aB (pv 0) Y) (ae (bH (tL T) hr.Za5 Y T.iX.m T.iX.F.kp T.iX.b .nil aJ (ae (aB (pv 0) Y) ak)) ak)))
   (aj (aZ (dP acq acA acB cu (aB (pv 0) Y) (ae (pv 3) ak)))
   (aj (aZ (dP acq acA acB cu (aB (pv 0) Y) (ae (cq (ae (pv 3) ak)) ak)))
   (aj (aZ (bf (pv 0) (aF T) T.jD.m (ql T) hr.Za5 T.jD.b .nil aJ (ae (pv 1) (ae (pv 2) (ae (pv 3) ak)))))
   (ax (bB (pv 3))))))))))),?_⟩
  try dsimp only[a8,bQ]
  refine G8 ?_;intro XA OV BU ya tM oM jG gM;refine⟨_,Y,r,_,a.dx,_,_,Y,h.ins,aF T,T.oH,r6 _ _ _,?_⟩;refine⟨_,Y,_,_,Y,Y,_,Y,r,_,a.dx,_,Y,h.ins,aF T,T.oH,(by show 8<1000;decide),?_⟩;rw[Eu,show (S.made:Int)+ 1=((S.made+ 1:Nat):Int) by omega];have h1:=h.K0 (S.made+ 1);have u1:cR a r H (upd H r (.ins A.aw a.dx (eZ S.L ((S.made+ 1:Nat):Int) a))):=cR.upd (.inl Y);generalize upd H r (.ins A.aw a.dx (eZ S.L ((S.made+ 1:Nat):Int) a))=H1 at h1 u1 ⊢;have lR:(a.rs.map V.ref).length<sizeLine:=by rw[ab9,h.rR.1];exact ace vR (by decide)
  refine⟨_,Y,r,_,a.dx,_,_,Y,h1.ins,aF T,T.rB,r9 _ _ _,.inl ⟨Y,_,aI.of h1.hR⟩,_,Y,_,Y,_,Y,(Za4 4),λt ht=>⟨a.aR,_,_,Y,Y,ay.upd ht _ _ h1.hR,lR,?_⟩⟩;have s2:=ay.upd (o:=.tup [.str (tx [110,101,119]),.int c,.int z,.int S.made]) ht;have TB:upd H1 t (.tup [.str (tx [110,101,119]),.int c,.int z,.int S.made]) t=some (.tup [.str (tx [110,101,119]),.int c,.int z,.int S.made]):=ah;generalize upd H1 t (.tup [.str (tx [110,101,119]),.int c,.int z,.int S.made])=H2 at s2 TB ⊢
  have hd2:bF H2 4 (.ref t) (j5 c z S.made):=by
   refine .t TB Y λj v d B J=>?_
   rcases j with _|_|_|_|j
   ·simp at B J;subst B J;exact .s
   ·simp at B J;subst B J;exact .i
   ·simp at B J;subst B J;exact .i
   ·simp at B J;subst B J;exact .i
   ·simp at B
  have nl:lH (j5 c z S.made):=.t (by show 4<=100000;decide) λd hd=>by
   simp only[aci,ac0,aeV]at hd;rcases hd with rfl|rfl|rfl|rfl
   ·exact .s
   ·exact .i
   ·exact .i
   ·exact .i
  have G:=(h1.same s2).za hd2 nl;have u3:cR a r H2 (upd H2 a.aR (.lst (a.rs.map V.ref++[.ref t]))):=cR.upd (.inr (.inl fB));generalize upd H2 a.aR (.lst (a.rs.map V.ref++[.ref t]))=H3 at G u3 ⊢;generalize U:({ a with rs:=a.rs++[t] }:RA)=n at G;have VJ:∀b,n.own r b->a.own r b:=λb f=>by rw[<-U]at f;exact f
  have aaM:∀b,a.own r b->n.own r b:=λb f=>by rw[<-U];exact f
  have ewG:n.dx=a.dx:=by rw[<-U]
  have U3:cR a r H H3:=u1.trans (λb o f e=>u3 b o f (s2 _ _ e));refine⟨_,Y,r,_,n.dx,_,_,Y,G.ins,aF T,T.iD,hL _ _ _,.inl ⟨Y,_,aI.of G.hW⟩,?_⟩;intro m y;have XB:(n.ws.map V.ref).length<sizeLine:=by rw[ab9,G.rW.1];show S.ways.length<sizeLine;rw[hw.w];exact ace hm (by decide)
  have s4:=ay.upd (o:=.dK []) y;have I:upd H3 m (.dK []) m=some (.dK (wK [])):=ah;have VL:=G.Aa y;refine⟨n.aW,_,_,Y,Y,s4 _ _ G.hW,XB,?_⟩;generalize upd H3 m (.dK [])=H4 at s4 I ⊢;have L:=(G.same s4).Nu I (λz=>VL (.inr (.inr z)));have u5:cR n r H4 (upd H4 n.aW (.lst (n.ws.map V.ref++[.ref m]))):=cR.upd (.inr (.inl fD));generalize upd H4 n.aW (.lst (n.ws.map V.ref++[.ref m]))=H5 at L u5 ⊢;generalize XC:({ n with ws:=n.ws++[m] }:RA)=p at L
  have aaW:∀b,p.own r b->n.own r b\/b=m:=λb f=>by
   rw[<-XC]at f;rcases f with f|f|f
   ·exact .inl (.inl f)
   ·exact .inl (.inr (.inl f))
   ·simp only[RA.dZ,ach,acb]at f;rcases f with (f|f)|f
    ·exact .inl (.inr (.inr (acu _ f)))
    ·exact .inr f
    ·exact .inl (.inr (.inr (ab8 _ f)))
  have Tn:H m=none\/a.own r m:=by
   by_cases M:a.own r m
   ·exact .inr M
   ·refine .inl ?_
    cases e:H m with
    |none=>rfl
    |some o=>rw[U3 m o M e]at y;cases y
  have U5:cR a r H H5:=U3.trans λb o f e=>u5 b o (λz=>f (VJ b z)) (s4 _ _ e)
  refine⟨_,Y,r,_,p.dx,_,_,Y,L.ins,aF T,T.rD,sf _ _ _,.inl ⟨Y,_,aI.of L.hG⟩,_,Y,r,_,p.dx,_,_,Y,L.ins,aF T,T.rA,uT _ _ _,S.L,Y,qm,z0,λC H6 s6 X VM=>?_⟩;have XE:(p.gs.map V.ref).length<sizeLine:=by rw[ab9,L.rG.1];show S.gaps.length<sizeLine;rw[hw.g];exact ace hm (by decide)
  have h6:=L.same s6;have VN:=L.Aa X;refine⟨p.aG,_,_,Y,Y,h6.hG,XE,?_⟩;have Z:=h6.Nv VM (λz=>VN (.inr (.inr z)));have u7:cR p r H6 (upd H6 p.aG (.lst (p.gs.map V.ref++[.ref C]))):=cR.upd (.inr (.inl iH));generalize upd H6 p.aG (.lst (p.gs.map V.ref++[.ref C]))=H7 at Z u7 ⊢;generalize XF:({ p with gs:=p.gs++[C] }:RA)=g at Z
  have aaX:∀b,g.own r b->p.own r b\/b=C:=λb f=>by
   rw[<-XF]at f;rcases f with f|f|f
   ·exact .inl (.inl f)
   ·exact .inl (.inr (.inl f))
   ·simp only[RA.dZ,ach,acb]at f;rcases f with f|f|f
    ·exact .inl (.inr (.inr (acu _ f)))
    ·exact .inl (.inr (.inr (ab8 _ f)))
    ·exact .inr f
  have w5:H m=none\/a.own r m:=Tn
  have VP:∀b o,¬a.own r b->H b=some o->¬p.own r b:=λb o f e z=>by
   grind
  have U7:cR a r H H7:=λb o f e=>u7 b o (VP b o f e) (s6 _ _ (U5 b o f e))
  have Xt:H C=none\/a.own r C:=by
   by_cases M:a.own r C
   ·exact .inr M
   ·refine .inl ?_
    cases e:H C with
    |none=>rfl
    |some o=>rw[U5 C o M e]at X;cases X
  refine⟨_,Y,r,_,g.dx,_,_,Y,Z.ins,aF T,T.iZ,i9 _ _ _,.inl ⟨Y,_,aI.of Z.hE⟩,_,Y,g.aE,_,_,Y,Y,Z.hE,?_,?_⟩
  ·rw[aT,bL];show S.aS.length<sizeLine;rw[hw.e];exact ace hm (by decide)
  have eE:av (nI S.aS)++[V.int (S.made:Int)]=av (nI (S.aS++[S.made])):=by rw[gT,ints_app];rfl
  show _;have F:=Z.xH (S.aS++[S.made]);rw[<-eE]at F;have u8:cR g r H7 (upd H7 g.aE (.lst (av (nI S.aS)++[V.int (S.made:Int)]))):=cR.upd (.inr (.inl gf));generalize upd H7 g.aE (.lst (av (nI S.aS)++[V.int (S.made:Int)]))=H8 at F u8 ⊢
  have D:∀b o,¬a.own r b->H b=some o->¬g.own r b:=λb o f e z=>by
   grind
  have U8:cR a r H H8:=λb o f e=>u8 b o (D b o f e) (U7 b o f e)
  refine⟨_,Y,r,_,g.dx,_,_,Y,F.ins,aF T,T.l0,mz _ _ _,.inl ⟨Y,_,aI.of F.hC⟩,_,Y,(Za4 1),λu x=>⟨g.aC,_,_,Y,Y,ay.upd x _ _ F.hC,?_,?_⟩⟩
  ·rw[ab9,F.rC.1];show S.called.length<sizeLine;rw[hw.c];exact ace hm (by decide)
  have s9:=ay.upd (o:=.lst [.int (S.made:Int)]) x;have N:upd H8 u (.lst [.int (S.made:Int)]) u=some (.lst (av (nI [S.made]))):=ah;have VQ:=F.Aa x;generalize upd H8 u (.lst [.int (S.made:Int)])=H9 at s9 N ⊢;have R:=(F.same s9).Ew N (λz=>VQ (.inr (.inl z)));have TC:cR g r H9 (upd H9 g.aC (.lst (g.cs.map V.ref++[.ref u]))):=cR.upd (.inr (.inl hM));generalize upd H9 g.aC (.lst (g.cs.map V.ref++[.ref u]))=BX at R TC ⊢;generalize VR:({ g with cs:=g.cs++[u] }:RA)=q at R
  have aaN:∀b,q.own r b->g.own r b\/b=u:=λb f=>by
   rw[<-VR]at f;rcases f with f|f|f
   ·exact .inl (.inl f)
   ·have zq:b∈g.lists++[u]:=f;rcases ach.mp zq with f|f
    ·exact .inl (.inr (.inl f))
    grind
   ·exact .inl (.inr (.inr f))
  have Xx:H u=none\/a.own r u:=by
   by_cases M:a.own r u
   ·exact .inr M
   ·refine .inl ?_
    cases e:H u with
    |none=>rfl
    |some o=>rw[U8 u o M e]at x;cases x
  have O:∀b o,¬a.own r b->H b=some o->¬q.own r b:=λb o f e z=>by
   grind
  have XG:cR a r H BX:=λb o f e=>TC b o (D b o f e) (s9 _ _ (U8 b o f e))
  have hS:aq A.aw BX r (S.grown c z (bu (2* S.L))) q:=R;refine⟨_,Y,r,q.dx,_,Y,hS.ins,cD _ _ _ (by decide),_,Y,_,Y,_,Y,r,S.grown c z (bu (2* S.L)),q,c,S.made,z,Y,hS,⟨?_,?_,?_,?_⟩,?_,?_,?_,λFz XH XI=>?_⟩
  ·show (S.ways++[[]]).length=S.made+ 1;rw[ab6,hw.w];rfl
  ·show (S.gaps++[_]).length=S.made+ 1;rw[ab6,hw.g];rfl
  ·show (S.aS++[_]).length=S.made+ 1;rw[ab6,hw.e];rfl
  ·show (S.called++[_]).length=S.made+ 1;rw[ab6,hw.c];rfl
  ·show c<S.made+ 1;omega
  ·show S.made<S.made+ 1;omega
  ·intro l hl;rcases ach.mp hl with hl|hl
   ·exact hz l hl
   grind
  ·refine⟨_,Y,k q Fz (λb o f e=>XH b o (O b o f e) (XG b o f e)) XI λb f=>?_⟩
   grind
theorem fE (T:Txt K mg A):bx P w K mg base (bD P w) 1 A.lW A.lX ["self"] (vO A.aw):=by
 refine T.cQ.F.okN sI (λo H Q E h=>?_) (λt F g s H o Q E y h=>?_)
 ·obtain⟨r,S,a,rfl,_⟩:=h;rfl
 ·obtain⟨r,S,a,rfl,h,hw,p,k⟩:=h;refine⟨_,(ax (bB (ve (fns:=["self"]) (ixs:=[0]) (cl:=_) Y (DH Y T.BO (ae (aB (pv 0) Y) ak)) (o6 Y Y (by decide) Y (by decide) Y (by decide) (by decide) Y Y Y Y) (λC s H ex=>(bq iG (bN (yZ (K:=K) Y) (K2 (K:=K) Y (pv 1) Y) (pv 0) (λ_ _=>rfl)) (pv 0) (bC _))) (λC s H ex=>(pv 0))))),?_⟩
  try dsimp only[a8,bQ]
  refine⟨_,Y,r,_,a.dx,_,_,Y,h.ins,aF T,T.oH,r6 _ _ _,(S.made:Int),Y,by omega,by omega,?_⟩;rw[acY];refine⟨λi m ys l=>m=S.made - i/\i<=S.made/\ys=av (nI ((List.range i).filter λc=>decide (S.aS[c]?=some c)))/\l=H,⟨S.made,by simp,acF _,Y,Y⟩,?_⟩;rintro i m ys l ⟨rfl,u,rfl,rfl⟩
  have hlen:(av (nI ((List.range i).filter λc=>decide (S.aS[c]?=some c)))).length<=i:=by
   rw[aT,bL];exact acr (ad8 _ _) (by grind)
  by_cases b:i<S.made
  ·refine .inr ⟨b,?_,λx v f=>?_⟩
   ·exact ace (acr hlen (show i<=100000 by omega)) (by decide)
   obtain⟨rfl,rfl⟩:=f;have j:S.aS[i]?=some (S.aS[i]'(by rw[hw.e];exact b)):=ab3 _
   generalize S.aS[i]'(by grind)=e at j;refine⟨_,Y,r,_,a.dx,_,_,Y,h.ins,aF T,T.iZ,i9 _ _ _,_,Y,a.aE,_,_,_,Y,Y,aI.of h.hE,(by rw[Int.zero_add];exact dA (cJ (iB j))),?_⟩;refine⟨_,Y,Y,_,Y,?_⟩;by_cases d:e=i
   ·subst d;rw[show decide (V.int (e:Int)=V.int (0+ (e:Int)))=true from acy (by rw[Int.zero_add])];refine⟨_,Y,S.made - (e+ 1),by omega,Y,b,?_,Y⟩;rw[adP,List.filter_append,afi (by grind),List.filter_nil,gT,ints_app,Int.zero_add];rfl
   ·rw[show decide (V.int (e:Int)=V.int (0+ (i:Int)))=false from acU (λz=>d (by injection z with z;omega))];refine⟨S.made - (i+ 1),by omega,Y,b,?_,Y⟩;rw[adP,List.filter_append,List.filter_cons_of_neg (by grind),List.filter_nil,acD]
  ·have e:i=S.made:=by omega
   subst e;exact .inl ⟨aca _,acr hlen (acr p (by decide)),λD q=>k D q⟩
theorem oN (T:Txt K mg A):bx P w K mg base (bD P w) 5 A.qi A.qj ["self"] (BR 2 A.aw):=by
 refine T.iC.F.okN wR (λvs H Q E h=>?_) (λcy AA j s H vs Q E O h=>?_)
 ·obtain⟨r,S,a,rfl,_⟩:=h;rfl
 ·obtain⟨r,S,a,rfl,h,I,B,k⟩:=h;refine⟨_,(ax (bB (lJ (fns:=[]) (ixs:=[]) (cl:=[]) Y (du (aB (pv 0) Y)) (kP (by decide) (by decide) Y (by decide) Y) (λC s H ex=>(bH (x8 T) (O.mono (by decide)) Y T.own.m T.own.F.kp T.own.b .nil aJ (ae (pv 0) ak)))))),?_⟩
  try dsimp only[a8,bQ]
  refine⟨_,Y,r,_,a.dx,_,_,Y,h.ins,aF T,T.rB,r9 _ _ _,a.aR,Y,⟨_,aI.of h.hR⟩,?_⟩;have u:(a.rs.map V.ref).length=S.rows.length:=by rw[ab9,h.rR.1]
  have m:∀i,i<S.rows.length->∃p d,a.rs[i]?=some p/\S.rows[i]?=some d/\d∈S.rows/\bF H 4 (.ref p) d:=λi c=>by
   have f:=ab3 c;obtain⟨p,F,q⟩:=h.rR.at f;exact⟨p,_,F,f,ab4 f,q⟩
  refine mB S.rows.length (λi=>(a.rs.map V.ref).getD i .non) (λb v i=>∃p d,v=.ref p/\S.rows[i]?=some d/\lH d/\bF b 4 (.ref p) d) (λH1 b v i s q0=>by obtain⟨p,x,e,J,hn,q⟩:=q0;exact⟨p,x,e,J,hn,q.same s⟩) ?_ (λi b s2 c=>lA (aI.of (s2 _ _ h.hR)) i (by omega)) (λi x b H3 s2 c y=>?_) (λb s2=>?_) (λi b Rr c s2 kk=>?_) (λD b ys s2 Z R O=>?_)
  ·exact acr I (by decide)
  ·obtain⟨e,L⟩:=jL (aI.of (s2 _ _ h.hR)) i x H3 (by omega) y;refine⟨e,?_⟩;rw[acd,L];rfl
  ·have:=iM (aI.of (K:=K) (s2 _ _ h.hR));rw[u]at this;exact this
  ·obtain⟨p,d,F,f,g,q⟩:=m i c;have L:(a.rs.map V.ref).getD i .non=.ref p:=by rw[acd,aco,F];rfl
   have q1:=(B p d g q).same s2;rw[L];refine⟨_,Y,.ref p,d,Y,q1,h.flat d g,λv' H' s' X=>?_⟩
   have:∃n,v'=.ref n:=by
    have o:∃ds,d=.t ds:=by
     cases q with
     |t=>grind
     |l=>exact absurd (h.flat _ g) (λz=>by cases z)
    obtain⟨ds,rfl⟩:=o
    cases X with
    |t=>grind
   obtain⟨n,rfl⟩:=this;exact kk _ H' s' ⟨n,d,Y,f,h.flat d g,X.le (by decide)⟩
  ·obtain⟨U,rfl,G⟩:=si (P:=λi p=>∃d,S.rows[i]?=some d/\bF b 4 (.ref p) d) ys 0 (λi v hv=>by
    grind)
   have N:ay b (upd b D (.lst (U.map V.ref))):=ay.upd Z;rw[ab9]at R;refine k D U _ (s2.trans N) (s2.free Z) ah ⟨R,λi p d e1 J=>?_⟩;obtain⟨d',M,q⟩:=G i p e1;rw[afa]at M;obtain rfl:d'=d:=Za0 (M.symm.trans J);exact q.same N
def cV (H:Hp)(p:Addr)(a:List Way):Prop:=∃b:List Addr,H p=some (.lst (b.map V.ref))/\Each (λq (w:Way)=>H q=some (.tup [.int (w.1:Int),.int w.2.1,.int (w.2.2:Int)])) b a
def pK (a:RA)(r p:Addr)(H c:Hp):Prop:=∀b o,¬a.own r b->b≠p->H b=some o->c b=some o
theorem cV.keep {c:List Way}(h:cV H a c)(k:∀o,H a=some o->I a=some o)(g:∀b d,H b=some (.tup d)->I b=some (.tup d)):cV I a c:=by
 obtain⟨i,j,f⟩:=h;exact⟨i,k _ j,f.imp λq w _ _ e=>g _ _ e⟩
structure Small (S:RS):Prop where
 m:S.made<=100000
 w:∀l∈S.ways,l.length<=100000
 r:S.rows.length<=1000000
 n:S.aX.length<=1000000
 c:∀l∈S.called,l.length<=1000000
inductive Ab (C:Addr) (vs:List V) (H:Hp) (Q:VK) (E_:XK):Prop
 |mk (r p:Addr) (S:RS) (a:RA) (c:Nat) (pend:List Way):vs=[.ref r,.int c,.ref p]->aq C H r S a->S.Wf->c<S.made->C0 S c->(∀l∈S.ways,l.length<=100000)->cV H p pend->¬a.own r p->pend.length<=1000000->(∀a' H',pK a r p H H'->aq C H' r (S.nK c pend).1 a'->cV H' p (S.nK c pend).2->(∀b,a'.own r b->a.own r b\/H b=none)->Q .non H')->Ab C vs H Q E_
inductive BZ (C:Addr) (vs:List V) (H:Hp) (Q:VK) (E_:XK):Prop
 |mk (r p:Addr) (S:RS) (a:RA) (c x y:Nat) (z:Int) (pend:List Way):vs=[.ref r,.int c,.int z,.int x,.int y,.ref p]->aq C H r S a->S.Wf->x<S.made->y<S.made->x≠y->C0 S (max x y)->(∀n∈S.bZ (max x y),n<S.made)->Small S->cV H p pend->¬a.own r p->pend.length<=1000000->(∀a' H',pK a r p H H'->aq C H' r (S.meet c z x y pend).1 a'->cV H' p (S.meet c z x y pend).2->(∀b,a'.own r b->a.own r b\/H b=none)->Q .non H')->BZ C vs H Q E_
structure vS (S:RS):Prop where
 wf:S.Wf
 el:∀c,c<S.made->S.ao c<S.made
 bl:∀c z d,S.by c z=some d->d<S.made
 cl:∀c,∀n∈S.bZ c,n<S.made
 off:∀c,c<S.made->C0 S c
 sm:Small S
inductive Ac (C:Addr) (vs:List V) (H:Hp) (Q:VK) (E_:XK):Prop
 |mk (r t p:Addr) (S:RS) (a:RA) (w:Way) (pend:List Way):vs=[.ref r,.ref t,.ref p]->aq C H r S a->H t=some (.tup [.int (w.1:Int),.int w.2.1,.int (w.2.2:Int)])->vS S->w.1<S.made->w.2.2<S.made->cV H p pend->¬a.own r p->pend.length<=1000000->(∀a' H',pK a r p H H'->aq C H' r (S.takeIn pend w).1 a'->cV H' p (S.takeIn pend w).2->(∀b,a'.own r b->a.own r b\/H b=none)->Q .non H')->Ac C vs H Q E_
inductive JK (C:Addr) (vs:List V) (H:Hp) (Q:VK) (E_:XK):Prop
 |mk (r q:Addr) (S:RS) (a:RA) (c d:Nat) (z:Int) (row:Dt) (I:RS->List Way->Prop) (μ:RS->List Way->Nat):vs=[.ref r,.int c,.int z,.int d,.ref q]->aq C H r S a->S.rows.length<=1000000->bF H 2 (.ref q) row->lH row->I { S with rows:=S.rows++[row] } [(c,z,d)]->(∀S pend w,I S (pend++[w])->vS S/\w.1<S.made/\w.2.2<S.made/\pend.length<=1000000/\I (S.takeIn pend w).1 (S.takeIn pend w).2/\μ (S.takeIn pend w).1 (S.takeIn pend w).2 < μ S (pend++[w]))->(∀S' a' H',cR a r H H'->aq C H' r S' a'->I S' []->(∀b,a'.own r b->a.own r b\/H b=none)->Q .non H')->JK C vs H Q E_
theorem sC (h:i<n):uL n (i:Int)=some i:=by
 unfold uL;rw[acv (by omega),acv (by omega),acY]
theorem Il {l:List (Int×Nat)}(a:(l.map (·.1)).Nodup){q:Int×Nat}(h:q∈l):eY l q.1=some q.2:=by
 induction l with
 |nil=>cases h
 |cons p l b=>
  unfold eY;rw[adi,acK]at a;by_cases e:p.1=q.1
  ·grind
  ·rw[aeG (by simpa using e)];rcases aci.mp h with rfl|h
   ·exact absurd Y e
   ·exact b a.2 h
theorem uo (T:Txt K mg A):bx P w K mg base (bD P w) 1 A.mX A.mY ["self","room","pending"] (Ab A.aw):=by
 refine T.kD.F.okN gn (λvs H Q E h=>?_) (λcy AA outer s H vs Q E hr h=>?_)
 ·obtain⟨r,p,S,a,c,d,rfl,_⟩:=h;rfl
 ·obtain⟨r,p,S,a,c,d,rfl,h,hw,hc,ok,sm,hP,np,mF,k⟩:=h;have yb:=jW hr
  refine⟨_,(aj (a9 (i:=3) gn.nd Y (Or.inl Y) (bN bS (aB (pv 0) Y) (pv 1) (λ_ _=>rfl)))
   (aj (qx fq (uF (aB (pv 0) Y) (pv 1) set_list))
   (ax (eB acH Y (du (eh (jt Y) Y T.fP acO (ae (pv 3) ak))) (cC (i:=4) gn.nd Y (Or.inl Y))
    (aj (a9 (i:=5) gn.nd Y (Or.inl Y) (Bo yb (pv 3) (pv 4) (λ_ _=>rfl)))
    (aj (cw (bV (bq oY (pv 5) (pv 1) (bC _))
     (ax (aZ (GV (bN bS (aB (pv 0) Y) (pv 5) (λ_ _=>rfl)) (gI fb (pv 4)) ⟨Y,Y,Y,Y⟩)))
     bG))
    (ax (aZ (dP acq acA acB cu (pv 2) (ae (gw (ae (pv 1) (ae (pv 4) (ae (pv 5) ak)))) ak)))))))))),?_⟩
  try dsimp only[a8,bQ]
  refine eF ?_;intro jG gM;have Pn:c<S.ways.length:=by rw[hw.w];exact hc
  obtain⟨u,v,TF⟩:=h.rW.at (oK Pn);have hl0:(S.way c).length<=100000:=zZ sm;refine⟨_,Y,r,_,a.dx,_,_,Y,h.ins,aF T,T.iD,hL _ _ _,_,Y,a.aW,_,_,_,Y,Y,aI.of h.hW,fQ v,?_⟩;intro G D;have s1:=ay.upd (o:=.dK []) D;have L:upd H G (.dK []) G=some (.dK (wK [])):=ah;have nn:=h.Aa D;have nnp:G≠p:=λz=>by obtain⟨M,q1,_⟩:=hP;grind
  generalize upd H G (.dK [])=H1 at s1 L ⊢;have h1:=h.same s1;have hi:c<a.ws.length:=by rw[h.rW.1];exact Pn
  refine⟨_,Y,r,_,a.dx,_,_,Y,h1.ins,aF T,T.iD,hL _ _ _,_,Y,a.aW,_,_,c,Y,Y,h1.hW,sC (by rw[ab9];exact hi),?_⟩;have h2:=h1.Nx hi L (λz=>nn (.inr (.inr z)));have u2:∀b o,b≠a.aW->H1 b=some o->upd H1 a.aW (.lst ((a.ws.map V.ref).set c (.ref G))) b=some o:=λb o y e=>by rw[ai y];exact e
  generalize upd H1 a.aW (.lst ((a.ws.map V.ref).set c (.ref G)))=H2 at h2 u2 ⊢;have XJ:p≠a.aW:=λz=>np (.inr (.inl (by rw[z];exact fD)))
  have XM:u≠a.aW:=(h.ld fD (di (ab4 v))).symm;have U:H2 u=some (.dK (wK (S.way c))):=u2 _ _ XM (s1 _ _ TF);generalize B1:({ a with ws:=a.ws.set c G }:RA)=a2 at h2;have TK:aq A.aw H2 r (cO c S d []).1 a2:=h2
  have VS:¬a2.own r u:=λz=>by
   rw[<-B1]at z;rcases z with z|z|z
   ·exact(h.rd (di (ab4 v))) z.symm
   ·exact h.ld z (di (ab4 v)) rfl
   ·have TL:=acZ.mp h.lI;have z':u∈a.ws.set c G++a.gs:=z;rcases ach.mp z' with z|z
    ·obtain⟨j,J⟩:=acJ z;by_cases e:c=j
     ·subst e;rw[acT hi]at J;have:G=u:=Za0 J;rw[this,TF]at D;cases D
     ·rw[adp e]at J;exact e ((List.getElem?_inj hi TL.1).mp (v.trans J.symm))
    ·exact TL.2.2 u (ab4 v) u z rfl
  have O:∀b,a2.own r b->a.own r b\/H b=none:=λb f=>by
   rw[<-B1]at f;rcases f with f|f|f
   ·exact .inl (.inl f)
   ·exact .inl (.inr (.inl f))
   ·have zq:b∈a.ws.set c G++a.gs:=f;rcases ach.mp zq with f|f
    ·rcases aee f with f|rfl
     ·exact .inl (.inr (.inr (acu _ f)))
     ·exact .inr D
    ·exact .inl (.inr (.inr (ab8 _ f)))
  have vT:¬a2.own r p:=λz=>by
   rcases O p z with q|q
   ·exact np q
   ·obtain⟨M,q1,_⟩:=hP;grind
  have X:cV H2 p (cO c S d []).2:=hP.keep (λo e=>u2 _ _ XJ (s1 _ _ e)) (λb xs e=>u2 _ _ (h.tl e fD) (s1 _ _ e));have B2:pK a r p H H2:=λb o y _ e=>u2 _ _ (λz=>y (.inr (.inl (by rw[z];exact fD)))) (s1 _ _ e)
  refine⟨_,Y,u,_,Y,U,λl nl=>?_⟩;have s3:=ay.upd (o:=.lst ((wK (S.way c)).map λF=>kV F.1)) nl;have Z:upd H2 l (.lst ((wK (S.way c)).map λF=>kV F.1)) l=some (.lst ((wK (S.way c)).map λF=>kV F.1)):=ah;have B6:=TK.Aa nl;have TN:l≠p:=λz=>by obtain⟨M,q1,_⟩:=X;grind
  have nlw:l≠u:=λz=>by grind
  have nlH:H l=none\/a.own r l:=by
   by_cases ho:a.own r l
   ·exact .inr ho
   ·refine .inl ?_
    cases e:H l with
    |none=>rfl
    |some o=>rw[B2 l o ho TN e]at nl;cases nl
  generalize upd H2 l (.lst ((wK (S.way c)).map λF=>kV F.1))=H3 at s3 Z ⊢;refine⟨l,Y,⟨_,aI.of Z⟩,?_⟩;have hlen:((wK (S.way c)).map λF=>kV F.1).length=(S.way c).length:=by rw[ab9,y8]
  refine fZ (xs:=(wK (S.way c)).map λF=>kV F.1) (λi σ R=>∃v4 v5,σ=[some (.ref r),some (.int (c:Int)),some (.ref p),some (.ref u),v4,v5]/\aq A.aw R r (cO c S d ((S.way c).take i)).1 a2/\cV R p (cO c S d ((S.way c).take i)).2/\(∀b o,¬a2.own r b->b≠p->H3 b=some o->R b=some o)) ⟨none,none,Y,TK.same s3,X.keep (λo e=>s3 _ _ e) (λb xs e=>s3 _ _ e),λb o _ _ e=>e⟩ (λi σ R _ q0=>by obtain⟨_,_,_,_,_,kk⟩:=q0;exact aI.of (kk _ _ B6 TN Z)) ?_ ?_
  ·rintro i x σ R hx ⟨v4,v5,rfl,N,B,kk⟩;have I:i<(S.way c).length:=by rw[<-hlen];exact(ab5.mp hx).1
   have hg:(S.way c)[i]?=some ((S.way c)[i]'I):=ab3 I
   generalize (S.way c)[i]'I=w at hg
   have ex:x=.int w.1:=by
    unfold wK at hx;rw[aco,aco,hg]at hx;exact(Za0 hx).symm
   subst ex;have hm:=ab4 hg;have FG:(S.way c).take (i+ 1)=(S.way c).take i++[w]:=by rw[aec,hg];rfl
   have VW:R u=some (.dK (wK (S.way c))):=kk _ _ VS (λz=>by obtain⟨M,q1,_⟩:=X;grind) (s3 _ _ U);have hv:bz (wK (S.way c)) (Sum.inl w.1)=some (.int (w.2:Int)):=by rw[j4,Il ok.nd hm];rfl
   have i7:=ok.lt w hm;have N6:=(fV c S d ((S.way c).take i)).1;refine⟨_,Y,_,Y,u,_,Y,(by have:=fI.k (k:=Sum.inl w.1) VW;rw[hv]at this;exact this),?_⟩;refine⟨λ fU H'=>fU=[some (.ref r),some (.int (c:Int)),some (.ref p),some (.ref u),some (.int w.1),some (.int (w.2:Int))]/\aq A.aw H' r (cO c S d ((S.way c).take (i+ 1))).1 a2/\cV H' p (cO c S d ((S.way c).take i)).2/\(∀b o,¬a2.own r b->b≠p->H3 b=some o->H' b=some o),?_,?_⟩
   ·refine⟨_,Y,_,Y,Y,_,Y,df (λlF=>?_) (λlF=>?_)⟩
    ·have n:w.2≠c:=λz=>by grind
     have hd2:w.2<(cO c S d ((S.way c).take i)).1.ways.length:=by rw[N6,hw.w];exact i7
     obtain⟨pd,C,TQ⟩:=N.rW.at (oK hd2)
     have Ny:((cO c S d ((S.way c).take i)).1.by w.2 (-w.1)).isSome=true:=by
      rw[wH Pn _ (λq hq=>by rw[hw.w];exact ok.lt q (List.mem_of_mem_take hq)),acm]
      ·exact ok.bk w hm n
      ·rintro (q|⟨q,hq,q1,q2⟩)
       ·exact n q
       ·obtain⟨j,J⟩:=acJ hq
        have XQ:j<i:=by
         have:=(ab5.mp J).1;rw[acQ]at this;omega
        rw[ae6 XQ]at J;have e1:((S.way c).map (·.1))[j]?=some q.1:=by rw[aco,J];rfl
        have e2:((S.way c).map (·.1))[i]?=some w.1:=by rw[aco,hg];rfl
        have e3:q.1=w.1:=by omega
        rw[e3]at e1;have:=(List.getElem?_inj (by rw[ab9];exact I) ok.nd).mp (e2.trans e1.symm);omega
     obtain⟨m,Pp⟩:=ae5.mp Ny;refine⟨_,Y,r,_,a2.dx,_,_,Y,N.ins,aF T,T.iD,hL _ _ _,_,Y,a2.aW,_,_,_,Y,Y,aI.of N.hW,fQ C,pd,Y,.inl ⟨_,.inl TQ⟩,_,Y,_,Y,_,Sum.inl (-w.1),.int (m:Int),TQ,Y,?_,?_⟩
     ·rw[j4];show ((cO c S d ((S.way c).take i)).1.by w.2 (-w.1)).map _=_;rw[Pp];rfl
     ·rw[K3];refine⟨Y,?_,B.keep (λo e=>?_) (λb xs e=>?_),λb o y g e=>?_⟩
      ·rw[FG,gU];unfold jc;simp only[n,if_true,aeq,ne_eq];exact N.zb C _
      ·rw[ai (λz=>vT (.inr (.inr (di (by rw[z];exact ab4 C)))))];exact e
      ·rw[ai (N.td e (di (ab4 C)))];exact e
      ·rw[ai (λz=>y (.inr (.inr (di (by rw[z];exact ab4 C)))))];exact kk b o y g e
    ·have n:w.2=c:=by
      by_cases e:w.2=c
      ·exact e
      ·grind
     refine⟨Y,?_,B,kk⟩;rw[FG,gU];unfold jc
     grind
   rintro fU H5 ⟨rfl,h5,XS,XT⟩;obtain⟨M,Pq,TR⟩:=XS
   have XU:(M.map V.ref).length<sizeLine:=by
    rw[ab9,TR.1,xI,ab6,ab9,acQ];exact ace (show _<=1100000 by omega) (by decide)
   refine⟨_,Y,.inl ⟨Y,_,aI.of Pq⟩,_,Y,_,Y,_,Y,(Za4 3),λt nt=>?_⟩;have s6:=ay.upd (o:=.tup [.int (c:Int),.int w.1,.int (w.2:Int)]) nt;have TV:upd H5 t (.tup [.int (c:Int),.int w.1,.int (w.2:Int)]) t=some (.tup [.int (c:Int),.int w.1,.int (w.2:Int)]):=ah;generalize upd H5 t (.tup [.int (c:Int),.int w.1,.int (w.2:Int)])=H6 at s6 TV ⊢;refine⟨p,_,_,Y,Y,s6 _ _ Pq,XU,?_⟩;have kp:∀b o,b≠p->H6 b=some o->upd H6 p (.lst (M.map V.ref++[.ref t])) b=some o:=λb o y e=>by rw[ai y];exact e
   have Pu:∀b xs,H6 b=some (.tup xs)->upd H6 p (.lst (M.map V.ref++[.ref t])) b=some (.tup xs):=λb xs e=>kp _ _ (b6 e (s6 _ _ Pq) (by grind)) e
   refine⟨_,_,Y,(h5.same s6).keep (λb o f e=>kp b o (λz=>vT (z ▸ f)) e) Pu,⟨M++[t],?_,?_⟩,λb o y g e=>kp b o g (s6 _ _ (XT b o y g e))⟩
   ·rw[ah,acR];rfl
   ·rw[FG,gU];exact(TR.imp λq w' _ _ e=>Pu _ _ (s6 _ _ e)).snoc (Pu _ _ TV)
  ·rintro σ R ⟨v4,v5,rfl,N,B,kk⟩;rw[hlen,adG]at N B;refine k a2 R (λb o y g e=>?_) N B O;have e2:=B2 b o y g e;exact kk b o (λz=>by grind) g (s3 _ _ e2)
theorem vU (h:n<S.called.length):S.called[n]?=some (S.bZ n):=by unfold RS.bZ;grind
theorem oO (h:n<S.aS.length):S.aS[n]?=some (S.ao n):=by unfold RS.ao;grind
theorem FH (h:∀l∈S.called,l.length<=m):(S.bZ n).length<=m:=by
 unfold RS.bZ;rw[acd]
 cases e:S.called[n]? with
 |none=>exact acF _
 |some l=>exact h l (ab4 e)
theorem uq (x:Nat):∀(l a:List Nat),(l.foldl (λa n=>a.set n x) a).length=a.length
 |[],_=>rfl
 |n::l,a=>by rw[List.foldl_cons,uq x l,acx]
theorem ints_set (ns:List Int)(i:Nat)(z:Int):(av ns).set i (.int z)=av (ns.set i z):=by
 unfold av;rw[List.map_set]
theorem jm (T:Txt K mg A):bx P w K mg base (bD P w) 2 A.jz A.jA ["self","room","step","one","other","pending"] (BZ A.aw):=by
 refine T.dM.F.okN dQ (λvs H Q E h=>?_) (λcy AA outer s H vs Q E hr h=>?_)
 ·obtain⟨r,p,S,a,c,x,y,z,f,rfl,_⟩:=h;rfl
 ·obtain⟨r,p,S,a,c,x,y,z,f,rfl,h,hw,hx,hy,WC,ok,zr,sm,hP,np,mF,k⟩:=h
  refine⟨_,(aj (a9 (i:=6) dQ.nd Y (Or.inl Y) (bA (xj Y) Y T.C9 PyProof.Rows.boot_min (ae (pv 3) (ae (pv 4) ak))))
   (aj (a9 (i:=7) dQ.nd Y (Or.inl Y) (bA (xi Y) Y T.Jt PyProof.Rows.boot_max (ae (pv 3) (ae (pv 4) ak))))
   (aj (aZ (dP acq acA acB cu (aB (pv 0) Y) (ae (gw (ae (eA (l:=[109,101,101,116]) Y) (ae (pv 1) (ae (pv 2) (ae (pv 6) (ae (pv 7) ak)))))) ak)))
   (aj (aZ (dP acq acA acB cu (aB (pv 0) Y) (ae (pv 7) ak)))
   (aj (eB acH Y (du (bN bS (aB (pv 0) Y) (pv 7) (λ_ _=>rfl))) (cC (i:=8) dQ.nd Y (Or.inl Y))
    (ax (qx (pv 6) (uF (aB (pv 0) Y) (pv 8) set_list))))
   (aj (aZ (dP acq PySem.F.slot_list_extend PySem.F.type_list_extend xt (bN bS (aB (pv 0) Y) (pv 6) (λ_ _=>rfl)) (ae (bN bS (aB (pv 0) Y) (pv 7) (λ_ _=>rfl)) ak)))
   (ax (aZ (bf (pv 0) (aF T) T.kD.m (uo T) hr.Za5 T.kD.b .nil aJ (ae (pv 7) (ae (pv 5) ak))))))))))),?_⟩
  try dsimp only[a8,bQ]
  refine ub ?_;intro BU ya tM oM jG gM;have C:(if (y:Int)<(x:Int) then (y:Int) else (x:Int))=((min x y:Nat):Int):=by split <;> omega
  have D:(if (y:Int) > (x:Int) then (y:Int) else (x:Int))=((max x y:Nat):Int):=by split <;> omega
  have TX:min x y<max x y:=by omega
  have G:max x y<S.made:=by omega
  generalize ev:min x y=u at C TX;have ek:∀a' O,pK a r p H O->aq A.aw O r ((S.joined c z u (max x y)).nK (max x y) f).1 a'->cV O p ((S.joined c z u (max x y)).nK (max x y) f).2->(∀b,a'.own r b->a.own r b\/H b=none)->Q .non O:=λa' O h1 N L g=>k a' O h1 (by unfold RS.meet;rw[ev];exact N) (by unfold RS.meet;rw[ev];exact L) g
  clear k;generalize max x y=v at D TX G ok zr ek;refine⟨_,Y,_,Y,_,_,Y,?_⟩;rw[C];refine⟨_,Y,_,Y,_,_,Y,?_⟩;rw[D];have lR:(a.rs.map V.ref).length<sizeLine:=by rw[ab9,h.rR.1];exact ace sm.r (by decide)
  refine⟨_,Y,r,_,a.dx,_,_,Y,h.ins,aF T,T.rB,r9 _ _ _,.inl ⟨Y,_,aI.of h.hR⟩,_,Y,_,Y,_,Y,_,Y,(Za4 5),λt nt=>⟨a.aR,_,_,Y,Y,ay.upd nt _ _ h.hR,lR,?_⟩⟩;have s1:=ay.upd (o:=.tup [.str (tx [109,101,101,116]),.int (c:Int),.int z,.int (u:Int),.int (v:Int)]) nt;have TY:upd H t (.tup [.str (tx [109,101,101,116]),.int (c:Int),.int z,.int (u:Int),.int (v:Int)]) t=some (.tup [.str (tx [109,101,101,116]),.int (c:Int),.int z,.int (u:Int),.int (v:Int)]):=ah;generalize upd H t (.tup [.str (tx [109,101,101,116]),.int (c:Int),.int z,.int (u:Int),.int (v:Int)])=H1 at s1 TY ⊢
  have Ej:bF H1 4 (.ref t) (gE c z u v):=by
   refine .t TY Y λj w d C D=>?_
   rcases j with _|_|_|_|_|j
   ·simp at C D;subst C D;exact .s
   ·simp at C D;subst C D;exact .i
   ·simp at C D;subst C D;exact .i
   ·simp at C D;subst C D;exact .i
   ·simp at C D;subst C D;exact .i
   ·simp at C
  have nl:lH (gE c z u v):=.t (by show 5<=100000;decide) λd hd=>by
   simp only[aci,ac0,aeV]at hd;rcases hd with rfl|rfl|rfl|rfl|rfl
   ·exact .s
   ·exact .i
   ·exact .i
   ·exact .i
   ·exact .i
  have N:=(h.same s1).za Ej nl;have B2:pK a r p H (upd H1 a.aR (.lst (a.rs.map V.ref++[.ref t]))):=λb o F _ e=>by rw[ai (λz=>F (.inr (.inl (by rw[z];exact fB))))];exact s1 _ _ e
  have XW:∀{b},b∈a.lists->p≠b:=λhb z=>np (.inr (.inl (by rw[z];exact hb)))
  have P2:cV (upd H1 a.aR (.lst (a.rs.map V.ref++[.ref t]))) p f:=hP.keep (λo e=>by rw[ai (XW fB)];exact s1 _ _ e) (λb xs e=>by rw[ai (h.tl e fB)];exact s1 _ _ e);generalize upd H1 a.aR (.lst (a.rs.map V.ref++[.ref t]))=H2 at N B2 P2 ⊢;generalize B1:({ a with rs:=a.rs++[t] }:RA)=a2 at N;have eo:∀b,a2.own r b↔a.own r b:=λb=>by rw[<-B1];exact Iff.rfl
  have vT:¬a2.own r p:=λz=>np ((eo p).mp z)
  have I:∀{b},b∈a2.lists->p≠b:=λhb z=>vT (.inr (.inl (by rw[z];exact hb)))
  have lN:(av (nI S.aX)).length<sizeLine:=by rw[aT,bL];exact ace sm.n (by decide)
  refine⟨_,Y,r,_,a2.dx,_,_,Y,N.ins,aF T,T.rE,sg _ _ _,.inl ⟨Y,_,aI.of N.hN⟩,_,Y,a2.aN,_,_,Y,Y,N.hN,lN,?_⟩;have eN:av (nI S.aX)++[V.int (v:Int)]=av (nI (S.aX++[v])):=by rw[gT,ints_app];rfl
  have L:=N.K1 (S.aX++[v]);rw[<-eN]at L;have B3:pK a r p H (upd H2 a2.aN (.lst (av (nI S.aX)++[V.int (v:Int)]))):=λb o F B e=>by rw[ai (λz=>F ((eo b).mp (.inr (.inl (by rw[z];exact gJ)))))];exact B2 b o F B e
  have P3:cV (upd H2 a2.aN (.lst (av (nI S.aX)++[V.int (v:Int)]))) p f:=P2.keep (λo e=>by rw[ai (I gJ)];exact e) (λb xs e=>by rw[ai (N.tl e gJ)];exact e);show _;generalize upd H2 a2.aN (.lst (av (nI S.aX)++[V.int (v:Int)]))=H3 at L B3 P3 ⊢;obtain⟨pv,J,XX⟩:=L.rC.at (show S.called[v]?=some (S.bZ v) from vU (by rw[hw.c];exact G));have XY:=ab4 J;refine⟨_,Y,r,_,a2.dx,_,_,Y,L.ins,aF T,T.l0,mz _ _ _,_,Y,a2.aC,_,_,_,Y,Y,aI.of L.hC,fQ J,pv,Y,⟨_,aI.of XX⟩,?_⟩;obtain⟨-,-,-,-,-,nc⟩:=uU L.ic;have npE:pv≠a2.aE:=(nc pv XY).2.2.2.1;refine fZ (xs:=av (nI (S.bZ v))) (λi σ M=>∃v8,σ=[some (.ref r),some (.int (c:Int)),some (.int z),some (.int (x:Int)),some (.int (y:Int)),some (.ref p),some (.int (u:Int)),some (.int (v:Int)),v8]/\aq A.aw M r { S with rows:=S.rows++[gE c z u v],aX:=S.aX++[v],aS:=((S.bZ v).take i).foldl (λU n=>U.set n u) S.aS } a2/\pK a r p H M/\cV M p f) ⟨none,Y,L,B3,P3⟩ (λi σ M _ ⟨_,_,g,_,_⟩=>aI.of (g.rC.2 v pv _ J (show S.called[v]?=some (S.bZ v) from vU (by rw[hw.c];exact G)))) ?_ ?_
  ·rintro i w σ M XZ ⟨v8,rfl,g,B4,P4⟩;obtain⟨m,rfl,Z⟩:=dh XZ;unfold nI at Z;rw[aco]at Z
   cases hn:(S.bZ v)[i]? with
   |none=>rw[hn]at Z;cases Z
   |some n=>
    rw[hn]at Z;obtain rfl:(n:Int)=m:=Za0 Z;have Pw:=zr n (ab4 hn);have uP:(((S.bZ v).take i).foldl (λU n=>U.set n u) S.aS).length=S.made:=by rw[uq,hw.e]
    refine⟨_,Y,_,Y,r,_,a2.dx,_,_,Y,g.ins,aF T,T.iZ,i9 _ _ _,_,Y,a2.aE,_,_,n,Y,Y,g.hE,sC (by rw[aT,bL,uP];exact Pw),?_⟩;rw[ints_set,Nq];have h5:=g.xH ((((S.bZ v).take i).foldl (λU n=>U.set n u) S.aS).set n u);refine⟨_,Y,?_,λb o F B e=>?_,P4.keep (λo e=>?_) (λb xs e=>?_)⟩
    ·have FG:(S.bZ v).take (i+ 1)=(S.bZ v).take i++[n]:=by rw[aec,hn];rfl
     rw[FG,List.foldl_append];exact h5
    ·rw[ai (λz=>F ((eo b).mp (.inr (.inl (by rw[z];exact gf)))))];exact B4 b o F B e
    ·rw[ai (I gf)];exact e
    ·rw[ai (g.tl e gf)];exact e
  ·rintro σ M ⟨v8,rfl,g,B4,P4⟩;rw[aT,bL,adG]at g;have X1:u<S.called.length:=by rw[hw.c];omega
   have N4:v<S.called.length:=by rw[hw.c];exact G
   obtain⟨pu,R,T1⟩:=g.rC.at (show S.called[u]?=some (S.bZ u) from vU X1);have VX:=g.rC.2 v pv _ J (show S.called[v]?=some (S.bZ v) from vU N4);have b1:(S.bZ u).length<=1000000:=FH sm.c;have b2:(S.bZ v).length<=1000000:=FH sm.c;refine⟨_,Y,r,_,a2.dx,_,_,Y,g.ins,aF T,T.l0,mz _ _ _,_,Y,a2.aC,_,_,_,Y,Y,aI.of g.hC,fQ R,.inl ⟨Y,_,aI.of T1⟩,?_⟩;refine⟨_,Y,r,_,a2.dx,_,_,Y,g.ins,aF T,T.l0,mz _ _ _,_,Y,a2.aC,_,_,_,Y,Y,aI.of g.hC,fQ J,pu,pv,_,_,Y,Y,T1,VX,?_,?_⟩
   ·rw[aT,aT,bL,bL];exact acr (show _<=2000000 by omega) (by decide)
   have eC:av (nI (S.bZ u))++av (nI (S.bZ v))=av (nI (S.bZ u++S.bZ v)):=by rw[gT,ints_app]
   rw[eC];have h5:=g.Ey R (S.bZ u++S.bZ v);have X:=fJ (ab4 R);have B5:pK a r p H (upd M pu (.lst (av (nI (S.bZ u++S.bZ v))))):=λb o F B e=>by rw[ai (λz=>F ((eo b).mp (.inr (.inl (by rw[z];exact X)))))];exact B4 b o F B e
   have P5:cV (upd M pu (.lst (av (nI (S.bZ u++S.bZ v))))) p f:=P4.keep (λo e=>by rw[ai (I X)];exact e) (λb xs e=>by rw[ai (g.tl e X)];exact e);generalize upd M pu (.lst (av (nI (S.bZ u++S.bZ v))))=H5 at h5 B5 P5 ⊢;have T2:aq A.aw H5 r (S.joined c z u v) a2:=h5;refine⟨_,Y,r,a2.dx,_,Y,T2.ins,cD _ _ _ (by decide),_,Y,_,Y,r,p,S.joined c z u v,a2,v,f,Y,T2,⟨hw.w,hw.g,?_,?_⟩,G,⟨ok.nd,ok.lt,ok.bk⟩,sm.w,P5,vT,mF,λa' O b' r' p' o'=>ek a' O (λb o F B e=>b' b o (λz=>F ((eo b).mp z)) B (B5 b o F B e)) r' p' (λb hb=>?_)⟩
   ·show ((S.bZ v).foldl (λU n=>U.set n u) S.aS).length=S.made;rw[uq];exact hw.e
   ·show (S.called.set u (S.bZ u++S.bZ v)).length=S.made;rw[acx];exact hw.c
   ·rcases o' b hb with q|q
    ·exact .inl ((eo b).mp q)
    ·by_cases ho:a.own r b
     ·exact .inl ho
     ·refine .inr ?_
      cases e:H b with
      |none=>rfl
      |some o=>
       by_cases X2:b=p
       ·obtain⟨qs,q1,_⟩:=P5
        grind
       ·rw[B5 b o ho X2 e]at q;cases q
theorem ur (T:Txt K mg A):bx P w K mg base (bD P w) 3 A.mV A.mW ["self","way","pending"] (Ac A.aw):=by
 refine T.kB.F.okN dE (λvs H Q E h=>?_) (λcy AA N s H vs Q E M h=>?_)
 ·obtain⟨r,t,p,S,a,w,j,rfl,_⟩:=h;rfl
 ·obtain⟨r,t,p,S,a,w,j,rfl,h,ht,ok,x,F,hP,O,L,k⟩:=h;have y:=jW M
  refine⟨_,(aj (a9 (i:=3) dE.nd Y (Or.inl Y) (bN bS (aB (pv 0) Y) (bN fH (pv 1) aM (λ_ _=>rfl)) (λ_ _=>rfl)))
   (aj (a9 (i:=4) dE.nd Y (Or.inl Y) (bN fH (pv 1) aM (λ_ _=>rfl)))
   (aj (a9 (i:=5) dE.nd Y (Or.inl Y) (bN bS (aB (pv 0) Y) (bN fH (pv 1) aM (λ_ _=>rfl)) (λ_ _=>rfl)))
   (aj (a9 (i:=6) dE.nd Y (Or.inl Y) (lE y (bN bS (aB (pv 0) Y) (pv 3) (λ_ _=>rfl)) (pv 4) (pv 5) ⟨Y,Y,Y,Y⟩))
   (aj (a9 (i:=7) dE.nd Y (Or.inl Y) (lE y (bN bS (aB (pv 0) Y) (pv 5) (λ_ _=>rfl)) (gI fb (pv 4)) (pv 3) ⟨Y,Y,Y,Y⟩))
   (ax (cw (bV (bq oY (pv 6) (pv 5) (bC _))
    (ax (aZ (bf (pv 0) (aF T) T.dM.m (jm T) (M.mono (by decide)) T.dM.b .nil aJ (ae (pv 3) (ae (pv 4) (ae (pv 6) (ae (pv 5) (ae (pv 2) ak))))))))
    (ax (cw (bV (bq oY (pv 7) (pv 3) (bC _))
     (ax (aZ (bf (pv 0) (aF T) T.dM.m (jm T) (M.mono (by decide)) T.dM.b .nil aJ (ae (pv 5) (ae (gI fb (pv 4)) (ae (pv 7) (ae (pv 3) (ae (pv 2) ak))))))))
     (ax (aZ (bf (pv 0) (aF T) T.jD.m (ql T) (M.mono (by decide)) T.jD.b .nil aJ (ae (pv 3) (ae (pv 4) (ae (pv 5) ak))))))))))))))))),?_⟩
  try dsimp only[a8,bQ]
  refine ua ?_;intro ya tM oM jG gM;have X:bT K H t [.int (w.1:Int),.int w.2.1,.int (w.2.2:Int)]:=bT.of ht;have J:∀{c:Nat},c<S.made->S.aS[c]?=some (S.ao c):=λ{c} u=>oO (by rw[ok.wf.e];exact u)
  have u:=ok.el _ x;have B:=ok.el _ F;refine⟨_,Y,r,_,a.dx,_,_,Y,h.ins,aF T,T.iZ,i9 _ _ _,_,Y,t,_,_,_,Y,Y,X,(rfl:lu _ (0:Int)=_),a.aE,_,_,_,Y,Y,aI.of h.hE,dA (cJ (iB (J x))),?_⟩;refine⟨_,Y,t,_,_,_,Y,Y,X,(rfl:lu _ (1:Int)=_),?_⟩;refine⟨_,Y,r,_,a.dx,_,_,Y,h.ins,aF T,T.iZ,i9 _ _ _,_,Y,t,_,_,_,Y,Y,X,(rfl:lu _ (2:Int)=_),a.aE,_,_,_,Y,Y,aI.of h.hE,dA (cJ (iB (J F))),?_⟩;have g:=k;clear k;unfold RS.takeIn at g;generalize S.ao w.1=c at u g ⊢;generalize S.ao w.2.2=d at B g ⊢;generalize w.2.1=z at g ⊢;obtain⟨pc,FI,v⟩:=h.rW.at (oK (S:=S) (c:=c) (by rw[ok.wf.w];exact u));obtain⟨pd,X3,G⟩:=h.rW.at (oK (S:=S) (c:=d) (by rw[ok.wf.w];exact B));have gd:∀(o:Option Nat) (n:Nat),(o.map λr:Nat=>V.int (r:Int)).getD (.int (n:Int))=V.int ((o.getD n:Nat):Int):=λo n=>by cases o <;> rfl
  refine⟨_,Y,r,_,a.dx,_,_,Y,h.ins,aF T,T.iD,hL _ _ _,_,Y,a.aW,_,_,_,Y,Y,aI.of h.hW,fQ FI,pc,Y,.inl ⟨_,.inl v⟩,_,Y,_,Y,_,fI.k (k:=Sum.inl z) v,?_⟩;rw[j4,gd];show _;refine⟨_,Y,r,_,a.dx,_,_,Y,h.ins,aF T,T.iD,hL _ _ _,_,Y,a.aW,_,_,_,Y,Y,aI.of h.hW,fQ X3,pd,Y,.inl ⟨_,.inl G⟩,_,Y,_,Y,_,Y,_,fI.k (k:=Sum.inl (-z)) G,?_⟩;rw[j4,gd];have e1:eY (S.way c) z=S.by c z:=rfl;have e2:eY (S.way d) (-z)=S.by d (-z):=rfl;rw[e1,e2]
  have hl:(S.by c z).getD d<S.made:=by
   cases e:S.by c z with
   |none=>exact B
   |some m=>exact ok.bl _ _ _ e
  have hf:(S.by d (-z)).getD c<S.made:=by
   cases e:S.by d (-z) with
   |none=>exact u
   |some m=>exact ok.bl _ _ _ e
  generalize (S.by c z).getD d=l at hl g ⊢;generalize (S.by d (-z)).getD c=f at hf g ⊢
  have ne:∀{m n:Nat},m≠n->(!decide (V.int (m:Int)=V.int (n:Int)))=true:=λ{m n} q=>by
   grind
  refine⟨λ_ I=>Q .non I,?_,λ_ _ q=>q⟩;by_cases C:l≠d
  ·rw[acv C]at g;refine⟨_,Y,_,Y,Y,_,Y,?_⟩;rw[ne C];refine iL ?_;exact⟨_,Y,r,a.dx,_,Y,h.ins,cD _ _ _ (by decide),_,Y,_,Y,_,Y,_,Y,_,Y,r,p,S,a,c,l,d,z,j,Y,h,ok.wf,hl,B,C,ok.off _ (by omega),λn Z=>ok.cl _ n Z,ok.sm,hP,O,L,g⟩
  ·have X4:l=d:=aeW.mp C;rw[acm C]at g;refine⟨_,Y,_,Y,Y,_,Y,uN (by rw[X4]) ?_⟩;refine⟨λ_ I=>Q .non I,?_,λ_ _ q=>q⟩;by_cases D:f≠c
   ·rw[acv D]at g;refine⟨_,Y,_,Y,Y,_,Y,?_⟩;rw[ne D];refine iL ?_;exact⟨_,Y,r,a.dx,_,Y,h.ins,cD _ _ _ (by decide),_,Y,_,Y,_,Y,_,Y,_,Y,_,Y,r,p,S,a,d,f,c,-z,j,Y,h,ok.wf,hf,u,D,ok.off _ (by omega),λn Z=>ok.cl _ n Z,ok.sm,hP,O,L,g⟩
   ·have R:f=c:=aeW.mp D;rw[acm D]at g;refine⟨_,Y,_,Y,Y,_,Y,uN (by rw[R]) ?_⟩;refine⟨_,Y,r,a.dx,_,Y,h.ins,cD _ _ _ (by decide),_,Y,_,Y,_,Y,r,S,a,c,d,z,Y,h,ok.wf,u,B,ok.sm.w,λI U r'=>g a I (λb o nb _ e=>U b o nb e) r' (hP.keep (λo e=>U _ _ O e) (λb xs e=>U _ _ (h.sh e) e)) λb hb=>.inl hb⟩
theorem Ad (T:Txt K mg A):bx P w K mg base (bD P w) 5 A.tH A.tI ["self","room","step","other","row"] (JK A.aw):=by
 refine T.rq.F.okN rJ (λvs H Q E h=>?_) (λcy AA outer s H vs Q E hr h=>?_)
 ·obtain⟨r,q,S,a,c,d,z,row,I,μ,rfl,_⟩:=h;rfl
 ·obtain⟨r,q,S,a,c,d,z,row,I,μ,rfl,h,vR,hq,v,hI,step,k⟩:=h
  refine⟨_,(aj (aZ (dP acq acA acB cu (aB (pv 0) Y) (ae (bH (x8 T) hr.Za5 Y T.own.m T.own.F.kp T.own.b .nil aJ (ae (pv 4) ak)) ak)))
   (aj (a9 (i:=5) rJ.nd Y (Or.inl Y) (cq (ae (gw (ae (pv 1) (ae (pv 2) (ae (pv 3) ak)))) ak)))
   (ax (cw (fY acH (yG (pv 5) (λ_=>rfl))
    (ax (aZ (bf (pv 0) (aF T) T.kB.m (ur T) hr.Za5 T.kB.b .nil aJ (ae (DU acq PySem.F.slot_list_pop PySem.F.type_list_pop DV (pv 5)) (ae (pv 5) ak)))))))))),?_⟩
  try dsimp only[a8,bQ]
  refine eF ?_;intro jG gM;have lR:(a.rs.map V.ref).length<sizeLine:=by rw[ab9,h.rR.1];exact ace vR (by decide)
  obtain⟨ds,rfl⟩:∃ds,row=.t ds:=by
   cases hq with
   |t=>grind
   |l=>cases v
  refine⟨_,Y,r,_,a.dx,_,_,Y,h.ins,aF T,T.rB,r9 _ _ _,.inl ⟨Y,_,aI.of h.hR⟩,_,Y,.ref q,.t ds,Y,hq,v,λv' H1 s1 T3=>?_⟩;obtain⟨q',rfl⟩:∃q',v'=.ref q':=by cases T3 with|t=>grind
  refine⟨a.aR,_,_,Y,Y,s1 _ _ h.hR,lR,?_⟩;have h2:=(h.same s1).za (T3.le (by decide)) v;have B2:cR a r H (upd H1 a.aR (.lst (a.rs.map V.ref++[.ref q']))):=λb o u e=>by rw[ai (λz=>u (.inr (.inl (by rw[z];exact fB))))];exact s1 _ _ e
  generalize upd H1 a.aR (.lst (a.rs.map V.ref++[.ref q']))=H2 at h2 B2 ⊢;generalize B1:({ a with rs:=a.rs++[q'] }:RA)=a2 at h2;have eo:∀b,a2.own r b↔a.own r b:=λb=>by rw[<-B1];exact Iff.rfl
  refine⟨_,Y,_,Y,_,Y,(Za4 3),λt nt=>?_⟩;have s3:=ay.upd (o:=.tup [.int (c:Int),.int z,.int (d:Int)]) nt;have T4:upd H2 t (.tup [.int (c:Int),.int z,.int (d:Int)]) t=some (.tup [.int (c:Int),.int z,.int (d:Int)]):=ah;generalize upd H2 t (.tup [.int (c:Int),.int z,.int (d:Int)])=H3 at s3 T4 ⊢;refine⟨(Za4 1),λp T5=>?_⟩;have s4:=ay.upd (o:=.lst [.ref t]) T5;have T6:upd H3 p (.lst [.ref t]) p=some (.lst [.ref t]):=ah;have X:¬a2.own r p:=(h2.same s3).Aa T5;generalize upd H3 p (.lst [.ref t])=H4 at s4 T6 ⊢
  have npH:H p=none:=by
   cases e:H p with
   |none=>rfl
   |some o=>have:=s3 _ _ (B2 p o (λz=>X ((eo p).mpr z)) e);grind
  have B4:cR a r H H4:=λb o u e=>s4 _ _ (s3 _ _ (B2 b o u e))
  have P4:cV H4 p [(c,z,d)]:=⟨[t],T6,Each.snoc (ps:=[]) (xs:=[]) ⟨Y,λi p d h=>by simp at h⟩ (s4 _ _ T4)⟩;refine⟨λ_ O=>Q .non O,?_,λ_ _ q=>q⟩;refine⟨λm σ j=>∃B L pend,m=μ B pend/\σ=[some (.ref r),some (.int (c:Int)),some (.int z),some (.int (d:Int)),some (.ref q),some (.ref p)]/\aq A.aw j r B L/\cV j p pend/\I B pend/\¬L.own r p/\(∀b o,¬a.own r b->b≠p->H b=some o->j b=some o)/\∀b,L.own r b->a.own r b\/H b=none,⟨_,_,a2,[(c,z,d)],Y,Y,(h2.same s3).same s4,P4,hI,X,λb o u _ e=>B4 b o u e,λb J=>.inl ((eo b).mp J)⟩,?_⟩;rintro m σ j ⟨B,L,pend,rfl,rfl,h5,P5,I5,M,B5,O5⟩;obtain⟨R,y,x⟩:=id P5;refine⟨_,Y,!(R.map V.ref).isEmpty,.inl ⟨_,aI.of y,Y⟩,?_⟩;by_cases F:pend=[]
  ·subst F;have X5:R=[]:=adv x.1;subst X5;refine dc ?_;exact k B L j (λb o u e=>B5 b o u (λz=>by grind) e) h5 I5 O5
  ·have N:=adV F;generalize pend.getLast F=w at N;generalize pend.dropLast=pre at N;subst N;have D:R.length=pre.length+ 1:=by rw[x.1,ab6];rfl
   have U:R≠[]:=λz=>by rw[z]at D;cases D
   have n:=adV U;generalize R.getLast U=C at n;generalize R.dropLast=f at n;subst n;have mF:f.length=pre.length:=by rw[ab6]at D;have:([C]:List Addr).length=1:=rfl;omega
   obtain⟨ok,X6,JL,J,X7,JM⟩:=step B pre w I5;have X8:j C=some (.tup [.int (w.1:Int),.int w.2.1,.int (w.2.2:Int)]):=x.2 pre.length C w (by rw[<-mF,acp (aca _),adY];rfl) (by grind);have ht:(!((f++[C]).map V.ref).isEmpty)=true:=by simp
   rw[ht];refine iL ?_;refine⟨λ fU O=>∃S6 a6 g,μ S6 g < μ B (pre++[w])/\fU=[some (.ref r),some (.int (c:Int)),some (.int z),some (.int (d:Int)),some (.ref q),some (.ref p)]/\aq A.aw O r S6 a6/\cV O p g/\I S6 g/\¬a6.own r p/\(∀b o,¬a.own r b->b≠p->H b=some o->O b=some o)/\∀b,a6.own r b->a.own r b\/H b=none,λ fU O ⟨S6,a6,g,lt,e1,e2,e3,e4,e5,e6,e7⟩=>⟨_,lt,S6,a6,g,Y,e1,e2,e3,e4,e5,e6,e7⟩,?_⟩;refine⟨_,Y,r,L.dx,_,Y,h5.ins,cD _ _ _ (by decide),_,Y,.inl ⟨Y,_,aI.of y⟩,p,_,.ref C,Y,Y,y,?_,?_⟩
   ·rw[acR,ab6];show ((f.map V.ref)++[V.ref C])[(f.map V.ref).length+ 1 - 1]?=_
    rw[Nat.add_sub_cancel,acp (aca _),adY];rfl
   have Px:((f++[C]).map V.ref).dropLast=f.map V.ref:=by rw[acR];exact List.dropLast_concat
   rw[Px];have kp:∀b o,b≠p->j b=some o->upd j p (.lst (f.map V.ref)) b=some o:=λb o u e=>by rw[ai u];exact e
   have kt:∀b xs,j b=some (.tup xs)->upd j p (.lst (f.map V.ref)) b=some (.tup xs):=λb xs e=>kp b _ (b6 e y (by grind)) e
   have h6:=h5.keep (λb o J e=>kp b o (λz=>M (z ▸ J)) e) kt;have P6:cV (upd j p (.lst (f.map V.ref))) p pre:=⟨f,ah,mF,λi t' w' e1 e2=>kt _ _ (x.2 i t' w' (by rw[acn (ab5.mp e1).1];exact e1) (by rw[acn (ab5.mp e2).1];exact e2))⟩;generalize upd j p (.lst (f.map V.ref))=H6 at kp kt h6 P6 ⊢;refine⟨_,Y,r,C,p,B,L,w,pre,Y,h6,kt _ _ X8,ok,X6,JL,P6,M,J,λa7 H7 b7 h7 P7 o7=>?_⟩;refine⟨_,a7,_,JM,Y,h7,P7,X7,λz=>?_,λb o u G e=>b7 b o (λz=>?_) G (kp b o G (B5 b o u G e)),λb J=>?_⟩
   ·rcases o7 p z with Z|Z
    ·exact M Z
    ·obtain⟨_,q2,_⟩:=P6;grind
   ·grind
   ·rcases o7 b J with Z|Z
    ·exact O5 b Z
    ·by_cases ho:a.own r b
     ·exact .inl ho
     ·refine .inr ?_
      cases e:H b with
      |none=>rfl
      |some o=>
       grind
theorem LX {a:Type}{ws:List a}{z:a}(h:ws[i]?=some z):ws.drop i=z::ws.drop (i+ 1):=by
 have b:=(ab5.mp h).1;rw[ae1 b,(ab5.mp h).2]
inductive Ae (C:Addr) (vs:List V) (H:Hp) (Q:VK) (E_:XK):Prop
 |mk (r:Addr) (S:RS) (a:RA) (c:Nat) (t:Addr) (ws:List Int):vs=[.ref r,.int c,.ref t]->aq C H r S a->S.Wf->c<S.made->(∀c z d,S.by c z=some d->d<S.made)->H t=some (.tup (av ws))->ws.length<=1000->(∀l H',ay H H'->H' l=some (.lst (av (nI (c::b8 S.by c ws))))->Q (.ref l) H')->Ae C vs H Q E_
theorem yc (T:Txt K mg A):bx P w K mg base (bD P w) 2 A.zJ A.zK ["rooms","room","word"] (Ae A.aw):=by
 refine T.walked.F.okN m3 (λX H Q E h=>?_) (λcy AA F s H X Q E hr h=>?_)
 ·obtain⟨r,S,a,c,t,ws,rfl,_⟩:=h;rfl
 ·obtain⟨r,S,a,c,t,ws,rfl,h,hw,hc,G,N,B7,k⟩:=h
  refine⟨_,(aj (a9 (i:=3) m3.nd Y (Or.inl Y) (cq (ae (pv 1) ak)))
   (aj (eB acH Y (DG (pv 2)) (cC (i:=4) m3.nd Y (Or.inl Y))
    (aj (a9 (i:=1) m3.nd Y (Or.inl Y) (bf (pv 0) (aF T) T.dC.m (gG T) hr.Za5 T.dC.b .nil aJ (ae (pv 1) (ae (pv 4) ak))))
    (aj (bV (bq qy (pv 1) c9 (bC _))
     (ax tX)
     bG)
    (ax (aZ (dP acq acA acB cu (pv 3) (ae (pv 1) ak)))))))
   (ax (bB (pv 3))))),?_⟩
  try dsimp only[a8,bQ]
  refine eF ?_;intro U gM;refine⟨_,Y,(Za4 1),λl C=>?_⟩;have y:=ay.upd (o:=.lst [.int (c:Int)]) C;have m:upd H l (.lst [.int (c:Int)]) l=some (.lst (av (nI [c]))):=ah;have J:¬a.own r l:=h.Aa C;generalize upd H l (.lst [.int (c:Int)])=O at y m ⊢;have v:=y _ _ N;have D:t≠l:=au N C;refine⟨_,Y,t,Y,⟨_,bT.of v⟩,?_⟩
  have fin:∀{f:Hp} {pre:List Nat},(∀b o,b≠l->O b=some o->f b=some o)->f l=some (.lst (av (nI (c::pre))))->b8 S.by c ws=pre->Q (.ref l) f:=λ{f pre} g d e=>by
   subst e;exact k l f (λb o e=>g b o (au e C) (y _ _ e)) d
  refine Kt (xs:=av ws) (λi B f=>∃cur:Nat,∃pre L,B=[some (.ref r),some (.int (cur:Int)),some (.ref t),some (.ref l),L]/\cur<S.made/\pre.length=i/\b8 S.by c ws=pre++b8 S.by cur (ws.drop i)/\(∀b o,b≠l->O b=some o->f b=some o)/\f l=some (.lst (av (nI (c::pre))))) ⟨c,[],none,Y,hc,Y,Y,λ_ _ _ e=>e,m⟩ (λi B f _ q0=>by obtain⟨_,_,_,_,_,_,_,g,_⟩:=q0;exact bT.of (g _ _ D v)) ?_ ?_
  ·rintro i x B f hx ⟨cur,pre,L,rfl,u,p,j,g,d⟩;obtain⟨z,rfl,R⟩:=dh hx;have hi:i<ws.length:=(ab5.mp R).1;have M:aq A.aw f r S a:=(h.same y).keep (λb o hb e=>g b o (λq=>J (q ▸ hb)) e) (λb Z e=>g b _ (b6 e m (by grind)) e);rw[LX R]at j;refine⟨_,Y,r,a.dx,_,Y,M.ins,cD _ _ _ (by decide),_,Y,_,Y,r,S,a,cur,z,Y,M,by rw[hw.w];omega,?_⟩
   cases I:S.by cur z with
   |none=>
    refine⟨_,Y,Y,_,Y,iL ?_⟩;rw[xR I,acD]at j;exact⟨_,Y,fin g d j⟩
   |some b=>
    rw[show (Option.map (λn:Nat=>V.int (n:Int)) (some b)).getD V.non=V.int (b:Int) from rfl];refine⟨_,Y,Y,_,Y,dc ?_⟩;rw[mE I]at j;refine⟨_,Y,.inl ⟨Y,_,aI.of d⟩,_,Y,l,_,_,Y,Y,d,?_,?_⟩
    ·rw[aT,bL,acC,p];exact ace (show i+ 1<=1001 by omega) (by decide)
    refine⟨b,pre++[b],_,Y,G _ _ _ I,by rw[ab6,p];rfl,by rw[j,adb];rfl,λx o n e=>by rw[ai n];exact g x o n e,?_⟩;rw[ah,<-aeB,gT,ints_app];rfl
  ·rintro B f ⟨cur,pre,L,rfl,u,p,j,g,d⟩;rw[aT,List.drop_length]at j;exact⟨_,Y,fin g d (by rw[j];exact acD _)⟩
def fS (g:Gg)(a:Addr):List (Str×V):=[("which",.int g.which),("word",.ref a),("start",.int g.start),("front",.int g.front),("first",.int g.first),("rear",.int g.bj),("last",.int g.last)]
theorem Io (g:Gg)(a:Addr):(fS g a).lookup ("which":Str)=some (.int g.which):=by kernel_rfl
theorem jS (g:Gg)(a:Addr):(fS g a).lookup ("word":Str)=some (.ref a):=by kernel_rfl
theorem uv (g:Gg)(a:Addr):(fS g a).lookup ("start":Str)=some (.int g.start):=by kernel_rfl
theorem jT (g:Gg)(a:Addr):(fS g a).lookup ("front":Str)=some (.int g.front):=by kernel_rfl
theorem gq (g:Gg)(a:Addr):(fS g a).lookup ("first":Str)=some (.int g.first):=by kernel_rfl
theorem jU (g:Gg)(a:Addr):(fS g a).lookup ("rear":Str)=some (.int g.bj):=by kernel_rfl
theorem jV (g:Gg)(a:Addr):(fS g a).lookup ("last":Str)=some (.int g.last):=by kernel_rfl
theorem JN {g:Gg}(h:x∉(["which","word","start","front","first","rear","last"]:List Str)):(fS g a).lookup x=none:=by
 simp only[aci,ac0,aeV,not_or]at h;obtain⟨j,b,i,c,f,d,e⟩:=h;unfold fS;simp only[List.lookup,acj.mpr j,acj.mpr b,acj.mpr i,acj.mpr c,acj.mpr f,acj.mpr d,acj.mpr e]
theorem Af (g:Gg)(a:Addr)(n:Nat):bJ "front" (.int n) (fS g a)=fS { g with front:=n } a:=by kernel_rfl
theorem Ip (g:Gg)(a:Addr)(n:Nat):bJ "first" (.int n) (fS g a)=fS { g with first:=n } a:=by kernel_rfl
theorem B9 (g:Gg)(b:Addr)(n:Nat):bJ "rear" (.int n) (fS g b)=fS { g with bj:=n } b:=by kernel_rfl
theorem LY (g:Gg)(a:Addr)(n:Nat):bJ "last" (.int n) (fS g a)=fS { g with last:=n } a:=by kernel_rfl
structure dN (CG:Addr) (H:Hp) (p dx wa:Addr) (g:Gg):Prop where
 ins:H p=some (.ins CG dx (fS g wa))
 wo:H wa=some (.tup (av g.word))
theorem dN.same {dx:Addr}{g:Gg}(h:dN a H b dx c g)(s:ay H I):dN a I b dx c g:=⟨s _ _ h.ins,s _ _ h.wo⟩
theorem dN.set {dx:Addr}{g g':Gg}(h:dN a H b dx c g)(e:g'.word=g.word):dN a (upd H b (.ins a dx (fS g' c))) b dx c g':=⟨ah,by rw[ai (b6 h.wo h.ins (by grind)),e];exact h.wo⟩
def ie (a:List (List Int×Nat)):List (List Key×V):=a.map λp=>(p.1.map Sum.inl,V.int p.2)
structure wU (rs:Za3) (fp:List (List Int×Nat)):Prop where
 a:∀p∈fp,rs[p.2]?=some p.1
 b:∀w∈rs,∃n,(w,n)∈fp
 n:(fp.map (·.1)).Nodup
theorem Ag {c:List (List Int×Nat)}(w:List Int):bz (ie c) (w.map Sum.inl)=((c.find? λp=>decide (p.1=w)).map λp=>V.int p.2):=by
 induction c with
 |nil=>rfl
 |cons p l d=>
  by_cases h:p.1=w
  ·rw[List.find?_cons_of_pos (by grind)];exact cM (p:=(p.1.map Sum.inl,V.int p.2)) (by rw[h])
  ·rw[aeG (by simpa using h)];refine(cF (p:=(p.1.map Sum.inl,V.int p.2)) (λz=>h ?_)).trans d
   have inj:∀{a b:List Int},a.map (Sum.inl:Int->Key)=b.map Sum.inl->a=b:=λ{a b} e=>by
    induction a generalizing b with
    |nil=>cases b with|nil=>rfl|cons=>cases e
    |cons x a d=>cases b with
     |nil=>cases e
     |cons y b=>grind
   exact inj z
def Iq:Sp:=λc H Q _=>∃(l:Addr) (rs:Za3),c=[.ref l]/\cj H l rs/\rs.length<=1000/\∀d b a,ay H a->H d=none->a d=some (.dT (ie b))->wU rs b->Q (.ref d) a
theorem vV (T:Txt K mg A):bx P w K mg base (bD P w) 1 A.oh A.oj ["rules"] Iq:=by
 refine T.jB.F.okN gL (λvs H Q E h=>?_) (λcy AA N s H vs Q E hr h=>?_)
 ·obtain⟨l,rs,rfl,_⟩:=h;rfl
 ·obtain⟨l,rs,rfl,hW,hl,k⟩:=h;have O:=jW hr
  refine⟨_,(aj (a9 (i:=1) gL.nd Y (Or.inl Y) GP)
   (aj (eB acH Y (GZ Y T.tJ (pv 0)) (uE Y (gQ (cC (i:=2) gL.nd Y (Or.inl Y)) (gQ (cC (i:=3) gL.nd Y (Or.inl Y)) rS)))
    (ax (aZ (He O (pv 1) (pv 3) (pv 2) ⟨Y,Y,Y,Y⟩))))
   (ax (bB (pv 1))))),?_⟩
  try dsimp only[a8,bQ]
  refine eF ?_;intro jG gM;obtain⟨D,x,y⟩:=id hW;refine λd L=>?_
  have R:=ay.upd (o:=.dT []) L;have q1:upd H d (.dT []) d=some (.dT (ie [])):=ah;generalize upd H d (.dT [])=H1 at R q1 ⊢;have ndl:l≠d:=au x L;refine⟨_,Y,l,Y,⟨_,aI.of (R _ _ x)⟩,?_⟩
  refine Ek (K:=K) (a:=l) (xs:=D.map V.ref) (λi J B=>∃c v2 v3,J=[some (.ref l),some (.ref d),v2,v3]/\ay H B/\B d=some (.dT (ie c))/\(∀p∈c,rs[p.2]?=some p.1/\p.2<i)/\(∀(j:Nat) (w:List Int),j<i->rs[j]?=some w->∃n,(w,n)∈c)/\(c.map (·.1)).Nodup/\c.length<=i)
   ⟨[],none,none,Y,R,q1,(λp f=>by cases f),λj w G=>absurd G (by omega),adM,aca _⟩ (λi J B _ q0=>by obtain⟨_,_,_,_,s2,_⟩:=q0;exact aI.of (s2 _ _ x)) ?_ ?_
  ·rintro i v J B t M nt ⟨c,v2,v3,rfl,s2,Z,C,U,S,hlen⟩
   have g:i<D.length:=by
    have:=(ab5.mp M).1;rw[ab9]at this;exact this
   have r:i<rs.length:=by rw[<-y.1];exact g
   have g1:D[i]?=some (D[i]'g):=ab3 g
   have g2:rs[i]?=some (rs[i]'r):=ab3 r
   rw[aco,g1]at M;obtain rfl:V.ref (D[i]'g)=v:=Za0 M;generalize D[i]'g=q at g1;generalize rs[i]'r=w at g2;have I:=ay.upd (o:=.tup [.int (i:Int),.ref q]) nt;refine⟨t,_,Y,bT.of ah,Y,_,_,Y,_,_,Y,Y,?_⟩;generalize upd B t (.tup [.int (i:Int),.ref q])=H3 at I ⊢;have m:=I _ _ Z;have hq:H3 q=some (.tup ((w.map (Sum.inl:Int->Key)).map kV)):=by rw[ac7];exact(s2.trans I) _ _ (y.2 i q w g1 g2)
   refine⟨_,Y,d,Y,.inr ⟨_,.inl m⟩,_,Y,_,Y,ie c,w.map Sum.inl,q,m,Y,hq,?_,λv F=>?_,λF=>?_⟩
   ·unfold ie;rw[ab9];exact ace (show c.length<=1000 by omega) (by decide)
   ·rw[Ag]at F;obtain⟨p,f,rfl⟩:=adf.mp F;have e:p.1=w:=by have h9:=List.find?_some f;simpa using h9
    have hm:=List.mem_of_find?_eq_some f;refine⟨c,_,_,Y,s2.trans I,m,λp f=>⟨(C p f).1,by have:=(C p f).2;omega⟩,λj u G eu=>?_,S,by omega⟩;by_cases X:j<i
    ·exact U j u X eu
    ·grind
   ·rw[Ag]at F
    have hno:∀p∈c,p.1≠w:=λp f e=>by
     have:=List.find?_eq_none.mp (afl.mp F) p f
     grind
    have ep:putK (ie c) (w.map Sum.inl) (V.int (i:Int))=ie (c++[(w,i)]):=by
     rw[yU _ (by rw[Ag];exact F)];unfold ie;rw[acR];rfl
    rw[ep];have Py:H d=none:=L;refine⟨c++[(w,i)],_,_,Y,λb o e=>by rw[ai (au e Py)];exact(s2.trans I) _ _ e,ah,λp f=>?_,λj u G eu=>?_,?_,by rw[ab6];show _+ 1<=_;omega⟩
    ·rcases ach.mp f with z|z
     ·exact⟨(C p z).1,by have:=(C p z).2;omega⟩
     ·rw[acb.mp z];exact⟨g2,by show i<i+ 1;omega⟩
    ·grind
    grind
  ·rintro J B ⟨c,v2,v3,rfl,s2,Z,C,U,S,hlen⟩;refine⟨_,Y,k d c B s2 L Z ⟨λp f=>(C p f).1,λw hw=>?_,S⟩⟩;obtain⟨j,G⟩:=acJ hw;exact U j w (by rw[ab9,y.1];exact(ab5.mp G).1) G
def yd (a:Nat)(word:List Int)(start:Nat):Gg:=⟨a,word,start,start,0,start,word.length - 1⟩
inductive FJ (CG:Addr) (vs:List V) (H:Hp) (Q:VK) (E_:XK):Prop
 |mk (x dx wa:Addr) (which start:Nat) (word:List Int):vs=[.ref x,.int which,.ref wa,.int start]->H x=some (.ins CG dx [])->H wa=some (.tup (av word))->1<=word.length->word.length<=1000->(∀H',(∀b o,H b=some o->b≠x->H' b=some o)->dN CG H' x dx wa (yd which word start)->Q .non H')->FJ CG vs H Q E_
def JP (a start:Nat)(b:Addr)(l:Int):List (Str×V):=[("which",.int a)]
def JQ (a start:Nat)(b:Addr)(l:Int):List (Str×V):=[("which",.int a),("word",.ref b)]
def JR (a start:Nat)(b:Addr)(l:Int):List (Str×V):=[("which",.int a),("word",.ref b),("start",.int start)]
def JS (a start:Nat)(b:Addr)(l:Int):List (Str×V):=[("which",.int a),("word",.ref b),("start",.int start),("front",.int start)]
def JT (a start:Nat)(b:Addr)(l:Int):List (Str×V):=[("which",.int a),("word",.ref b),("start",.int start),("front",.int start),("first",.int 0)]
def JV (a start:Nat)(b:Addr)(l:Int):List (Str×V):=[("which",.int a),("word",.ref b),("start",.int start),("front",.int start),("first",.int 0),("rear",.int start)]
def Pz (a start:Nat)(b:Addr)(l:Int):List (Str×V):=[("which",.int a),("word",.ref b),("start",.int start),("front",.int start),("first",.int 0),("rear",.int start),("last",.int l)]
theorem X9 (a start:Nat)(b:Addr)(l:Int):bJ "word" (.ref b) (JP a start b l)=JQ a start b l:=dB (by kernel_rfl)
theorem Ya (a start:Nat)(b:Addr)(l:Int):bJ "start" (.int start) (JQ a start b l)=JR a start b l:=dB (by kernel_rfl)
theorem Yb (a start:Nat)(b:Addr)(l:Int):bJ "front" (.int start) (JR a start b l)=JS a start b l:=dB (by kernel_rfl)
theorem Yc (a start:Nat)(b:Addr)(l:Int):bJ "first" (.int 0) (JS a start b l)=JT a start b l:=dB (by kernel_rfl)
theorem Yd (a start:Nat)(b:Addr)(l:Int):bJ "rear" (.int start) (JT a start b l)=JV a start b l:=dB (by kernel_rfl)
theorem Ye (a start:Nat)(b:Addr)(l:Int):bJ "last" (.int l) (JV a start b l)=Pz a start b l:=dB (by kernel_rfl)
theorem sL (T:Txt K mg A):bx P w K mg base (bD P w) 1 A.iU A.lS ["self","which","word","start"] (FJ A.aH):=by
 refine T.hU.F.okN sF (λL H Q E h=>?_) (λcy AA j s H L Q E hr h=>?_)
 ·obtain⟨x,c,d,a,start,word,rfl,_⟩:=h;rfl
 ·obtain⟨x,c,d,a,start,word,rfl,v,f,M,X,k⟩:=h
  refine⟨_,(aj (bW (pv 0) (pv 1) Y)
   (aj (bW (pv 0) (pv 2) Y)
   (aj (bW (pv 0) (pv 3) Y)
   (aj (bW (pv 0) (pv 3) Y)
   (aj (bW (pv 0) aM Y)
   (aj (bW (pv 0) (pv 3) Y)
   (ax (bW (pv 0) (bP j1 (bA bM Y T.fj acX (ae (pv 2) ak)) aM) Y)))))))),?_⟩
  try dsimp only[a8,bQ]
  refine ub ?_;intro BU Z tM I G R;have st:∀{H0:Hp} {fs gs:List (Str×V)},H0 x=some (.ins A.aH c fs)->(∀b o,H b=some o->b≠x->H0 b=some o)->upd H0 x (.ins A.aH c gs) x=some (.ins A.aH c gs)/\∀b o,H b=some o->b≠x->upd H0 x (.ins A.aH c gs) b=some o:=λ_ h=>⟨ah,λb o e n=>by rw[ai n];exact h b o e n⟩
  have g:d≠x:=b6 f v (by grind);have o0:∀b o,H b=some o->b≠x->H b=some o:=λb o e _=>e
  refine⟨_,Y,_,Y,x,_,c,_,Y,v,aO T,T.zM,(by show 0<1000;decide),?_⟩;rw[show bJ "which" (.int a) []=JP a start d (((word.length - 1:Nat):Int)) from rfl];obtain⟨i,z⟩:=st (gs:=JP a start d (((word.length - 1:Nat):Int))) v o0;generalize upd H x (.ins A.aH c (JP a start d (((word.length - 1:Nat):Int))))=S at i z ⊢;refine⟨_,Y,_,Y,x,_,c,_,Y,i,aO T,T.jk,(by show 1<1000;decide),?_⟩;rw[X9];obtain⟨r,F⟩:=st (gs:=JQ a start d (((word.length - 1:Nat):Int))) i z;generalize upd S x (.ins A.aH c (JQ a start d (((word.length - 1:Nat):Int))))=H2 at r F ⊢;refine⟨_,Y,_,Y,x,_,c,_,Y,r,aO T,T.pH,(by show 2<1000;decide),?_⟩;rw[Ya];obtain⟨l,C⟩:=st (gs:=JR a start d (((word.length - 1:Nat):Int))) r F;generalize upd H2 x (.ins A.aH c (JR a start d (((word.length - 1:Nat):Int))))=N at l C ⊢;refine⟨_,Y,_,Y,x,_,c,_,Y,l,aO T,T.gk,(by show 3<1000;decide),?_⟩;rw[Yb];obtain⟨t,B⟩:=st (gs:=JS a start d (((word.length - 1:Nat):Int))) l C;generalize upd N x (.ins A.aH c (JS a start d (((word.length - 1:Nat):Int))))=O at t B ⊢;refine⟨_,Y,x,_,c,_,Y,t,aO T,T.eJ,(by show 4<1000;decide),?_⟩;rw[Yc];obtain⟨m,y⟩:=st (gs:=JT a start d (((word.length - 1:Nat):Int))) t B;generalize upd O x (.ins A.aH c (JT a start d (((word.length - 1:Nat):Int))))=H5 at m y ⊢;refine⟨_,Y,_,Y,x,_,c,_,Y,m,aO T,T.gF,(by show 5<1000;decide),?_⟩;rw[Yd];obtain⟨u,q⟩:=st (gs:=JV a start d (((word.length - 1:Nat):Int))) m y;generalize upd H5 x (.ins A.aH c (JV a start d (((word.length - 1:Nat):Int))))=J at u q ⊢;refine⟨_,Y,d,_,Y,.inr (bT.of (q _ _ f g)),_,_,Y,Y,_,Y,x,_,c,_,Y,u,aO T,T.hX,(by show 6<1000;decide),?_⟩;rw[show V.int (((av word).length:Int) - 1)=V.int (((word.length - 1:Nat):Int)) by show V.int (((av word).length:Int) - 1)=_;rw[aT];congr 1;omega];rw[Ye];obtain⟨D,p⟩:=st (gs:=Pz a start d (((word.length - 1:Nat):Int))) u q;generalize upd J x (.ins A.aH c (Pz a start d (((word.length - 1:Nat):Int))))=U at D p ⊢;exact k U p ⟨D,p _ _ f g⟩
structure rK (S:RS) (g g':Gg):Prop where
 wh:g'.which=g.which
 wo:g'.word=g.word
 st:g'.start=g.start
 gi:GI S g'
 ef:S.ao g'.front=g'.front
 er:S.ao g'.bj=g'.bj
 k1:S.ao g.front=g.front->S.by g.front g.z1=none->g'.front=g.front/\g'.first=g.first
 k2:S.ao g.bj=g.bj->S.by g.bj g.z2=none->g'.bj=g.bj/\g'.last=g.last
theorem rK.fwd {g g1:Gg}(h:rK S g g1)(k:Good S [] R)(a:g1.first<g1.last){c:Nat}(hc:S.by g1.front g1.z1=some c):rK S g { g1 with front:=c,first:=g1.first+ 1 }:=by
 obtain⟨_,d,_,e⟩:=k.st _ _ _ hc;have ll:=h.gi.ll;have hz:=Gg.pW (g:=g1) (by omega);refine⟨h.wh,h.wo,h.st,⟨a,ll,h.gi.s,d,h.gi.r,?_,h.gi.wr⟩,e,h.er,λj b=>?_,h.k2⟩
 ·have:=h.gi.wf;rw[h.ef]at this;show wk S.by _ (g1.word.take (g1.first+ 1))=some (S.ao c);rw[take_snoc hz,nL this,NQ hc,e]
 ·obtain⟨i,f⟩:=h.k1 j b;unfold Gg.z1 at hc b;rw[i,f,h.wo,b]at hc;cases hc
theorem rK.bwd {g g1:Gg}(h:rK S g g1)(e:Good S [] R)(j:g1.first<g1.last){c:Nat}(hc:S.by g1.bj g1.z2=some c):rK S g { g1 with bj:=c,last:=g1.last - 1 }:=by
 obtain⟨_,b,_,d⟩:=e.st _ _ _ hc;have ll:=h.gi.ll;have hz:=Gg.at2 (g:=g1) ll;refine⟨h.wh,h.wo,h.st,⟨by show g1.first<=g1.last - 1;omega,by show g1.last - 1<g1.word.length;omega,h.gi.s,h.gi.f,b,h.gi.wf,?_⟩,h.ef,d,h.k1,λk a=>?_⟩
 ·have:=h.gi.wr;rw[h.er]at this;show wk S.by (S.ao c) (g1.word.drop (g1.last - 1+ 1))=some (S.ao g1.start);rw[show g1.last - 1+ 1=g1.last by omega,drop_cons hz,d,fL (e.sy _ _ _ hc)];omega
 ·obtain⟨i,f⟩:=h.k2 k a;unfold Gg.z2 at hc a;rw[i,f,h.wo,a]at hc;cases hc
inductive JW (CR CG:Addr) (vs:List V) (H:Hp) (Q:VK) (E_:XK):Prop
 |mk (p dx wa r:Addr) (g:Gg) (S:RS) (a:RA) (R:Za2):vs=[.ref p,.ref r]->dN CG H p dx wa g->aq CR H r S a->Good S [] R->GI S g->¬a.own r p->g.word.length<=1000->(∀g' H',(∀b o,b≠p->H b=some o->H' b=some o)->dN CG H' p dx wa g'->SM S g g'->Q .non H')->JW CR CG vs H Q E_
theorem uw (T:Txt K mg A):bx P w K mg base (bD P w) 2 A.mM A.mO ["self","rooms"] (JW A.aw A.aH):=by
 refine T.kz.F.okN i3 (λvs H Q E h=>?_) (λcy AA outer s H vs Q E X h=>?_)
 ·obtain⟨p,d,u,r,g,S,a,R,rfl,_⟩:=h;rfl
 ·obtain⟨p,d,u,r,g,S,a,R,rfl,Z,hR,C,y,Ah,O,k⟩:=h
  refine⟨_,(aj (bW (pv 0) (bf (pv 1) (aF T) T.dH.m (ib T) (X.mono (by decide)) T.dH.b .nil aJ (ae (aB (pv 0) Y) ak)) Y)
   (aj (bW (pv 0) (bf (pv 1) (aF T) T.dH.m (ib T) (X.mono (by decide)) T.dH.b .nil aJ (ae (aB (pv 0) Y) ak)) Y)
   (aj (cw (fY acH (bq mx (aB (pv 0) Y) (aB (pv 0) Y) (bC _))
    (aj (a9 (i:=2) i3.nd Y (Or.inl Y) (bf (pv 1) (aF T) T.dC.m (gG T) (X.mono (by decide)) T.dC.b .nil aJ (ae (aB (pv 0) Y) (ae (bN fH (aB (pv 0) Y) (aB (pv 0) Y) (λ_ _=>rfl)) ak))))
    (aj (bV (bq qy (pv 2) c9 (bC _))
     (ax tX)
     bG)
    (aj (bW (pv 0) (pv 2) Y)
    (ax (bW (pv 0) (bP iz (aB (pv 0) Y) aM) Y)))))))
   (ax (cw (fY acH (bq mx (aB (pv 0) Y) (aB (pv 0) Y) (bC _))
    (aj (a9 (i:=2) i3.nd Y (Or.inl Y) (bf (pv 1) (aF T) T.dC.m (gG T) (X.mono (by decide)) T.dC.b .nil aJ (ae (aB (pv 0) Y) (ae (gI fb (bN fH (aB (pv 0) Y) (aB (pv 0) Y) (λ_ _=>rfl))) ak))))
    (aj (bV (bq qy (pv 2) c9 (bC _))
     (ax tX)
     bG)
    (aj (bW (pv 0) (pv 2) Y)
    (ax (bW (pv 0) (bP j1 (aB (pv 0) Y) aM) Y))))))))))),?_⟩
  try dsimp only[a8,bQ]
  refine iQ ?_;intro oM jG gM;have eo:∀{c:Nat},c<S.made->S.aS[c]?=some (S.ao c):=λ{c} hc=>oO (by rw[C.wf.e];exact hc)
  have kp:∀{G:Hp},(∀b o,b≠p->H b=some o->G b=some o)->aq A.aw G r S a:=λ{G} f=>hR.keep (λb o hb e=>f b o (λz=>Ah (z ▸ hb)) e) (λb xs e=>f b _ (b6 e Z.ins (by grind)) e)
  have up:∀{G:Hp} {o2:HO},(∀b o,b≠p->H b=some o->G b=some o)->∀b o,b≠p->H b=some o->upd G p o2 b=some o:=λf b o n e=>by rw[ai n];exact f b o n e
  refine⟨_,Y,r,a.dx,_,Y,hR.ins,cD _ _ _ (by decide),_,Y,p,_,d,_,_,Y,Z.ins,aO T,T.gk,jT _ _,r,S,a,g.front,S.ao g.front,Y,hR,eo y.f,_,Y,p,_,d,_,Y,Z.ins,aO T,T.gk,(by show 7<1000;decide),?_⟩;rw[Af];have U:=Z.set (g':={ g with front:=S.ao g.front }) rfl;have f1:=up (o2:=.ins A.aH d (fS { g with front:=S.ao g.front } u)) (λb o _ e=>e);generalize upd H p (.ins A.aH d (fS { g with front:=S.ao g.front } u))=H1 at U f1 ⊢;have R1:=kp f1;refine⟨_,Y,r,a.dx,_,Y,R1.ins,cD _ _ _ (by decide),_,Y,p,_,d,_,_,Y,U.ins,aO T,T.gF,jU _ _,r,S,a,g.bj,S.ao g.bj,Y,R1,eo y.r,_,Y,p,_,d,_,Y,U.ins,aO T,T.gF,(by show 7<1000;decide),?_⟩;rw[B9];have p2:=U.set (g':={ g with front:=S.ao g.front,bj:=S.ao g.bj }) rfl;have f2:=up (o2:=.ins A.aH d (fS { g with front:=S.ao g.front,bj:=S.ao g.bj } u)) f1;generalize upd H1 p (.ins A.aH d (fS { g with front:=S.ao g.front,bj:=S.ao g.bj } u))=G at p2 f2 ⊢;have e1:=(C.el _ y.f).2;have e2:=(C.el _ y.r).2;have F:rK S g { g with front:=S.ao g.front,bj:=S.ao g.bj }:=⟨Y,Y,Y,⟨y.fl,y.ll,y.s,C.lt y.f,C.lt y.r,by show wk _ _ _=some (S.ao (S.ao g.front));rw[e1];exact y.wf,by show wk _ (S.ao (S.ao g.bj)) _=_;rw[e2];exact y.wr⟩,e1,e2,λe _=>⟨e,Y⟩,λe _=>⟨e,Y⟩⟩;refine⟨λ B t=>∃g1 v,B=[some (.ref p),some (.ref r),v]/\(∀b o,b≠p->H b=some o->t b=some o)/\dN A.aH t p d u g1/\rK S g g1/\(g1.first<g1.last->S.by g1.front g1.z1=none),?_,?_⟩
  ·refine⟨λm J t=>∃g1 v,m=g1.last - g1.first/\J=[some (.ref p),some (.ref r),v]/\(∀b o,b≠p->H b=some o->t b=some o)/\dN A.aH t p d u g1/\rK S g g1,⟨_,_,none,Y,Y,f2,p2,F⟩,?_⟩;rintro m J t ⟨g1,v,rfl,rfl,x,j,ad⟩;have M:=kp x;have ll:=ad.gi.ll;have fl:=ad.gi.fl;have lw:g1.word.length<=1000:=by rw[ad.wo];exact O
   refine⟨_,Y,p,_,d,_,_,Y,j.ins,aO T,T.eJ,gq _ _,_,Y,p,_,d,_,_,Y,j.ins,aO T,T.hX,jV _ _,_,_,Y,Y,_,Y,?_⟩;refine df (λq=>?_) (λq=>?_)
   ·have q:(g1.first:Int)<(g1.last:Int):=acI q;refine⟨_,λ_ _ z=>z,?_⟩;have hz:=Gg.pW (g:=g1) (by omega);refine⟨_,Y,r,a.dx,_,Y,M.ins,cD _ _ _ (by decide),_,Y,p,_,d,_,_,Y,j.ins,aO T,T.gk,jT _ _,_,Y,p,_,d,_,_,Y,j.ins,aO T,T.jk,jS _ _,_,Y,p,_,d,_,_,Y,j.ins,aO T,T.eJ,gq _ _,u,_,_,.int g1.z1,Y,Y,bT.of j.wo,dA (cJ hz),r,S,a,g1.front,g1.z1,Y,M,by rw[C.wf.w];exact ad.gi.f,?_⟩
    cases I:S.by g1.front g1.z1 with
    |none=>exact⟨_,Y,Y,_,Y,iL ⟨g1,_,Y,x,j,ad,λ_=>I⟩⟩
    |some c=>
     rw[show (Option.map (λn:Nat=>V.int (n:Int)) (some c)).getD V.non=V.int (c:Int) from rfl];refine⟨_,Y,Y,_,Y,dc ?_⟩;refine⟨_,Y,_,Y,p,_,d,_,Y,j.ins,aO T,T.gk,(by show 7<1000;decide),?_⟩;rw[Af];have D:=j.set (g':={ g1 with front:=c }) rfl;have L:=up (o2:=.ins A.aH d (fS { g1 with front:=c } u)) x;generalize upd t p (.ins A.aH d (fS { g1 with front:=c } u))=H3 at D L ⊢;refine⟨_,Y,p,_,d,_,_,Y,D.ins,aO T,T.eJ,gq _ _,_,_,Y,Y,_,Y,p,_,d,_,Y,D.ins,aO T,T.eJ,(by show 7<1000;decide),?_⟩;rw[show V.int ((({ g1 with front:=c }:Gg).first:Int)+ 1)=V.int ((g1.first+ 1:Nat):Int) from Y,Ip];exact⟨_,by show g1.last - (g1.first+ 1)<_;omega,_,_,Y,Y,up L,D.set Y,ad.fwd C (by omega) I⟩
   ·exact⟨g1,v,Y,x,j,ad,λz=>absurd (acy (show (g1.first:Int)<(g1.last:Int) by omega)) q⟩
  rintro B t ⟨g0,v0,rfl,f0,p0,F,n0⟩;refine⟨λ B t=>∃g1 v,B=[some (.ref p),some (.ref r),v]/\(∀b o,b≠p->H b=some o->t b=some o)/\dN A.aH t p d u g1/\rK S g g1/\(g1.first<g1.last->S.by g1.front g1.z1=none)/\(g1.first<g1.last->S.by g1.bj g1.z2=none),?_,?_⟩
  ·refine⟨λm J t=>∃g1 v,m=g1.last - g1.first/\J=[some (.ref p),some (.ref r),v]/\(∀b o,b≠p->H b=some o->t b=some o)/\dN A.aH t p d u g1/\rK S g g1/\(g1.first<g1.last->S.by g1.front g1.z1=none),⟨_,_,v0,Y,Y,f0,p0,F,n0⟩,?_⟩;rintro m J t ⟨g1,v,rfl,rfl,x,j,ad,N⟩;have M:=kp x;have ll:=ad.gi.ll;have fl:=ad.gi.fl;have lw:g1.word.length<=1000:=by rw[ad.wo];exact O
   refine⟨_,Y,p,_,d,_,_,Y,j.ins,aO T,T.eJ,gq _ _,_,Y,p,_,d,_,_,Y,j.ins,aO T,T.hX,jV _ _,_,_,Y,Y,_,Y,?_⟩;refine df (λq=>?_) (λq=>?_)
   ·have q:(g1.first:Int)<(g1.last:Int):=acI q;refine⟨_,λ_ _ z=>z,?_⟩;have hz:=Gg.at2 (g:=g1) ll;refine⟨_,Y,r,a.dx,_,Y,M.ins,cD _ _ _ (by decide),_,Y,p,_,d,_,_,Y,j.ins,aO T,T.gF,jU _ _,_,Y,p,_,d,_,_,Y,j.ins,aO T,T.jk,jS _ _,_,Y,p,_,d,_,_,Y,j.ins,aO T,T.hX,jV _ _,u,_,_,.int (-g1.z2),Y,Y,bT.of j.wo,dA (cJ hz),_,Y,r,S,a,g1.bj,g1.z2,(by grind),M,by rw[C.wf.w];exact ad.gi.r,?_⟩
    cases I:S.by g1.bj g1.z2 with
    |none=>exact⟨_,Y,Y,_,Y,iL ⟨g1,_,Y,x,j,ad,N,λ_=>I⟩⟩
    |some c=>
     rw[show (Option.map (λn:Nat=>V.int (n:Int)) (some c)).getD V.non=V.int (c:Int) from rfl];refine⟨_,Y,Y,_,Y,dc ?_⟩;refine⟨_,Y,_,Y,p,_,d,_,Y,j.ins,aO T,T.gF,(by show 7<1000;decide),?_⟩;rw[B9];have D:=j.set (g':={ g1 with bj:=c }) rfl;have L:=up (o2:=.ins A.aH d (fS { g1 with bj:=c } u)) x;generalize upd t p (.ins A.aH d (fS { g1 with bj:=c } u))=H3 at D L ⊢;refine⟨_,Y,p,_,d,_,_,Y,D.ins,aO T,T.hX,jV _ _,_,_,Y,Y,_,Y,p,_,d,_,Y,D.ins,aO T,T.hX,(by show 7<1000;decide),?_⟩;rw[show V.int ((({ g1 with bj:=c }:Gg).last:Int) - 1)=V.int ((g1.last - 1:Nat):Int) by show V.int ((g1.last:Int) - 1)=_;congr 1;omega,LY];exact⟨_,by show (g1.last - 1) - g1.first<_;omega,_,_,Y,Y,up L,D.set Y,ad.bwd C (by omega) I,λz=>N (by have z:g1.first<g1.last - 1:=z;omega)⟩
   ·exact⟨g1,v,Y,x,j,ad,N,λz=>absurd (acy (show (g1.first:Int)<(g1.last:Int) by omega)) q⟩
  rintro B t ⟨g1,v,rfl,x,j,ad,N,n2⟩;exact k g1 t x j ⟨ad.wh,ad.wo,ad.st,ad.gi,ad.ef,ad.er,N,n2,ad.k1,ad.k2⟩
theorem Se (ns:List Int)(j:Nat):lj (av ns) none (some (j:Int))=av (ns.take j):=by
 rw[yS,HT.Bf];show av ((List.drop 0 ns).take (min j ns.length - 0))=_
 grind
theorem LZ (ns:List Int)(j:Nat)(h:j<=ns.length):lj (av ns) (some (j:Int)) none=av (ns.drop j):=by
 rw[yS,HT.Bf,aes h];show av ((ns.drop j).take (ns.length - j))=_;rw[List.take_of_length_le (by rw[ad5];exact aca _)]
theorem oP {by_:Nat->Int->Option Nat}:∀{ws:List Int} {r:Nat},(b8 by_ r ws).length<=ws.length
 |[],_=>aca _
 |z::ws,r=>by
  cases q:by_ r z with
  |none=>rw[xR q];exact acF _
  |some d=>rw[mE q,acC,acC];exact Nat.succ_le_succ oP
inductive FK (CR CG:Addr) (vs:List V) (H:Hp) (Q:VK) (E_:XK):Prop
 |mk (p dx wa r:Addr) (g:Gg) (S:RS) (a:RA) (R:Za2):vs=[.ref p,.ref r]->dN CG H p dx wa g->aq CR H r S a->Good S [] R->g.start<S.made->g.bj<S.made->g.last<g.word.length->g.word.length<=1000->(∀q H',ay H H'->bF H' 2 (.ref q) (kY g.which ((g.start::b8 S.by g.start (g.word.take g.first))++(g.bj::b8 S.by g.bj (g.word.drop (g.last+ 1)))) g.first)->Q (.ref q) H')->FK CR CG vs H Q E_
theorem Ai (T:Txt K mg A):bx P w K mg base (bD P w) 3 A.tD A.tE ["self","rooms"] (FK A.aw A.aH):=by
 refine T.ro.F.okN mj (λvs H Q E h=>?_) (λcy AA I s H vs Q E hr h=>?_)
 ·obtain⟨p,m,O,r,g,S,a,R,rfl,_⟩:=h;rfl
 ·obtain⟨p,m,O,r,g,S,a,R,rfl,t,hR,N,hs,J,T7,B7,k⟩:=h
  refine⟨_,(aj (a9 (i:=2) mj.nd Y (Or.inl Y) (bH (yc T) hr.Za5 Y T.walked.m T.walked.F.kp T.walked.b .nil aJ (ae (pv 1) (ae (aB (pv 0) Y) (ae (yK yQ (aB (pv 0) Y) Bh (Bi (aB (pv 0) Y))) ak)))))
   (aj (a9 (i:=3) mj.nd Y (Or.inl Y) (bH (yc T) hr.Za5 Y T.walked.m T.walked.F.kp T.walked.b .nil aJ (ae (pv 1) (ae (aB (pv 0) Y) (ae (yK yQ (aB (pv 0) Y) (Bi (bP iz (aB (pv 0) Y) aM)) Bh) ak)))))
   (ax (bB (gw (ae (eA (l:=[114,117,108,101]) Y) (ae (aB (pv 0) Y) (ae (eh pP Y T.oF adX (ae (bP MX (pv 2) (pv 3)) ak)) (ae (aB (pv 0) Y) ak))))))))),?_⟩
  try dsimp only[a8,bQ]
  refine eF ?_;intro jG gM;have y:∀c z d,S.by c z=some d->d<S.made:=λc z d e=>(N.st c z d e).2.1
  refine⟨_,Y,_,Y,p,_,m,_,_,Y,t.ins,aO T,T.pH,uv _ _,_,Y,p,_,m,_,_,Y,t.ins,aO T,T.jk,jS _ _,_,Y,p,_,m,_,_,Y,t.ins,aO T,T.eJ,gq _ _,_,Y,O,_,Y,t.wo,λt1 H1 s1 Z=>?_⟩;rw[Se]at Z;refine⟨r,S,a,g.start,t1,g.word.take g.first,Y,hR.same s1,N.wf,hs,y,Z,by rw[acQ];omega,λl1 H2 s2 h2=>?_⟩;have C:=s1.trans s2;have G:=t.same C;refine⟨_,Y,_,Y,p,_,m,_,_,Y,G.ins,aO T,T.gF,jU _ _,_,Y,p,_,m,_,_,Y,G.ins,aO T,T.jk,jS _ _,_,Y,p,_,m,_,_,Y,G.ins,aO T,T.hX,jV _ _,_,_,Y,Y,_,Y,O,_,Y,G.wo,λt2 H3 s3 V=>?_⟩;rw[show (g.last:Int)+ 1=((g.last+ 1:Nat):Int) by omega,LZ _ _ (by omega)]at V;have D:=C.trans s3;refine⟨r,S,a,g.bj,t2,g.word.drop (g.last+ 1),Y,hR.same D,N.wf,J,y,V,by rw[ad5];omega,λl2 H4 s4 h4=>?_⟩;have B:=D.trans s4;have p4:=t.same B;have lx:=oP (by_:=S.by) (ws:=g.word.take g.first) (r:=g.start);have ly:=oP (by_:=S.by) (ws:=g.word.drop (g.last+ 1)) (r:=g.bj);rw[acQ]at lx;rw[ad5]at ly;refine⟨_,Y,p,_,m,_,_,Y,p4.ins,aO T,T.zM,Io _ _,_,Y,_,Y,l1,l2,_,_,Y,Y,(s3.trans s4) _ _ h2,h4,?_,λM n3=>?_⟩
  ·rw[aT,aT,bL,bL,acC,acC];exact acr (show _<=100000 by omega) (by decide)
  refine⟨M,_,Y,.inl ⟨aI.of ah,λF X=>?_⟩⟩;rw[<-ints_app,<-gT]at X ⊢;have s5:=ay.upd (o:=.lst (av (nI ((g.start::b8 S.by g.start (g.word.take g.first))++(g.bj::b8 S.by g.bj (g.word.drop (g.last+ 1))))))) n3;generalize (g.start::b8 S.by g.start (g.word.take g.first))++(g.bj::b8 S.by g.bj (g.word.drop (g.last+ 1)))=path at *;have U:=s5.trans (ay.upd (o:=.tup (av (nI path))) X);have e6:upd (upd H4 M (.lst (av (nI path)))) F (.tup (av (nI path))) F=_:=ah;generalize upd (upd H4 M (.lst (av (nI path)))) F (.tup (av (nI path)))=H6 at U e6 ⊢;refine⟨_,Y,p,_,m,_,_,Y,(U _ _ p4.ins),aO T,T.eJ,gq _ _,(Za4 4),λq nq=>?_⟩;have s7:=ay.upd (o:=.tup [.str (tx [114,117,108,101]),.int (g.which:Int),.ref F,.int (g.first:Int)]) nq;refine k q _ (B.trans (U.trans s7)) (.t ah Y λj v d b f=>?_)
  match j,b,f with
  |0,b,f=>cases b;cases f;exact .s
  |1,b,f=>cases b;cases f;exact .i
  |2,b,f=>
   cases b;cases f;refine .t (s7 _ _ e6) (by rw[aT,bL,ab9]) λi u x f1 L=>?_
   obtain⟨z,rfl,n⟩:=dh f1;unfold nI at n;rw[aco]at n L
   cases q1:path[i]? with
   |none=>rw[q1]at n;cases n
   |some c=>
    rw[q1]at n L;cases n;cases L;exact .i
  |3,b,f=>cases b;cases f;exact .i
  |j+ 4,b,f=>simp at b
theorem same_none (s:ay H I){b:Addr}(h:I b=none):H b=none:=by
 cases e:H b with
 |none=>rfl
 |some o=>rw[s _ _ e]at h;cases h
structure KA where
 dx:Addr
 aQ:Addr
 aG:Addr
 aA:Addr
 aW:Addr
def oQ (r:Addr)(c:KA)(a:Nat):List (Str×V):=[("rooms",.ref r),("rules",.ref c.aQ),("goings",.ref c.aG),("agenda",.ref c.aA),("waiting",.ref c.aW),("heard",.int a)]
theorem fz (r:Addr)(c:KA)(a:Nat):(oQ r c a).lookup ("rooms":Str)=some (.ref r):=by kernel_rfl
theorem Ir (r:Addr)(c:KA)(a:Nat):(oQ r c a).lookup ("rules":Str)=some (.ref c.aQ):=by kernel_rfl
theorem km (r:Addr)(c:KA)(a:Nat):(oQ r c a).lookup ("goings":Str)=some (.ref c.aG):=by kernel_rfl
theorem m4 (r:Addr)(c:KA)(a:Nat):(oQ r c a).lookup ("agenda":Str)=some (.ref c.aA):=by kernel_rfl
theorem kU (r:Addr)(c:KA)(a:Nat):(oQ r c a).lookup ("waiting":Str)=some (.ref c.aW):=by kernel_rfl
theorem ux (r:Addr)(c:KA)(a:Nat):(oQ r c a).lookup ("heard":Str)=some (.int a):=by kernel_rfl
theorem eS {c:KA}(h:x∉(["rooms","rules","goings","agenda","waiting","heard"]:List Str)):(oQ a c n).lookup x=none:=by
 simp only[aci,ac0,aeV,not_or]at h;obtain⟨i,b,g,d,f,e⟩:=h;unfold oQ;simp only[List.lookup,acj.mpr i,acj.mpr b,acj.mpr g,acj.mpr d,acj.mpr f,acj.mpr e]
theorem Iu (r:Addr)(c:KA)(a n:Nat):bJ "heard" (.int n) (oQ r c a)=oQ r c n:=by kernel_rfl
structure pL (CG:Addr) (H:Hp) (gv:List V) (gs:List (Option Gg)) (O:Addr->Prop):Prop where
 l:gv.length=gs.length
 n:∀(i:Nat) (v:V),gv[i]?=some v->gs[i]?=some none->v=.non
 s:∀(i:Nat) (v:V) (g:Gg),gv[i]?=some v->gs[i]?=some (some g)->∃p dx wa,v=.ref p/\dN CG H p dx wa g/\O p
 i:∀(i j:Nat) (p:Addr),gv[i]?=some (.ref p)->gv[j]?=some (.ref p)->i=j
structure b9 (CG CC:Addr) (H:Hp) (x r:Addr) (c:KA) (gs:List (Option Gg)) (ag:List Nat) (W:bE) (hd:Nat) (fp:List (List Int×Nat)) (O:Addr->Prop):Prop where
 ins:H x=some (.ins CC c.dx (oQ r c hd))
 hG:∃gv,H c.aG=some (.lst gv)/\pL CG H gv gs O
 hA:H c.aA=some (.lst (av (nI ag)))
 wt:nM H c.aW W O
 ne:c.aG≠c.aA
 ox:O x
 oG:O c.aG
 oA:O c.aA
 th:∀b,O b->∃o,H b=some o/\(∀xs,o≠.tup xs)/\(∀kv,o≠.dT kv)/\(∀u v,o≠.cL u v)/\∀ps,o≠.e9 ps
section
variable {CG CC:Addr}{H H':Hp}{x r:Addr}{c:KA}{gs:List (Option Gg)}{ag:List Nat}{W:bE}{hd:Nat}{fp:List (List Int×Nat)}{O:Addr->Prop}
theorem pL.keep (h:pL CG H L gs O)(f:∀b o,O b->H b=some o->H' b=some o)(j:∀b a,H b=some (.tup a)->H' b=some (.tup a)):pL CG H' L gs O:=by
 refine⟨h.l,h.n,λi v g k l=>?_,h.i⟩;obtain⟨p,dx,d,e,q,o⟩:=h.s i v g k l;exact⟨p,dx,d,e,⟨f _ _ o q.ins,j _ _ q.wo⟩,o⟩
theorem b9.keep (h:b9 CG CC H x r c gs ag W hd fp O)(f:∀b o,O b->H b=some o->H' b=some o)(i:∀b a,H b=some (.tup a)->H' b=some (.tup a)):b9 CG CC H' x r c gs ag W hd fp O:=by
 obtain⟨g,j,g2⟩:=h.hG;refine⟨f _ _ h.ox h.ins,⟨g,f _ _ h.oG j,g2.keep f i⟩,f _ _ h.oA h.hA,h.wt.keep f,h.ne,h.ox,h.oG,h.oA,λb d=>?_⟩;obtain⟨o,e,q⟩:=h.th b d;exact⟨o,f _ _ d e,q⟩
theorem b9.same (h:b9 CG CC H x r c gs ag W hd fp O)(s:ay H H'):b9 CG CC H' x r c gs ag W hd fp O:=h.keep (λb o _ e=>s b o e) (λb o e=>s _ _ e)
theorem b9.iI (h:b9 CG CC H x r c gs ag W hd fp O){b:Addr}{a:List V}(e:H b=some (.tup a)):¬O b:=λz=>by
 obtain⟨o,q,n,_⟩:=h.th b z
 grind
theorem b9.FL (h:b9 CG CC H x r c gs ag W hd fp O){b:Addr}{a:List (List Key×V)}(e:H b=some (.dT a)):¬O b:=λz=>by
 obtain⟨o,q,_,n,_⟩:=h.th b z
 grind
theorem b9.waits (h:b9 CG CC H x r c gs ag W hd fp O){k:bE}{d:Addr->Prop}(f:∀b o,(∀j,o≠.dK j)->H b=some o->H' b=some o)(a:∀b,O b->d b)(w:nM H' c.aW k d)(th:∀b,d b->∃o,H' b=some o/\(∀m,o≠.tup m)/\(∀j,o≠.dT j)/\(∀u v,o≠.cL u v)/\∀n,o≠.e9 n):b9 CG CC H' x r c gs ag k hd fp d:=by
 obtain⟨t,s,g2⟩:=h.hG;refine⟨f _ _ (by grind) h.ins,⟨t,f _ _ (by grind) s,g2.l,g2.n,λi v g l z=>?_,g2.i⟩,f _ _ (by grind) h.hA,w,h.ne,a _ h.ox,a _ h.oG,a _ h.oA,th⟩;obtain⟨p,dx,y,e,q,o⟩:=g2.s i v g l z;exact⟨p,dx,y,e,⟨f _ _ (by grind) q.ins,f _ _ (by grind) q.wo⟩,a _ o⟩
theorem b9.agenda (h:b9 CG CC H x r c gs ag W hd fp O)(a:List Nat):b9 CG CC (upd H c.aA (.lst (av (nI a)))) x r c gs a W hd fp O:=by
 obtain⟨m,l,g2⟩:=h.hG;have k:∀b o,b≠c.aA->H b=some o->upd H c.aA (.lst (av (nI a))) b=some o:=λb o n e=>by rw[ai n];exact e
 have kn:∀b o,(∀j,o≠.lst j)->H b=some o->upd H c.aA (.lst (av (nI a))) b=some o:=λb o n e=>k b o (λz=>by rw[z,h.hA]at e;grind) e
 refine⟨kn _ _ (by grind) h.ins,⟨m,k _ _ h.ne l,g2.l,g2.n,λi v g f t=>?_,g2.i⟩,ah,?_,h.ne,h.ox,h.oG,h.oA,λb d=>?_⟩
 ·obtain⟨p,dx,s,e,q,o⟩:=g2.s i v g f t;exact⟨p,dx,s,e,⟨kn _ _ (by grind) q.ins,kn _ _ (by grind) q.wo⟩,o⟩
 ·obtain⟨D,E,k1,k2⟩:=h.wt;exact⟨D,E,k1.keep λb o d e=>by obtain⟨u,q⟩:=k1.there d;grind,k2⟩
 ·by_cases e:b=c.aA
  ·exact⟨_,by rw[e];exact ah,(by grind),(by grind),(by grind),by grind⟩
  ·obtain⟨o,q,n⟩:=h.th b d;exact⟨o,k _ _ e q,n⟩
end
def Bt (O:Addr->Prop)(H a:Hp):Prop:=∀b o,¬O b->H b=some o->a b=some o
theorem Bt.trans {O a:Addr->Prop}(h:Bt O H I)(c:Bt a I J)(f:∀b,a b->O b\/H b=none):Bt O H J:=λb o n e=>c b o (λz=>(f b z).elim n λq=>by grind) (h b o n e)
theorem Bt.of {O:Addr->Prop}(s:ay H I):Bt O H I:=λb o _ e=>s b o e
inductive FN (CR CG CC:Addr) (vs:List V) (H:Hp) (Q:VK) (E_:XK):Prop
 |mk (x r:Addr) (c:KA) (gs:List (Option Gg)) (ag:List Nat) (W:bE) (hd:Nat) (fp:List (List Int×Nat)) (O:Addr->Prop) (n m:Nat) (s:Int):vs=[.ref x,.int n,.int m,.int s]->b9 CG CC H x r c gs ag W hd fp O->m<100000->n<100000->(-1000<=s/\s<=1000)->(∀O' H',Bt O H H'->(∀b o,(∀kv,o≠.dK kv)->H b=some o->H' b=some o)->(∀b,O b->O' b)->(∀b,O' b->O b\/H b=none)->b9 CG CC H' x r c gs ag (addW W m s n) hd fp O'->Q .non H')->FN CR CG CC vs H Q E_
structure jH (H:Hp) (O:Addr->Prop) (H1:Hp) (O1:Addr->Prop):Prop where
 f:∀b o,(∀kv,o≠.dK kv)->H b=some o->H1 b=some o
 bt:Bt O H H1
 le:∀b,O b->O1 b
 nw:∀b,O1 b->O b\/H b=none
 th:∀b,O1 b->∃o,H1 b=some o/\(∀xs,o≠.tup xs)/\(∀kv,o≠.dT kv)/\(∀u v,o≠.cL u v)/\∀ps,o≠.e9 ps
theorem jH.new {O a:Addr->Prop}(h:jH H O I a){p:Addr}{c:List (Key×V)}(f:I p=none):jH H O (upd I p (.dK c)) a:=by
 have s:=ay.upd (o:=.dK c) f;refine⟨λb o n e=>s _ _ (h.f b o n e),λb o n e=>s _ _ (h.bt b o n e),h.le,h.nw,λb d=>?_⟩;obtain⟨o,e,q⟩:=h.th b d;exact⟨o,s _ _ e,q⟩
theorem jH.put {O a:Addr->Prop}(h:jH H O I a){d:Addr}(hd:a d){f kv':List (Key×V)}(ed:I d=some (.dK f)):jH H O (upd I d (.dK kv')) a:=by
 have k:∀b o,b≠d->I b=some o->upd I d (.dK kv') b=some o:=λb o n e=>by rw[ai n];exact e
 refine⟨λb o n e=>k _ _ (λz=>by have:=h.f b o n e;grind) (h.f b o n e),λb o n e=>k _ _ (λz=>?_) (h.bt b o n e),h.le,h.nw,λb c=>?_⟩
 ·rcases h.nw d hd with q|q
  ·grind
  grind
 ·by_cases e:b=d
  ·exact⟨_,by rw[e];exact ah,(by grind),(by grind),(by grind),by grind⟩
  ·obtain⟨o,q,m⟩:=h.th b c;exact⟨o,k _ _ e q,m⟩
theorem jH.T8 {O a:Addr->Prop}(h:jH H O I a){p:Addr}(e:H p=none){o:HO}(c:I p=some o)(i:∀d,o≠.tup d)(j:∀f,o≠.dT f)(k:∀u v,o≠.cL u v)(l:∀g,o≠.e9 g):jH H O I (EI a p):=by
 refine⟨h.f,h.bt,λb z=>.inl (h.le b z),λb z=>z.elim (h.nw b) λq=>.inr (by rw[q];exact e),λb z=>?_⟩;rcases z with z|z
 ·exact h.th b z
 ·rw[z];exact⟨o,c,i,j,k,l⟩
theorem jH.no {O b:Addr->Prop}(h:jH H O I b){p:Addr}(a:I p=none):H p=none:=by
 cases e:H p with
 |none=>rfl
 |some o=>
  by_cases q:O p
  ·obtain⟨c,d,_⟩:=h.th p (h.le p q);grind
  ·rw[h.bt p o q e]at a;cases a
theorem b9.mid {x:Addr}{d:KA}{gs:List (Option Gg)}{W:bE}{hd:Nat}{f:List (List Int×Nat)}{O:Addr->Prop}(h:b9 a b H x c d gs B W hd f O):jH H O H O:=⟨λ_ _ _ e=>e,λ_ _ _ e=>e,λ_ z=>z,λ_ z=>.inl z,h.th⟩
theorem m5 (T:Txt K mg A):bx P w K mg base (bD P w) 1 A.oy A.oz ["self","number","room","step"] (FN A.aw A.aH A.az):=by
 refine T.gY.F.okN jF (λX H Q E h=>?_) (λcy AA G s H X Q E Z h=>?_)
 ·obtain⟨x,r,c,gs,ag,W,B,U,O,n,m,s,rfl,_⟩:=h;rfl
 ·obtain⟨x,r,c,gs,ag,W,B,U,O,n,m,s,rfl,h,hm,hn,hs,k⟩:=h;have I:=jW Z
  refine⟨_,(aj (cw (a9 (i:=4) jF.nd Y (Or.inl Y) (mD (aB (pv 0) Y) (pv 2) fq ⟨Y,Y,Y,Y⟩)))
   (aj (cw (a9 (i:=5) jF.nd Y (Or.inl Y) (mD (pv 4) (pv 3) fq ⟨Y,Y,Y,Y⟩)))
   (ax (rY I (pv 5) (pv 1) oU Y)))),?_⟩
  try dsimp only[a8,bQ]
  refine eF ?_;intro S gM;refine⟨λ f J=>∃d u,f=[some (.ref x),some (.int (n:Int)),some (.int (m:Int)),some (.int s),some (.ref d),none]/\jH H O J u/\fi J c.aW W u m d,?_,?_⟩
  ·refine⟨_,Y,x,_,c.dx,_,_,Y,h.ins,aK T,T.jE,kU _ _ _,c.aW,Y,h.wt.pT,_,Y,λp a=>?_⟩;obtain⟨b,g,q,t,L⟩:=h.wt.room a (c:=(m:Int)) (by omega);refine⟨b,Sum.inl (m:Int),g,Y,q,λv l=>?_,λl=>?_⟩
   ·obtain⟨d,rfl,w⟩:=t v l;exact⟨d,O,Y,h.mid.new a,w⟩
   ·have w:=L l;have N:O c.aW:=by obtain⟨D,E,_,z⟩:=h.wt;exact z.o _ (.inl Y)
    exact⟨p,_,Y,((h.mid.new a).put N g).T8 a (by rw[ai (λz=>by rw[z]at a;obtain⟨o,e,_⟩:=h.th _ N;grind)];exact ah) (by grind) (by grind) (by grind) (by grind),w⟩
  rintro f J ⟨d,u,rfl,y,F⟩;refine⟨λ f M=>∃e C,f=[some (.ref x),some (.int (n:Int)),some (.int (m:Int)),some (.int s),some (.ref d),some (.ref e)]/\jH H O M C/\pA M c.aW W C m s e,?_,?_⟩
  ·refine⟨_,Y,d,Y,F.pT,_,Y,λp a=>?_⟩;obtain⟨b,g,q,t,L⟩:=F.cell a hs;refine⟨b,Sum.inl s,g,Y,q,λv l=>?_,λl=>?_⟩
   ·obtain⟨e,rfl,w⟩:=t v l;exact⟨e,u,Y,y.new a,w⟩
   ·have w:=L l;have B:=F.own;exact⟨p,_,Y,((y.new a).put B g).T8 (y.no a) (by rw[ai (λz=>by rw[z]at a;obtain⟨o,e,_⟩:=y.th _ B;grind)];exact ah) (by grind) (by grind) (by grind) (by grind),w⟩
  rintro f M ⟨e,C,rfl,V,R⟩;obtain⟨b,g,q,t⟩:=R.put (n:=(n:Int)) (by omega);refine⟨_,Y,_,Y,e,_,Y,qC.k (k:=Sum.inl (n:Int)) g q,?_⟩;have j:=V.put (kv':=putK b (Sum.inl (n:Int)) (.bl true)) R.own g;exact k C _ j.bt j.f j.le j.nw (h.waits j.f j.le t j.th)
inductive FP (CR CG CC:Addr) (vs:List V) (H:Hp) (Q:VK) (E_:XK):Prop
 |mk (x r:Addr) (c:KA) (gs:List (Option Gg)) (ag:List Nat) (W:bE) (hd:Nat) (fp:List (List Int×Nat)) (O:Addr->Prop) (m:Nat) (s:Int):vs=[.ref x,.int m,.int s]->b9 CG CC H x r c gs ag W hd fp O->(∀ns:List Nat,ns.Nodup->(∀n:Nat,n∈ns↔W m s n=true)->ag.length+ ns.length<=1000000)->(∀ns H',Bt O H H'->ns.Nodup->(∀n:Nat,n∈ns↔W m s n=true)->b9 CG CC H' x r c gs (ag++ns) (fM W m s) hd fp O->Q .non H')->FP CR CG CC vs H Q E_
theorem fk (T:Txt K mg A):bx P w K mg base (bD P w) 1 A.oB A.oC ["self","room","step"] (FP A.aw A.aH A.az):=by
 refine T.cP.F.okN vK (λvs H Q E h=>?_) (λcy AA F s H vs Q E hr h=>?_)
 ·obtain⟨x,r,c,gs,S,W,hd,U,O,m,s,rfl,_⟩:=h;rfl
 ·obtain⟨x,r,c,gs,S,W,hd,U,O,m,s,rfl,h,hz,k⟩:=h;have G:=jW hr;refine⟨_,(ax (aZ (dP acq PySem.F.slot_list_extend PySem.F.type_list_extend xt (aB (pv 0) Y) (ae (eh (jt Y) Y T.fP acO (ae (t7 (lE G (aB (pv 0) Y) (pv 1) fq ⟨Y,Y,Y,Y⟩) (pv 2) fq ⟨Y,Y,Y,Y⟩) ak)) ak)))),?_⟩
  try dsimp only[a8,bQ]
  have rest:∀{j:Hp} {N:bE} {l:Addr} {ns:List Nat},b9 A.aH A.az j x r c gs S N hd U O->Bt O H j->j l=none->ns.Nodup->(∀n:Nat,n∈ns↔W m s n=true)->N=fM W m s->wz (V.ref c.aA) [V.ref l] (upd j l (.lst (av (nI ns)))) (λ_ H'=>Q .non H'):=λ{j N l ns} q b2 i nd Z eW=>by
   subst eW;have M:=ay.upd (o:=.lst (av (nI ns))) i;refine⟨c.aA,l,_,_,Y,Y,M _ _ q.hA,ah,?_,?_⟩
   ·rw[aT,aT,bL,bL];exact acr (hz ns nd Z) (by decide)
   ·rw[<-ints_app,<-gT];exact k ns _ (λb o n e=>by rw[ai (λz=>n (by rw[z];exact h.oA))];exact M _ _ (b2 b o n e)) nd Z ((q.same M).agenda (S++ns))
  refine⟨_,Y,x,_,c.dx,_,_,Y,h.ins,aK T,T.kj,m4 _ _ _,.inl ⟨Y,_,aI.of h.hA⟩,_,Y,x,_,c.dx,_,_,Y,h.ins,aK T,T.jE,kU _ _ _,c.aW,Y,h.wt.pT,_,Y,λB D=>?_⟩;have s1:=ay.upd (o:=.dK []) D;have I:upd H B (.dK []) B=some (.dK []):=ah;generalize upd H B (.dK [])=C at s1 I ⊢;have L:=h.same s1;obtain⟨o,g1,g2⟩:=L.wt.get (c:=(m:Int));refine⟨o,g1,?_⟩;rcases g2 with ⟨rfl,no⟩|⟨d,rfl,w⟩
  ·refine⟨B,Y,.inl ⟨_,.inl I⟩,_,Y,λf g=>?_⟩;have a:=ay.upd (o:=.dK []) g;have u:upd C f (.dK []) f=some (.dK []):=ah;generalize upd C f (.dK [])=j at a u ⊢;refine⟨[],Sum.inl s,a _ _ I,Y,(λv p=>by cases p),λ_=>⟨f,[],Y,u,λl i=>?_⟩⟩;exact rest (ns:=[]) (L.same a) (.of (s1.trans a)) i adM (λn=>⟨(λz=>by cases z),λz=>by grind⟩) (wJ (no s)).symm
  ·refine⟨d,Y,w.pT,_,Y,λf g=>?_⟩;have a:=ay.upd (o:=.dK []) g;have u:upd C f (.dK []) f=some (.dK []):=ah;generalize upd C f (.dK [])=j at a u ⊢;have q:=L.same a;obtain⟨t,X,e2,e3⟩:=(w.same a).pop s;refine⟨t,Sum.inl s,X,Y,λv p=>?_,λp=>⟨f,[],Y,u,λl i=>?_⟩⟩
   ·obtain⟨e,J,ns,rfl,R,f1,f2,f3,f4,f5⟩:=e3 v p;refine⟨e,J,Y,by rw[ai R];exact f1,λl i=>?_⟩;have y:=(q.mid.put (kv':=eP t (Sum.inl s)) w.own X);rw[f2];exact rest (q.waits y.f y.le f5 y.th) (Bt.trans (.of (s1.trans a)) y.bt λb z=>.inl z) i f3 f4 rfl
   ·exact rest (ns:=[]) q (.of (s1.trans a)) i adM (λn=>⟨(λz=>by cases z),λz=>by rw[e2 p]at z;cases z⟩) (wJ (e2 p)).symm
theorem _root_.L2.CI.PB {bs:List (Nat×List Int×Nat)}{gs:List (Option Gg)}{W:bE}{d:Nat->Int->Prop}{x:Option Nat}(h:CI S bs gs B W d x){m:Nat}{s:Int}{ns:List Nat}(nd:ns.Nodup)(b:∀n:Nat,n∈ns↔W m s n=true):ns.length+ uW S.made gs.length (fM W m s)<=uW S.made gs.length W:=by
 cases ns with
 |nil=>
  have:∀n,W m s n=false:=λn=>by
   cases q:W m s n with
   |false=>rfl
   |true=>
    obtain⟨_,c,_,e,_⟩:=h.en _ _ _ q
    grind
  rw[wJ this,ael,afa];exact aca _
 |cons n r=>
  obtain⟨i,c,g,_,a,_,f,_⟩:=h.en _ _ _ ((b n).mp (ack ..));have a:m<S.made:=by omega
  have k:=Ld (G:=gs.length) (W:=W) a f
  have l:=EJ (P:=λn:Nat=>W m s n) (G:=gs.length) nd λn a=>by
   have w:=(b n).mp a;obtain⟨_,c,_,e,_,j,_⟩:=h.en _ _ _ w;exact⟨by omega,w⟩
  omega
theorem _root_.L2.CI.two {bs:List (Nat×List Int×Nat)}{gs:List (Option Gg)}{W:bE}{a:Nat->Int->Prop}{x:Option Nat}(h:CI S bs gs B W a x):uW S.made gs.length W<=2* gs.length:=Lf λn=>by
 obtain⟨p,q,e,_⟩:=h.sl n;exact⟨p,q,e⟩
theorem _root_.L2.fi.keys {k:Addr}{W:bE}{O:Addr->Prop}(h:fi H k W O z d):∃(a:List (Key×V)) (zs:List Int),H d=some (.dK a)/\a.map (λb=>kV b.1)=av zs/\zs.length<=2001/\∀s n,W z s n=true->s∈zs:=by
 obtain⟨D,E,l,t,hd⟩:=h;obtain⟨a,j,o,f,c⟩:=l.Hd hd
 have q:a.length<=2001:=uV (n:=2001) (lo:=-1000) o f c λi v m=>by
  cases e:E z i with
  |none=>rw[e]at m;cases m
  |some x=>have:=t.e z i x e;omega
 have ex:∃zs:List Int,a.map (·.1)=zs.map Sum.inl:=by
  clear j o c q
  induction a with
  |nil=>exact⟨[],Y⟩
  |cons b r p=>
   obtain⟨zs,e⟩:=p λx g=>f x (acG _ g)
   obtain⟨i,u⟩:=f b (ack ..);exact⟨i::zs,by grind⟩
 obtain⟨zs,e⟩:=ex;refine⟨a,zs,j,?_,?_,λs n w=>?_⟩
 ·rw[show (λb:Key×V=>kV b.1)=kV ∘ (·.1) from Y,<-ac7,e,ac7];rfl
 ·have:=ac5 List.length e;rw[ab9,ab9]at this;omega
 ·obtain⟨x,g⟩:=l.se _ _ _ w;have:Sum.inl s∈a.map (·.1):=BE (v:=.ref x) (by rw[c,g];rfl)
  grind
structure ko (CG CC:Addr) (S:RS) (bs:List (Nat×List Int×Nat)) (gs:List (Option Gg)) (W0:bE) (Ex:Nat->Int->Prop) (B:Nat) (x r:Addr) (c:KA) (hd:Nat) (fp:List (List Int×Nat)) (O:Addr->Prop) (H:Hp) (ag:List Nat) (W:bE):Prop where
 c:b9 CG CC H x r c gs ag W hd fp O
 i:CI S bs gs ag W Ex none
 s:∀r s n,W r s n=true->W0 r s n=true
 b:ag.length+ uW S.made gs.length W<=B
theorem ko.wake {bs:List (Nat×List Int×Nat)}{gs:List (Option Gg)}{j:bE}{i:Nat->Int->Prop}{x:Addr}{d:KA}{hd:Nat}{f:List (List Int×Nat)}{O:Addr->Prop}{W:bE}(h:ko a b S bs gs j i n x c d hd f O H B W){m:Nat}{s:Int}{ns:List Nat}(nd:ns.Nodup)(g:∀e:Nat,e∈ns↔W m s e=true)(q:b9 a b I x c d gs (B++ns) (fM W m s) hd f O):ko a b S bs gs j i n x c d hd f O I (B++ns) (fM W m s):=
 ⟨q,h.i.wake g,λc s e w=>h.s _ _ _ (cX.mp w).1,by have:=h.i.PB nd g;have:=h.b;rw[ab6];omega⟩
theorem ko.fits {bs:List (Nat×List Int×Nat)}{gs:List (Option Gg)}{g:bE}{j:Nat->Int->Prop}{x:Addr}{e:KA}{hd:Nat}{f:List (List Int×Nat)}{O:Addr->Prop}{W:bE}(h:ko a b S bs gs g j n x c e hd f O H B W)(k:n<=1000000){m:Nat}{s:Int}:∀ns:List Nat,ns.Nodup->(∀d:Nat,d∈ns↔W m s d=true)->B.length+ ns.length<=1000000:=λns nd i=>by have:=h.i.PB nd i;have:=h.b;omega
inductive Ca (CR CG CC:Addr) (vs:List V) (H:Hp) (Q:VK) (E_:XK):Prop
 |mk (x r:Addr) (c:KA) (S:RS) (a:RA) (bs:List (Nat×List Int×Nat)) (gs:List (Option Gg)) (ag:List Nat) (W:bE) (Ex:Nat->Int->Prop) (B hd:Nat) (fp:List (List Int×Nat)) (O:Addr->Prop) (m:Nat):vs=[.ref x,.int m]->ko CG CC S bs gs W Ex B x r c hd fp O H ag W->B<=1000000->aq CR H r S a->S.Wf->(∀b,a.own r b->¬O b)->m<S.made->S.ao m<S.made->(∀ig W' H',Bt O H H'->ko CG CC S bs gs W Ex B x r c hd fp O H' ig W'->(∀s n,W' m s n=false)->(∀s n,W' (S.ao m) s n=true->S.by (S.ao m) s=none)->Q .non H')->Ca CR CG CC vs H Q E_
theorem qt (T:Txt K mg A):bx P w K mg base (bD P w) 2 A.kb A.kc ["self","room"] (Ca A.aw A.aH A.az):=by
 refine T.iY.F.okN eR (λvs H Q E h=>?_) (λcy AA outer s H vs Q E hr h=>?_)
 ·obtain⟨x,r,c,S,a,bs,N,ag,W,Ex,B,hd,Z,O,m,rfl,_⟩:=h;rfl
 ·obtain⟨x,r,c,S,a,bs,N,ag,W,Ex,B,hd,Z,O,m,rfl,h,hB,hR,wf,dj,hm,he,k⟩:=h;have yb:=jW hr
  refine⟨_,(aj (eB acH Y (du (eh (jt Y) Y T.fP acO (ae (lE yb (aB (pv 0) Y) (pv 1) fq ⟨Y,Y,Y,Y⟩) ak))) (cC (i:=2) eR.nd Y (Or.inl Y))
   (ax (aZ (bf (pv 0) (aK T) T.cP.m (fk T) hr.Za5 T.cP.b .nil aJ (ae (pv 1) (ae (pv 2) ak))))))
   (aj (a9 (i:=3) eR.nd Y (Or.inl Y) (bf (aB (pv 0) Y) (aF T) T.dH.m (ib T) hr.Za5 T.dH.b .nil aJ (ae (pv 1) ak)))
   (ax (eB acH Y (du (eh (jt Y) Y T.fP acO (ae (lE yb (aB (pv 0) Y) (pv 3) fq ⟨Y,Y,Y,Y⟩) ak))) (cC (i:=2) eR.nd Y (Or.inl Y))
    (ax (cw (bV (bq ny (bf (aB (pv 0) Y) (aF T) T.dC.m (gG T) hr.Za5 T.dC.b .nil aJ (ae (pv 3) (ae (pv 2) ak))) c9 (bC _))
     (ax (aZ (bf (pv 0) (aK T) T.cP.m (fk T) hr.Za5 T.cP.b .nil aJ (ae (pv 3) (ae (pv 2) ak)))))
     bG))))))),?_⟩
  try dsimp only[a8,bQ]
  refine eF ?_;intro jG gM;have rk:∀{D:Hp},Bt O H D->aq A.aw D r S a:=λ{D} b=>hR.keep (λb' o hb e=>b b' o (dj b' hb) e) (λb' xs e=>b b' _ (h.c.iI e) e)
  have get:∀{U:Hp} {T9:List Nat} {W1:bE} (m1:Nat),ko A.aH A.az S bs N W Ex B x r c hd Z O U T9 W1->∀L,U L=none->∃(o:Option V) (d:Addr) (y:List (Key×V)) (J:List Int),fI (upd U L (.dK [])) c.aW (.int (m1:Int)) o/\o.getD (.ref L)=.ref d/\upd U L (.dK []) d=some (.dK y)/\y.map (λkv=>kV kv.1)=av J/\∀s n,W1 m1 s n=true->s∈J:=λ{U T9 W1} m1 h1 L G=>by
   have s1:=ay.upd (o:=.dK []) G;obtain⟨o,R,g2⟩:=(h1.c.same s1).wt.get (c:=(m1:Int));rcases g2 with ⟨rfl,no⟩|⟨d,rfl,w⟩
   ·exact⟨none,L,[],[],R,Y,ah,Y,λs n z=>by grind⟩
   ·obtain⟨y,J,e1,e2,_,e4⟩:=w.keys;exact⟨_,d,y,J,R,Y,e1,e2,e4⟩
  refine⟨_,Y,x,_,c.dx,_,_,Y,h.c.ins,aK T,T.jE,kU _ _ _,c.aW,Y,h.c.wt.pT,_,Y,λL G=>?_⟩;obtain⟨o,d,y,J,R,g2,g3,g4,Ua⟩:=get m h L G;refine⟨o,R,d,y,(by rw[g2]),g3,λl nl=>?_⟩;rw[g4];have s1:=(ay.upd (o:=.dK []) G).trans (ay.upd (o:=.lst (av J)) nl);have hl:upd (upd H L (.dK [])) l (.lst (av J)) l=some (.lst (av J)):=ah;replace nl:=same_none (ay.upd (o:=.dK []) G) nl;generalize upd (upd H L (.dK [])) l (.lst (av J))=U at s1 hl ⊢;clear R g2 g3 g4;have Ub:¬O l:=λz=>by obtain⟨o,e,_⟩:=h.c.th l z;grind
  have h1:ko A.aH A.az S bs N W Ex B x r c hd Z O U ag W:=⟨h.c.same s1,h.i,h.s,h.b⟩;refine⟨l,Y,⟨_,aI.of hl⟩,?_⟩
  refine fZ (K:=K) (a:=l) (xs:=av J) (λi M D=>∃u I v2,M=[some (.ref x),some (.int (m:Int)),v2,none]/\Bt O U D/\ko A.aH A.az S bs N W Ex B x r c hd Z O D u I/\∀(j:Nat) (s:Int),j<i->J[j]?=some s->∀n,I m s n=false)
   ⟨ag,W,none,Y,λ_ _ _ e=>e,h1,λj s C=>absurd C (by omega)⟩ (λi M D _ q0=>by obtain⟨_,_,_,_,b2,_⟩:=q0;exact aI.of (b2 _ _ Ub hl)) ?_ ?_
  ·rintro i v M D hi ⟨u,I,v2,rfl,b2,g,C⟩;obtain⟨s,rfl,hs⟩:=dh hi;refine⟨_,Y,x,c.dx,_,Y,g.c.ins,eS (by decide),_,Y,_,Y,x,r,c,N,u,I,hd,Z,O,m,s,Y,g.c,g.fits hB,λns H3 b3 nd hn h3=>?_⟩;refine⟨_,_,_,Y,b2.trans b3 λb z=>.inl z,g.wake nd hn h3,λj s' f e n=>?_⟩
   cases q:fM I m s m s' n with
   |false=>rfl
   |true=>
    obtain⟨q1,q2⟩:=cX.mp q
    grind
  rintro M D ⟨u,I,v2,rfl,b2,g,C⟩;rw[aT]at C;have PD:Bt O H D:=Bt.trans (.of s1) b2 λb z=>.inl z
  have off:∀s n,I m s n=false:=λs n=>by
   cases q:I m s n with
   |false=>rfl
   |true=>
    obtain⟨j,f,e⟩:=aeZ.mp (Ua s n (g.s _ _ _ q));rw[C j s f (by rw[ab3 f,e]) n]at q;cases q
  clear C Ua hl Ub h1;have R2:=rk PD;refine⟨_,Y,x,_,c.dx,_,_,Y,g.c.ins,aK T,T.eK,fz _ _ _,r,a.dx,_,Y,R2.ins,cD _ _ _ (by decide),_,Y,r,S,a,m,S.ao m,Y,R2,oO (by rw[wf.e];exact hm),?_⟩;generalize S.ao m=e at he k ⊢;refine⟨_,Y,x,_,c.dx,_,_,Y,g.c.ins,aK T,T.jE,kU _ _ _,c.aW,Y,g.c.wt.pT,_,Y,λp2 vT=>?_⟩;obtain⟨o2,d2,VY,t,R,g2,g3,g4,VZ⟩:=get e g p2 vT;refine⟨o2,R,d2,VY,(by rw[g2]),g3,λl2 B6=>?_⟩;rw[g4];have s3:=(ay.upd (o:=.dK []) vT).trans (ay.upd (o:=.lst (av t)) B6);have xF:upd (upd D p2 (.dK [])) l2 (.lst (av t)) l2=some (.lst (av t)):=ah;replace B6:=same_none (ay.upd (o:=.dK []) vT) B6;generalize upd (upd D p2 (.dK [])) l2 (.lst (av t))=H3 at s3 xF ⊢;clear R g2 g3 g4;have V0:¬O l2:=λz=>by obtain⟨o,e,_⟩:=g.c.th l2 z;grind
  have h3:ko A.aH A.az S bs N W Ex B x r c hd Z O H3 u I:=⟨g.c.same s3,g.i,g.s,g.b⟩;refine⟨l2,Y,⟨_,aI.of xF⟩,?_⟩
  refine fZ (K:=K) (a:=l2) (xs:=av t) (λi M H4=>∃F W4 v2,M=[some (.ref x),some (.int (m:Int)),v2,some (.int (e:Int))]/\Bt O H3 H4/\ko A.aH A.az S bs N W Ex B x r c hd Z O H4 F W4/\(∀r s n,W4 r s n=true->I r s n=true)/\∀(j:Nat) (s:Int),j<i->t[j]?=some s->∀n,W4 e s n=true->S.by e s=none)
   ⟨u,I,_,Y,λ_ _ _ q=>q,h3,λ_ _ _ q=>q,λj s C=>absurd C (by omega)⟩ (λi M H4 _ q0=>by obtain⟨_,_,_,_,b4,_⟩:=q0;exact aI.of (b4 _ _ V0 xF)) ?_ ?_
  ·rintro i v M H4 hi ⟨F,W4,v4,rfl,b4,X,p,C⟩;obtain⟨s,rfl,hs⟩:=dh hi;have Yf:Bt O H H4:=PD.trans (Bt.trans (.of s3) b4 λb z=>.inl z) λb z=>.inl z
   have R4:=rk Yf;refine⟨_,?_,λ_ _ z=>z⟩;refine⟨_,Y,x,_,c.dx,_,_,Y,X.c.ins,aK T,T.eK,fz _ _ _,r,a.dx,_,Y,R4.ins,cD _ _ _ (by decide),_,Y,_,Y,r,S,a,e,s,Y,R4,by rw[wf.w];exact he,?_⟩
   cases eb:S.by e s with
   |none=>
    refine⟨Y,_,Y,?_⟩;refine df (λz=>absurd z (by decide)) (λ_=>?_);refine⟨_,_,_,Y,b4,X,p,λj s' f q n w=>?_⟩
    grind
   |some d=>
    rw[show (Option.map (λn:Nat=>V.int (n:Int)) (some d)).getD V.non=V.int (d:Int) from rfl];refine⟨Y,_,Y,?_⟩;refine df (λ_=>?_) (λz=>absurd Y z);refine⟨_,Y,x,c.dx,_,Y,X.c.ins,eS (by decide),_,Y,_,Y,x,r,c,N,F,W4,hd,Z,O,e,s,Y,X.c,X.fits hB,λns H5 b5 nd hn h5=>?_⟩;refine⟨_,_,_,Y,b4.trans b5 λb z=>.inl z,X.wake nd hn h5,λr s n w=>p _ _ _ (cX.mp w).1,λj s' f q n w=>?_⟩;obtain⟨w1,w2⟩:=cX.mp w
    grind
  rintro M H4 ⟨F,W4,v4,rfl,b4,X,p,C⟩;rw[aT]at C;refine k F W4 H4 (PD.trans (Bt.trans (.of s3) b4 λb z=>.inl z) λb z=>.inl z) X (λs n=>?_) λs n w=>?_
  ·grind
  ·obtain⟨j,f,q⟩:=aeZ.mp (VZ s n (p _ _ _ w));exact C j s f (by rw[ab3 f,q]) n w
theorem b9.Sf {x:Addr}{f:KA}{gs:List (Option Gg)}{W:bE}{hd:Nat}{r:List (List Int×Nat)}{O:Addr->Prop}(h:b9 a b H x c f gs B W hd r O)(F:∀(n:Nat) (g:Gg) (p dx k:Addr),gs[n]?=some (some g)->dN a H p dx k g->p≠x)(n:Nat):b9 a b (upd H x (.ins b f.dx (oQ c f n))) x c f gs B W n r O:=by
 have kn:∀j o,(∀C d fs,o≠.ins C d fs)->H j=some o->upd H x (.ins b f.dx (oQ c f n)) j=some o:=λj o q e=>by rw[ai (λz=>by rw[z,h.ins]at e;grind)];exact e
 obtain⟨y,u,g2⟩:=h.hG;refine⟨ah,⟨y,kn _ _ (by grind) u,g2.l,g2.n,λi v g t s=>?_,g2.i⟩,kn _ _ (by grind) h.hA,?_,h.ne,h.ox,h.oG,h.oA,λj l=>?_⟩
 ·obtain⟨p,dx,k,e,q,o⟩:=g2.s i v g t s;exact⟨p,dx,k,e,⟨by rw[ai (F i g p dx k s q)];exact q.ins,kn _ _ (by grind) q.wo⟩,o⟩
 ·obtain⟨D,E,k1,k2⟩:=h.wt;exact⟨D,E,k1.keep λj o l e=>by obtain⟨G,q⟩:=k1.there l;rw[q]at e;cases e;exact kn _ _ (by grind) q,k2⟩
 ·by_cases e:j=x
  ·exact⟨_,by rw[e];exact ah,(by grind),(by grind),(by grind),by grind⟩
  ·obtain⟨o,q,m⟩:=h.th j l;exact⟨o,by rw[ai e];exact q,m⟩
theorem Aj {x:Addr}{d:KA}{k:List (Option Gg)}{W:bE}{f:List (List Int×Nat)}{O:Addr->Prop}(h:b9 a b H x c d k B W n f O){p i j:Addr}{g:Gg}(q:dN a H p i j g):p≠x:=λz=>by
 have:=q.ins;rw[z,h.ins]at this;have e:=ac5 (λo:Option HO=>match o with|some (.ins _ _ fs)=>fs.length|_=>0) this;exact absurd (show 6=7 from e) (by decide)
def JX (S:RS)(a:Nat):Nat->Int->Prop:=λr _=>∃m∈S.aX.drop a,r=m\/r=S.ao m
inductive FQ (CR CG CC:Addr) (vs:List V) (H:Hp) (Q:VK) (E_:XK):Prop
 |mk (x r:Addr) (c:KA) (S:RS) (a:RA) (R:Za2) (bs:List (Nat×List Int×Nat)) (gs:List (Option Gg)) (ag:List Nat) (W:bE) (B hd:Nat) (fp:List (List Int×Nat)) (O:Addr->Prop):vs=[.ref x]->ko CG CC S bs gs W (JX S hd) B x r c hd fp O H ag W->B<=1000000->hd<=S.aX.length->aq CR H r S a->Good S [] R->(∀m∈S.aX,m<S.made)->(∀b,a.own r b->¬O b)->(∀ig W' H',Bt O H H'->ko CG CC S bs gs W fu B x r c S.aX.length fp O H' ig W'->Q .non H')->FQ CR CG CC vs H Q E_
theorem vW (T:Txt K mg A):bx P w K mg base (bD P w) 3 A.oD A.oE ["self"] (FQ A.aw A.aH A.az):=by
 refine T.lZ.F.okN vL (λvs H Q E h=>?_) (λcy AA J s H vs Q E L h=>?_)
 ·obtain⟨x,r,c,S,a,R,bs,X,ag,W,B,hd,I,O,rfl,_⟩:=h;rfl
 ·obtain⟨x,r,c,S,a,R,bs,X,ag,W,B,hd,I,O,rfl,h,hB,Yg,hR,N,Yh,dj,k⟩:=h
  refine⟨_,(ax (cw (fY acH (bq mx (aB (pv 0) Y) (bA bM Y T.fj acX (ae (aB (aB (pv 0) Y) Y) ak)) (bC _))
   (aj (aZ (bf (pv 0) (aK T) T.iY.m (qt T) (L.mono (by decide)) T.iY.b .nil aJ (ae (bN bS (aB (aB (pv 0) Y) Y) (aB (pv 0) Y) (λ_ _=>rfl)) ak)))
   (ax (bW (pv 0) (bP iz (aB (pv 0) Y) aM) Y)))))),?_⟩
  try dsimp only[a8,bQ]
  have rk:∀{u:Hp},Bt O H u->aq A.aw u r S a:=λ{u} b=>hR.keep (λF o hb e=>b F o (dj F hb) e) (λF xs e=>b F _ (h.c.iI e) e)
  refine⟨λ fU H'=>Q .non H',?_,λ_ _ q=>q⟩;refine⟨λm σ u=>∃d j G,m=S.aX.length - d/\σ=[some (.ref x)]/\d<=S.aX.length/\Bt O H u/\ko A.aH A.az S bs X W (JX S d) B x r c d I O u j G,⟨_,hd,ag,W,Y,Y,Yg,λ_ _ _ e=>e,h⟩,?_⟩;rintro m σ u ⟨d,j,G,rfl,rfl,xF,U,i⟩;have R2:=rk U;have t:=R2.ins;refine⟨_,Y,x,_,c.dx,_,_,Y,i.c.ins,aK T,T.mh,ux _ _ _,_,Y,x,_,c.dx,_,_,Y,i.c.ins,aK T,T.eK,fz _ _ _,r,_,a.dx,_,_,Y,t,aF T,T.rE,sg _ _ _,a.aN,_,Y,.inl (aI.of R2.hN),_,_,Y,Y,_,Y,?_⟩;refine df (λq=>?_) (λq=>?_)
  ·have q:(d:Int)<((av (nI S.aX)).length:Int):=acI q;rw[aT,bL]at q;have f:d<S.aX.length:=by omega
   have D:S.aX[d]?=some (S.aX[d]'f):=ab3 f
   generalize S.aX[d]'f=m at D;have y:=Yh m (ab4 D);refine⟨_,λ_ _ z=>z,?_⟩;refine⟨_,Y,x,c.dx,_,Y,i.c.ins,eS (by decide),_,Y,x,_,c.dx,_,_,Y,i.c.ins,aK T,T.eK,fz _ _ _,r,_,a.dx,_,_,Y,t,aF T,T.rE,sg _ _ _,_,Y,x,_,c.dx,_,_,Y,i.c.ins,aK T,T.mh,ux _ _ _,a.aN,_,_,.int (m:Int),Y,Y,aI.of R2.hN,dA (cJ (iB D)),?_⟩;refine⟨x,r,c,S,a,bs,X,j,G,JX S d,B,d,I,O,m,Y,⟨i.c,i.i,λ_ _ _ z=>z,i.b⟩,hB,R2,N.wf,dj,y,N.lt y,λZ W3 H3 b3 l w1 w2=>?_⟩;refine⟨_,Y,x,_,c.dx,_,_,Y,l.c.ins,aK T,T.mh,ux _ _ _,_,_,Y,Y,_,Y,x,_,c.dx,_,Y,l.c.ins,aK T,T.mh,(by show 6<1000;decide),?_⟩;rw[show V.int ((d:Int)+ 1)=V.int ((d+ 1:Nat):Int) from Y,Iu];have c4:=l.c.Sf (λn g p dx wa _ z=>Aj l.c z) (d+ 1);refine⟨S.aX.length - (d+ 1),by omega,d+ 1,Z,W3,Y,Y,f,?_,c4,l.i.ex λr' s n w L ex=>?_,λr s n w=>i.s _ _ _ (l.s _ _ _ w),l.b⟩
   ·exact(U.trans b3 λb z=>.inl z).trans (λb o n e=>by rw[ai (λz=>n (by rw[z];exact l.c.ox))];exact e:Bt O H3 _) λb z=>.inl z
   ·obtain⟨M,v,C⟩:=ex;rw[ae1 f]at v;rcases aci.mp v with z|z
    ·have em:M=m:=by rw[z];rw[ab3 f]at D;exact Za0 D
     subst em;rcases C with C|C
     ·rw[C,w1]at w;cases w
     ·subst C;exact .inl ⟨(N.el _ y).2,w2 s n w⟩
    ·exact .inr ⟨M,z,C⟩
  ·have q:¬(d:Int)<((av (nI S.aX)).length:Int):=λz=>q (acy z)
   rw[aT,bL]at q;have e:d=S.aX.length:=by omega
   subst e;refine k j G u U ⟨i.c,i.i.ex λr' s n w L ex=>?_,i.s,i.b⟩;obtain⟨M,v,_⟩:=ex
   grind
theorem ye {h:List Way}{ks:List Int}(g:Good S h R)(k:∀a z b,R a z b->z∈ks)(o:S.made<=100000)(p:ks.length<=100000)(r:S.rows.length<=1000000)(s:S.aX.length<=1000000):vS S:=by
 refine⟨g.wf,λc f=>g.lt f,λc z d e=>(g.st c z d e).2.1,λc n m=>g.cb c n m,λc _=>⟨g.kn c,λq j=>(g.st c q.1 q.2 (je (g.kn c) j)).2.1,λq j _=>?_⟩,⟨o,λl i=>?_,r,s,λl i=>?_⟩⟩
 ·rw[g.sy c q.1 q.2 (je (g.kn c) j)];rfl
 ·obtain⟨c,f⟩:=acJ i;have:S.way c=l:=by unfold RS.way;rw[acd,f];rfl
  rw[<-this];exact acr (g.EB k c) p
 ·obtain⟨c,f⟩:=acJ i;have:S.bZ c=l:=by unfold RS.bZ;rw[acd,f];rfl
  rw[<-this];exact acr (g.Nz c) (by omega)
theorem Ak (S:RS):S.stand<=S.made:=by
 unfold RS.stand;exact acr aeb (by grind)
def PF (R:Za2)(m L B d M:Nat)(ks:List Int)(c:RS)(e:List Way)(S:RS)(a:List Way):Prop:=Good S a R/\S.made=m/\S.L=L/\S.rows.length+ S.stand<=B/\S.aX.length+ S.stand<=d/\mu ks.length S a<=M/\∀b,jP S a b->jP c e b
theorem Iv {M:Nat}{ks:List Int}{p:List Way}(k:∀a z b,R a z b->z∈ks)(I:m<=100000)(B:ks.length<=100000)(J:i<=1000000)(H:j<=1000000)(L:M<=1000000)(S:RS)(pend:List Way)(w:Way)(h:PF R m n i j M ks T p S (pend++[w])):
 vS S/\w.1<S.made/\w.2.2<S.made/\pend.length<=1000000/\PF R m n i j M ks T p (S.takeIn pend w).1 (S.takeIn pend w).2/\mu ks.length (S.takeIn pend w).1 (S.takeIn pend w).2<mu ks.length S (pend++[w]):=by
 obtain⟨g,t,G,r,D,q,C⟩:=h;obtain⟨F,s,E,v,o⟩:=g.take k;have hw:=g.pl w (ab8 _ ack);refine⟨ye g k (by omega) B (by omega) (by omega),hw.1,hw.2,?_,⟨F,by rw[E,t],by rw[v,G],?_,?_,by omega,λu l=>C u (.take l)⟩,s⟩
 ·unfold mu at q;rw[ab6]at q;omega
 ·rcases o with ⟨d,e,f⟩|⟨d,c,z,x,y,_,_,_,_,_,e,f,_⟩
  ·rw[d,e];exact r
  ·rw[e,ab6];have:([gE c z (min x y) (max x y)]:List Dt).length=1:=rfl;omega
 ·rcases o with ⟨d,e,f⟩|⟨d,c,z,x,y,_,_,_,_,_,e,f,_⟩
  ·rw[d,f];exact D
  ·rw[f,ab6];have:([max x y]:List Nat).length=1:=rfl;omega
theorem cU:z∈bu (2* n)↔z≠0/\z.natAbs<=n:=by
 unfold bu;rw[adl];constructor
 ·rintro ⟨i,a,rfl⟩;exact M12.R8 (adq.mp a)
 ·rintro ⟨d,b⟩;by_cases c:0<z
  ·refine⟨2* (z.toNat - 1),adq.mpr (by omega),?_⟩;unfold M12.st;rw[acv (by omega)];omega
  ·refine⟨2* (z.natAbs - 1)+ 1,adq.mpr (by omega),?_⟩;unfold M12.st;rw[acm (by omega)];omega
structure ik (CR:Addr) (H:Hp) (r:Addr) (S:RS) (a:RA) (R:Za2) (ks:List Int) (B:Nat):Prop where
 at_:aq CR H r S a
 g:Good S [] R
 w:fh S
 k:∀a z b,R a z b->z∈ks
 m:S.made<=2000
 l:ks.length<=400
 rb:S.rows.length+ S.stand<=B
 wb:S.aX.length+ S.stand<=900000
theorem ik.keep {CR:Addr}{ks:List Int}(h:ik CR H a S O R ks n)(k:∀b o,O.own a b->H b=some o->I b=some o)(d:∀b c,H b=some (.tup c)->I b=some (.tup c)):ik CR I a S O R ks n:=⟨h.at_.keep k d,h.g,h.w,h.k,h.m,h.l,h.rb,h.wb⟩
theorem ik.same {CR:Addr}{ks:List Int}(h:ik CR H a S O R ks n)(s:ay H I):ik CR I a S O R ks n:=h.keep (λb o _ e=>s _ _ e) (λb o e=>s _ _ e)
theorem wV (h:aq a H b S O){c:Addr}{d:List (List Key×V)}(e:H c=some (.dT d)):¬O.own b c:=λz=>by
 rcases z with z|z|z
 ·rw[z,h.ins]at e;cases e
 ·obtain⟨f,q⟩:=h.Jc z;grind
 ·obtain⟨f,q⟩:=h.pT z;grind
theorem Iw (w:Nat)(p:List Nat)(k:Nat)(h:p.length<=100000):lH (kY w p k):=by
 refine .t (by show 4<=100000;decide) λd a=>?_
 simp only[aci,ac0,aeV]at a;rcases a with rfl|rfl|rfl|rfl
 ·exact .s
 ·exact .i
 ·refine .t (by rw[ab9];exact h) λd a=>?_
  obtain⟨c,_,rfl⟩:=adl.mp a;exact .i
 ·exact .i
inductive FT (CR CG CC:Addr) (vs:List V) (H:Hp) (Q:VK) (E_:XK):Prop
 |mk (x r p dx wa:Addr) (c:KA) (S:RS) (a:RA) (R:Za2) (ks:List Int) (B:Nat) (ws:Za3) (nr:Nat) (bs:List (Nat×List Int×Nat)) (gs:List (Option Gg)) (ag:List Nat) (W:bE) (fp:List (List Int×Nat)) (O:Addr->Prop) (n:Nat) (g:Gg):vs=[.ref x,.ref p]->b9 CG CC H x r c gs ag W S.aX.length fp O->ik CR H r S a R ks B->B<900000->(∀b,a.own r b->¬O b)->CI S bs gs ag W fu (some n)->gs[n]?=some none->bs[n]?=some (g.which,g.word,g.start)->dN CG H p dx wa g->¬O p->¬a.own r p->GI S g->g.first=g.last->S.ao g.start=g.start->S.ao g.front=g.front->S.ao g.bj=g.bj->ws[g.which]?=some g.word->(g.which<nr\/g.start=0)->(∀z∈g.word,z∈ks/\-z∈ks)->g.word.length<=1000->ag.length+ 2* gs.length<=1000000->(∀S' a' R' ig W' H',(∀b o,¬O b->¬a.own r b->H b=some o->H' b=some o)->b9 CG CC H' x r c gs ig W' S'.aX.length fp O->ik CR H' r S' a' R' ks (B+ 1)->(∀b,a'.own r b->a.own r b\/H b=none)->CI S' bs gs ig W' fu none->ig.length<=ag.length+ 2* gs.length->(∀a z b,R a z b->R' a z b)->S'.made=S.made->S'.L=S.L->Tr ws nr S S'->Q .non H')->FT CR CG CC vs H Q E_
theorem wW (T:Txt K mg A):bx P w K mg base (bD P w) 6 A.qe A.qf ["self","going"] (FT A.aw A.aH A.az):=by
 refine T.nh.F.okN oJ (λvs H Q E h=>?_) (λcy AA outer s H vs Q E J h=>?_)
 ·obtain⟨x,r,p,t,wa,c,S,a,R,ks,B,ws,nr,bs,I,L,W,fp,O,n,g,rfl,_⟩:=h;rfl
 ·obtain⟨x,r,p,t,wa,c,S,a,R,ks,B,ws,nr,bs,I,L,W,fp,O,n,g,rfl,hc,f,hB,dj,ci,Uc,FU,C,Al,Ah,j,G,es,ef,er,Yi,Yj,Yk,B7,N,k⟩:=h
  refine⟨_,(aj (a9 (i:=2) oJ.nd Y (Or.inl Y) (bN fH (aB (pv 1) Y) (aB (pv 1) Y) (λ_ _=>rfl)))
   (aj (bV (bq iG (bf (aB (pv 0) Y) (aF T) T.dC.m (gG T) (J.mono (by decide)) T.dC.b .nil aJ (ae (aB (pv 1) Y) (ae (pv 2) ak))) (aB (pv 1) Y) (bC _))
    (ax wx)
    bG)
   (aj (aZ (bf (aB (pv 0) Y) (aF T) T.rq.m (Ad T) (J.mono (by decide)) T.rq.b .nil aJ (ae (aB (pv 1) Y) (ae (pv 2) (ae (aB (pv 1) Y) (ae (bf (pv 1) (aO T) T.ro.m (Ai T) (J.mono (by decide)) T.ro.b .nil aJ (ae (aB (pv 0) Y) ak)) ak))))))
   (aj (aZ (bf (pv 0) (aK T) T.cP.m (fk T) (J.mono (by decide)) T.cP.b .nil aJ (ae (aB (pv 1) Y) (ae (pv 2) ak))))
   (aj (aZ (bf (pv 0) (aK T) T.cP.m (fk T) (J.mono (by decide)) T.cP.b .nil aJ (ae (aB (pv 1) Y) (ae (gI fb (pv 2)) ak))))
   (ax (aZ (gb (pv 0) (aK T) T.lZ.m (vW T) (J.mono (by decide)) T.lZ.b .nil aJ)))))))),?_⟩
  try dsimp only[a8,bQ]
  refine ua ?_;intro ya tM oM jG gM;have hz:=Gg.pW (g:=g) (by rw[G];exact j.ll);have pW:lu (av g.word) (g.first:Int)=some (.int g.z1):=dA (cJ hz);have gd:=f.g;refine⟨_,Y,p,_,t,_,_,Y,C.ins,aO T,T.jk,jS _ _,_,Y,p,_,t,_,_,Y,C.ins,aO T,T.eJ,gq _ _,wa,_,_,.int g.z1,Y,Y,bT.of C.wo,pW,?_⟩;refine⟨_,Y,x,_,c.dx,_,_,Y,hc.ins,aK T,T.eK,fz _ _ _,r,a.dx,_,Y,f.at_.ins,cD _ _ _ (by decide),_,Y,p,_,t,_,_,Y,C.ins,aO T,T.gk,jT _ _,_,Y,r,S,a,g.front,g.z1,Y,f.at_,by rw[gd.wf.w];exact j.f,_,Y,p,_,t,_,_,Y,C.ins,aO T,T.gF,jU _ _,?_⟩
  have fin:S.by g.front g.z1=some g.bj->Q .non H:=λv=>by
   refine k S a R L W H (λ_ _ _ _ e=>e) hc ⟨f.at_,f.g,f.w,f.k,f.m,f.l,by have:=f.rb;omega,f.wb⟩ (λb z=>.inl z) (ci.done Uc λb eb=>?_) (by omega) (λ_ _ _ z=>z) Y Y (.refl S);rw[FU]at eb;obtain rfl:=Za0 eb;exact .inr (j.whole G es ef er v)
  by_cases v:S.by g.front g.z1=some g.bj
  ·rw[v];refine⟨Y,_,Y,?_⟩;exact df (λ_=>fin v) (λz=>absurd (acy Y) z)
  have X:Gw (((S.by g.front g.z1).map λn:Nat=>V.int (n:Int)).getD .non) (.int (g.bj:Int))=true/\decide ((((S.by g.front g.z1).map λn:Nat=>V.int (n:Int)).getD .non)=V.int (g.bj:Int))=false:=by
   cases q:S.by g.front g.z1 with
   |none=>exact⟨Y,acU (by nofun)⟩
   |some d=>exact⟨Y,acU (λz=>v (by rw[q];have:=V.int.inj z;congr 1;omega))⟩
  refine⟨X.1,_,Y,?_⟩;rw[X.2];refine dc ?_;clear fin X;refine⟨_,Y,x,_,c.dx,_,_,Y,hc.ins,aK T,T.eK,fz _ _ _,r,a.dx,_,Y,f.at_.ins,cD _ _ _ (by decide),_,Y,p,_,t,_,_,Y,C.ins,aO T,T.gk,jT _ _,_,Y,_,Y,p,_,t,_,_,Y,C.ins,aO T,T.gF,jU _ _,_,Y,p,t,_,Y,C.ins,JN (by decide),_,Y,x,_,c.dx,_,_,Y,hc.ins,aK T,T.eK,fz _ _ _,p,t,wa,r,g,S,a,R,Y,C,f.at_,gd,j.s,j.r,j.ll,B7,λq H1 s1 dt=>?_⟩;have lx:=oP (by_:=S.by) (ws:=g.word.take g.first) (r:=g.start);have ly:=oP (by_:=S.by) (ws:=g.word.drop (g.last+ 1)) (r:=g.bj);rw[acQ]at lx;rw[ad5]at ly;have f1:=j.wf;have f2:=j.wr;rw[es,ef]at f1;rw[es,er,<-G]at f2;rw[<-G]at dt ly;have ra:uX ws nr S g.which g.word g.start g.first g.front g.bj g.z1:=⟨Yi,Yj,⟨j.s,es⟩,hz,f1,f2,⟨j.f,ef⟩,⟨j.r,er⟩,v⟩
  have F:∀a y b,ft R g.front g.z1 g.bj a y b->y∈ks:=by
   have:=Yk g.z1 (ab4 hz);rintro a y b (z|⟨_,e,_⟩|⟨_,e,_⟩)
   ·exact f.k _ _ _ z
   ·rw[e];exact this.1
   ·rw[e];exact this.2
  have stl:=Ak S
  have JM:mu ks.length (pz S g.which g.word g.start g.first g.bj) [(g.front,g.z1,g.bj)]<=1000000:=by
   unfold mu;have h1:(pz S g.which g.word g.start g.first g.bj).stand=S.stand:=rfl;have:S.stand* (ks.length+ 1)<=2000* 401:=Nat.mul_le_mul (by have:=f.m;omega) (by have:=f.l;omega);rw[h1];show S.stand* (ks.length+ 1)+ 1<=_;omega
  have gl:=gd.lay g.z1 j.f j.r (pz S g.which g.word g.start g.first g.bj).rows;refine⟨r,q,S,a,g.front,g.bj,g.z1,_,PF (ft R g.front g.z1 g.bj) S.made S.L (B+ 1) 900000 1000000 ks (pz S g.which g.word g.start g.first g.bj) [(g.front,g.z1,g.bj)],mu ks.length,Y,f.at_.same s1,by have:=f.rb;omega,dt,Iw _ _ _ (by rw[ab6,acC,acC];omega),⟨gl,Y,Y,?_,f.wb,JM,λ_ z=>z⟩,Iv F (by have:=f.m;omega) (by have:=f.l;omega) (by omega) (by decide) (by decide),λu a' H2 b2 h2 i2 o2=>?_⟩
  ·show (S.rows++[_]).length+ S.stand<=_;rw[ab6];have:=f.rb;show _+ 1+ _<=_;omega
  obtain⟨g2,em,eL,Yl,Ym,_,re⟩:=i2;have lay:=re u (.nil u);obtain⟨_,w2,_,_,l,el⟩:=lay.all gl F (⟨f.w.a,f.w.b,f.w.c⟩:fh (pz S g.which g.word g.start g.first g.bj));have el:u.aX=S.aX++l:=el;have D:∀b o,¬a.own r b->H b=some o->H2 b=some o:=λb o nb e=>b2 b o nb (s1 _ _ e)
  have Ud:∀b,a'.own r b->a.own r b\/H b=none:=λb z=>(o2 b z).imp id (same_none s1)
  have U:∀b,a'.own r b->¬O b:=λb z y=>by
   rcases Ud b z with q|q
   ·exact dj b q y
   ·obtain⟨o,e,_⟩:=hc.th b y;grind
  have c2:b9 A.aH A.az H2 x r c I L W S.aX.length fp O:=hc.keep (λb o v e=>D b o (λz=>dj b z v) e) (λb xs e=>D b _ (f.at_.sh e) e);have p2:dN A.aH H2 p t wa g:=⟨D _ _ Ah C.ins,D _ _ (f.at_.sh C.wo) C.wo⟩;have lt:=Later.of gd g2 iO (aeJ em.symm)
  have Am:=ci.lay Uc gd g2 em f.w w2 el j.f ef j.r er λb eb=>by
   rw[FU]at eb;obtain rfl:=Za0 eb;show u.ao g.start≠g.start\/wk u.by g.start g.word=some g.start;by_cases e1:u.ao g.start=g.start
   ·right
    have h1:=lt.wk f1;have h3:=lt.wk f2;have Yn:=g2.qN.mpr ⟨g.front,g.bj,pj,Y,Y⟩;rw[e1]at h1 h3;have:g.word=g.word.take g.first++(g.z1::g.word.drop (g.first+ 1)):=by rw[<-drop_cons hz,adS]
    rw[this,nL h1,fL Yn];exact h3
   ·exact .inl e1
  have FV:ko A.aH A.az u bs I W _ (L.length+ 2* I.length) x r c S.aX.length fp O H2 L W:=⟨c2,Am,λ_ _ _ z=>z,by have:=Am.two;omega⟩;refine⟨_,Y,x,c.dx,_,Y,c2.ins,eS (by decide),_,Y,p,_,t,_,_,Y,p2.ins,aO T,T.gk,jT _ _,_,Y,x,r,c,I,L,W,S.aX.length,fp,O,g.front,g.z1,Y,c2,FV.fits N,λns H3 b3 nd hn c3=>?_⟩;have Ue:=FV.wake nd hn c3;have p3:dN A.aH H3 p t wa g:=⟨b3 _ _ Al p2.ins,b3 _ _ (c2.iI p2.wo) p2.wo⟩;refine⟨_,Y,x,c.dx,_,Y,c3.ins,eS (by decide),_,Y,p,_,t,_,_,Y,p3.ins,aO T,T.gF,jU _ _,_,Y,_,Y,x,r,c,I,_,_,S.aX.length,fp,O,g.bj,-g.z1,Y,c3,Ue.fits N,λYo H4 b4 Py Yp c4=>?_⟩;have Ug:=Ue.wake Py Yp c4;have Z:Bt O H2 H4:=b3.trans b4 λb z=>.inl z
  have R4:aq A.aw H4 r u a':=h2.keep (λb o v e=>Z b o (U b v) e) (λb xs e=>Z b _ (c2.iI e) e)
  have i4:CI u bs I (L++ns++Yo) (fM (fM W g.front g.z1) g.bj (-g.z1)) (JX u S.aX.length) none:=Ug.i.ex λr' s n' w J ex=>by
   obtain⟨w1,n1⟩:=cX.mp w;obtain⟨w2,n2⟩:=cX.mp w1;rcases ex with ⟨e1,e2⟩|⟨e1,e2⟩|⟨m,hm,e⟩
   ·exact absurd ⟨by rw[e1],e2⟩ n2
   ·exact absurd ⟨by rw[e1],e2⟩ n1
   ·exact .inr ⟨m,by grind,e⟩
  refine⟨_,Y,x,c.dx,_,Y,c4.ins,eS (by decide),x,r,c,u,a',_,bs,I,_,_,_,S.aX.length,fp,O,Y,⟨c4,i4,λ_ _ _ z=>z,Ug.b⟩,N,by rw[el,ab6];omega,R4,g2,w2.c,U,λPH W5 H5 b5 h5=>?_⟩;have M:Bt O H2 H5:=Z.trans b5 λb z=>.inl z
  refine k u a' _ PH W5 H5 (λb o n1 n2 e=>M b o n1 (D b o n2 e)) h5.c ⟨h2.keep (λb o v e=>M b o (U b v) e) (λb xs e=>M b _ (c2.iI e) e),g2,w2,F,by rw[em];exact f.m,f.l,Yl,Ym⟩ Ud h5.i (by have:=h5.b;omega) iO em eL (.step (.refl S) ra lay)
theorem Sg {x:V}{A B:Prop}(h:x=q)(k:B):if (!decide (x=q))=true then A else B:=by grind
section
variable {CG CC:Addr}{H H':Hp}{x r:Addr}{c:KA}{gs:List (Option Gg)}{ag:List Nat}{W:bE}{hd:Nat}{fp:List (List Int×Nat)}{O:Addr->Prop}{gv:List V}{n:Nat}{p dx wa:Addr}{g g':Gg}
theorem b9.Sh (h:b9 CG CC H x r c gs ag W hd fp O)(hG:H c.aG=some (.lst gv))(a:pL CG H gv gs O)(L:gv[n]?=some (.ref p))(N:O p)(q:dN CG H p dx wa g)(f:∀b o,b≠p->H b=some o->H' b=some o)(J:dN CG H' p dx wa g'):b9 CG CC H' x r c (gs.set n (some g')) ag W hd fp O/\pL CG H' gv (gs.set n (some g')) O:=by
 have kn:∀b o,(∀C d fs,o≠.ins C d fs)->H b=some o->H' b=some o:=λb o w e=>f b o (λz=>by rw[z,q.ins]at e;grind) e
 have j:pL CG H' gv (gs.set n (some g')) O:=by
  refine⟨by rw[acx];exact a.l,λi v k l=>?_,λi v u k l=>?_,a.i⟩
  ·rcases fe l with ⟨_,z⟩|⟨_,z⟩
   ·cases z
   ·exact a.n i v k z
  ·rcases fe l with ⟨z1,z⟩|⟨z1,z⟩
   ·grind
   ·obtain⟨B,y,t,e,F,G⟩:=a.s i v u k z;have I:B≠p:=λz=>z1 (a.i i n p (by grind) L)
    exact⟨B,y,t,e,⟨f _ _ I F.ins,kn _ _ (by grind) F.wo⟩,G⟩
 refine⟨⟨f _ _ (Aj h q).symm h.ins,⟨gv,kn _ _ (by grind) hG,j⟩,kn _ _ (by grind) h.hA,?_,h.ne,h.ox,h.oG,h.oA,λb s=>?_⟩,j⟩
 ·obtain⟨D,E,k1,k2⟩:=h.wt;exact⟨D,E,k1.keep λb o s e=>by obtain⟨M,q⟩:=k1.there s;grind,k2⟩
 ·by_cases e:b=p
  ·exact⟨_,by rw[e];exact J.ins,(by grind),(by grind),(by grind),by grind⟩
  ·obtain⟨o,q,m⟩:=h.th b s;exact⟨o,f _ _ e q,m⟩
theorem b9.Cb (h:b9 CG CC H x r c gs ag W hd fp O)(hG:H c.aG=some (.lst gv))(f:pL CG H gv gs O)(R:gv[n]?=some (.ref p))(q:dN CG H p dx wa g):b9 CG CC (upd H c.aG (.lst (gv.set n .non))) x r c (gs.set n none) ag W hd fp (λb=>O b/\b≠p):=by
 have k:∀b o,b≠c.aG->H b=some o->upd H c.aG (.lst (gv.set n .non)) b=some o:=λb o n e=>by rw[ai n];exact e
 have kn:∀b o,(∀s,o≠.lst s)->H b=some o->upd H c.aG (.lst (gv.set n .non)) b=some o:=λb o w e=>k b o (λz=>by grind) e
 have I:∀{b s},H b=some (.lst s)->b≠p:=λ{b s} e z=>by rw[z,q.ins]at e;cases e
 refine⟨kn _ _ (by grind) h.ins,⟨_,ah,by rw[acx,acx];exact f.l,λi v d l=>?_,λi v u d l=>?_,λi j M d l=>?_⟩,k _ _ h.ne.symm h.hA,?_,h.ne,⟨h.ox,(Aj h q).symm⟩,⟨h.oG,I hG⟩,⟨h.oA,I h.hA⟩,λb a=>?_⟩
 ·rcases fe d with ⟨z1,z⟩|⟨z1,z⟩
  ·exact z
  ·rcases fe l with ⟨t,_⟩|⟨_,y⟩
   ·exact absurd t z1
   ·exact f.n i v z y
 ·rcases fe l with ⟨_,z⟩|⟨z1,z⟩
  ·cases z
  ·rcases fe d with ⟨t,_⟩|⟨_,y⟩
   ·exact absurd t z1
   ·obtain⟨F,C,B,e,G,L⟩:=f.s i v u y z;have N:F≠p:=λw=>z1 (f.i i n p (by grind) R)
    exact⟨F,C,B,e,⟨kn _ _ (by grind) G.ins,kn _ _ (by grind) G.wo⟩,L,N⟩
 ·rcases fe d with ⟨_,z⟩|⟨_,z⟩
  ·cases z
  ·rcases fe l with ⟨_,y⟩|⟨_,y⟩
   ·cases y
   ·exact f.i i j M z y
 ·obtain⟨D,E,k1,k2⟩:=h.wt;refine⟨D,E,k1.keep λb o a e=>by obtain⟨Q,q⟩:=k1.there a;grind,λb a=>⟨k2.o b a,λz=>?_⟩,k2.d,k2.e,k2.w⟩;obtain⟨Q,J⟩:=k1.there a;rw[z,q.ins]at J;cases J
 ·by_cases e:b=c.aG
  ·exact⟨_,by rw[e];exact ah,(by grind),(by grind),(by grind),by grind⟩
  ·obtain⟨o,q,m⟩:=h.th b a.1;exact⟨o,k _ _ e q,m⟩
end
structure An (ws:Za3) (nr:Nat) (ks:List Int) (bs:List (Nat×List Int×Nat)):Prop where
 w:∀b∈bs,ws[b.1]?=some b.2.1
 n:∀b∈bs,b.1<nr\/b.2.2=0
 l:∀b∈bs,b.2.1.length<=1000
 k:∀b∈bs,∀z∈b.2.1,z∈ks/\-z∈ks
 c:bs.length<100000
def live (a:List (Option Gg)):Nat:=a.countP (·.isSome)
theorem Ao {a:List (Option Gg)}{g:Gg}(h:a[n]?=some (some g)):(∀u:Gg,live (a.set n (some u))=live a)/\live (a.set n none)+ 1=live a:=by
 unfold live
 induction a generalizing n with
 |nil=>simp at h
 |cons y r c=>
  cases n with
  |zero=>
   have:y=some g:=by simpa using h
   subst this;simp[afw]
  |succ n=>
   obtain⟨b,d⟩:=c (n:=n) (by simpa using h);simp only[List.set_cons_succ,afw];exact⟨λu=>by rw[b u],by omega⟩
inductive FW (CR CG CC:Addr) (vs:List V) (H:Hp) (Q:VK) (E_:XK):Prop
 |mk (x r:Addr) (c:KA) (S:RS) (a:RA) (R:Za2) (ks:List Int) (B:Nat) (ws:Za3) (nr:Nat) (bs:List (Nat×List Int×Nat)) (gs:List (Option Gg)) (ag:List Nat) (W:bE) (fp:List (List Int×Nat)) (O:Addr->Prop) (n:Nat):vs=[.ref x,.int n]->b9 CG CC H x r c gs ag W S.aX.length fp O->ik CR H r S a R ks B->B<900000->(∀b,a.own r b->¬O b)->CI S bs gs (ag++[n]) W fu none->An ws nr ks bs->ag.length+ 2* gs.length<=1000000->(∀S' a' R' iE ig W' O' B' H',(∀b o,¬O b->¬a.own r b->H b=some o->H' b=some o)->b9 CG CC H' x r c iE ig W' S'.aX.length fp O'->ik CR H' r S' a' R' ks B'->(∀b,a'.own r b->a.own r b\/H b=none)->(∀b,O' b->O b\/H b=none)->(∀b,a'.own r b->¬O' b)->CI S' bs iE ig W' fu none->(∀a z b,R a z b->R' a z b)->S'.made=S.made->S'.L=S.L->Tr ws nr S S'->(live iE=live gs/\ig.length=ag.length/\B'=B)\/(live iE+ 1=live gs/\ig.length<=ag.length+ 2* gs.length/\B'<=B+ 1)->Q .non H')->FW CR CG CC vs H Q E_
theorem uy (T:Txt K mg A):bx P w K mg base (bD P w) 7 A.mR A.mS ["self","number"] (FW A.aw A.aH A.az):=by
 refine T.kA.F.okN ml (λvs H Q E h=>?_) (λcy AA outer s H vs Q E hr h=>?_)
 ·obtain⟨x,r,c,S,a,R,ks,B,ws,nr,bs,G,ag,W,fp,O,n,rfl,_⟩:=h;rfl
 ·obtain⟨x,r,c,S,a,R,ks,B,ws,nr,bs,G,ag,W,fp,O,n,rfl,h,J,hB,dj,ci,F,Uh,k⟩:=h
  refine⟨_,(aj (a9 (i:=2) ml.nd Y (Or.inl Y) (bN bS (aB (pv 0) Y) (pv 1) (λ_ _=>rfl)))
   (aj (bV (bq qy (pv 2) c9 (bC _))
    (ax wx)
    bG)
   (aj (bV (bq oY (bf (aB (pv 0) Y) (aF T) T.dH.m (ib T) hr.Za5 T.dH.b .nil aJ (ae (aB (pv 2) Y) ak)) (aB (pv 2) Y) (bC _))
    (aj (qx c9 (uF (aB (pv 0) Y) (pv 1) set_list))
    (ax wx))
    bG)
   (aj (aZ (bf (pv 2) (aO T) T.kz.m (uw T) hr.Za5 T.kz.b .nil aJ (ae (aB (pv 0) Y) ak)))
   (ax (cw (bV (bq mx (aB (pv 2) Y) (aB (pv 2) Y) (bC _))
    (aj (aZ (bf (pv 0) (aK T) T.gY.m (m5 T) hr.Za5 T.gY.b .nil aJ (ae (pv 1) (ae (aB (pv 2) Y) (ae (bN fH (aB (pv 2) Y) (aB (pv 2) Y) (λ_ _=>rfl)) ak)))))
    (ax (aZ (bf (pv 0) (aK T) T.gY.m (m5 T) hr.Za5 T.gY.b .nil aJ (ae (pv 1) (ae (aB (pv 2) Y) (ae (gI fb (bN fH (aB (pv 2) Y) (aB (pv 2) Y) (λ_ _=>rfl))) ak)))))))
    (aj (qx c9 (uF (aB (pv 0) Y) (pv 1) set_list))
    (ax (aZ (bf (pv 0) (aK T) T.nh.m (wW T) hr.Za5 T.nh.b .nil aJ (ae (pv 2) ak)))))))))))),?_⟩
  try dsimp only[a8,bQ]
  refine G7 ?_;intro tM oM jG gM;have M:n<G.length:=ci.ab n (ab8 _ (acb.mpr Y));obtain⟨I,hG,Z⟩:=h.hG;have X:I[n]?=some (I[n]'(by rw[Z.l];exact M)):=ab3 _
  generalize I[n]'(by grind)=v at X;have gd:=J.g;refine⟨_,Y,x,_,c.dx,_,_,Y,h.ins,aK T,T.jl,km _ _ _,_,Y,c.aG,_,_,v,Y,Y,aI.of hG,dA X,?_⟩;have f:G[n]?=some (G[n]'M):=ab3 M
  generalize G[n]'M=og at f
  cases og with
  |none=>
   obtain rfl:=Z.n n v X f;refine⟨_,Y,Y,_,Y,iL ?_⟩;exact k S a R G ag W O B H (λ_ _ _ _ e=>e) h J (λb z=>.inl z) (λb z=>.inl z) dj (ci.pop.done f λb eb=>ci.de n b f (by grind) eb) (λ_ _ _ z=>z) Y Y (.refl S) (.inl ⟨Y,Y,Y⟩)
  |some g=>
   obtain⟨p,j,wa,rfl,V,op⟩:=Z.s n v g X f;obtain⟨FU,gi,_⟩:=ci.al n g f;have C:=ab4 FU;have B7:g.word.length<=1000:=F.l _ C;have Ah:¬a.own r p:=λz=>dj p z op
   refine⟨_,Y,Y,_,Y,dc ?_⟩;refine⟨_,Y,x,_,c.dx,_,_,Y,h.ins,aK T,T.eK,fz _ _ _,r,a.dx,_,Y,J.at_.ins,cD _ _ _ (by decide),_,Y,p,_,j,_,_,Y,V.ins,aO T,T.pH,uv _ _,r,S,a,g.start,S.ao g.start,Y,J.at_,oO (by rw[gd.wf.e];exact gi.s),_,Y,p,_,j,_,_,Y,V.ins,aO T,T.pH,uv _ _,Y,_,Y,?_⟩;have PL:∀b,a.own r b->¬(O b/\b≠p):=λb z y=>dj b z y.1
   by_cases es:S.ao g.start=g.start
   ·refine Sg (by rw[es]) ?_;refine⟨_,Y,p,j,_,Y,V.ins,JN (by decide),_,Y,x,_,c.dx,_,_,Y,h.ins,aK T,T.eK,fz _ _ _,p,j,wa,r,g,S,a,R,Y,V,J.at_,gd,gi,Ah,B7,λd m f1 l ad=>?_⟩;have R1:ik A.aw m r S a R ks B:=J.keep (λb o hb e=>f1 b o (λz=>Ah (z ▸ hb)) e) (λb xs e=>f1 b _ (b6 e V.ins (by grind)) e);obtain⟨c1,Yq⟩:=h.Sh hG Z X op V f1 l;have Ui:m c.aG=some (.lst I):=f1 _ _ (b6 hG V.ins (by grind)) hG;have t:=ad.gi;have T7:=t.ll;have PN:=t.fl;have V1:d.word.length<=1000:=by rw[ad.wo];exact B7
    have z1:=Gg.pW (g:=d) (by omega);have z2:=Gg.at2 (g:=d) T7;have aaY:(G.set n (some d))[n]?=some (some d):=acT M
    have lv:=Ao f;have lm:=J.m;refine⟨λ_ H'=>Q .non H',?_,λ_ _ q=>q⟩;refine⟨_,Y,p,_,j,_,_,Y,l.ins,aO T,T.eJ,gq _ _,_,Y,p,_,j,_,_,Y,l.ins,aO T,T.hX,jV _ _,_,_,Y,Y,_,Y,?_⟩;refine df (λq=>?_) (λq=>?_)
    ·have q:(d.first:Int)<(d.last:Int):=acI q;have bw:∀z∈d.word,-1000<=z/\z<=1000:=λz hz=>ci.bd _ C z (by rw[<-ad.wo];exact hz)
     have b1:=bw _ (ab4 z1);have b2:=bw _ (ab4 z2);have hf:=t.f;have hrr:=t.r;have Uj:n<100000:=by have:=ci.len;have:=F.c;omega
     refine⟨_,Y,x,c.dx,_,Y,c1.ins,eS (by decide),_,Y,_,Y,p,_,j,_,_,Y,l.ins,aO T,T.gk,jT _ _,_,Y,p,_,j,_,_,Y,l.ins,aO T,T.jk,jS _ _,_,Y,p,_,j,_,_,Y,l.ins,aO T,T.eJ,gq _ _,wa,_,_,.int d.z1,Y,Y,bT.of l.wo,dA (cJ z1),x,r,c,_,ag,W,S.aX.length,fp,O,n,d.front,d.z1,Y,c1,by omega,Uj,b1,λO2 H2 Uk f2 JY Ap u=>?_⟩;have N:dN A.aH H2 p j wa d:=⟨f2 _ _ (by grind) l.ins,f2 _ _ (by grind) l.wo⟩;refine⟨_,Y,x,c.dx,_,Y,u.ins,eS (by decide),_,Y,_,Y,p,_,j,_,_,Y,N.ins,aO T,T.gF,jU _ _,_,Y,p,_,j,_,_,Y,N.ins,aO T,T.jk,jS _ _,_,Y,p,_,j,_,_,Y,N.ins,aO T,T.hX,jV _ _,wa,_,_,.int (-d.z2),Y,Y,bT.of N.wo,dA (cJ z2),_,Y,x,r,c,_,ag,_,S.aX.length,fp,O2,n,d.bj,d.z2,(by grind),u,by omega,Uj,by omega,λO3 H3 Yr f3 Ul Ys c3=>?_⟩
     have V2:∀b,O3 b->O b\/m b=none:=λb z=>by
      rcases Ys b z with y|y
      ·exact Ap b y
      ·by_cases w:O b
       ·exact .inl w
       ·refine .inr ?_
        cases e:m b with
        |none=>rfl
        |some o=>rw[Uk b o w e]at y;cases y
     have nw:∀b,O3 b->O b\/H b=none:=λb z=>by
      rcases V2 b z with y|y
      ·exact .inl y
      ·by_cases w:b=p
       ·grind
       ·refine .inr ?_
        cases e:H b with
        |none=>rfl
        |some o=>rw[f1 b o w e]at y;cases y
     have D:Bt O m H3:=Uk.trans Yr Ap
     have Yt:∀b,a.own r b->¬O3 b:=λb z y=>by
      rcases nw b y with w|w
      ·exact dj b z w
      ·obtain⟨o,e⟩:=J.at_.there z;grind
     refine k S a R _ ag _ O3 B H3 (λb o L _ e=>D b o L (f1 b o (λz=>L (by rw[z];exact op)) e)) c3 (R1.keep (λb o hb e=>D b o (dj b hb) e) (λb xs e=>D b _ (c1.iI e) e)) (λb z=>.inl z) nw Yt (ci.pop.waits f ad (by omega)) (λ_ _ _ z=>z) Y Y (.refl S) (.inl ⟨lv.1 d,Y,Y⟩)
    ·have q:¬(d.first:Int)<(d.last:Int):=λz=>q (acy z)
     have Yu:d.first=d.last:=by omega
     refine⟨_,Y,x,_,c.dx,_,_,Y,c1.ins,aK T,T.jl,km _ _ _,_,Y,c.aG,_,_,n,Y,Y,Ui,sC (by rw[Z.l];exact M),?_⟩;have u:=c1.Cb Ui Yq X l;have kn:∀b o,(∀xs,o≠.lst xs)->m b=some o->upd m c.aG (.lst (I.set n .non)) b=some o:=λb o w e=>by rw[ai (λz=>by grind)];exact e
     have N:dN A.aH (upd m c.aG (.lst (I.set n .non))) p j wa d:=⟨kn _ _ (by grind) l.ins,kn _ _ (by grind) l.wo⟩;have PQ:¬a.own r c.aG:=λz=>dj _ z h.oG
     have R2:ik A.aw (upd m c.aG (.lst (I.set n .non))) r S a R ks B:=R1.keep (λb o hb e=>by rw[ai (λz=>PQ (by grind))];exact e) (λb xs e=>kn _ _ (by grind) e);have Yv:(G.set n (some d)).set n none=G.set n none:=List.set_set ..;rw[Yv]at u;have PR:∀b o,¬O b->H b=some o->upd m c.aG (.lst (I.set n .non)) b=some o:=λb o L e=>by rw[ai (λz=>L (by rw[z];exact h.oG))];grind
     have U:∀b,upd m c.aG (.lst (I.set n .non)) b=none->H b=none:=λb z=>by
      cases e:H b with
      |none=>rfl
      |some o=>
       by_cases w:O b
       ·by_cases y:b=p
        ·rw[y,N.ins]at z;cases z
        ·obtain⟨o2,e2,_⟩:=u.th b ⟨w,y⟩;grind
       ·rw[PR b o w e]at z;cases z
     generalize upd m c.aG (.lst (I.set n .non))=H2 at u N R2 PR U ⊢;refine⟨_,Y,x,c.dx,_,Y,u.ins,eS (by decide),_,Y,x,r,p,j,wa,c,S,a,R,ks,B,ws,nr,bs,G.set n none,ag,W,fp,_,n,d,Y,u,R2,hB,PL,ci.pop.kill,acT M,by rw[FU,ad.wh,ad.wo,ad.st],N,(λz=>z.2 Y),Ah,t,Yu,by rw[ad.st];exact es,ad.ef,ad.er,by rw[ad.wh,ad.wo];exact F.w _ C,by rw[ad.wh,ad.st];exact F.n _ C,by rw[ad.wo];exact F.k _ C,V1,by rw[acx];exact Uh,λS' a' R' ig W' H' f3 c3 R3 o3 PV la rr em eL tr=>?_⟩;have Yw:∀b,a'.own r b->a.own r b\/H b=none:=λb z=>(o3 b z).imp id (U b)
     rw[acx]at la;refine k S' a' R' _ ig W' _ (B+ 1) H' (λb o L n2 e=>f3 b o (λz=>L z.1) n2 (PR b o L e)) c3 R3 Yw (λb z=>.inl z.1) (λb z y=>?_) PV rr em eL tr (.inr ⟨lv.2,la,aca _⟩);rcases o3 b z with w|w
     ·exact PL b w y
     ·obtain⟨o2,e2,_⟩:=u.th b y;grind
   ·refine df (λ_=>?_) (λz=>absurd (by grind) z);refine⟨_,Y,x,_,c.dx,_,_,Y,h.ins,aK T,T.jl,km _ _ _,_,Y,c.aG,_,_,n,Y,Y,hG,sC (by rw[Z.l];exact M),?_⟩;have u:=h.Cb hG Z X V;have PQ:¬a.own r c.aG:=λz=>dj _ z h.oG
    refine k S a R _ ag W _ B _ (λb o L _ e=>by rw[ai (λz=>L (by rw[z];exact h.oG))];exact e) u (J.keep (λb o hb e=>by rw[ai (λz=>PQ (by grind))];exact e) (λb xs e=>by rw[ai (λz=>by grind)];exact e)) (λb z=>.inl z) (λb z=>.inl z.1) PL (ci.pop.kill.done (acT M) λb eb=>?_) (λ_ _ _ z=>z) Y Y (.refl S) (.inr ⟨(Ao f).2,by omega,by omega⟩)
    grind
theorem _root_.L2.Tr.trans {ws:Za3}{c:RS}(h:Tr ws n S T)(k:Tr ws n T c):Tr ws n S c:=by
 induction k with
 |refl=>exact h
 |step _ a b d=>exact .step d a b
inductive Aq (CR CG CC:Addr) (vs:List V) (H:Hp) (Q:VK) (E_:XK):Prop
 |mk (x r:Addr) (c:KA) (S:RS) (a:RA) (R:Za2) (ks:List Int) (B:Nat) (ws:Za3) (nr:Nat) (bs:List (Nat×List Int×Nat)) (gs:List (Option Gg)) (ag:List Nat) (W:bE) (fp:List (List Int×Nat)) (O:Addr->Prop):vs=[.ref x]->b9 CG CC H x r c gs ag W S.aX.length fp O->ik CR H r S a R ks B->B+ live gs<900000->(∀b,a.own r b->¬O b)->CI S bs gs ag W fu none->An ws nr ks bs->live gs* (2* bs.length+ 1)+ ag.length+ 2* bs.length<=1000000->(∀S' a' R' iE W' O' B' H',(∀b o,¬O b->¬a.own r b->H b=some o->H' b=some o)->b9 CG CC H' x r c iE [] W' S'.aX.length fp O'->ik CR H' r S' a' R' ks B'->(∀b,a'.own r b->a.own r b\/O b\/H b=none)->(∀b,O' b->O b\/a.own r b\/H b=none)->(∀b,a'.own r b->¬O' b)->CI S' bs iE [] W' fu none->(∀a z b,R a z b->R' a z b)->S'.made=S.made->S'.L=S.L->Tr ws nr S S'->B'+ live iE<=B+ live gs->Q .non H')->Aq CR CG CC vs H Q E_
theorem kO (T:Txt K mg A):bx P w K mg base (bD P w) 8 A.lT A.lU ["self"] (Aq A.aw A.aH A.az):=by
 refine T.fO.F.okN sG (λvs H Q E h=>?_) (λcy AA outer s H vs Q E hr h=>?_)
 ·obtain⟨x,r,c,S,a,R,ks,B,ws,nr,bs,Z,ag,W,fp,O,rfl,_⟩:=h;rfl
 ·obtain⟨x,r,c,S,a,R,ks,B,ws,nr,bs,Z,ag,W,fp,O,rfl,h,hR,hB,dj,ci,Yx,hm,k⟩:=h
  refine⟨_,(ax (cw (fY acH (yG (aB (pv 0) Y) (λ_=>rfl))
   (ax (aZ (bf (pv 0) (aK T) T.kA.m (uy T) hr.Za5 T.kA.b .nil aJ (ae (DU acq PySem.F.slot_list_pop PySem.F.type_list_pop DV (aB (pv 0) Y)) ak))))))),?_⟩
  try dsimp only[a8,bQ]
  have Yy:=ci.len;refine⟨λ_ H'=>Q .non H',?_,λ_ _ q=>q⟩;refine⟨λm σ g=>∃j a2 R2 d f U F D,m=live d* (2* bs.length+ 1)+ f.length/\σ=[some (.ref x)]/\(∀b o,¬O b->¬a.own r b->H b=some o->g b=some o)/\b9 A.aH A.az g x r c d f U j.aX.length fp F/\ik A.aw g r j a2 R2 ks D/\(∀b,a2.own r b->a.own r b\/O b\/H b=none)/\(∀b,F b->O b\/a.own r b\/H b=none)/\(∀b,a2.own r b->¬F b)/\CI j bs d f U fu none/\(∀a z b,R a z b->R2 a z b)/\j.made=S.made/\j.L=S.L/\Tr ws nr S j/\D+ live d<=B+ live Z/\live d* (2* bs.length+ 1)+ f.length+ 2* bs.length<=1000000,⟨_,S,a,R,Z,ag,W,O,B,Y,Y,λ_ _ _ _ e=>e,h,hR,λb z=>.inl z,λb z=>.inl z,dj,ci,λ_ _ _ z=>z,Y,Y,.refl S,aca _,hm⟩,?_⟩;rintro m σ g ⟨j,a2,R2,d,f,U,F,D,rfl,rfl,f2,i,r2,V,t,y,u,N,M,X,J,L,Pp⟩;refine⟨_,Y,x,_,c.dx,_,_,Y,i.ins,aK T,T.kj,m4 _ _ _,!(av (nI f)).isEmpty,.inl ⟨_,aI.of i.hA,Y⟩,?_⟩;by_cases p:f=[]
  ·subst p;refine dc ?_;exact k j a2 R2 d U F D g f2 i r2 V t y u N M X J L
  ·have C:=adV p;generalize f.getLast p=n at C;generalize f.dropLast=pre at C;subst C;rw[show (!(av (nI (pre++[n]))).isEmpty)=true by unfold av nI;simp];refine iL ?_;refine⟨_,λ_ _ z=>z,?_⟩;refine⟨_,Y,x,c.dx,_,Y,i.ins,eS (by decide),_,Y,x,_,c.dx,_,_,Y,i.ins,aK T,T.kj,m4 _ _ _,.inl ⟨Y,_,aI.of i.hA⟩,c.aA,_,.int (n:Int),Y,Y,i.hA,?_,?_⟩
   ·rw[aT,bL,ab6];exact cJ (iB (by show (pre++[n])[pre.length+ 1 - 1]?=some n;rw[Nat.add_sub_cancel,acp (aca _),adY];rfl))
   have Px:(av (nI (pre++[n]))).dropLast=av (nI pre):=by rw[gT,ints_app];exact List.dropLast_concat
   rw[Px];have c3:=i.agenda pre;have Yz:¬a2.own r c.aA:=λz=>y _ z i.oA
   have f3:∀b o,b≠c.aA->g b=some o->upd g c.aA (.lst (av (nI pre))) b=some o:=λb o n1 e=>by rw[ai n1];exact e
   have r3:ik A.aw (upd g c.aA (.lst (av (nI pre)))) r j a2 R2 ks D:=r2.keep (λb o hb e=>f3 b o (λz=>Yz (by grind)) e) (λb xs e=>f3 b _ (λz=>by rw[z,i.hA]at e;cases e) e)
   have G:∀b,upd g c.aA (.lst (av (nI pre))) b=none->g b=none:=λb z=>by
    by_cases e:b=c.aA
    ·rw[e,ah]at z;cases z
    ·rw[ai e]at z;exact z
   generalize upd g c.aA (.lst (av (nI pre)))=H3 at c3 f3 r3 G ⊢;have ln2:=u.len;rw[ab6]at Pp;have:([n]:List Nat).length=1:=rfl
   have YB:∀b,g b=none->a.own r b\/O b\/H b=none:=λb z=>by
    by_cases w:a.own r b
    ·exact .inl w
    ·by_cases w2:O b
     ·exact .inr (.inl w2)
     ·refine .inr (.inr ?_)
      cases e:H b with
      |none=>rfl
      |some o=>rw[f2 b o w2 w e]at z;cases z
   refine⟨x,r,c,j,a2,R2,ks,D,ws,nr,bs,d,pre,U,fp,F,n,Y,c3,r3,by omega,y,u,Yx,by omega,λS4 a4 R4 l I W4 O4 B4 H4 f4 c4 r4 YC YD YF Cd YG YH YJ YK ms=>?_⟩;have ow:∀b,a4.own r b->a.own r b\/O b\/H b=none:=λb z=>(YC b z).elim (V b) λw=>YB b (G b w)
   have oo:∀b,O4 b->O b\/a.own r b\/H b=none:=λb z=>(YD b z).elim (t b) λw=>by
    grind
   have v:B4+ live l<=B+ live Z/\live l* (2* bs.length+ 1)+ I.length<live d* (2* bs.length+ 1)+ (pre++[n]).length:=by
    rw[ab6];rcases ms with ⟨e1,e2,e3⟩|⟨e1,e2,e3⟩
    ·rw[e1,e2,e3];exact⟨L,by omega⟩
    ·rw[<-e1,afr];exact⟨by omega,by omega⟩
   refine⟨_,v.2,S4,a4,R4,l,I,W4,O4,B4,Y,Y,λb o n1 n2 e=>?_,c4,r4,ow,oo,YF,Cd,λa z b q=>YG _ _ _ (N _ _ _ q),YH.trans M,YJ.trans X,J.trans YK,v.1,by have:=v.2;rw[ab6]at this;omega⟩;refine f4 b o (λz=>?_) (λz=>?_) (f3 b o (λz=>n1 ?_) (f2 b o n1 n2 e))
   ·grind
   ·grind
   ·subst z;rcases t c.aA i.oA with w|w|w
    ·exact w
    ·grind
    grind
theorem _root_.L2.CI.begin {bs:List (Nat×List Int×Nat)}{gs:List (Option Gg)}{W:bE}{u:Nat->Int->Prop}(h:CI S bs gs B W u none){which m:Nat}{word:List Int}(C:word≠[])(i:m<S.made)(F:∀z∈word,-1000<=z/\z<=1000):CI S (bs++[(which,word,m)]) (gs++[some (yd which word m)]) (B++[gs.length]) W u none:=by
 have E:=List.length_pos_iff.mpr C
 have d:∀{k:Nat} {y:Option Gg},(gs++[some (yd which word m)])[k]?=some y->(k<gs.length/\gs[k]?=some y)\/(k=gs.length/\y=some (yd which word m)):=λ{k y} e=>by
  by_cases a:k<gs.length
  ·rw[acn a]at e;exact .inl ⟨a,e⟩
  ·rw[acp (by omega)]at e;have:=(ab5.mp e).1;have o:k=gs.length:=by simp at this;omega
   subst o;rw[adY]at e;exact .inr ⟨Y,(Za0 e).symm⟩
 have c:∀{k:Nat},k<gs.length->(bs++[(which,word,m)])[k]?=bs[k]?:=λ{k} a=>acn (by rw[<-h.len];exact a)
 refine⟨by rw[ab6,ab6,h.len];rfl,λk g e=>?_,λk b e J t=>?_,λk a=>?_,λr s k q=>?_,λk=>?_,λb f=>?_⟩
 ·rcases d e with ⟨a,e⟩|⟨a,e⟩
  ·obtain⟨j,l,I⟩:=h.al k g e;exact⟨by rw[c a];exact j,l,I.imp (acu _) id⟩
  ·cases e;refine⟨?_,⟨acF _,by show word.length - 1<word.length;omega,i,i,i,Y,?_⟩,.inl (ab8 _ (acb.mpr a))⟩
   ·rw[acp (by rw[a,h.len];exact aca _),a,h.len,adY];rfl
   ·show wk S.by _ (word.drop (word.length - 1+ 1))=_;rw[show word.length - 1+ 1=word.length by omega,List.drop_length];rfl
 ·rcases d e with ⟨a,e⟩|⟨a,e⟩
  ·rw[c a]at t;exact h.de k b e J t
  ·cases e
 ·rw[ab6];rcases ach.mp a with q|q
  ·have:=h.ab k q;show k<_+ 1;omega
  ·rw[acb.mp q];show _<_+ 1;omega
 ·obtain⟨G,n,x,D,v,L,H⟩:=h.en r s k q;exact⟨G,n,x,D,v,by rw[ab6];show n<_+ 1;omega,H⟩
 ·by_cases a:k<gs.length
  ·obtain⟨p,q,j,l⟩:=h.sl k;refine⟨p,q,j,λg e=>l g ?_⟩;rw[acn a]at e;exact e
  ·refine⟨((yd which word m).front,(yd which word m).z1),((yd which word m).bj,(yd which word m).z2),λr s w=>?_,λg e=>?_⟩
   ·obtain⟨_,n,_,e,_,E,_⟩:=h.en r s k w;omega
   grind
 ·rcases ach.mp f with q|q
  ·exact h.bd b q
  ·rw[acb.mp q];exact F
theorem b9.Si {x:Addr}{f:KA}{gs:List (Option Gg)}{W:bE}{hd:Nat}{R:List (List Int×Nat)}{O:Addr->Prop}{dx X:Addr}{g:Gg}(h:b9 a b H x c f gs B W hd R O)(hG:H f.aG=some (.lst L))(r:pL a H L gs O)(np:H d=none)(s:ay H I)(q:dN a I d dx X g):b9 a b (upd I f.aG (.lst (L++[.ref d]))) x c f (gs++[some g]) B W hd R (EI O d):=by
 have k:∀l o,l≠f.aG->I l=some o->upd I f.aG (.lst (L++[.ref d])) l=some o:=λl o n e=>by rw[ai n];exact e
 have kn:∀l o,(∀xs,o≠.lst xs)->I l=some o->upd I f.aG (.lst (L++[.ref d])) l=some o:=λl o w e=>k l o (λz=>by rw[z,s _ _ hG]at e;grind) e
 have fresh:∀(i:Nat),L[i]?≠some (.ref d):=λi e=>by
  have t:i<gs.length:=by rw[<-r.l];exact(ab5.mp e).1
  cases Z:gs[i]? with
  |none=>grind
  |some y=>
   cases y with
   |none=>cases r.n i _ e Z
   |some u=>
    obtain⟨S,_,_,G,J,_⟩:=r.s i _ u e Z;cases G;have:=J.ins;grind
 have F:∀{i:Nat} {v:V},(L++[.ref d])[i]?=some v->(i<L.length/\L[i]?=some v)\/(i=L.length/\v=.ref d):=λ{i v} e=>by
  by_cases T:i<L.length
  ·rw[acn T]at e;exact .inl ⟨T,e⟩
  ·rw[acp (by omega)]at e;have:=(ab5.mp e).1;have N:i=L.length:=by simp at this;omega
   subst N;rw[adY]at e;exact .inr ⟨Y,(Za0 e).symm⟩
 refine⟨kn _ _ (by grind) (s _ _ h.ins),⟨_,ah,by rw[ab6,ab6,r.l];rfl,λi v G p=>?_,λi v u G p=>?_,λi j p' G p=>?_⟩,k _ _ h.ne.symm (s _ _ h.hA),?_,h.ne,.inl h.ox,.inl h.oG,.inl h.oA,λl C=>?_⟩
 ·rcases F G with ⟨t,e⟩|⟨t,e⟩
  ·rw[acn (by rw[<-r.l];exact t)]at p;exact r.n i v e p
  ·rw[t,r.l,acp (aca _),adY]at p;cases Za0 p
 ·rcases F G with ⟨t,e⟩|⟨t,e⟩
  ·rw[acn (by rw[<-r.l];exact t)]at p;obtain⟨S,Q,M,e3,J,o1⟩:=r.s i v u e p;exact⟨S,Q,M,e3,⟨kn _ _ (by grind) (s _ _ J.ins),kn _ _ (by grind) (s _ _ J.wo)⟩,.inl o1⟩
  ·rw[t,r.l,acp (aca _),adY]at p;cases Za0 p;exact⟨d,dx,X,e,⟨kn _ _ (by grind) q.ins,kn _ _ (by grind) q.wo⟩,.inr Y⟩
 ·rcases F G with ⟨t,e⟩|⟨t,e⟩
  ·rcases F p with ⟨hj,U⟩|⟨hj,U⟩
   ·exact r.i i j p' e U
   grind
  grind
 ·obtain⟨D,E,k1,k2⟩:=h.wt;exact⟨D,E,(k1.same s).keep λl o C e=>by obtain⟨kv,q⟩:=(k1.same s).there C;grind,λl C=>.inl (k2.o l C),k2.d,k2.e,k2.w⟩
 ·rcases C with C|C
  ·by_cases e:l=f.aG
   ·exact⟨_,by rw[e];exact ah,(by grind),(by grind),(by grind),by grind⟩
   ·obtain⟨o,q,m⟩:=h.th l C;exact⟨o,k _ _ e (s _ _ q),m⟩
  ·rw[C];exact⟨_,kn _ _ (by grind) q.ins,(by grind),(by grind),(by grind),by grind⟩
def nz (b:Nat)(a:List Int)(m:Nat):List (Nat×List Int×Nat):=if a=[] then [] else [(b,a,m)]
inductive Ce (CR CG CC:Addr) (vs:List V) (H:Hp) (Q:VK) (E_:XK):Prop
 |mk (x r wa:Addr) (c:KA) (S:RS) (bs:List (Nat×List Int×Nat)) (gs:List (Option Gg)) (ag:List Nat) (W:bE) (hd:Nat) (fp:List (List Int×Nat)) (O:Addr->Prop) (Ex:Nat->Int->Prop) (which m:Nat) (word:List Int):vs=[.ref x,.int which,.ref wa,.int m]->b9 CG CC H x r c gs ag W hd fp O->CI S bs gs ag W Ex none->H wa=some (.tup (av word))->word.length<=1000->(∀z∈word,-1000<=z/\z<=1000)->m<S.made->bs.length<100000->ag.length<=bs.length->(∀iE ig O' H',Bt O H H'->(∀b,O b->O' b)->(∀b,O' b->O b\/H b=none)->b9 CG CC H' x r c iE ig W hd fp O'->CI S (bs++nz which word m) iE ig W Ex none->ig.length<=(bs++nz which word m).length->Q .non H')->Ce CR CG CC vs H Q E_
theorem mq (T:Txt K mg A):bx P w K mg base (bD P w) 3 A.mP A.mQ ["self","which","word","room"] (Ce A.aw A.aH A.az):=by
 refine T.gy.F.okN um (λvs H Q E h=>?_) (λcy AA D s H vs Q E hr h=>?_)
 ·obtain⟨x,r,M,c,S,bs,i,g,W,hd,fp,O,Ex,d,m,a,rfl,_⟩:=h;rfl
 ·obtain⟨x,r,M,c,S,bs,i,g,W,hd,fp,O,Ex,d,m,a,rfl,h,ci,l,U,C,hm,m6,J,k⟩:=h
  refine⟨_,(ax (cw (bV (bq Cv (bA bM Y T.fj acX (ae (pv 2) ak)) aM (bC _))
   (aj (aZ (dP acq acA acB cu (aB (pv 0) Y) (ae (bA bM Y T.fj acX (ae (aB (pv 0) Y) ak)) ak)))
   (ax (aZ (dP acq acA acB cu (aB (pv 0) Y) (ae (wy (uk T) (sL T) hr.Za5 Y T.LV T.hU.b .nil aJ (ae (pv 1) (ae (pv 2) (ae (pv 3) ak)))) ak)))))
   bG))),?_⟩
  try dsimp only[a8,bQ]
  have Yy:=ci.len;refine⟨λ_ H'=>Q .non H',?_,λ_ _ q=>q⟩;refine⟨_,Y,M,_,Y,.inr (bT.of l),_,_,Y,Y,_,Y,?_⟩;refine df (λq=>?_) (λq=>?_)
  ·have q:(0:Int)<((av a).length:Int):=acI q;rw[aT]at q;have f:a≠[]:=λz=>by grind
   obtain⟨gv,hG,hs⟩:=h.hG;refine⟨_,Y,x,_,c.dx,_,_,Y,h.ins,aK T,T.kj,m4 _ _ _,.inl ⟨Y,_,aI.of h.hA⟩,_,Y,x,_,c.dx,_,_,Y,h.ins,aK T,T.jl,km _ _ _,c.aG,_,Y,.inl (aI.of hG),c.aA,_,_,Y,Y,h.hA,?_,?_⟩
   ·rw[aT,bL];exact ace (show g.length<=100000 by omega) (by decide)
   have ea:av (nI g)++[V.int (gv.length:Int)]=av (nI (g++[i.length])):=by rw[gT,ints_app,hs.l];rfl
   rw[ea];have B:=h.agenda (g++[i.length]);have I:∀b o,b≠c.aA->H b=some o->upd H c.aA (.lst (av (nI (g++[i.length])))) b=some o:=λb o n e=>by rw[ai n];exact e
   have Z:∀b,upd H c.aA (.lst (av (nI (g++[i.length])))) b=none->H b=none:=λb z=>by
    by_cases e:b=c.aA
    ·rw[e,ah]at z;cases z
    ·rw[ai e]at z;exact z
   generalize upd H c.aA (.lst (av (nI (g++[i.length]))))=L at B I Z ⊢;have u:=I _ _ (b6 l h.hA (by grind)) l;obtain⟨gv1,j,t⟩:=B.hG;refine⟨_,Y,x,_,c.dx,_,_,Y,B.ins,aK T,T.jl,km _ _ _,.inl ⟨Y,_,aI.of j⟩,_,Y,_,Y,_,Y,λp G y F R=>?_⟩;have X:ay L (upd (upd L G (.own p)) p (.ins A.aH G [])):=(ay.upd F).trans (ay.upd (by rw[ai R.symm];exact y));refine⟨p,G,M,d,m,a,Y,ah,X _ _ u,by omega,U,λH3 f3 g3=>⟨Y,?_⟩⟩;have N:ay L H3:=λb o e=>f3 b o (X _ _ e) (au e y)
   refine⟨c.aG,_,_,Y,Y,N _ _ j,(by rw[t.l];exact ace (show i.length<=100000 by omega) (by decide)),?_⟩;have v:nz d a m=[(d,a,m)]:=acm f;refine k _ _ (EI O p) _ (λb o n e=>?_) (λb z=>.inl z) (λb z=>z.imp id λw=>by rw[w];exact Z p y) (B.Si j t y N g3) (by rw[v];exact ci.begin f hm C) (by rw[v,ab6,ab6];show _+ 1<=_+ 1;omega);rw[ai (λz=>n (by rw[z];exact h.oG))];exact N _ _ (I b o (λz=>n (by rw[z];exact h.oA)) e)
  ·have q:¬(0:Int)<((av a).length:Int):=λz=>q (acy z)
   rw[aT]at q;have f:a=[]:=List.length_eq_zero_iff.mp (by omega);have v:nz d a m=[]:=acv f;exact k i g O H (λ_ _ _ e=>e) (λb z=>z) (λb z=>.inl z) h (by rw[v,acD];exact ci) (by rw[v,acD];exact J)
def fT (a:List (List Int×Nat))(m:Nat):List (Nat×List Int×Nat):=a.flatMap λp=>nz p.2 p.1 m
theorem JZ (w:Nat)(u:List Int)(m:Nat):(nz w u m).length<=1:=by
 unfold nz;split
 ·exact acF _
 ·exact aca _
theorem pM (m:Nat):∀a:List (List Int×Nat),(fT a m).length<=a.length
 |[]=>aca _
 |p::l=>by
  have:=pM m l;have:=JZ p.2 p.1 m;unfold fT at *;rw[List.flatMap_cons,ab6,acC];omega
theorem FX {a:List (List Int×Nat)}{p:List Int×Nat}(h:a[i]?=some p)(m:Nat):fT (a.take (i+ 1)) m=fT (a.take i) m++nz p.2 p.1 m:=by
 unfold fT;rw[aec,h,ae4];show _++(nz p.2 p.1 m++[])=_;rw[acD]
theorem PX {a:List (List Int×Nat)}{b:List Key×V}(h:(ie a)[i]?=some b):∃p,a[i]?=some p/\b=(p.1.map Sum.inl,.int p.2):=by
 unfold ie at h
 grind
inductive FY (CR CG CC:Addr) (vs:List V) (H:Hp) (Q:VK) (E_:XK):Prop
 |mk (x r:Addr) (c:KA) (S:RS) (bs:List (Nat×List Int×Nat)) (gs:List (Option Gg)) (ag:List Nat) (W:bE) (hd:Nat) (fp:List (List Int×Nat)) (O:Addr->Prop) (Ex:Nat->Int->Prop) (m:Nat):vs=[.ref x,.int m]->b9 CG CC H x r c gs ag W hd fp O->H c.aQ=some (.dT (ie fp))->CI S bs gs ag W Ex none->(∀p∈fp,p.1.length<=1000/\∀z∈p.1,-1000<=z/\z<=1000)->m<S.made->bs.length+ fp.length<100000->ag.length<=bs.length->(∀iE ig O' H',Bt O H H'->(∀b,O b->O' b)->(∀b,O' b->O b\/H b=none)->b9 CG CC H' x r c iE ig W hd fp O'->CI S (bs++fT fp m) iE ig W Ex none->ig.length<=(bs++fT fp m).length->Q .non H')->FY CR CG CC vs H Q E_
theorem iF (T:Txt K mg A):bx P w K mg base (bD P w) 4 A.ji A.jj ["self","room"] (FY A.aw A.aH A.az):=by
 refine T.dy.F.okN fy (λvs H Q E h=>?_) (λcy AA outer s H vs Q E hr h=>?_)
 ·obtain⟨x,r,c,S,bs,gs,ag,W,Z,f,O,Ex,m,rfl,_⟩:=h;rfl
 ·obtain⟨x,r,c,S,bs,gs,ag,W,Z,f,O,Ex,m,rfl,h,I,ci,YL,hm,m6,PY,k⟩:=h
  refine⟨_,(ax (Bx (eB acH Y (RG (aB (pv 0) Y)) (uE Y (gQ (cC (i:=2) fy.nd Y (Or.inl Y)) (gQ (cC (i:=3) fy.nd Y (Or.inl Y)) rS)))
   (ax (aZ (bf (pv 0) (aK T) T.gy.m (mq T) hr.Za5 T.gy.b .nil aJ (ae (pv 3) (ae (pv 2) (ae (pv 1) ak))))))))),?_⟩
  try dsimp only[a8,bQ]
  have nQ:¬O c.aQ:=h.FL I;have nxQ:x≠c.aQ:=b6 h.ins I (by grind);refine⟨c.aQ,_,I,trivial,_,Y,x,_,c.dx,_,_,Y,h.ins,aK T,T.zN,Ir _ _ _,c.aQ,ie f,Y,I,λL=>?_⟩;have k0:∀b o,b≠c.aQ->H b=some o->upd H c.aQ (.cL L (.dT (ie f))) b=some o:=λb o n e=>by rw[ai n];exact e
  have h0:b9 A.aH A.az (upd H c.aQ (.cL L (.dT (ie f)))) x r c gs ag W Z f O:=h.keep (λb o U e=>k0 b o (λz=>nQ (by grind)) e) (λb xs e=>k0 b _ (b6 e I (by grind)) e)
  refine ND (d:=c.aQ) (o:=L) (kvs:=ie f) (λi V B=>∃g a l v2 v3,V=[some (.ref x),some (.int (m:Int)),v2,v3]/\B c.aQ=some (.cL L (.dT (ie f)))/\(∀b o,b≠c.aQ->¬O b->H b=some o->B b=some o)/\(∀b,O b->l b)/\(∀b,l b->O b\/H b=none)/\b9 A.aH A.az B x r c g a W Z f l/\CI S (bs++fT (f.take i) m) g a W Ex none/\a.length<=(bs++fT (f.take i) m).length)
   ⟨gs,ag,O,none,none,Y,ah,λb o n _ e=>k0 b o n e,λb z=>z,λb z=>.inl z,h0,by rw[List.take_zero];show CI S (bs++[]) _ _ _ _ _;rw[acD];exact ci,by grind⟩ (λi V B _ q0=>by obtain⟨_,_,_,_,_,_,q,_⟩:=q0;exact q) ?_ ?_
  ·rintro i kv V B t kp YM nt D ⟨g,a,l,v2,v3,rfl,X,R,G,j,c5,u,v⟩;obtain⟨p,hp,rfl⟩:=PX YM;have hi:=(ab5.mp hp).1
   replace D:B kp=some (.tup (av p.1)):=by
    rw[D];show some (HO.tup (((p.1.map (Sum.inl:Int->Key)).map kV)))=_;rw[ac7];rfl
   have F:=ay.upd (o:=.tup [.ref kp,.int (p.2:Int)]) nt;refine⟨t,_,Y,bT.of ah,Y,_,_,Y,_,_,Y,Y,?_⟩;generalize upd B t (.tup [.ref kp,.int (p.2:Int)])=H6 at F ⊢;have U:=YL p (ab4 hp);have bl:=pM m (f.take i);rw[acQ]at bl;have c6:=c5.same F;refine⟨_,Y,x,c.dx,_,Y,c6.ins,eS (by decide),_,Y,_,Y,_,Y,x,r,kp,c,S,_,g,a,W,Z,f,l,Ex,p.2,m,p.1,Y,c6,u,F _ _ D,U.1,U.2,hm,by rw[ab6];omega,v,λYN YP O7 H7 N YQ YR c7 M J=>?_⟩;have C:¬l c.aQ:=λz=>(j _ z).elim nQ λq=>by grind
   rw[adb,<-FX hp]at M J;refine⟨YN,YP,O7,_,_,Y,N _ _ C (F _ _ X),λb o n1 n2 e=>N b o (λz=>(j b z).elim n2 λq=>by grind) (F _ _ (R b o n1 n2 e)),λb z=>YQ b (G b z),λb z=>?_,c7,M,J⟩;rcases YR b z with w|w
   ·exact j b w
   ·by_cases y:O b
    ·exact .inl y
    ·refine .inr ?_
     cases e:H b with
     |none=>rfl
     |some o=>
      by_cases y2:b=c.aQ
      ·rw[y2,F _ _ X]at w;cases w
      ·rw[F _ _ (R b o y2 y e)]at w;cases w
  ·rintro V B ⟨g,a,l,v2,v3,rfl,X,R,G,j,c5,u,v⟩;rw[show (ie f).length=f.length by unfold ie;grind,adG]at u v;have C:¬l c.aQ:=λz=>(j _ z).elim nQ λq=>by grind
   refine⟨L,X,k g a l _ (λb o n e=>?_) G j (c5.keep (λb o U e=>by rw[ai (λz=>C (by grind))];exact e) (λb xs e=>by rw[ai (λz=>by grind)];exact e)) u v⟩;by_cases z:b=c.aQ
   ·rw[z,ah,<-I,<-z];exact e
   ·rw[ai z];exact R b o z n e
def J0 (r:Addr):List (Str×V):=[("rooms",.ref r)]
def J1 (r q:Addr):List (Str×V):=[("rooms",.ref r),("rules",.ref q)]
def J9 (r q g:Addr):List (Str×V):=[("rooms",.ref r),("rules",.ref q),("goings",.ref g)]
def Ka (r q g e:Addr):List (Str×V):=[("rooms",.ref r),("rules",.ref q),("goings",.ref g),("agenda",.ref e)]
def Kb (r q g e w:Addr):List (Str×V):=[("rooms",.ref r),("rules",.ref q),("goings",.ref g),("agenda",.ref e),("waiting",.ref w)]
def PZ (r q g e w:Addr)(n:Int):List (Str×V):=[("rooms",.ref r),("rules",.ref q),("goings",.ref g),("agenda",.ref e),("waiting",.ref w),("heard",.int n)]
theorem YT (r q:Addr):bJ "rules" (.ref q) (J0 r)=J1 r q:=dB (by kernel_rfl)
theorem YV (r q g:Addr):bJ "goings" (.ref g) (J1 r q)=J9 r q g:=dB (by kernel_rfl)
theorem YW (r q g e:Addr):bJ "agenda" (.ref e) (J9 r q g)=Ka r q g e:=dB (by kernel_rfl)
theorem YX (r q g e w:Addr):bJ "waiting" (.ref w) (Ka r q g e)=Kb r q g e w:=dB (by kernel_rfl)
theorem YY (r q g e w:Addr)(n:Int):bJ "heard" (.int n) (Kb r q g e w)=PZ r q g e w n:=dB (by kernel_rfl)
theorem kat_nil {k:Addr}(h:H k=some (.dK [])):dF H k (λ_=>none) (λ_ _=>none) (λ_ _ _=>false):=⟨⟨[],h,by simp,(λa z=>by cases z),λ_=>rfl⟩,(λ_ _ z=>by cases z),(λ_ _ _ z=>by cases z),(λ_ _ _ z=>by cases z),(λ_ _ _ z=>by cases z),(λ_ _ z=>by cases z),(λ_ _ _ z=>by cases z),(λ_ _ _ z=>by cases z),(λ_ _ _ _ z=>by cases z),(λ_ _ _ _ _ z=>by cases z)⟩
def cW (S:RS):List Nat:=(List.range S.made).filter λc=>decide (S.aS[c]?=some c)
def dq (a:List (List Int×Nat))(st:List Nat):List (Nat×List Int×Nat):=st.flatMap λm=>fT a m
def fm (b:Za3)(a i:Nat):List (Nat×List Int×Nat):=(List.range i).flatMap λj=>nz (a+ j) (b.getD j []) 0
theorem kX (a:List (List Int×Nat)):∀st:List Nat,(dq a st).length<=st.length* a.length
 |[]=>acF _
 |m::st=>by
  have:=kX a st;have:=pM m a;unfold dq at *;rw[List.flatMap_cons,ab6,acC,afr];omega
theorem rL (b:Za3)(a:Nat):∀i,(fm b a i).length<=i
 |0=>aca _
 |i+ 1=>by
  have:=rL b a i;have:=JZ (a+ i) (b.getD i []) 0;unfold fm at *;rw[adP,ae4,ab6];show _+ (nz _ _ 0++[]).length<=_;rw[acD];omega
def rM:bE:=λ_ _ _=>false
theorem P0:CI S [] [] [] rM fu none:=⟨Y,(λn g e=>by simp at e),(λn b e=>by simp at e),(λn z=>by cases z),(λr s n z=>by cases z),λn=>⟨(0,0),(0,0),(λr s z=>by cases z),λg e=>by simp at e⟩,(λb z=>by cases z)⟩
inductive FZ (CR CG CC:Addr) (vs:List V) (H:Hp) (Q:VK) (E_:XK):Prop
 |mk (x dx r ru pa:Addr) (S:RS) (a:RA) (R:Za2) (rs ps:Za3):vs=[.ref x,.ref r,.ref ru,.ref pa]->H x=some (.ins CC dx [])->aq CR H r S a->Good S [] R->0<S.made->S.made<=2000->¬a.own r x->cj H ru rs->cj H pa ps->rs.length<=400->ps.length<=400->(∀u∈rs++ps,u.length<=1000/\∀z∈u,-1000<=z/\z<=1000)->(∀fp,wU rs fp->S.made* fp.length+ ps.length<50000)->(∀c gs ag fp O H',(∀b o,H b=some o->b≠x->H' b=some o)->b9 CG CC H' x r c gs ag rM S.aX.length fp O->H' c.aQ=some (.dT (ie fp))->(∀b,O b->b=x\/H b=none)->CI S (dq fp (cW S)++fm ps rs.length ps.length) gs ag rM fu none->ag.length<=(dq fp (cW S)++fm ps rs.length ps.length).length->wU rs fp->Q .non H')->FZ CR CG CC vs H Q E_
theorem qu (T:Txt K mg A):bx P w K mg base (bD P w) 5 A.gX A.j9 ["self","rooms","rules","part"] (FZ A.aw A.aH A.az):=by
 refine T.gj.F.okN eQ (λvs H Q E h=>?_) (λcy AA outer s H vs Q E hr h=>?_)
 ·obtain⟨x,B,r,ru,pa,S,a,R,rs,ps,rfl,_⟩:=h;rfl
 ·obtain⟨x,B,r,ru,pa,S,a,R,rs,ps,rfl,hx,hR,gd,YZ,hm,Ar,yf,F0,vR,mF,Um,As,k⟩:=h
  refine⟨_,(aj (bW (pv 0) (pv 1) Y)
   (aj (bW (pv 0) (bH (vV T) hr.Za5 Y T.jB.m T.jB.F.kp T.jB.b .nil aJ (ae (pv 2) ak)) Y)
   (aj (bW (pv 0) (cq ak) Y)
   (aj (bW (pv 0) (cq ak) Y)
   (aj (bW (pv 0) fq Y)
   (aj (bW (pv 0) (bA bM Y T.fj acX (ae (aB (pv 1) Y) ak)) Y)
   (aj (eB acH Y (du (gb (pv 1) (aF T) T.cQ.m (fE T) hr.Za5 T.cQ.b .nil aJ)) (cC (i:=4) eQ.nd Y (Or.inl Y))
    (ax (aZ (bf (pv 0) (aK T) T.dy.m (iF T) hr.Za5 T.dy.b .nil aJ (ae (pv 4) ak)))))
   (ax (eB acH Y (EH Y T.tJ (pv 3) (bA bM Y T.fj acX (ae (pv 2) ak))) (uE Y (gQ (cC (i:=5) eQ.nd Y (Or.inl Y)) (gQ (cC (i:=6) eQ.nd Y (Or.inl Y)) rS)))
    (ax (aZ (bf (pv 0) (aK T) T.gy.m (mq T) hr.Za5 T.gy.b .nil aJ (ae (pv 5) (ae (pv 6) (ae aM ak))))))))))))))),?_⟩
  try dsimp only[a8,bQ]
  refine zf ?_;intro OV BU ya tM oM jG gM;obtain⟨P1,Kc,Ci⟩:=id yf;obtain⟨J,Kd,P8⟩:=id F0
  have st:∀{H0:Hp} {fs gs:List (Str×V)},H0 x=some (.ins A.az B fs)->(∀b o,H b=some o->b≠x->H0 b=some o)->upd H0 x (.ins A.az B gs) x=some (.ins A.az B gs)/\(∀b o,H b=some o->b≠x->upd H0 x (.ins A.az B gs) b=some o)/\(∀b o,b≠x->H0 b=some o->upd H0 x (.ins A.az B gs) b=some o)/\∀b,upd H0 x (.ins A.az B gs) b=none->H0 b=none:=λ_ h=>⟨ah,λb o e n=>by rw[ai n];exact h b o e n,λb o n e=>by rw[ai n];exact e,λb z=>by
   by_cases e:b=x
   ·rw[e,ah]at z;cases z
   ·rw[ai e]at z;exact z⟩
  have o0:∀b o,H b=some o->b≠x->H b=some o:=λb o e _=>e
  have P9:ru≠x:=b6 Kc hx (by grind);have Qa:pa≠x:=b6 Kd hx (by grind);refine⟨_,Y,_,Y,x,_,B,_,Y,hx,aK T,T.eK,(by show 0<1000;decide),?_⟩;rw[show bJ "rooms" (.ref r) []=J0 r from rfl];obtain⟨x1,o1,-,n1⟩:=st (gs:=J0 r) hx o0;generalize upd H x (.ins A.az B (J0 r))=H1 at x1 o1 n1 ⊢;have Uo:cj H1 ru rs:=⟨P1,o1 _ _ Kc P9,Ci.1,λi q u e1 e2=>o1 _ _ (Ci.2 i q u e1 e2) (b6 (Ci.2 i q u e1 e2) hx (by grind))⟩;refine⟨_,Y,ru,rs,Y,Uo,by omega,λq d H2 s2 nq hq FI=>?_⟩;have x2:=s2 _ _ x1;have o2:∀b o,H b=some o->b≠x->H2 b=some o:=λb o e n=>s2 _ _ (o1 b o e n)
  have n2:∀b,H2 b=none->H b=none:=λb z=>n1 b (same_none s2 z)
  refine⟨_,Y,x,_,B,_,Y,x2,aK T,T.zN,(by show 1<1000;decide),?_⟩;rw[YT];have F1:q≠x:=b6 hq x2 (by grind);obtain⟨x3,o3,k3,n3⟩:=st (gs:=J1 r q) x2 o2;generalize upd H2 x (.ins A.az B (J1 r q))=X at x3 o3 k3 n3 ⊢;have q3:=k3 _ _ F1 hq;refine⟨acF _,λg ng=>?_⟩;have M:=ay.upd (o:=.lst []) ng;have g4:upd X g (.lst []) g=some (.lst []):=ah;have n4:∀b,upd X g (.lst []) b=none->H b=none:=λb z=>n2 b (n3 b (same_none M z))
  have Y0:=n2 g (n3 g ng);generalize upd X g (.lst [])=H4 at M g4 n4 ⊢;refine⟨_,Y,x,_,B,_,Y,M _ _ x3,aK T,T.jl,(by show 2<1000;decide),?_⟩;rw[YV];obtain⟨x5,o5,k5,n5⟩:=st (gs:=J9 r q g) (M _ _ x3) (λb o e n=>M _ _ (o3 b o e n));generalize upd H4 x (.ins A.az B (J9 r q g))=H5 at x5 o5 k5 n5 ⊢;have F2:g≠x:=b6 g4 (M _ _ x3) (by grind);have q5:=k5 _ _ F1 (M _ _ q3);have g5:=k5 _ _ F2 g4;refine⟨acF _,λe ne=>?_⟩;have s6:=ay.upd (o:=.lst []) ne;have e6:upd H5 e (.lst []) e=some (.lst []):=ah;have n6:∀b,upd H5 e (.lst []) b=none->H b=none:=λb z=>n4 b (n5 b (same_none s6 z))
  have Y1:=n4 e (n5 e ne);have Uq:g≠e:=au g5 ne;generalize upd H5 e (.lst [])=H6 at s6 e6 n6 ⊢;refine⟨_,Y,x,_,B,_,Y,s6 _ _ x5,aK T,T.kj,(by show 3<1000;decide),?_⟩;rw[YW];obtain⟨x7,o7,k7,n7⟩:=st (gs:=Ka r q g e) (s6 _ _ x5) (λb o e n=>s6 _ _ (o5 b o e n));generalize upd H6 x (.ins A.az B (Ka r q g e))=H7 at x7 o7 k7 n7 ⊢;have vd:e≠x:=b6 e6 (s6 _ _ x5) (by grind);have q7:=k7 _ _ F1 (s6 _ _ q5);have g7:=k7 _ _ F2 (s6 _ _ g5);have e7:=k7 _ _ vd e6;refine λw nw=>?_
  have Z:=ay.upd (o:=.dK []) nw;have w8:upd H7 w (.dK []) w=some (.dK []):=ah;have n8:∀b,upd H7 w (.dK []) b=none->H b=none:=λb z=>n6 b (n7 b (same_none Z z))
  have Y2:=n6 w (n7 w nw);generalize upd H7 w (.dK [])=H8 at Z w8 n8 ⊢;refine⟨_,Y,x,_,B,_,Y,Z _ _ x7,aK T,T.jE,(by show 4<1000;decide),?_⟩;rw[YX];obtain⟨x9,o9,k9,n9⟩:=st (gs:=Kb r q g e w) (Z _ _ x7) (λb o e n=>Z _ _ (o7 b o e n));generalize upd H8 x (.ins A.az B (Kb r q g e w))=H9 at x9 o9 k9 n9 ⊢;have Qb:w≠x:=b6 w8 (Z _ _ x7) (by grind);have R9:aq A.aw H9 r S a:=hR.keep (λb o hb e=>o9 b o e (λz=>Ar (by grind))) (λb xs e=>o9 b _ e (b6 e hx (by grind)));refine⟨_,Y,r,_,a.dx,_,_,Y,R9.ins,aF T,T.rE,sg _ _ _,a.aN,_,Y,.inl (aI.of R9.hN),_,Y,x,_,B,_,Y,x9,aK T,T.mh,(by show 5<1000;decide),?_⟩;rw[aT,bL,YY];obtain⟨xa,oa,ka,na⟩:=st (gs:=PZ r q g e w S.aX.length) x9 o9;generalize upd H9 x (.ins A.az B (PZ r q g e w S.aX.length))=Ha at xa oa ka na ⊢;have up:∀b o,b≠x->H8 b=some o->Ha b=some o:=λb o n z=>ka b o n (k9 b o n z)
  have cA:b9 A.aH A.az Ha x r ⟨B,q,g,e,w⟩ [] [] rM S.aX.length d (λb=>b=x\/b=g\/b=e\/b=w):=by
   refine⟨xa,⟨[],up _ _ F2 (Z _ _ g7),Y,(λi v z=>by simp at z),(λi v u z=>by simp at z),(λi j p z=>by simp at z)⟩,up _ _ vd (Z _ _ e7),⟨_,_,kat_nil (up _ _ Qb w8),⟨λb hb=>?_,(λ_ _ z=>by cases z),(λ_ _ _ z=>by cases z),(λ_ _ _ z=>by cases z)⟩⟩,Uq,.inl rfl,.inr (.inl rfl),.inr (.inr (.inl rfl)),λb hb=>?_⟩
   ·rcases hb with z|⟨_,z⟩|⟨_,_,z⟩
    ·exact .inr (.inr (.inr z))
    ·cases z
    ·cases z
   ·rcases hb with z|z|z|z
    ·rw[z];exact⟨_,xa,(by grind),(by grind),(by grind),by grind⟩
    ·rw[z];exact⟨_,up _ _ F2 (Z _ _ g7),(by grind),(by grind),(by grind),by grind⟩
    ·rw[z];exact⟨_,up _ _ vd (Z _ _ e7),(by grind),(by grind),(by grind),by grind⟩
    ·rw[z];exact⟨_,up _ _ Qb w8,(by grind),(by grind),(by grind),by grind⟩
  have qa:=up _ _ F1 (Z _ _ q7)
  have Oa:∀b,(b=x\/b=g\/b=e\/b=w)->b=x\/H b=none:=λb z=>by
   grind
  have Ra:aq A.aw Ha r S a:=hR.keep (λb o hb e=>oa b o e (λz=>Ar (by grind))) (λb xs e=>oa b _ e (b6 e hx (by grind)));have nA:∀b,Ha b=none->H b=none:=λb z=>n8 b (n9 b (na b z))
  obtain⟨O,eO⟩:∃O:Addr->Prop,O=λb=>b=x\/b=g\/b=e\/b=w:=⟨_,Y⟩
  rw[<-eO]at cA;replace Oa:∀b,O b->b=x\/H b=none:=by rw[eO];exact Oa
  clear eO;generalize ec:(⟨B,q,g,e,w⟩:KA)=c at cA;have qa:Ha c.aQ=some (.dT (ie d)):=by rw[<-ec];exact qa
  clear g7 e7 w8 x9 o9 k9 n9 Z n8 x7 o7 k7 n7 s6 n6 e6 x5 o5 k5 n5 M g4 n4 x3 o3 k3 n3 x1 o1 n1 x2 o2 n2 up ka q7 q5 q3 g5 xa na R9 Y2 Y1 Y0 nw ne ng Uq vd F2 Qb hq nq s2 F1 Uo;have Y3:∀p∈d,p.1.length<=1000/\∀z∈p.1,-1000<=z/\z<=1000:=λp hp=>Um _ (acu _ (ab4 (FI.a p hp)))
  have As:=As d FI;refine⟨_,Y,r,a.dx,_,Y,Ra.ins,cD _ _ _ (by decide),r,S,a,Y,Ra,gd.wf,by omega,λl nl=>?_⟩;have sl:(cW S).length<=S.made:=acr (ad8 _ _) (by grind);have Y4:∀m∈cW S,m<S.made:=λm hm=>adq.mp (adN.mp hm).1
  have Ur:(cW S).length* d.length<=S.made* d.length:=aeh _ sl;have sb:=ay.upd (o:=.lst (av (nI (cW S)))) nl;have hl:upd Ha l (.lst (av (nI (cW S)))) l=some (.lst (av (nI (cW S)))):=ah;show ∃a_1,_;rw[show (List.range S.made).filter (λc=>decide (S.aS[c]?=some c))=cW S from rfl];have nl0:=nA l nl;have Y5:¬O l:=λz=>by obtain⟨o,e,_⟩:=cA.th l z;grind
  generalize upd Ha l (.lst (av (nI (cW S))))=Hb at sb hl ⊢;have cB:=cA.same sb;refine⟨l,Y,⟨_,aI.of hl⟩,?_⟩
  refine fZ (K:=K) (a:=l) (xs:=av (nI (cW S))) (λi σ H2=>∃U L O2 v4,σ=[some (.ref x),some (.ref r),some (.ref ru),some (.ref pa),v4,none,none]/\(∀b o,¬O b->Hb b=some o->H2 b=some o)/\(∀b,O b->O2 b)/\(∀b,O2 b->O b\/Hb b=none)/\b9 A.aH A.az H2 x r c U L rM S.aX.length d O2/\CI S (dq d ((cW S).take i)) U L rM fu none/\L.length<=(dq d ((cW S).take i)).length)
   ⟨[],[],O,none,Y,λ_ _ _ e=>e,λb z=>z,λb z=>.inl z,cB,P0,aca _⟩ (λi σ H2 _ q0=>by obtain⟨_,_,_,_,_,f,_⟩:=q0;exact aI.of (f _ _ Y5 hl)) ?_ ?_
  ·rintro i v σ H2 hi ⟨U,L,O2,v4,rfl,f2,JY,Ap,c2,Am,F3⟩;obtain⟨z,rfl,hz⟩:=dh hi
   obtain⟨m,Qc,rfl⟩:∃m,(cW S)[i]?=some m/\z=(m:Int):=by
    unfold nI at hz
    grind
   have F:=(ab5.mp Qc).1;have nQ:¬O c.aQ:=cA.FL qa;have q2:=f2 _ _ nQ (sb _ _ qa);have ll:=kX d ((cW S).take i);rw[acQ,aes (by omega)]at ll;have li:(i+ 1)* d.length<=(cW S).length* d.length:=aeh _ F;rw[afr]at li;refine⟨_,Y,x,c.dx,_,Y,c2.ins,eS (by decide),_,Y,x,r,c,S,_,U,L,rM,S.aX.length,d,O2,fu,m,Y,c2,q2,Am,Y3,Y4 m (ab4 Qc),by omega,F3,λD C O3 X b3 Ul N c3 G I=>?_⟩
   have es:dq d ((cW S).take (i+ 1))=dq d ((cW S).take i)++fT d m:=by
    unfold dq;rw[aec,Qc,ae4];show _++(fT d m++[])=_;rw[acD]
   rw[<-es]at G I;refine⟨D,C,O3,_,Y,λb o n e=>b3 b o (λz=>(Ap b z).elim n λy=>by grind) (f2 b o n e),λb z=>Ul b (JY b z),λb z=>?_,c3,G,I⟩;rcases N b z with y|y
   ·exact Ap b y
   ·by_cases y2:O b
    ·exact .inl y2
    ·refine .inr ?_
     cases e:Hb b with
     |none=>rfl
     |some o=>rw[f2 b o y2 e]at y;cases y
  rintro σ H2 ⟨U,L,O2,v4,rfl,f2,JY,Ap,c2,Am,F3⟩;rw[aT,bL,adG]at Am F3;have ll:=kX d (cW S);have Qd:Hb pa=some (.lst (J.map V.ref)):=sb _ _ (oa _ _ Kd Qa);have Al:∀{b o},H b=some o->b≠x->¬O b:=λ{b o} e n z=>(Oa b z).elim n λy=>by grind
  have V3:=f2 _ _ (Al Kd Qa) Qd;have V4:=f2 _ _ (Al Kc P9) (sb _ _ (oa _ _ Kc P9));have lr:(P1.map V.ref).length=rs.length:=by rw[ab9,Ci.1]
  refine⟨_,Y,_,Y,ru,_,Y,.inl (aI.of V4),pa,((P1.map V.ref).length:Int),Y,Y,by omega,by omega,⟨_,aI.of V3⟩,?_⟩;rw[lr]
  refine CW (K:=K) (a:=pa) (xs:=J.map V.ref) (λi σ X=>∃D C O3 v5 v6,σ=[some (.ref x),some (.ref r),some (.ref ru),some (.ref pa),v4,v5,v6]/\(∀b o,¬O b->Hb b=some o->X b=some o)/\(∀b,O3 b->O b\/Hb b=none)/\b9 A.aH A.az X x r c D C rM S.aX.length d O3/\CI S (dq d (cW S)++fm ps rs.length i) D C rM fu none/\C.length<=(dq d (cW S)++fm ps rs.length i).length)
   ⟨U,L,O2,none,none,Y,f2,Ap,c2,by show CI S (_++[]) _ _ _ _ _;rw[acD];exact Am,by show _<=(_++[]).length;rw[acD];exact F3⟩ (λi σ X _ q0=>by obtain⟨_,_,_,_,_,_,f,_⟩:=q0;exact aI.of (f _ _ (Al Kd Qa) Qd)) ?_ ?_
  ·rintro i v σ X t hi nt ⟨D,C,O3,v5,v6,rfl,f3,N,c3,G,I⟩
   have F:i<J.length:=by
    have:=(ab5.mp hi).1;rw[ab9]at this;exact this
   have Qe:i<ps.length:=by rw[<-P8.1];exact F
   have g1:J[i]?=some (J[i]'F):=ab3 F
   have g2:ps[i]?=some (ps[i]'Qe):=ab3 Qe
   rw[aco,g1]at hi;obtain rfl:V.ref (J[i]'F)=v:=Za0 hi;generalize J[i]'F=wa at g1;generalize ps[i]'Qe=u at g2;have Qf:=P8.2 i wa u g1 g2;have Us:wa≠x:=b6 Qf hx (by grind);have V5:=f3 _ _ (Al Qf Us) (sb _ _ (oa _ _ Qf Us));have M:=ay.upd (o:=.tup [.int ((rs.length:Int)+ (i:Int)),.ref wa]) nt;refine⟨t,_,Y,bT.of ah,Y,_,_,Y,_,_,Y,Y,?_⟩;generalize upd X t (.tup [.int ((rs.length:Int)+ (i:Int)),.ref wa])=H4 at M ⊢;have c4:=c3.same M;have pl:=rL ps rs.length i;have Ut:=Um u (ab8 _ (ab4 g2));refine⟨_,Y,x,c.dx,_,Y,c4.ins,eS (by decide),_,Y,_,Y,x,r,wa,c,S,_,D,C,rM,S.aX.length,d,O3,fu,rs.length+ i,0,u,Y,c4,G,M _ _ V5,Ut.1,Ut.2,YZ,by rw[ab6];omega,I,λY6 PH O5 H5 b5 le5 Y7 c5 F4 Uu=>?_⟩
   have ep:fm ps rs.length (i+ 1)=fm ps rs.length i++nz (rs.length+ i) u 0:=by
    unfold fm;rw[adP,ae4];show _++(nz (rs.length+ i) (ps.getD i []) 0++[])=_;rw[acD,acd,g2];rfl
   rw[adb,<-ep]at F4 Uu;refine⟨Y6,PH,O5,_,_,Y,λb o n e=>b5 b o (λz=>(N b z).elim n λy=>by grind) (M _ _ (f3 b o n e)),λb z=>?_,c5,F4,Uu⟩;rcases Y7 b z with y|y
   ·exact N b y
   ·by_cases y2:O b
    ·exact .inl y2
    ·refine .inr ?_
     cases e:Hb b with
     |none=>rfl
     |some o=>rw[M _ _ (f3 b o y2 e)]at y;cases y
  ·rintro σ X ⟨D,C,O3,v5,v6,rfl,f3,N,c3,G,I⟩;rw[ab9,P8.1]at G I;refine k c D C d O3 X (λb o e n=>f3 b o (Al e n) (sb _ _ (oa b o e n))) c3 (f3 _ _ (cA.FL qa) (sb _ _ qa)) (λb z=>?_) G I FI;rcases N b z with y|y
   ·exact Oa b y
   ·exact .inr (nA b (same_none sb y))
theorem Au {rs:Za3}{a:List (List Int×Nat)}(h:wU rs a):a.length<=rs.length:=by
 have c:(a.map (·.2)).Nodup:=by
  have:=h.n;unfold List.Nodup at this ⊢;rw[aeX]at this ⊢
  exact this.imp_of_mem λ{p q} b f n e=>n (by
   have i:=h.a p b;have g:=h.a q f
   grind)
 have:=kS rs.length _ c λn d=>by
  obtain⟨p,b,rfl⟩:=adl.mp d;exact(ab5.mp (h.a p b)).1
 rw[ab9]at this;exact this
theorem vX {b:Nat×List Int×Nat}{w:Nat}(h:b∈nz w l m):b=(w,l,m)/\l≠[]:=by
 unfold nz at h
 grind
theorem Dv {w:Nat}(h:l≠[]):(w,l,m)∈nz w l m:=by
 unfold nz;grind
theorem L0 {c:List (List Int×Nat)}{st:List Nat}{a:Za3}{b:Nat×List Int×Nat}(h:b∈dq c st++fm a n a.length):(∃p∈c,b.1=p.2/\b.2.1=p.1/\b.2.2∈st)\/∃j u,a[j]?=some u/\b=(n+ j,u,0):=by
 rcases ach.mp h with q|q
 ·obtain⟨m,d,q⟩:=adH.mp q;obtain⟨p,e,q⟩:=adH.mp q;obtain⟨rfl,_⟩:=vX q;exact .inl ⟨p,e,Y,Y,d⟩
 ·obtain⟨j,f,q⟩:=adH.mp q;obtain⟨rfl,_⟩:=vX q
  grind
theorem ends {bs:List (Nat×List Int×Nat)}{f:List (Option Gg)}{W:bE}(ci:CI S bs f [] W fu none)(B:Good S [] R){b:Nat×List Int×Nat}(r:b∈bs)(a:S.ao b.2.2=b.2.2):xS S b.2.2 b.2.1:=by
 obtain⟨n,d⟩:=acJ r;have x:n<f.length:=by rw[ci.len];exact(ab5.mp d).1
 cases q:f[n]? with
 |none=>grind
 |some y=>
  cases y with
  |none=>
   rcases ci.de n b q (by grind) d with z|z
   ·exact absurd a z
   ·exact .inl z
  |some g=>
   obtain⟨e,c,z⟩:=ci.al n g q;rw[d]at e;obtain rfl:=Za0 e;rcases z with z|z|⟨lt,o,p⟩
   ·cases z
   ·cases z
   ·obtain⟨t,_,h,_,_,_,_,f1⟩:=ci.en _ _ _ o;obtain⟨u,_,k,_,_,_,_,f2⟩:=ci.en _ _ _ p;have h:t=g.front:=by omega
    have k:u=g.bj:=by omega
    subst h k;rcases f1 with ⟨v,l⟩|f1
    ·rcases f2 with ⟨m,s⟩|f2
     ·have i:=c.wf;have j:=c.wr;have a:S.ao g.start=g.start:=a;rw[a,v]at i;rw[a,m]at j;exact .inr ⟨g.first,g.last,g.front,g.bj,g.z1,-g.z2,lt,Gg.pW (by have:=c.ll;omega),Gg.at2 c.ll,i,l,j,by rw[adU];exact s⟩
     ·exact f2.elim
    ·exact f1.elim
inductive L1 (CR CG CC:Addr) (vs:List V) (H:Hp) (Q:VK) (E_:XK):Prop
 |mk (r ru pa:Addr) (S:RS) (a:RA) (R:Za2) (ks:List Int) (B:Nat) (rs ps:Za3):vs=[.ref r,.ref ru,.ref pa]->ik CR H r S a R ks B->0<S.made->B<800000->cj H ru rs->cj H pa ps->rs.length<=400->ps.length<=400->S.made* rs.length+ ps.length<=700->(∀u∈rs++ps,u.length<=1000/\∀z∈u,(-1000<=z/\z<=1000)/\z∈ks/\-z∈ks)->(∀S' a' R' B' H',(∀b o,¬a.own r b->H b=some o->H' b=some o)->ik CR H' r S' a' R' ks B'->(∀b,a'.own r b->a.own r b\/H b=none)->(∀a z b,R a z b->R' a z b)->S'.made=S.made->S'.L=S.L->Tr (rs++ps) rs.length S S'->wI rs ps S'->B'<=B+ 700->Q .non H')->L1 CR CG CC vs H Q E_
def eV (z:Int):Int:=if z > 0 then 2* z - 2 else -2* z - 1
theorem F5 (k:Nat):eV (M12.st k)=k:=by
 unfold eV M12.st;by_cases h:k % 2=0
 ·rw[acv h,acv (by omega)];omega
 ·rw[acm h,acm (by omega)];omega
def L3:Sp:=λa H Q _=>∃z:Int,a=[.int z]/\Q (.int (eV z)) H
def oR (l:List Int):V:=(l.head?.map V.int).getD .non
inductive Qg (C:Addr) (vs:List V) (H:Hp) (Q:VK) (E_:XK):Prop
 |mk (r:Addr) (S:RS) (a:RA) (c:Nat):vs=[.ref r,.int c]->aq C H r S a->c<S.gaps.length->Q (oR (S.gap c)) H->Qg C vs H Q E_
theorem A3 (T:Txt K mg A):bx P w K mg base (bD P w) 1 A.vx A.vy ["step"] L3:=by
 refine T.pE.F.okN AZ (λd H Q E h=>?_) (λc f a s H d Q E e h=>?_)
 ·obtain⟨z,rfl,_⟩:=h;rfl
 ·obtain⟨z,rfl,k⟩:=h
  refine⟨_,(aj (bV (bq Cv (pv 0) aM (bC _))
   (ax (bB (bP j1 (bP DM aM (pv 0)) aM)))
   bG)
   (ax (bB (bP j1 (bP DM (gI fb aM) (pv 0)) aM)))),?_⟩
  try dsimp only[a8,bQ]
  refine iP ?_;intro b;refine⟨_,Y,_,_,Y,Y,_,Y,?_⟩;unfold eV at k;refine df (λh=>?_) (λh=>?_)
  ·rw[acv (acI h)]at k;exact⟨_,Y,_,_,Y,Y,.inl ⟨by decide,by decide⟩,_,_,Y,Y,k⟩
  ·rw[acm (λq=>h (acy q))]at k;exact⟨_,Y,_,Y,_,_,Y,Y,.inl ⟨by decide,by decide⟩,_,_,Y,Y,k⟩
theorem g6 (T:Txt K mg A):bx P w K mg base (bD P w) 1 A.kL A.kM ["self","room"] (Qg A.aw):=by
 refine T.dm.F.okN kl (λv H Q E h=>?_) (λG J l s H v Q E I h=>?_)
 ·obtain⟨r,S,a,c,rfl,_⟩:=h;rfl
 ·obtain⟨r,S,a,c,rfl,h,x,k⟩:=h
  refine⟨_,(aj (Bx (eB acH Y (RC (bN bS (aB (pv 0) Y) (pv 1) (λ_ _=>rfl))) (cC (i:=2) kl.nd Y (Or.inl Y))
   (ax (bB (pv 2)))))
   (ax (bB c9))),?_⟩
  try dsimp only[a8,bQ]
  refine iP ?_;intro D;have C:=vQ x;obtain⟨p,F,m⟩:=h.rG.at C;refine⟨p,.dK (gK (S.gap c)),m,True.intro,?_⟩;refine⟨_,Y,r,_,a.dx,_,_,Y,h.ins,aF T,T.rD,sf _ _ _,_,Y,a.aG,_,_,_,Y,Y,aI.of h.hG,fQ F,p,gK (S.gap c),Y,m,λo=>?_⟩
  have back:upd (upd H p (.cL o (.dK (gK (S.gap c))))) p (.dK (gK (S.gap c)))=H:=by
   rw[Kq]
   funext b
   by_cases t:b=p
   ·rw[t,ah,m]
   ·rw[ai t]
  refine NC (d:=p) (o:=o) (kvs:=gK (S.gap c)) (λi g j=>g=[some (.ref r),some (.int c),none]/\j=upd H p (.cL o (.dK (gK (S.gap c))))/\i=0) ⟨Y,Y,Y⟩ (λi g j _ q=>by rw[q.2.1];exact ah) ?_ ?_
  ·rintro i y g j f ⟨rfl,rfl,rfl⟩
   have e:∃z,(S.gap c).head?=some z/\kV y.1=.int z:=by
    unfold gK at f;rw[aco]at f
    cases q:(S.gap c)[0]? with
    |none=>rw[q]at f;cases f
    |some z=>
     rw[q]at f;refine⟨z,by rw[List.head?_eq_getElem?];exact q,?_⟩;rw[<-Za0 f];rfl
   obtain⟨z,u,n⟩:=e;rw[n];refine⟨_,Y,o,ah,?_⟩;rw[back];have:oR (S.gap c)=.int z:=by unfold oR;rw[u];rfl
   rw[<-this];exact k
  ·rintro g j ⟨rfl,rfl,e⟩;refine⟨o,ah,?_⟩;rw[back];have:S.gap c=[]:=adv (by unfold gK at e;grind);have n:oR (S.gap c)=.non:=by rw[this];rfl
   show Q V.non H;rw[<-n];exact k
def dO:Pos:=⟨167,29,167,57⟩
def g9:Str:=(PyProof.Rows.envOfC "ByLetters.gap" (aD jw) 0 0 .none).qual++"<lambda>"
def Kp (a:Addr)(H c:Hp):Prop:=∀b u,b≠a->H b=some u->c b=some u
theorem Kp.trans (c:Kp a H I)(b:Kp a I J):Kp a H J:=λx u n e=>b x u n (c x u n e)
theorem Kp.same (b:ay H I):Kp a H I:=λx u _ e=>b x u e
theorem _root_.L2.cY.same {pos:Pos}(h:cY a pos x H)(s:ay H I):cY a pos x I:=h.keep λb u e _=>s b u e
def eU (S:RS)(L c:Nat)(z:Int):Prop:=c<S.made/\S.aS[c]?=some c/\z∈bu (2* L)/\S.by c z=none
def rk (w c:Nat)(z:Int):List Int:=if w=0 then [(c:Int),eV z] else if w=1 then [eV z,(c:Int)] else [-(c:Int),eV z]
def jY (w:Nat)(S:RS)(L c:Nat)(z:Int):Prop:=eU S L c z/\∀a b,eU S L a b->HT.lexLt (rk w a b) (rk w c z)=false
structure GL (S:RS) (L:Nat):Prop where
 wf:S.Wf
 m:S.made<=100000
 l2:L<=200
 gp:∀c,c<S.made->S.aS[c]?=some c->S.gap c=(bu (2* L)).filter λz=>(S.by c z).isNone
inductive jI (C Pt D:Addr) (w:Nat) (vs:List V) (H:Hp) (Q:VK) (E_:XK):Prop
 |mk (o dx r:Addr) (S:RS) (a:RA) (L:Nat):vs=[.ref o,.ref r]->H o=some (.ins D dx [])->aq C H r S a->GL S L->cY Pt dO g9 H->((∀c z,¬eU S L c z)->∀H',Kp Pt H H'->cY Pt dO g9 H'->Q .non H')->(∀(c:Nat) (z:Int),jY w S L c z->∀t H',Kp Pt H H'->cY Pt dO g9 H'->H' t=some (.tup [.int (c:Int),.int z])->Q (.ref t) H')->jI C Pt D w vs H Q E_
def b0 (S:RS):List Nat:=(List.range S.made).filter λc=>decide (S.aS[c]?=some c)
theorem gu:n∈b0 S↔n<S.made/\S.aS[n]?=some n:=by
 unfold b0;rw[adN,adq];simp
theorem wX (S:RS):(b0 S).Pairwise (·< ·):=List.Pairwise.filter _ List.pairwise_lt_range
theorem Sj (n:Nat):(bu n).Pairwise λa b=>eV a<eV b:=by
 unfold bu;rw[aeX];refine List.Pairwise.imp (λh=>?_) (List.pairwise_lt_range (n:=n));rw[F5,F5];omega
theorem Dw (pw:l.Pairwise λa b=>eV a<eV b){z:Int}(h:l.head?=some z):z∈l/\∀y∈l,eV z<=eV y:=by
 cases l with
 |nil=>cases h
 |cons x l=>
  have e:x=z:=Za0 h;subst e;refine⟨ack,λy c=>?_⟩;rcases aci.mp c with rfl|c
  ·exact Int.le_refl _
  ·exact Int.le_of_lt ((List.pairwise_cons.mp pw).1 y c)
theorem GL.head (g:GL S n)(hc:m<S.made)(f:S.aS[m]?=some m):(∀z,(S.gap m).head?=some z->eU S n m z/\∀y,eU S n m y->eV z<=eV y)/\((S.gap m).head?=none->∀y,¬eU S n m y):=by
 have e:=g.gp m hc f
 have mem:∀y,eU S n m y↔y∈S.gap m:=λy=>by
  rw[e,adN];constructor
  ·rintro ⟨_,_,d,c⟩;exact⟨d,by rw[c];rfl⟩
  ·rintro ⟨d,c⟩;exact⟨hc,f,d,by simpa using c⟩
 have pw:(S.gap m).Pairwise λa b=>eV a<eV b:=by rw[e];exact(Sj _).filter _
 refine⟨λz hz=>?_,λi y h=>?_⟩
 ·obtain⟨d,c⟩:=Dw pw hz;exact⟨(mem z).mpr d,λy h=>c y ((mem y).mp h)⟩
 grind
def dX (S:RS)(cs:List Nat):Option (Nat×Int):=cs.findSome? λc=>(S.gap c).head?.map λz=>(c,z)
theorem A4 (h:dX S B=none):∀c∈B,(S.gap c).head?=none:=λc a=>by
 unfold dX at h;rw[List.findSome?_eq_none_iff]at h;have:=h c a
 cases q:(S.gap c).head? with
 |none=>rfl
 |some z=>grind
theorem tN {S:RS}:∀{cs:List Nat} {c:Nat} {z:Int},dX S cs=some (c,z)->∃i:Nat,cs[i]?=some c/\(S.gap c).head?=some z/\∀j b:Nat,j<i->cs[j]?=some b->(S.gap b).head?=none
 |[],_,_,h=>by cases h
 |x::cs,c,z,h=>by
  unfold dX at h;rw[List.findSome?_cons]at h
  cases q:(S.gap x).head? with
  |some y=>
   rw[q]at h;have h:(x,y)=(c,z):=Za0 h;injection h with d a
   subst d a;exact⟨0,Y,q,λj b f=>absurd f (Nat.not_lt_zero _)⟩
  |none=>
   rw[q]at h;obtain⟨i,d,a,g⟩:=tN (cs:=cs) h;refine⟨i+ 1,d,a,λj b f e=>?_⟩
   cases j with
   |zero=>rw[<-Za0 e];exact q
   |succ j=>exact g j b (by omega) e
inductive Cj (C:Addr) (vs:List V) (H:Hp) (Q:VK) (E_:XK):Prop
 |mk (r l:Addr) (S:RS) (a:RA) (cs:List Nat):vs=[.ref r,.ref l]->aq C H r S a->H l=some (.lst (av (nI cs)))->(∀c∈cs,c<S.gaps.length)->(dX S cs=none->Q .non H)->(∀(c:Nat) (z:Int),dX S cs=some (c,z)->∀t,H t=none->Q (.ref t) (upd H t (.tup [.int (c:Int),.int z])))->Cj C vs H Q E_
theorem A5 {cs:List Nat}(c:cs[i]?=some n)(a:dX S (cs.take i)=none):(∀z,(S.gap n).head?=some z->dX S cs=some (n,z))/\((S.gap n).head?=none->dX S (cs.take (i+ 1))=none):=by
 have e:cs.take (i+ 1)=cs.take i++[n]:=by rw[List.take_add_one,c];rfl
 constructor
 ·intro z b;have d:cs=cs.take (i+ 1)++cs.drop (i+ 1):=(adS _ _).symm;unfold dX at a ⊢;rw[d,e,adb,List.findSome?_append,a,Option.none_or,aeB,List.findSome?_cons,b];rfl
 ·intro b;unfold dX at a ⊢
  grind
theorem tO (T:Txt K mg A):bx P w K mg base (bD P w) 2 A.vB A.vC ["rooms","some"] (Cj A.aw):=by
 refine T.gS.F.okN nj (λp H Q E h=>?_) (λI M k s H p Q E B h=>?_)
 ·obtain⟨r,l,S,a,cs,rfl,_⟩:=h;rfl
 ·obtain⟨r,l,S,a,cs,rfl,h,n,q,J,ks⟩:=h
  refine⟨_,(aj (eB acH Y (du (pv 1)) (cC (i:=2) nj.nd Y (Or.inl Y))
   (aj (a9 (i:=3) nj.nd Y (Or.inl Y) (bf (pv 0) (aF T) T.dm.m (g6 T) (B.mono (by decide)) T.dm.b .nil aJ (ae (pv 2) ak)))
   (ax (bV (bq ny (pv 3) c9 (bC _))
    (ax (bB (gw (ae (pv 2) (ae (pv 3) ak)))))
    bG))))
   (ax (bB c9))),?_⟩
  try dsimp only[a8,bQ]
  refine iP ?_;intro D;refine⟨_,Y,l,Y,⟨_,aI.of n⟩,?_⟩;refine fZ (K:=K) (a:=l) (xs:=av (nI cs)) (λi f j=>∃v m,f=[some (.ref r),some (.ref l),v,m]/\j=H/\dX S (cs.take i)=none) ⟨none,none,Y,Y,Y⟩ (λi f j _ ⟨_,_,_,e,_⟩=>by rw[e];exact aI.of n) ?_ ?_
  ·rintro i x f j o ⟨v,m,rfl,rfl,d⟩;obtain⟨z,rfl,G⟩:=dh o
   obtain⟨c,b,rfl⟩:∃c:Nat,cs[i]?=some c/\z=(c:Int):=by
    unfold nI at G
    grind
   obtain⟨C,u⟩:=A5 b d;refine⟨_,Y,r,a.dx,_,Y,h.ins,Y,_,Y,r,S,a,c,Y,h,q c (ab4 b),?_⟩;refine⟨_,Y,Y,_,Y,?_⟩
   cases g:(S.gap c).head? with
   |none=>
    have e:oR (S.gap c)=.non:=by unfold oR;rw[g];rfl
    rw[e];exact⟨some (.int c),some .non,Y,Y,u g⟩
   |some y=>
    have e:oR (S.gap c)=.int y:=by unfold oR;rw[g];rfl
    rw[e];exact⟨_,Y,_,Y,by show 2<=sizeLine;decide,λt F=>ks c y (C y g) t F⟩
  ·rintro f j ⟨v,m,rfl,rfl,d⟩;rw[aT,bL,adG]at d;exact J d
theorem Av {a a' b b':Int}(h:a<a'\/a'=a/\b<=b'):HT.lexLt [a',b'] [a,b]=false:=by
 rw[HT.uJ,HT.uJ,HT.yi]
 grind
theorem sj {c:Type}{R:c->c->Prop}{l:List c}(pw:l.Pairwise R){i j:Nat}{a b:c}(d:i<j)(e:l[i]?=some a)(g:l[j]?=some b):R a b:=by
 obtain⟨f,rfl⟩:=ab5.mp e;obtain⟨h,rfl⟩:=ab5.mp g;exact List.pairwise_iff_getElem.mp pw i j f h d
theorem Aw (g:GL S n)(b:∀c,c∈b0 S->c∈B)(h:dX S B=none):∀c z,¬eU S n c z:=λc z a=>(g.head a.1 a.2.1).2 (A4 h c (b c (gu.mpr ⟨a.1,a.2.1⟩))) z a
theorem tP {w:Nat}{cs:List Nat}(R:Nat->Nat->Prop)(g:GL S n)(f:∀m,m∈cs↔m∈b0 S)(pw:cs.Pairwise R)(p:∀a b,R a b->∀y,HT.lexLt (rk w b y) (rk w a z)=false)(v:∀y,eV z<=eV y->HT.lexLt (rk w m y) (rk w m z)=false)(h:dX S cs=some (m,z)):jY w S n m z:=by
 obtain⟨i,l,r,s⟩:=tN h;have e:=gu.mp ((f m).mp (ab4 l));obtain⟨t,u⟩:=(g.head e.1 e.2).1 z r;refine⟨t,λd k c=>?_⟩;obtain⟨j,o⟩:=acJ ((f d).mpr (gu.mpr ⟨c.1,c.2.1⟩));rcases Nat.lt_trichotomy i j with q|q|q
 ·exact p m d (sj pw q l o) k
 ·grind
 ·exact absurd c ((g.head c.1 c.2.1).2 (s j d q o) k)
theorem Qh (g:GL S n)(h:dX S (b0 S)=some (m,z)):jY 0 S n m z:=
 tP (·< ·) g (λ_=>Iff.rfl) (wX S) (λa b c y=>Av (.inl (by omega))) (λy d=>Av (.inr ⟨Y,d⟩)) h
theorem Qi (g:GL S n)(h:dX S (b0 S).reverse=some (m,z)):jY 2 S n m z:=
 tP (λa b=>b<a) g (λm=>List.mem_reverse) (List.pairwise_reverse.mpr (wX S)) (λa b c y=>Av (.inl (by omega))) (λy d=>Av (.inr ⟨Y,d⟩)) h
theorem rN (T:Txt K mg A):bx P w K mg base (bD P w) 3 A.tF A.tG ["self","rooms"] (jI A.aw A.dW A.cK 0):=by
 refine T.ki.F.okN zX (λm H Q E h=>?_) (λB D f s H m Q E i h=>?_)
 ·obtain⟨o,p,r,S,a,L,rfl,_⟩:=h;rfl
 ·obtain⟨o,p,r,S,a,L,rfl,F,h,g,j,C,ks⟩:=h;refine⟨_,(ax (bB (bH (tO T) (i.mono (by decide)) Y T.gS.m T.gS.F.kp T.gS.b .nil aJ (ae (pv 1) (ae (gb (pv 1) (aF T) T.cQ.m (fE T) (i.mono (by decide)) T.cQ.b .nil aJ) ak))))),?_⟩
  try dsimp only[a8,bQ]
  refine⟨_,Y,_,Y,r,a.dx,_,Y,h.ins,Y,r,S,a,Y,h,g.wf,g.m,λl q=>?_⟩;have d:ay H (upd H l (.lst (av (nI (b0 S))))):=ay.upd q;refine⟨r,l,S,a,b0 S,Y,h.same d,ah,λc n=>by rw[g.wf.g];exact(gu.mp n).1,λv=>C (Aw g (λ_ h=>h) v) _ (.same d) (j.same d),λc z y t x=>?_⟩;have k:=ay.upd (o:=.tup [.int (c:Int),.int z]) x;exact ks c z (Qh g y) t _ (.same λb u e=>k b u (d b u e)) ((j.same d).same k) ah
theorem qo (T:Txt K mg A):bx P w K mg base (bD P w) 3 A.q8 A.q9 ["self","rooms"] (jI A.aw A.dW A.ck 2):=by
 refine T.jC.F.okN yo (λq H Q E h=>?_) (λG M f s H q Q E j h=>?_)
 ·obtain⟨o,x,r,S,a,L,rfl,_⟩:=h;rfl
 ·obtain⟨o,x,r,S,a,L,rfl,N,h,g,k,I,ks⟩:=h;refine⟨_,(ax (bB (bH (tO T) (j.mono (by decide)) Y T.gS.m T.gS.F.kp T.gS.b .nil aJ (ae (pv 1) (ae (C4 Y Y T.fP Y T.Dc (ae (gb (pv 1) (aF T) T.cQ.m (fE T) (j.mono (by decide)) T.cQ.b .nil aJ) ak)) ak))))),?_⟩
  try dsimp only[a8,bQ]
  refine⟨_,Y,_,Y,r,a.dx,_,Y,h.ins,Y,r,S,a,Y,h,g.wf,g.m,λl B=>?_⟩;have y:ay H (upd H l (.lst (av (nI (b0 S))))):=ay.upd B;refine⟨l,_,Y,aI.of ah,λn i=>?_⟩;have J:=ay.upd (o:=.lst (av (nI (b0 S))).reverse) i;have d:ay H (upd (upd H l (.lst (av (nI (b0 S))))) n (.lst (av (nI (b0 S))).reverse)):=λb u e=>J b u (y b u e)
  have p:(av (nI (b0 S))).reverse=av (nI (b0 S).reverse):=by unfold av nI;rw[List.map_reverse,List.map_reverse]
  refine⟨r,n,S,a,(b0 S).reverse,Y,h.same d,by rw[<-p];exact ah,λc v=>by rw[g.wf.g];exact(gu.mp (List.mem_reverse.mp v)).1,λC=>I (Aw g (λ_ h=>List.mem_reverse.mpr h) C) _ (.same d) (k.same d),λc z F t D=>?_⟩;have m:=ay.upd (o:=.tup [.int (c:Int),.int z]) D;exact ks c z (Qi g F) t _ (.same λb u e=>m b u (d b u e)) ((k.same d).same m) ah
def jJ (S:RS)(cs:List Nat):List (Nat×Int):=cs.filterMap λc=>(S.gap c).head?.map λz=>(c,z)
theorem wY:(n,z)∈jJ S B↔n∈B/\(S.gap n).head?=some z:=by
 unfold jJ;rw[afb];constructor
 ·rintro ⟨b,a,e⟩
  cases q:(S.gap b).head? with
  |none=>rw[q]at e;cases e
  |some y=>
   grind
 grind
theorem Qj {cs:List Nat}(h:cs.Pairwise (·< ·)):(jJ S cs).Pairwise λp q=>p.1<q.1:=by
 unfold jJ;refine List.pairwise_filterMap.mpr (h.imp λ{a b} e p c q d=>?_)
 cases f:(S.gap a).head? with
 |none=>rw[f]at c;cases c
 |some y=>
  cases g:(S.gap b).head? with
  |none=>rw[g]at d;cases d
  |some x=>
   rw[f]at c;rw[g]at d;rw[<-Za0 c,<-Za0 d];exact e
theorem Iy {cs:List Nat}(a:cs[i]?=some n):jJ S (cs.take (i+ 1))=jJ S (cs.take i)++((S.gap n).head?.map λz=>(n,z)).toList:=by
 unfold jJ;rw[show cs.take (i+ 1)=cs.take i++[n] by rw[List.take_add_one,a];rfl,List.filterMap_append,List.filterMap_cons,List.filterMap_nil];cases (S.gap n).head? <;> rfl
theorem Qk (g:GL S n)(h:(jJ S (b0 S))[i]?=some (m,z))(p:∀j f c,(jJ S (b0 S))[j]?=some (f,c)->eV z<=eV c/\(j<i->eV z<eV c)):jY 1 S n m z:=by
 obtain⟨r,t⟩:=wY.mp (ab4 h);have l:=gu.mp r;refine⟨((g.head l.1 l.2).1 z t).1,λf c d=>?_⟩;have hd:=g.head d.1 d.2.1
 cases q:(S.gap f).head? with
 |none=>exact absurd d (hd.2 q c)
 |some y=>
  have B:=(hd.1 y q).2 c d;obtain⟨j,o⟩:=acJ (wY.mpr ⟨gu.mpr ⟨d.1,d.2.1⟩,q⟩);obtain⟨u,s⟩:=p j f y o;refine Av (a:=eV z) (b:=(m:Int)) (a':=eV c) (b':=(f:Int)) ?_;by_cases e:eV z<eV c
  ·exact .inl e
  ·refine .inr ⟨by omega,?_⟩;rcases Nat.lt_trichotomy i j with k|k|k
   ·have:m<f:=sj (Qj (wX S)) k h o;omega
   ·grind
   ·have:=s k;omega
theorem Ql (g:GL S n)(h:jJ S (b0 S)=[]):∀c z,¬eU S n c z:=λc z a=>by
 have hd:=g.head a.1 a.2.1
 cases q:(S.gap c).head? with
 |none=>exact hd.2 q z a
 |some y=>
  have:=wY.mpr ⟨gu.mpr ⟨a.1,a.2.1⟩,q⟩
  grind
theorem mv (T:Txt K mg A)(m6:jQ mg base):bx P w K mg base (bD P w) 6 A.mU A.jy ["self","rooms"] (jI A.aw A.dW A.bK 1):=by
 refine T.gA.F.Xd T.lam.code mn (λvs H Q E h=>?_) (λAA outer s H vs Q E hr h=>?_)
 ·obtain⟨o,dx,r,S,a,L,rfl,_⟩:=h;rfl
 ·obtain⟨o,dx,r,S,a,L,rfl,ho,h,g,hT,kn,ks⟩:=h
  refine⟨_,(aj (ym (iy:=2) mn.nd Y (Or.inl Y) (fns:=["rooms"]) (ixs:=[1]) (cl:=_) Y (du (gb (pv 1) (aF T) T.cQ.m (fE T) hr.Za5 T.cQ.b .nil aJ)) (o6 Y Y (by decide) Y (by decide) Y (by decide) (by decide) Y Y Y Y) (λC s H ex=>(bq ny (bf (pv 1) (aF T) T.dm.m (g6 T) hr.Za5 T.dm.b .nil aJ (ae (pv 0) ak)) c9 (bC _))) (λC s H ex=>(gw (ae (pv 0) (ae (bf (pv 1) (aF T) T.dm.m (g6 T) hr.Za5 T.dm.b .nil aJ (ae (pv 0) ak)) ak)))))
   (ax (bB (Lj (x:="gap") (k:=2) Y Y T.C9 (pv 2) Y T.lam.hd Y Y m6 hr.Za5 (by ac_rfl) (λ_ _ _ _=>rfl) (λ_ _ _ _ _ _ Ci=>bH (A3 T) (Ci.mono (by decide)) Y T.pE.m T.pE.F.kp T.pE.b .nil aJ (ae (bN (Bu (K:=K) Y) (pv 0) aM (λ_ _=>rfl)) ak)))))),?_⟩
  try dsimp only[a8,bQ]
  refine iP ?_;intro gM;refine⟨_,Y,r,a.dx,_,Y,h.ins,Y,r,S,a,Y,h,g.wf,g.m,λl hl=>?_⟩;have s1:ay H (upd H l (.lst (av (nI (b0 S))))):=ay.upd hl;have M:upd H l (.lst (av (nI (b0 S)))) l=some (.lst (av (nI (b0 S)))):=ah;rw[show ((List.range S.made).filter λc=>decide (S.aS[c]?=some c))=b0 S from rfl];generalize upd H l (.lst (av (nI (b0 S))))=H1 at s1 M;have h1:=h.same s1;have I:=hT.same s1;have hsl:(b0 S).length<=S.made:=acr (ad8 _ _) (by grind);have hgm:=g.m;have el:(av (nI (b0 S))).length=(b0 S).length:=by rw[aT,bL]
  refine⟨l,Y,⟨_,aI.of M⟩,?_⟩;refine⟨λi m ys H2=>m=(b0 S).length - i/\i<=(b0 S).length/\ay H1 H2/\∃d:List Addr,ys=d.map V.ref/\d.length<=i/\Each (λt (p:Nat×Int)=>H2 t=some (.tup [.int (p.1:Int),.int p.2])) d (jJ S ((b0 S).take i)),⟨(b0 S).length,by simp,acF _,λ_ _ e=>e,[],Y,aca _,Y,λi p x e=>by simp at e⟩,?_⟩;rintro i m ys H2 ⟨rfl,hi,G,d,rfl,U,F⟩;have N:=G _ _ M;have h2:=h1.same G;by_cases i7:i<(b0 S).length
  ·refine .inr ⟨lA (aI.of N) i (by omega),by rw[ab9];exact ace (acr U (show i<=100000 by omega)) (by decide),λx H3 Ke=>?_⟩;obtain⟨rfl,hx⟩:=jL (aI.of N) i x H3 (by omega) Ke;obtain⟨z,rfl,hz⟩:=dh hx
   obtain⟨c,Uv,rfl⟩:∃c:Nat,(b0 S)[i]?=some c/\z=(c:Int):=by
    unfold nI at hz
    grind
   have X:c<S.gaps.length:=by rw[g.wf.g];exact(gu.mp (ab4 Uv)).1
   have et:=Iy (S:=S) Uv;refine⟨_,Y,r,a.dx,_,Y,h2.ins,Y,_,Y,r,S,a,c,Y,h2,X,Y,_,Y,?_⟩
   cases hg:(S.gap c).head? with
   |none=>
    have e:oR (S.gap c)=.non:=by unfold oR;rw[hg];rfl
    rw[e];refine⟨(b0 S).length - (i+ 1),by omega,Y,i7,G,d,Y,by omega,?_⟩;rw[et,hg];simpa using F
   |some y=>
    have e:oR (S.gap c)=.int y:=by unfold oR;rw[hg];rfl
    rw[e];refine⟨_,Y,_,Y,r,a.dx,_,Y,h2.ins,Y,_,Y,r,S,a,c,Y,h2,X,by show 2<=sizeLine;decide,λt Y8=>?_⟩;have v:=ay.upd (o:=.tup [.int (c:Int),oR (S.gap c)]) Y8;refine⟨(b0 S).length - (i+ 1),by omega,Y,i7,λb u q=>v b u (G b u q),d++[t],by grind,by rw[ab6,ada];omega,?_⟩;rw[et,hg];refine(F.imp λp x _ _ q=>v _ _ q).snoc ?_;show upd H3 t _ t=_;rw[ah,e]
  ·have e:i=(b0 S).length:=by omega
   subst e;rw[adG]at F;refine .inl ⟨by rw[<-el];exact iM (aI.of N),by rw[ab9];exact acr U (acr (show (b0 S).length<=100000 by omega) (by decide)),λD hD=>?_⟩;have v:=ay.upd (o:=.lst (d.map V.ref)) hD;have Uw:upd H2 D (.lst (d.map V.ref)) D=some (.lst (d.map V.ref)):=ah;generalize upd H2 D (.lst (d.map V.ref))=H3 at v Uw;have Z:ay H H3:=λb u q=>v b u (G b u (s1 b u q))
   refine⟨_,Y,D,d.map V.ref,λj=>eV ((jJ S (b0 S)).getD j (0,0)).2,Y,aI.of Uw,(I.same G).same v,λH4 Ux k4=>⟨λj y R=>?_,λe=>?_,λj y R hb=>?_⟩⟩
   ·have O:j<(jJ S (b0 S)).length:=by rw[<-F.1,<-ab9 (f:=V.ref)];exact(ab5.mp R).1
    obtain⟨t,J,q⟩:=F.at (ab3 O);rw[aco,J]at R;have e:=Za0 R;subst e
    have q4:H4 t=_:=k4 t _ (λz=>by
     have q3:=v _ _ q;rcases (I.same G).same v with w|⟨_,_,_,_,w,_⟩
     ·rw[z,w]at q3;cases q3
     grind) (v _ _ q)
    refine⟨_,Y,t,_,_,_,Y,Y,bT.of q4,Y,_,Y,?_,Y⟩
    grind
   ·have:d=[]:=List.map_eq_nil_iff.mp e;have e2:jJ S (b0 S)=[]:=adv (by rw[<-F.1,this];rfl);exact kn (Ql g e2) H4 (λb u n q=>k4 b u n (Z b u q)) Ux
   ·have O:j<(jJ S (b0 S)).length:=by rw[<-F.1,<-ab9 (f:=V.ref)];exact(ab5.mp R).1
    have B:=ab3 O;generalize (jJ S (b0 S))[j]=p at B;obtain⟨t,J,q⟩:=F.at B;rw[aco,J]at R;have e:=Za0 R;subst e;have q3:=v _ _ q
    have q4:H4 t=_:=k4 t _ (λz=>by
     rcases (I.same G).same v with w|⟨_,_,_,_,w,_⟩
     ·grind
     grind) q3
    have kv:∀{n:Nat} {x:Nat×Int},(jJ S (b0 S))[n]?=some x->eV ((jJ S (b0 S)).getD n (0,0)).2=eV x.2:=λ{n x} hx=>by grind
    refine ks p.1 p.2 (Qk g B λn c' z' hn=>?_) t H4 (λb u n q=>k4 b u n (Z b u q)) Ux q4;have:=hb n (by rw[ab9,F.1];exact(ab5.mp hn).1);dsimp only at this;rw[kv B,kv hn]at this;exact this
def Qm:List Nat:=[114,111,111,109,115]
def IH:List Nat:=[108,101,116,116,101,114,115]
def Qn:List Nat:=[110,101,119,101,115,116]
def New (C:Addr)(H:Hp)(Q:VK):Prop:=∀x d,H x=none->H d=none->d≠x->Q (.ref x) (upd (upd H d (.own x)) x (.ins C d []))
def F6 (e d c b:Addr):Sp:=λa H Q E=>∃t:List Nat,a=[.str (tx t)]/\(t=Qm\/t=IH\/t=Qn)/\(t=Qm->New d H Q)/\(t=IH->New c H Q)/\(t=Qn->New b H Q)
theorem gH {b:List Nat}:(V.str (tx B)=V.str (tx b))↔B=b:=⟨λh=>M4 (V.str.inj h),λh=>by rw[h]⟩
theorem A6 (T:Txt K mg A):bx P w K mg base (bD P w) 1 A.vz A.vA ["name"] (F6 A.mZ A.cK A.bK A.ck):=by
 refine T.pF.F.Oq A0 (λd H Q E h=>?_) (λn r a s H d Q E p h=>?_)
 ·obtain⟨t,rfl,_⟩:=h;rfl
 ·obtain⟨t,rfl,m,f,o,k⟩:=h
  refine⟨_,(aj (bV (bq iG (pv 0) (eA (l:=[114,111,111,109,115]) Y) (bC _))
   (ax (bB (uf T.HV T.HX T.HW Y T.LQ)))
   bG)
   (aj (bV (bq iG (pv 0) (eA (l:=[108,101,116,116,101,114,115]) Y) (bC _))
    (ax (bB (uf T.zS T.zU T.zT Y T.AY)))
    bG)
   (aj (bV (bq iG (pv 0) (eA (l:=[110,101,119,101,115,116]) Y) (bC _))
    (ax (bB (uf T.Fm T.Fq T.Fo Y T.Hz)))
    bG)
   (ax Gq)))),?_⟩
  try dsimp only[a8,bQ]
  refine iQ ?_;intro c b j;refine⟨_,Y,Y,_,Y,?_⟩;refine df (λh=>?_) (λe=>?_)
  ·exact f (gH.mp (acI h))
  refine⟨_,Y,Y,_,Y,?_⟩;refine df (λh=>?_) (λg=>?_)
  ·exact o (gH.mp (acI h))
  refine⟨_,Y,Y,_,Y,?_⟩;refine df (λh=>?_) (λi=>?_)
  ·exact k (gH.mp (acI h))
  exact m.elim (λz=>e (acy (gH.mpr z))) λq=>q.elim (λz=>g (acy (gH.mpr z))) λz=>i (acy (gH.mpr z))
theorem pN (h:aq a H b S O){d:Addr}{o:HO}(k:H d=some o)(l:∀p q f,o≠.ins p q f)(i:∀c,o≠.lst c)(j:∀c,o≠.dK c):¬O.own b d:=λg=>by
 rcases g with q|q|q
 ·have:=h.ins;grind
 ·obtain⟨c,e⟩:=h.Jc q;grind
 ·obtain⟨c,e⟩:=h.pT q;grind
theorem L4 (h:aq a H b S O){p:Addr}{c:List V}(d:H p=some (.tup c)):¬O.own b p:=pN h d (by grind) (by grind) (by grind)
theorem L5 {C:Addr}{x:Addr}(nx:H x=none)(d:H a=none)(c:a≠x)(k:∀b o,upd (upd H a (.own x)) x (.ins C a []) b=some o->b≠x->I b=some o)(g:∀b,O.own x b->b=x\/upd (upd H a (.own x)) x (.ins C a []) b=none):ay H I/\∀b,O.own x b->H b=none:=by
 have f:ay H (upd (upd H a (.own x)) x (.ins C a [])):=(ay.upd d).trans (ay.upd (by rw[ai c.symm];exact nx));exact⟨λb o e=>k b o (f _ _ e) (au e nx),λb z=>(g b z).elim (λe=>by rw[e];exact nx) (same_none f)⟩
theorem L6 {w:List Int}{k:Nat}(h:H a=some (.tup (av w))):bF H (k+ 1) (.ref a) (.t (w.map Dt.i)):=by
 refine .t h (by rw[aT,ab9]) λj v d e b=>?_
 obtain⟨z,rfl,c⟩:=dh e;rw[aco,c]at b;rw[<-Za0 b];exact .i
theorem pO {ws:Za3}(h:cj H a ws):bF H 4 (.ref a) (.l (ws.map λw=>Dt.t (w.map Dt.i))):=by
 obtain⟨i,k,e⟩:=h;refine .l k (by rw[ab9,ab9,e.1]) λj v d b c=>?_
 rw[aco]at b c
 cases g:i[j]? with
 |none=>grind
 |some p=>
  cases f:ws[j]? with
  |none=>grind
  |some w=>
   rw[g]at b;rw[f]at c;rw[<-Za0 b,<-Za0 c];exact L6 (e.2 j p w g f)
theorem F7 {x y:Dt}(h:H a=some (.lst [.ref b,.ref c]))(i:bF H 7 (.ref b) x)(g:bF H 7 (.ref c) y):bF H 8 (.ref a) (.l [x,y]):=by
 refine .l h Y λj v d e f=>?_
 match j,e,f with
 |0,e,f=>cases e;cases f;exact i
 |1,e,f=>cases e;cases f;exact g
 |j+ 2,e,f=>simp at e
def Kf (p:Addr)(H a:Hp):Prop:=∀q o,q≠p->H q=some o->a q=some o
theorem Kf.upd {o:HO}:Kf a H (upd H a o):=λq u n e=>by rw[ai n];exact e
theorem _root_.L2.eD.but {rs:List Addr}{rows:Za3}{w:Addr}(h:eD H rs rows)(b:Kf w H I)(d:w∉rs):eD I rs rows:=⟨h.1,λi r ns a c=>b _ _ (λz=>d (by rw[<-z];exact ab4 a)) (h.2 i r ns a c)⟩
theorem Iz {rows:Za3}(h:eD H F rows){r:Addr}(c:r∈F):∃d,H r=some (.lst (av d)):=by
 obtain⟨i,b,e⟩:=aeZ.mp c;have a:i<rows.length:=by rw[<-h.1];exact b
 exact⟨_,h.2 i r _ (by rw[ab3 b,e]) (ab3 a)⟩
theorem _root_.L2.eD.snoc {rs:List Addr}{rows:Za3}{ns:List Int}(h:eD H rs rows)(e:H a=some (.lst (av ns))):eD H (rs++[a]) (rows++[ns]):=by
 refine⟨by rw[ab6,ab6,h.1];rfl,λi q f c b=>?_⟩;by_cases d:i<rs.length
 ·rw[acn d]at c;rw[acn (by rw[<-h.1];exact d)]at b;exact h.2 i q f c b
 ·rw[acp (by omega)]at c;rw[acp (by rw[<-h.1];omega)]at b;rw[acb.mp (ab4 c),acb.mp (ab4 b)];exact e
def bI (S:RS)(k c:Nat):Nat:=(S.by c (M12.st k)).getD 0
inductive vY (C:Addr) (vs:List V) (H:Hp) (Q:VK) (E_:XK):Prop
 |mk (r:Addr) (S:RS) (a:RA) (Z:Nat->Prop):vs=[.ref r]->aq C H r S a->1<=S.L->S.L<=40->S.made<=300->S.ways.length=S.made->Z 0->(∀c,Z c->c<S.made/\∀k,k<2* S.L->∃d,S.by c (M12.st k)=some d/\Z d)->(∀l N H',ay H H'->H l=none->TabAt H' l (M24.lL (bI S) (2* S.L) (M24.bp (bI S) (2* S.L) 0 N))->(M24.bp (bI S) (2* S.L) 0 N).length=N->Q (.ref l) H')->vY C vs H Q E_
def uz (a:List (Key×V))(found:List Nat):Prop:=a.length<=found.length/\∀c:Nat,bz a (Sum.inl (c:Int))=if c∈found then some (V.int (M24.ix found c:Int)) else none
theorem uz.one:uz [(Sum.inl 0,.int 0)] [0]:=⟨aca _,λc=>by
 by_cases h:c=0
 ·subst h;rfl
 ·rw[acm (λq=>h (acb.mp q))];show bz (putK [] (Sum.inl 0) (.int 0)) (Sum.inl (c:Int))=none;rw[o8,acm (λq=>by injection q with q;omega)];rfl⟩
theorem uz.put {c:List (Key×V)}{found:List Nat}(h:uz c found)(nd:found.Nodup)(hc:n∉found):uz (putK c (Sum.inl (n:Int)) (.int (found.length:Int))) (found++[n]):=by
 have g:(found++[n]).Nodup:=by
  rw[acZ];exact⟨nd,by simp,λa j b i=>by grind⟩
 refine⟨?_,λf=>?_⟩
 ·have:=gC c (Sum.inl (n:Int)) (.int (found.length:Int));have:=h.1;rw[ab6,ada];omega
 rw[o8];by_cases e:f=n
 ·subst e;rw[acv Y,acv (ab8 _ ack),M24.OL hc]
 ·rw[acm (λq=>e (by injection q with q;omega)),h.2];by_cases d:f∈found
  ·rw[acv d,acv (acu _ d),M24.E8 g d]
  grind
structure NS (H0 H:Hp) (lf d lr:Addr) (ts:List Addr) (kvs:List (Key×V)) (found:List Nat) (Tb:Za3):Prop where
 same:ay H0 H
 f1:H lf=some (.lst (av (nI found)))
 d1:H d=some (.dK kvs)
 nm:uz kvs found
 r1:H lr=some (.lst (ts.map V.ref))
 r2:eD H ts Tb
 un:(lf::lr::ts).Nodup
 new:∀x∈lf::lr::ts,H0 x=none
 dn:H0 d=none
section
variable {H0 H H':Hp}{lf d lr:Addr}{ts:List Addr}{kvs:List (Key×V)}{found:List Nat}{Tb:Za3}
theorem NS.more (h:NS H0 H lf d lr ts kvs found Tb)(s:ay H H'):NS H0 H' lf d lr ts kvs found Tb:=
 ⟨h.same.trans s,s _ _ h.f1,s _ _ h.d1,h.nm,s _ _ h.r1,h.r2.same s,h.un,h.new,h.dn⟩
theorem NS.ne (h:NS H0 H lf d lr ts kvs found Tb):lf≠lr/\lf∉ts/\lr∉ts/\ts.Nodup:=by
 have a:=acK.mp h.un
 grind
theorem NS.add (h:NS H0 H lf d lr ts kvs found Tb)(nd:found.Nodup){c:Nat}(hc:c∉found):NS H0 (upd (upd H d (.dK (putK kvs (Sum.inl (c:Int)) (.int (found.length:Int))))) lf (.lst (av (nI found)++[.int (c:Int)]))) lf d lr ts (putK kvs (Sum.inl (c:Int)) (.int (found.length:Int))) (found++[c]) Tb:=by
 obtain⟨l,k,n,m⟩:=h.ne;have dl:∀b f,H b=some (.lst f)->b≠d:=λb f e=>b6 e h.d1 (by grind)
 refine⟨λb o e=>?_,?_,?_,h.nm.put nd hc,?_,⟨h.r2.1,λi q ns a j=>?_⟩,h.un,h.new,h.dn⟩
 ·rw[ai (au e (h.new lf ack)),ai (au e h.dn)];exact h.same _ _ e
 ·rw[ah,gT,ints_app];rfl
 ·rw[ai (adn (dl lf _ h.f1)),ah]
 ·rw[ai (adn l),ai (dl lr _ h.r1)];exact h.r1
 ·have g:=h.r2.2 i q ns a j;rw[ai (λe=>k (by rw[<-e];exact ab4 a)),ai (dl q _ g)];exact g
theorem NS.row (h:NS H0 H lf d lr ts kvs found Tb){q:Addr}{row:List Int}(g:H q=some (.lst (av row)))(j:H0 q=none)(c:q∉lf::lr::ts):NS H0 (upd H lr (.lst ((ts++[q]).map V.ref))) lf d lr (ts++[q]) kvs found (Tb++[row]):=by
 obtain⟨f,i,m,k⟩:=h.ne;simp only[aci,not_or]at c;obtain⟨b1,b2,l⟩:=c;refine⟨λb o e=>?_,?_,?_,h.nm,ah,?_,?_,λx a=>?_,h.dn⟩
 ·rw[ai (au e (h.new lr (acG _ ack)))];exact h.same _ _ e
 ·rw[ai f];exact h.f1
 ·rw[ai (b6 h.d1 h.r1 (by grind))];exact h.d1
 ·refine eD.but (w:=lr) (h.r2.snoc g) Kf.upd ?_
  grind
 ·grind
 ·rw[<-aeB,<-aeB]at a;rcases ach.mp a with a|a
  ·exact h.new x a
  grind
end
theorem A7 (T:Txt K mg A):bx P w K mg base (bD P w) 2 A.vu A.vw ["rooms"] (vY A.aw):=by
 refine T.numbered.F.okN fx (λvs H Q E h=>?_) (λcy AA outer s H vs Q E hr h=>?_)
 ·obtain⟨r,S,a,Z,rfl,_⟩:=h;rfl
 ·obtain⟨r,S,a,Z,rfl,hR,qm,z0,hm,hw,Y9,hZ,k⟩:=h;have yb:=jW hr
  refine⟨_,(aj (a9 (i:=1) fx.nd Y (Or.inl Y) (bH (tK T) hr.Za5 Y T.iW.m T.iW.F.kp T.iW.b .nil aJ (ae (aB (pv 0) Y) ak)))
   (aj (a9 (i:=2) fx.nd Y (Or.inr Y) (cq (ae aM ak)))
   (aj (a9 (i:=3) fx.nd Y (Or.inr Y) (KH (GQ aM aM KG) Y Y (by simp) (by decide)))
   (aj (a9 (i:=4) fx.nd Y (Or.inr Y) (cq ak))
   (aj (cw (fY acH (bq mx (bA bM Y T.fj acX (ae (pv 4) ak)) (bA bM Y T.fj acX (ae (pv 2) ak)) (bC _))
    (aj (AW (iy:=5) fx.nd Y (Or.inl Y) (fns:=["rows","rooms","found"]) (ixs:=[4,0,2]) (cl:=_) Y (du (pv 1)) (C2 Y Y Y Y (by decide) Y (by decide) Y (by decide) (by decide) Y Y Y Y Y Y Y Y Y Y) (λC s H ex=>(bf (pv 2) (aF T) T.dC.m (gG T) hr.Za5 T.dC.b .nil aJ (ae (bN (yZ (K:=K) Y) (pv 3) (bA (yk (K:=K) Y) Y T.fj acX (ae (pv 1) ak)) (λ_ _=>rfl)) (ae (pv 0) ak)))))
    (aj (eB acH Y (du (pv 5)) (cC (i:=6) fx.nd Y (Or.inl Y))
     (ax (cw (bV (Mp (Ee yb (pv 6) (pv 3)))
      (aj (rY yb (pv 3) (pv 6) (bA bM Y T.fj acX (ae (pv 2) ak)) Y)
      (ax (aZ (dP acq acA acB cu (pv 2) (ae (pv 6) ak)))))
      bG))))
    (ax (aZ (dP acq acA acB cu (pv 4) (ae (lJ (fns:=["numbers"]) (ixs:=[3]) (cl:=_) Y (du (pv 5)) (o6 Y Y (by decide) Y (by decide) Y (by decide) (by decide) Y Y Y Y) (λC s H ex=>(Bo yb (pv 1) (pv 0) (λ_ _=>rfl)))) ak))))))))
   (ax (bB (pv 4)))))))),?_⟩
  try dsimp only[a8,bQ]
  refine ua ?_;intro ya tM oM jG gM;refine⟨_,Y,r,_,a.dx,_,_,Y,hR.ins,aF T,T.rA,uT _ _ _,S.L,Y,qm,by omega,λsl H1 s1 Za=>?_⟩;refine⟨by show 1<=sizeLine;decide,λp Qo=>?_⟩;have s2:=ay.upd (o:=.lst [.int 0]) Qo;have Qp:upd H1 p (.lst [.int 0]) p=some (.lst (av (nI [0]))):=ah;generalize upd H1 p (.lst [.int 0])=H2 at s2 Qp ⊢;intro d hd;refine⟨ah,[(Sum.inl 0,.int 0)],Y,by show 1<=15;decide,?_⟩;generalize zv:upd (upd H2 d (.dK [])) d _=H3;have Uy:H3 d=some (.dK [(Sum.inl 0,.int 0)]):=by rw[<-zv,ah];rfl
  have s3:ay H2 H3:=λb o e=>by rw[<-zv,ai (au e hd),ai (au e hd)];exact e
  clear zv;refine⟨acF _,λl Qq=>?_⟩;have s4:=ay.upd (o:=.lst []) Qq;have Qr:upd H3 l (.lst []) l=some (.lst (([]:List Addr).map V.ref)):=ah;generalize upd H3 l (.lst [])=H4 at s4 Qr ⊢
  have B4:NS H1 H4 p d l [] [(Sum.inl 0,.int 0)] (M24.bp (bI S) (2* S.L) 0 0) (M24.m9 (bI S) (2* S.L) 0 0):=by
   have Zb:H2 l=none:=s3.free Qq;have e:p≠l:=λz=>by grind
   refine⟨(s2.trans s3).trans s4,(s3.trans s4) _ _ Qp,s4 _ _ Uy,uz.one,Qr,⟨Y,λi r ns h1=>by simp at h1⟩,by simp[e],λx hx=>?_,s2.free hd⟩;simp only[aci,ac0,aeV]at hx;rcases hx with e|e
   ·rw[e];exact Qo
   ·rw[e];exact s2.free Zb
  clear s2 s3 s4 Qp Uy Qr Qo hd Qq
  have zr:∀y i,Z y->i<2* S.L->Z (bI S i y):=λy i hy B=>by
   obtain⟨d,e1,e2⟩:=(hZ y hy).2 i B;unfold bI;rw[e1];exact e2
  have oZ:∀n,∀z∈M24.bp (bI S) (2* S.L) 0 n,Z z:=M24.jR Y9 zr;have Qs:∀n,(M24.bp (bI S) (2* S.L) 0 n).length<=300:=λn=>acr (M11.mG S.made _ (M24.ju _ _ _ n) λz U=>(hZ z (oZ n z U)).1) hm
  refine⟨λ fU H'=>∃(N:Nat) (G:List Addr) (f:List (Key×V)) (v5 M:Option V),fU=[some (.ref r),some (.ref sl),some (.ref p),some (.ref d),some (.ref l),v5,M]/\NS H1 H' p d l G f (M24.bp (bI S) (2* S.L) 0 N) (M24.m9 (bI S) (2* S.L) 0 N)/\(M24.bp (bI S) (2* S.L) 0 N).length=N,?_,?_⟩
  ·refine⟨λm σ H'=>∃(n:Nat) (G:List Addr) (f:List (Key×V)) (v5 M:Option V),m=300 - n/\σ=[some (.ref r),some (.ref sl),some (.ref p),some (.ref d),some (.ref l),v5,M]/\NS H1 H' p d l G f (M24.bp (bI S) (2* S.L) 0 n) (M24.m9 (bI S) (2* S.L) 0 n)/\n<=(M24.bp (bI S) (2* S.L) 0 n).length,⟨_,0,[],_,none,none,Y,Y,B4,acF _⟩,?_⟩;rintro m σ H5 ⟨n,G,f,v5,M,rfl,rfl,O,hn⟩;have hop:=Qs n
   have R:G.length=n:=by
    rw[O.r2.1];unfold M24.m9;rw[ab9,acQ];omega
   refine⟨_,Y,l,_,Y,.inl (aI.of O.r1),_,Y,p,_,Y,.inl (aI.of O.f1),_,_,Y,Y,_,Y,?_⟩;refine df (λh=>?_) (λh=>?_)
   ·have i7:n<(M24.bp (bI S) (2* S.L) 0 n).length:=by
     have h':((G.map V.ref).length:Int)<((av (nI (M24.bp (bI S) (2* S.L) 0 n))).length:Int):=acI h;rw[aT,bL,ab9,R]at h';omega
    clear h;have F:=ab3 i7;generalize (M24.bp (bI S) (2* S.L) 0 n)[n]=c at F;have Qt:=oZ n c (ab4 F);have Zc:=(hZ c Qt).1;refine⟨_,λ fU H' h=>h,?_⟩;have R5:aq A.aw H5 r S a:=hR.same (s1.trans O.same);have D:=O.same _ _ Za;refine⟨_,Y,sl,Y,⟨_,aI.of D⟩,?_⟩;refine xA (av ((List.range (2* S.L)).map M12.st)) (λv=>match v with|.int z=>.int (((S.by c z).getD 0:Nat):Int)|v=>v) (lA (aI.of D)) (jL (aI.of D)) (iM (aI.of D)) (by rw[aT,ab9,adA];exact acr (show 2* S.L<=1000 by omega) (by decide)) (λi v hv Rr L=>?_) (λlo Qu=>?_)
    ·obtain⟨z,rfl,U⟩:=dh hv
     have B:i<2* S.L:=by
      have:=(ab5.mp U).1;rw[ab9,adA]at this;exact this
     have ez:M12.st i=z:=Za0 ((vN B).symm.trans U);obtain⟨dd,e1,e2⟩:=(hZ c Qt).2 i B;rw[ez]at e1;refine⟨_,Y,r,a.dx,_,Y,R5.ins,cD _ _ _ (by decide),_,Y,_,Y,l,_,Y,.inl (aI.of O.r1),p,_,_,_,Y,Y,aI.of O.f1,(by rw[ab9,R];exact dA (cJ (iB F))),_,Y,r,S,a,c,z,Y,R5,by rw[hw];exact Zc,?_⟩
     grind
    have eo:(av ((List.range (2* S.L)).map M12.st)).map (λv=>match v with|.int z=>V.int (((S.by c z).getD 0:Nat):Int)|v=>v)=av (nI ((List.range (2* S.L)).map λi=>bI S i c)):=by
     unfold av nI;rw[ac7,ac7,ac7,ac7];rfl
    rw[eo];clear eo;have s6:=ay.upd (o:=.lst (av (nI ((List.range (2* S.L)).map λi=>bI S i c)))) Qu;have Qw:upd H5 lo (.lst (av (nI ((List.range (2* S.L)).map λi=>bI S i c)))) lo=some (.lst (av (nI ((List.range (2* S.L)).map λi=>bI S i c)))):=ah;generalize upd H5 lo (.lst (av (nI ((List.range (2* S.L)).map λi=>bI S i c))))=H6 at s6 Qw ⊢;have n1:lo≠p:=λz=>by rw[z,O.f1]at Qu;cases Qu
    have N7:∀i,i<2* S.L->((List.range (2* S.L)).map λi=>bI S i c)[i]?=some (bI S i c):=λi B=>by rw[aco,List.getElem?_range B];rfl
    refine⟨_,Y,lo,Y,⟨_,aI.of Qw⟩,?_⟩;refine fZ (K:=K) (a:=lo) (xs:=av (nI ((List.range (2* S.L)).map λi=>bI S i c))) (λi σ X=>∃(f:List (Key×V)) (M:Option V),σ=[some (.ref r),some (.ref sl),some (.ref p),some (.ref d),some (.ref l),some (.ref lo),M]/\NS H1 X p d l G f (M24.iR (bI S) c (M24.bp (bI S) (2* S.L) 0 n) i) (M24.m9 (bI S) (2* S.L) 0 n)/\X lo=some (.lst (av (nI ((List.range (2* S.L)).map λi=>bI S i c))))) ⟨f,M,Y,O.more s6,Qw⟩ (λi σ X _ ⟨_,_,_,_,h⟩=>aI.of h) ?_ ?_
    ·rintro i y σ X B ⟨f,M,rfl,g,u⟩
     have Zd:i<2* S.L:=by
      have:=(ab5.mp B).1;rw[aT,bL,ab9,adA]at this;exact this
     rw[cJ (iB (N7 i Zd))]at B;have ey:=Za0 B;subst ey
     have PY:(M24.iR (bI S) c (M24.bp (bI S) (2* S.L) 0 n) i).length<=300:=acr (M11.mG S.made _ (M24.sq (M24.ju _ _ _ n) i) λz U=>by
      rcases M24.iT.mp U with q|⟨j,hj,rfl⟩
      ·exact(hZ z (oZ n z q)).1
      ·exact(hZ _ (zr c j Qt (by omega))).1) hm
     have Uz:(M24.iR (bI S) c (M24.bp (bI S) (2* S.L) 0 n) i).Nodup:=M24.sq (M24.ju _ _ _ n) i;have Qx:=M24.jg (bI S) c (M24.bp (bI S) (2* S.L) 0 n) i;generalize M24.iR (bI S) c (M24.bp (bI S) (2* S.L) 0 n) i=come at Qx g PY Uz;rw[Qx];clear Qx;generalize bI S i c=o;refine⟨_,?_,λ_ _ h=>h⟩;refine⟨_,Y,_,Y,d,_,Y,fI.k (k:=Sum.inl (o:Int)) g.d1,_,Y,?_⟩;rw[g.nm.2 o];by_cases J:o∈come
     ·rw[acv J];refine dc ⟨f,_,Y,?_,u⟩;unfold M24.add;rw[acv J];exact g
     ·rw[acm J];refine iL ?_;have B8:=g.add Uz J;have V6:((av (nI come)).length:Int)=(come.length:Int):=by rw[aT,bL]
      refine⟨_,Y,p,_,Y,.inl (aI.of g.f1),_,Y,_,Y,d,_,Y,qC.k (k:=Sum.inl (o:Int)) g.d1 (ace (show f.length<=300 by have:=g.nm.1;omega) (by decide)),?_⟩;have UA:upd X d (.dK (putK f (Sum.inl (o:Int)) (.int ((av (nI come)).length:Int)))) p=some (.lst (av (nI come))):=by rw[ai (b6 g.f1 g.d1 (by grind))];exact g.f1
      refine⟨_,Y,.inl ⟨Y,_,aI.of UA⟩,_,Y,p,_,_,Y,Y,UA,?_,?_⟩
      ·rw[aT,bL];exact ace PY (by decide)
      rw[V6];refine⟨putK f (Sum.inl (o:Int)) (.int (come.length:Int)),_,Y,?_,?_⟩
      ·unfold M24.add;rw[acm J];exact B8
      ·rw[ai n1,ai (b6 u g.d1 (by grind))];exact u
    ·rintro σ X ⟨f,M,rfl,g,u⟩;rw[aT,bL,ab9,adA,<-M24.fw F]at g;have aaO:=Qs (n+ 1);obtain⟨t,ht⟩:=M24.zG (bI S) (2* S.L) 0 n;have Pw:n+ 1<=(M24.bp (bI S) (2* S.L) 0 (n+ 1)).length:=by rw[ht,ab6];omega
     have Ze:∀i,i<2* S.L->bI S i c∈M24.bp (bI S) (2* S.L) 0 (n+ 1):=λi B=>by rw[M24.fw F];exact M24.iT.mpr (.inr ⟨i,B,Y⟩)
     refine⟨_,Y,.inl ⟨Y,_,aI.of g.r1⟩,_,Y,lo,Y,⟨_,aI.of u⟩,?_⟩;refine xA (av (nI ((List.range (2* S.L)).map λi=>bI S i c))) (λv=>match v with|.int z=>.int ((M24.ix (M24.bp (bI S) (2* S.L) 0 (n+ 1)) z.toNat:Nat):Int)|v=>v) (lA (aI.of u)) (jL (aI.of u)) (iM (aI.of u)) (by rw[aT,bL,ab9,adA];exact acr (show 2* S.L<=1000 by omega) (by decide)) (λi v hv Rr L=>?_) (λlq I=>?_)
     ·obtain⟨z,rfl,U⟩:=dh hv
      have B:i<2* S.L:=by
       have:=(ab5.mp U).1;rw[bL,ab9,adA]at this;exact this
      have ez:((bI S i c:Nat):Int)=z:=Za0 ((iB (N7 i B)).symm.trans U);subst ez;have L:Rr (.int ((M24.ix (M24.bp (bI S) (2* S.L) 0 (n+ 1)) (((bI S i c:Nat):Int)).toNat:Nat):Int)) X:=L;rw[acY]at L;refine⟨_,Y,_,Y,d,_,Y,?_,L⟩;have:=fI.k (k:=Sum.inl ((bI S i c:Nat):Int)) g.d1;rw[g.nm.2,acv (Ze i B)]at this;exact this
     have eo:(av (nI ((List.range (2* S.L)).map λi=>bI S i c))).map (λv=>match v with|.int z=>V.int ((M24.ix (M24.bp (bI S) (2* S.L) 0 (n+ 1)) z.toNat:Nat):Int)|v=>v)=av ((List.range (2* S.L)).map λi=>((M24.ix (M24.bp (bI S) (2* S.L) 0 (n+ 1)) (bI S i c):Nat):Int)):=by
      unfold av nI;rw[ac7,ac7,ac7,ac7];rfl
     rw[eo];clear eo;have s8:=ay.upd (o:=.lst (av ((List.range (2* S.L)).map λi=>((M24.ix (M24.bp (bI S) (2* S.L) 0 (n+ 1)) (bI S i c):Nat):Int)))) I;have UB:upd X lq (.lst (av ((List.range (2* S.L)).map λi=>((M24.ix (M24.bp (bI S) (2* S.L) 0 (n+ 1)) (bI S i c):Nat):Int)))) lq=some (.lst (av ((List.range (2* S.L)).map λi=>((M24.ix (M24.bp (bI S) (2* S.L) 0 (n+ 1)) (bI S i c):Nat):Int)))):=ah;generalize upd X lq (.lst (av ((List.range (2* S.L)).map λi=>((M24.ix (M24.bp (bI S) (2* S.L) 0 (n+ 1)) (bI S i c):Nat):Int))))=H8 at s8 UB ⊢
     have nq:lq∉p::l::G:=by
      simp only[aci,not_or];refine⟨λz=>?_,λz=>?_,λz=>?_⟩
      ·rw[z,g.f1]at I;cases I
      ·rw[z,g.r1]at I;cases I
      ·obtain⟨ns,e⟩:=Iz g.r2 z
       grind
     have B8:=(g.more s8).row UB (g.same.free I) nq;rw[<-M24.E9 F]at B8;refine⟨l,_,_,Y,Y,s8 _ _ g.r1,?_,?_⟩
     ·rw[ab9,R];exact ace (show n<=300 by omega) (by decide)
     rw[acR]at B8;exact⟨300 - (n+ 1),by omega,n+ 1,G++[lq],f,_,_,Y,Y,B8,Pw⟩
   ·refine⟨n,G,f,_,_,Y,O,?_⟩;have h':¬((G.map V.ref).length:Int)<((av (nI (M24.bp (bI S) (2* S.L) 0 n))).length:Int):=λq=>h (acy q)
    rw[aT,bL,ab9,R]at h';omega
  rintro fU H' ⟨N,G,f,v5,M,rfl,B',hN⟩;refine⟨_,Y,k l N H' (s1.trans B'.same) (s1.free (B'.new l (acG _ ack))) ⟨G,B'.r1,?_⟩ hN⟩;rw[<-M24.Hy hN];exact B'.r2
inductive F8 (K:Za1) (vs:List V) (H:Hp) (Q:VK) (E_:XK):Prop
 |mk (a:Addr) (ns:List Int) (k:Nat):vs=[.ref a,.int k]->aI K H a (av ns)->k<=1000->(∀z,Q (.int z) H)->F8 K vs H Q E_
theorem cG (T:Txt K mg A):bx P w K mg base (bD P w) 1 A.om A.oq ["_law_script","_law_k"] (F8 K):=by
 refine T._law_cell_at.F.okN vI (λf H Q E h=>?_) (λi o c s H f Q E l h=>?_)
 ·obtain⟨a,b,n,rfl,_⟩:=h;rfl
 ·obtain⟨a,b,n,rfl,d,m,k⟩:=h
  refine⟨_,(aj (bV (bq mx (pv 1) (bA bM Y T.fj acX (ae (pv 0) ak)) (bC _))
   (ax (bB (bN bS (pv 0) (pv 1) (λ_ _=>rfl))))
   bG)
   (ax (bB aM))),?_⟩
  try dsimp only[a8,bQ]
  refine iP ?_;intro g;refine⟨_,Y,_,Y,a,_,Y,.inl d,_,_,Y,Y,_,Y,?_⟩;refine df (λh=>?_) (λh=>?_)
  ·have j:(n:Int)<((av b).length:Int):=acI h;rw[aT]at j;have e:b[n]?=some b[n]:=ab3 (by omega)
   exact⟨_,Y,_,Y,a,_,_,_,Y,Y,d,dA (cJ e),k _⟩
  ·exact k _
def L7:Sp:=λa H Q _=>∃n:Int,a=[.int n]/\Q (.bl true) H
theorem kF (T:Txt K mg A):bx P w K mg base (bD P w) 1 A.qY A.qZ ["_law_found"] L7:=by
 refine T._law_whole.F.okN yn (λc H Q E h=>?_) (λb e a s H c Q E d h=>?_)
 ·obtain⟨n,rfl,_⟩:=h;rfl
 ·obtain⟨n,rfl,k⟩:=h;refine⟨_,(ax (bB (yC (bA dS Y T.cz acE (ae (pv 0) (ae (e8 (v:=.ty "int") Y T.Sb PyProof.Rows.boot_int Y) ak))) (yB (Mq (bA dS Y T.cz acE (ae (pv 0) (ae (e8 (v:=.ty "bool") Y T.OO PyProof.Rows.boot_bool Y) ak)))))))),?_⟩
  try dsimp only[a8,bQ]
  refine⟨_,Y,_,_,_,_,Y,.int n,jM K "int",_,Y,iL ?_⟩;exact⟨_,Y,_,_,_,_,Y,.int n,yO K,_,Y,k⟩
structure CS (CR CG CC:Addr) (H:Hp) (x r:Addr) (q:KA) (S:RS) (a:RA) (R:Za2) (ks:List Int) (B:Nat) (rs ps:Za3) (fp:List (List Int×Nat)) (bs:List (Nat×List Int×Nat)) (gs:List (Option Gg)) (ag:List Nat) (W:bE) (O:Addr->Prop):Prop where
 c:b9 CG CC H x r q gs ag W S.aX.length fp O
 q:H q.aQ=some (.dT (ie fp))
 rm:ik CR H r S a R ks B
 dj:∀b,a.own r b->¬O b
 ci:CI S bs gs ag W fu none
 bo:An (rs++ps) rs.length ks bs
 pl:wU rs fp
 br:∀b∈bs,b.2.2<S.made
 ra:∀w∈rs,w≠[]->∀c,c<S.made->S.ao c=c->∃n,(n,w,c)∈bs
 pa:∀w∈ps,w≠[]->∃n,(n,w,0)∈bs
 ln:bs.length<=S.made* fp.length+ ps.length
 wb:∀u∈rs++ps,u.length<=1000/\∀z∈u,(-1000<=z/\z<=1000)/\z∈ks/\-z∈ks
theorem CS.Qy {CR:Addr}{x:Addr}{q:KA}{ks:List Int}{rs l:Za3}{o:List (List Int×Nat)}{bs:List (Nat×List Int×Nat)}{gs:List (Option Gg)}{W:bE}{f:Addr->Prop}(h:CS CR a b H x c q S O R ks n rs l o bs gs [] W f)(p:0<S.made):wI rs l S:=by
 refine⟨λw j d hc m=>?_,λw j=>?_⟩
 ·by_cases i:w=[]
  ·rw[i];exact .inl rfl
  ·obtain⟨e,k⟩:=h.ra w j i d hc m;exact ends (b:=(e,w,d)) h.ci h.rm.g k m
 ·by_cases i:w=[]
  ·rw[i];exact .inl rfl
  ·obtain⟨e,k⟩:=h.pa w j i;exact ends (b:=(e,w,0)) h.ci h.rm.g k (by have:=(h.rm.g.el 0 p).1;exact Nat.le_zero.mp this)
inductive Ck (CR CG CC:Addr) (vs:List V) (H:Hp) (Q:VK) (E_:XK):Prop
 |mk (x r:Addr) (q:KA) (S:RS) (a:RA) (R:Za2) (B:Nat) (rs ps:Za3) (fp:List (List Int×Nat)) (bs:List (Nat×List Int×Nat)) (gs:List (Option Gg)) (W:bE) (O:Addr->Prop) (c:Nat) (z:Int):vs=[.ref x,.int c,.int z]->CS CR CG CC H x r q S a R (bu (2* S.L)) B rs ps fp bs gs [] W O->1<=S.L->S.L<=200->c<S.made->S.ao c=c->S.by c z=none->z∈bu (2* S.L)-> -z∈bu (2* S.L)->S.made<1000->(S.made+ 1)* fp.length+ ps.length<=700->B<800000->S.aX.length+ S.stand<=800000->(∀S' a' R' Zf iE W' O' B' H',(∀b o,¬O b->¬a.own r b->H b=some o->H' b=some o)->CS CR CG CC H' x r q S' a' R' (bu (2* S.L)) B' rs ps fp Zf iE [] W' O'->(∀b,a'.own r b\/O' b->a.own r b\/O b\/H b=none)->Tr (rs++ps) rs.length (S.make c z (bu (2* S.L))) S'->S'.made=S.made+ 1->S'.L=S.L->B'<=B+ 702->Q .non H')->Ck CR CG CC vs H Q E_
theorem vZ (T:Txt K mg A):bx P w K mg base (bD P w) 9 A.ou A.ov ["self","room","step"] (Ck A.aw A.aH A.az):=by
 refine T.lY.F.okN vJ (λvs H Q E h=>?_) (λcy AA outer s H vs Q E hr h=>?_)
 ·obtain⟨x,r,q,S,a,R,B,rs,ps,i,bs,gs,W,O,c,z,rfl,_⟩:=h;rfl
 ·obtain⟨x,r,q,S,a,R,B,rs,ps,i,bs,gs,W,O,c,z,rfl,h,qm,z0,hc,ec,d,hz,I,hm,As,hB,hwn,k⟩:=h
  refine⟨_,(aj (aZ (bf (pv 0) (aK T) T.dy.m (iF T) hr.Za5 T.dy.b .nil aJ (ae (bf (aB (pv 0) Y) (aF T) T.pG.m (yq T) hr.Za5 T.pG.b .nil aJ (ae (pv 1) (ae (pv 2) ak))) ak)))
   (aj (aZ (bf (pv 0) (aK T) T.cP.m (fk T) hr.Za5 T.cP.b .nil aJ (ae (pv 1) (ae (pv 2) ak))))
   (ax (aZ (gb (pv 0) (aK T) T.fO.m (kO T) hr.Za5 T.fO.b .nil aJ))))),?_⟩
  try dsimp only[a8,bQ]
  refine eF ?_;intro jG gM;have l:=h.rm.g;have rb:=h.rm.rb;have ok:=ye l h.rm.k (by omega) (by have:=h.rm.l;omega) (by omega) (by omega);refine⟨_,Y,x,q.dx,_,Y,h.c.ins,eS (by decide),_,Y,x,_,q.dx,_,_,Y,h.c.ins,aK T,T.eK,fz _ _ _,r,a.dx,_,Y,h.rm.at_.ins,cD _ _ _ (by decide),_,Y,_,Y,r,S,a,c,z,Y,h.rm.at_,l.wf,qm,z0,hc,by omega,by omega,ok.sm.w,λa1 H1 b1 pW U=>?_⟩;have oth:∀b,O b->∃o,H b=some o:=λb y=>by obtain⟨o,e,_⟩:=h.c.th b y;exact⟨o,e⟩
  have Zg:∀b Z,H b=some (.tup Z)->H1 b=some (.tup Z):=λb Z e=>b1 b _ (λy=>L4 h.rm.at_ e y) e
  have c1:=h.c.keep (λb o y e=>b1 b o (λw=>h.dj b w y) e) Zg;have q1:H1 q.aQ=_:=b1 _ _ (wV h.rm.at_ h.q) h.q;have Zh:=h.ci.make l hc ec d h.br (bu (2* S.L))
  have V:∀b,a1.own r b->¬O b:=λb y w=>by
   rcases U b y with v|v
   ·exact h.dj b v w
   grind
  have PN:bs.length+ i.length<=700:=by have:=h.ln;rw[afr,Nat.one_mul]at As;omega
  refine⟨x,r,q,S.make c z (bu (2* S.L)),bs,gs,[],W,S.aX.length,i,O,_,S.made,Y,c1,q1,Zh,λp hp=>?_,adu _,by omega,acF _,λf j J H2 u JY D c2 G F3=>?_⟩
  ·have:=h.wb p.1 (acu _ (ab4 (h.pl.a p hp)));exact⟨this.1,λy hy=>(this.2 y hy).1⟩
  have bl:=pM S.made i;have l2:(bs++fT i S.made).length<=700:=by rw[ab6];omega
  have N:An (rs++ps) rs.length (bu (2* S.L)) (bs++fT i S.made):=by
   have nw:∀b∈fT i S.made,(rs++ps)[b.1]?=some b.2.1/\b.1<rs.length:=λb d=>by
    obtain⟨p,hp,d⟩:=adH.mp d;obtain⟨rfl,_⟩:=vX d;have h1:=h.pl.a p hp
    grind
   refine⟨λb d=>?_,λb d=>?_,λb d=>?_,λb d=>?_,by omega⟩
   ·exact(ach.mp d).elim (h.bo.w b) λy=>(nw b y).1
   ·exact(ach.mp d).elim (h.bo.n b) λy=>.inl (nw b y).2
   ·exact(ach.mp d).elim (h.bo.l b) λy=>(h.wb _ (ab4 (nw b y).1)).1
   ·exact(ach.mp d).elim (h.bo.k b) λy z' I=>((h.wb _ (ab4 (nw b y).1)).2 z' I).2
  have g2:f.length<=700:=by rw[G.len];exact l2
  have FV:ko A.aH A.az (S.make c z (bu (2* S.L))) (bs++fT i S.made) f W (λr s=>r=c/\s=z) (j.length+ 2* f.length) x r q S.aX.length i J H2 j W:=⟨c2,G,λ_ _ _ z=>z,by have:=G.two;omega⟩;refine⟨_,Y,x,q.dx,_,Y,c2.ins,eS (by decide),_,Y,_,Y,x,r,q,f,j,W,S.aX.length,i,J,c,z,Y,c2,FV.fits (by omega),λns H3 t Zi Zj c3=>?_⟩;have UC:=FV.wake Zi Zj c3;have PV:CI (S.make c z (bu (2* S.L))) (bs++fT i S.made) f (j++ns) (fM W c z) fu none:=UC.i.ex λr' s' n' w' _ e=>absurd ⟨ac5 Nat.cast e.1,e.2⟩ (cX.mp w').2
  have X:∀b,a1.own r b->¬J b:=λb y w=>by
   rcases D b w with v|v
   ·exact V b y v
   ·obtain⟨o,e⟩:=pW.there y;grind
  have UD:ik A.aw H1 r (S.make c z (bu (2* S.L))) a1 (ft R c z S.made) (bu (2* S.L)) (B+ 2):=by
   have es:=C8 (c:=c) (z:=z) (g:=bu (2* S.L)) l.wf;have M:(S.make c z (bu (2* S.L))).aX=S.aX:=rfl;refine⟨pW,l.make hc ec d _,xX h.rm.w l.wf _ _ _,λa y b e=>?_,by show S.made+ 1<=_;omega,h.rm.l,?_,by rw[M];omega⟩
   ·rcases e with e|⟨_,e,_⟩|⟨_,e,_⟩
    ·exact h.rm.k _ _ _ e
    ·rw[e];exact hz
    ·rw[e];exact I
   ·show (S.rows++[_]).length+ _<=_;rw[ab6,es];show S.rows.length+ 1+ _<=_;omega
  have Zk:=(UD.keep (λb o y e=>u b o (V b y) e) (λb Z e=>u b _ (c1.iI e) e)).keep (λb o y e=>t b o (X b y) e) (λb Z e=>t b _ (c2.iI e) e);have lv:live f<=700:=acr aeb g2;have hmul:live f* (2* (bs++fT i S.made).length+ 1)<=700* 1401:=Nat.mul_le_mul lv (by omega);have Uh:(j++ns).length<=2100:=by have:=UC.b;omega
  refine⟨_,Y,x,q.dx,_,Y,c3.ins,eS (by decide),x,r,q,S.make c z (bu (2* S.L)),a1,ft R c z S.made,bu (2* S.L),B+ 2,rs++ps,rs.length,bs++fT i S.made,f,j++ns,fM W c z,i,J,Y,c3,Zk,by omega,X,PV,N,by omega,λS' a' R' iE W' O' B' H' f' c' r' ow oo Zm Zn rr em eL tr zq=>?_⟩;have F:S'.made=S.made+ 1:=em
  have out:∀{b o},¬O b->¬a.own r b->H b=some o->H' b=some o:=λ{b o} C L e=>by
   have e1:=b1 b o L e;have e2:=u b o C e1;have n3:¬J b:=λy=>(D b y).elim C λv=>by grind
   exact f' b o n3 (λy=>(U b y).elim L λv=>by grind) (t b o n3 e2)
  have non:∀b,a1.own r b\/J b\/H3 b=none->a.own r b\/O b\/H b=none:=λb y=>by
   by_cases L:a.own r b
   ·exact .inl L
   by_cases C:O b
   ·exact .inr (.inl C)
   refine .inr (.inr ?_)
   cases e:H b with
   |none=>rfl
   |some o=>
    exfalso
    have e1:=b1 b o L e;have n3:¬J b:=λy=>(D b y).elim C λv=>by grind
    rcases y with y|y|y
    ·grind
    ·exact n3 y
    ·rw[t b o n3 (u b o C e1)]at y;cases y
  have lt:=Later.of l (l.make hc ec d (bu (2* S.L))) iO (aex _);have Zo:=Later.of UD.g r'.g rr (aeJ em.symm);have Zq:∀b,b<S.made->(S.make c z (bu (2* S.L))).ao b=S.ao b:=λb i7=>(ej l.wf c z (bu (2* S.L)) b).trans (acm (by omega))
  refine k S' a' R' (bs++fT i S.made) iE W' O' B' H' (λb o C L e=>out C L e) ⟨c',out (h.c.FL h.q) (wV h.rm.at_ h.q) h.q,r',Zm,Zn,N,h.pl,λb d=>?_,λw M m b d eb=>?_,λw M m=>?_,?_,h.wb⟩ (λb y=>?_) tr F (eL.trans Y) (by omega)
  ·rw[F];rcases ach.mp d with y|y
   ·have:=h.br b y;omega
   ·obtain⟨p,_,d⟩:=adH.mp y;obtain⟨rfl,_⟩:=vX d;exact adu _
  ·by_cases e:b<S.made
   ·have e1:=Zo.el b (by show b<S.made+ 1;omega);rw[Zq b e,eb]at e1;have l1:=(l.el b e).1;have l2:=(r'.g.el (S.ao b) (by omega)).1;obtain⟨n,hn⟩:=h.ra w M m b e (by omega)
    grind
   ·have e:b=S.made:=by omega
    subst e;obtain⟨n,hn⟩:=h.pl.b w M;exact⟨n,ab8 _ (adH.mpr ⟨(w,n),hn,Dv m⟩)⟩
  ·obtain⟨n,hn⟩:=h.pa w M m
   grind
  ·have:=h.ln;rw[ab6,F,afr,Nat.one_mul];omega
  grind
theorem v7 (T:Txt K mg A):wL K A.bh:=⟨T.Dl,T.Dm,T.Dq,T.Dr,T.Ds,T.Du⟩
def yg (n:Nat)(l:Addr):List (Str×V):=[("made",.int n),("rows",.ref l)]
inductive Kg (C:Addr) (vs:List V) (H:Hp) (Q:VK) (E_:XK):Prop
 |mk (x l:Addr) (n:Nat) (xs:List V):vs=[.ref x,.int n,.ref l]->H x=some (XO x C none true)->n<100000->H l=some (.lst xs)->xs.length<=1000000->(∀d l2 H',H d=none->H l2=none->d≠x->(∀b o,b≠x->H b=some o->H' b=some o)->H' x=some (XO x C (some d) true)->H' d=some (XD d (yg n l2))->H' l2=some (.lst xs)->l2≠x->Q .non H')->Kg C vs H Q E_
theorem qv (T:Txt K mg A):bx P w K mg base (bD P w) 1 A.kg A.kh ["self","made","rows"] (Kg A.bh):=by
 refine T.eI.F.okN qq (λM H Q E h=>?_) (λS AA C s H M Q E U h=>?_)
 ·obtain⟨x,l,n,j,rfl,_⟩:=h;rfl
 ·obtain⟨x,l,n,j,rfl,B,X,G,R,k⟩:=h
  refine⟨_,(aj (aZ (Hv (BJ T.vH T.eI.m.at_) ⟨T.VD,T.VF,T.VG⟩ Y T.AX (ae (pv 0) (ae (Eg (Br (KL (pv 1)) (Br (eA (l:=[32,114,111,111,109,115,32,119,101,114,101,32,109,97,100,101,44,32,97,110,100,32,116,104,101,114,101,32,97,114,101,32,103,97,112,115,32,108,101,102,116]) Y) Nn))) ak))))
   (aj (BG (pv 0) (pv 1) Y)
   (ax (BG (pv 0) (eh (lz) Y T.fP acO (ae (pv 2) ak)) Y)))),?_⟩
  try dsimp only[a8,bQ]
  refine eF ?_;intro L O;have Z:=GK (n:=(n:Int)) (by omega) (by omega);refine⟨_,Y,_,Y,(n:Int),Y,by omega,_,Y,by show 0+ _<=1000000;omega,_,Y,?_,?_,x,none,_,Y,B,?_⟩
  ·rw[aeM];have e:∀m:Nat,m<=100->(yR (n:Int)).length+ m<=1000000:=λm N=>by omega
   exact e _ (by decide)
  ·rw[aeM,ab6];have e:∀m:Nat,m<=100->(yR (n:Int)).length+ m<=1000000:=λm N=>by omega
   exact e _ (by decide)
  refine⟨_,Y,_,Y,x,A.bh,none,true,Y,B,v7 T,T.wO,λd r=>?_⟩;have a:d≠x:=(au B r).symm;have f:upd (upd H d (XD d [("made",V.int n)])) x (XO x A.bh (some d) true) x=some (XO x A.bh (some d) true):=ah;have i:upd (upd H d (XD d [("made",V.int n)])) x (XO x A.bh (some d) true) d=some (XD d [("made",V.int n)]):=by rw[ai a,ah]
  have F:∀b o,b≠x->H b=some o->upd (upd H d (XD d [("made",V.int n)])) x (XO x A.bh (some d) true) b=some o:=λb o y e=>by rw[ai y,ai (au e r)];exact e
  have y:∀b,upd (upd H d (XD d [("made",V.int n)])) x (XO x A.bh (some d) true) b=none->H b=none:=λb e=>by
   by_cases q:b=x
   ·grind
   ·rw[ai q]at e;by_cases J:b=d
    ·rw[J];exact r
    ·rw[ai J]at e;exact e
  generalize upd (upd H d (XD d [("made",V.int n)])) x (XO x A.bh (some d) true)=I at f i F y ⊢;have D:l≠x:=b6 G B (by nofun);refine⟨_,Y,l,j,Y,.inl (aI.of (F _ _ D G)),λg c=>?_⟩;have v:=ay.upd (o:=.lst j) c;have t:upd I g (.lst j) g=some (.lst j):=ah;have u:g≠x:=(au f c).symm;have p:g≠d:=(au i c).symm;generalize upd I g (.lst j)=H2 at v t ⊢;refine⟨_,Y,x,A.bh,some d,true,Y,v _ _ f,v7 T,T.BP,_,a,v _ _ i,by show 1<1000;decide,?_⟩;rw[show bJ "rows" (V.ref g) [("made",V.int n)]=yg n g from dB (by kernel_rfl)];refine k d g _ r (y _ c) a (λb o q e=>?_) ?_ ah ?_ u
  ·rw[ai (au e r)];exact v _ _ (F b o q e)
  ·rw[ai a.symm];exact v _ _ f
  ·rw[ai p];exact t
inductive Fl (rs ps:Za3) (L w lim:Nat):RS->Prop
 |start {S:RS}:Tr (rs++ps) rs.length (RS.new L (bu (2* L))) S->wI rs ps S->Fl rs ps L w lim S
 |next {S S':RS} {c:Nat} {z:Int}:Fl rs ps L w lim S->S.made<lim->jY w S L c z->Tr (rs++ps) rs.length (S.make c z (bu (2* L))) S'->wI rs ps S'->Fl rs ps L w lim S'
def F9 (L:Nat)(u:List Int):Prop:=u.length<=1000/\∀z∈u,z≠0/\z.natAbs<=L
theorem v9 (d:n<=200){u:List Int}(h:F9 n u):u.length<=1000/\∀z∈u,(-1000<=z/\z<=1000)/\z∈bu (2* n)/\-z∈bu (2* n):=by
 refine⟨h.1,λz c=>?_⟩;obtain⟨b,a⟩:=h.2 z c;exact⟨by omega,cU.mpr ⟨b,a⟩,cU.mpr ⟨by omega,by omega⟩⟩
theorem kr (h:S.aS[n]?=some n):S.ao n=n:=by unfold RS.ao;rw[acd,h];rfl
theorem Fl.ys {rs b:Za3}{w:Nat}(h:Fl rs b n w m S)(a:∀u∈rs++b,∀z∈u,z∈bu (2* n)/\-z∈bu (2* n)):∃R,YS S n (bu (2* n)) R:=by
 induction h with
 |start t _=>
  obtain⟨R,y,_⟩:=YS.new.tr t a;exact⟨R,y⟩
 |next _ _ l t _ d=>
  obtain⟨R,y⟩:=d;obtain⟨e,f,c,j⟩:=l.1;obtain⟨o,k⟩:=cU.mp c;obtain⟨g,i,_⟩:=(y.make e (kr f) j c (cU.mpr ⟨by omega,by omega⟩)).tr t a;exact⟨g,i⟩
theorem _root_.L2.YS.gl (y:YS S n (bu (2* n)) R)(d:S.made<=100000)(a:n<=200):GL S n:=⟨y.g.wf,d,a,λc hc b=>y.gi.fin y.g (Ft _) hc (kr b)⟩
theorem Kp.at {pos:Pos}(k:Kp a H I)(t:cY a pos x H){b:Addr}{u:HO}(e:H b=some u)(n:∀c,u≠.e9 c):I b=some u:=k b u (λz=>by
 rcases t with w|⟨_,_,_,_,w,_⟩
 ·grind
 grind) e
def Kh (S:RS)(L w:Nat)(H:Hp)(v:V):Prop:=(v=.non/\∀c z,¬eU S L c z)\/∃(c:Nat) (z:Int) (t:Addr),v=.ref t/\jY w S L c z/\H t=some (.tup [.int (c:Int),.int z])
def wc (c b a:Addr)(H:Hp)(o:Addr)(w:Nat):Prop:=∃d,(w=0/\H o=some (.ins c d []))\/(w=1/\H o=some (.ins b d []))\/(w=2/\H o=some (.ins a d []))
theorem wc.keep {w:Nat}(h:wc a b c H d w)(k:∀C e,H d=some (.ins C e [])->I d=some (.ins C e [])):wc a b c I d w:=by
 obtain⟨e,h|h|h⟩:=h
 ·exact⟨e,.inl ⟨h.1,k _ _ h.2⟩⟩
 ·exact⟨e,.inr (.inl ⟨h.1,k _ _ h.2⟩)⟩
 ·exact⟨e,.inr (.inr ⟨h.1,k _ _ h.2⟩)⟩
theorem Ax {e r:Addr}{w:Nat}{Q:VK}{E:XK}(s:H d=some (.ins c e []))(h:aq a H r S O)(g:GL S n)(p:cY b dO g9 H)(k:∀v i,Kp b H i->cY b dO g9 i->Kh S n w i v->Q v i):jI a b c w [.ref d,.ref r] H Q E:=
 ⟨d,e,r,S,O,n,Y,s,h,g,p,λo i j l=>k _ i j l (.inl ⟨Y,o⟩),λf z m t i j l q=>k _ i j l (.inr ⟨f,z,t,Y,m,q⟩)⟩
theorem L8 {w:Nat}{Q:VK}{E:XK}(j:D[5]?=some (some (.ref a)))(i:D[6]?=some (some (.ref b)))(l:wc A.cK A.bK A.ck H a w)(h:aq A.aw H b S O)(g:GL S n)(f:cY A.dW dO g9 H)(k:∀v c,Kp A.dW H c->cY A.dW dO g9 c->Kh S n w c v->Q v c):
 zt (my A.cK "gap" (jI A.aw A.dW A.cK 0) [] E (iK 5) (jq (iK 6) ku)) (zt (my A.bK "gap" (jI A.aw A.dW A.bK 1) [] E (iK 5) (jq (iK 6) ku)) (my A.ck "gap" (jI A.aw A.dW A.ck 2) [] E (iK 5) (jq (iK 6) ku))) D H Q:=by
 obtain⟨d,⟨rfl,e⟩|⟨rfl,e⟩|⟨rfl,e⟩⟩:=l
 ·exact .inl ⟨_,j,a,d,_,Y,e,Y,_,i,Ax e h g f k⟩
 ·exact .inr (.inl ⟨_,j,a,d,_,Y,e,Y,_,i,Ax e h g f k⟩)
 ·exact .inr (.inr ⟨_,j,a,d,_,Y,e,Y,_,i,Ax e h g f k⟩)
def m7 (w:Nat):List Nat:=if w=0 then Qm else if w=1 then IH else Qn
def jZ (H:Hp)(l:Addr)(S:RS):Prop:=∃a:List Addr,H l=some (.lst (a.map V.ref))/\Each (λp d=>bF H 4 (.ref p) d) a S.rows/\S.rows.length<=1000000
inductive Ga (Pt cN cT:Addr) (vs:List V) (H:Hp) (Q:VK) (E:XK):Prop
 |mk (ru pa:Addr) (L lim w:Nat) (rs ps:Za3):vs=[.int L,.ref ru,.ref pa,.int lim,.str (tx (m7 w))]->w<3->1<=L->L<=40->1<=lim->lim<=300->cj H ru rs->cj H pa ps->(∀u∈rs++ps,F9 L u)->lim* rs.length+ ps.length<=700->rs.length<=400->ps.length<=400->cY Pt dO g9 H->(∀t tb pp S N H',Kp Pt H H'->cY Pt dO g9 H'->Fl rs ps L w lim S->(∀c z,¬eU S L c z)->H' t=some (.tup [.ref tb,.ref pp])->TabAt H' tb (M24.lL (bI S) (2* S.L) (M24.bp (bI S) (2* S.L) 0 N))->(M24.bp (bI S) (2* S.L) 0 N).length=N->jZ H' pp S->Q (.ref t) H')->(∀d pp S H',Kp Pt H H'->cY Pt dO g9 H'->Fl rs ps L w lim S->S.made=lim->(∃c z,jY w S L c z)->H' d=some (XD d (yg S.made pp))->jZ H' pp S->E (.ref cT) (some d) H')->Ga Pt cN cT vs H Q E
section
variable {CR CG CC:Addr}{H H':Hp}{x r:Addr}{q:KA}{S:RS}{a:RA}{R:Za2}{ks:List Int}{B:Nat}{rs ps:Za3}{fp:List (List Int×Nat)}{bs:List (Nat×List Int×Nat)}{gs:List (Option Gg)}{ag:List Nat}{W:bE}{O:Addr->Prop}
theorem CS.keep (h:CS CR CG CC H x r q S a R ks B rs ps fp bs gs ag W O)(f:∀b o,H b=some o->(∀ps,o≠.e9 ps)->H' b=some o):CS CR CG CC H' x r q S a R ks B rs ps fp bs gs ag W O:=
 ⟨h.c.keep (λb o c e=>f b o e (by obtain⟨g,i,n⟩:=h.c.th b c;grind)) (λb d e=>f b _ e (by grind)),f _ _ h.q (by grind),h.rm.keep (λb o c e=>f b o e (by
  intro ps z;rw[z]at e;exact pN h.rm.at_ e (by grind) (by grind) (by grind) c)) (λb d e=>f b _ e (by grind)),h.dj,h.ci,h.bo,h.pl,h.br,h.ra,h.pa,h.ln,h.wb⟩
theorem CS.tab (h:CS CR CG CC H x r q S a R ks B rs ps fp bs gs ag W O){d:Addr}{pos:Pos}{c:Str}(t:cY d pos c H)(f:∀b o,¬O b->¬a.own r b->H b=some o->H' b=some o):cY d pos c H':=by
 refine t.keep λb u e k=>f b u (λz=>?_) (λz=>?_) e
 ·obtain⟨o,g,n⟩:=h.c.th b z
  grind
 ·rcases k with ⟨ps,rfl⟩|⟨o,v,rfl⟩
  ·exact pN h.rm.at_ e (by grind) (by grind) (by grind) z
  ·exact pN h.rm.at_ e (by grind) (by grind) (by grind) z
end
structure wg (A:p8) (H0 H:Hp) (x r:Addr) (L lim w:Nat) (rs ps:Za3) (S:RS):Prop where
 k:Kp A.dW H0 H
 t:cY A.dW dO g9 H
 cs:∃q a R B fp bs gs W O,CS A.aw A.aH A.az H x r q S a R (bu (2* L)) B rs ps fp bs gs [] W O/\(∀b,a.own r b\/O b->H0 b=none)/\B<=702* S.made
 f:Fl rs ps L w lim S
 m:S.made<=lim
 l:S.L=L
theorem wg.kp {H0:Hp}{x:Addr}{w:Nat}{rs f:Za3}(h:wg A H0 H x a n m w rs f S)(k:Kp A.dW H I)(t:cY A.dW dO g9 I):wg A H0 I x a n m w rs f S:=by
 obtain⟨q,c,R,B,i,bs,gs,W,O,cs,g,j⟩:=h.cs;exact⟨h.k.trans k,t,⟨q,c,R,B,i,bs,gs,W,O,cs.keep λb o e d=>k.at h.t e d,g,j⟩,h.f,h.m,h.l⟩
theorem Cm (T:Txt K mg A)(m6:jQ mg base):bx P w K mg base (bD P w) 11 A.Fd A.Fe ["letters","rules","part","limit","order"] (Ga A.dW A.mZ A.bh):=by
 refine T.fill.Oq kZ (λvs H Q E h=>?_) (λcy AA outer s H vs Q E U h=>?_)
 ·obtain⟨ru,pa,L,D,J,rs,f,rfl,_⟩:=h;rfl
 ·obtain⟨ru,pa,L,D,J,rs,f,rfl,JL,qm,z0,Zr,xF,yf,F0,aL,As,vR,mF,hT,kq,ke⟩:=h
  refine⟨_,(aj (a9 (i:=5) kZ.nd Y (Or.inl Y) (bH (A6 T) (U.mono (by decide)) Y T.pF.m T.pF.F.kp T.pF.b .nil RN (ae (pv 4) ak)))
   (aj (a9 (i:=6) kZ.nd Y (Or.inl Y) (wy (uj T) (sJ T) (U.mono (by decide)) Y T.LR T.hV.b .nil aJ (ae (pv 0) ak)))
   (aj (a9 (i:=7) kZ.nd Y (Or.inl Y) (wy (pJ T) (qu T) (U.mono (by decide)) Y T.Ff T.gj.b .nil aJ (ae (pv 6) (ae (pv 1) (ae (pv 2) ak)))))
   (aj (aZ (gb (pv 7) (aK T) T.fO.m (kO T) (U.mono (by decide)) T.fO.b .nil aJ))
   (aj (a9 (i:=8) kZ.nd Y (Or.inl Y) (u6 (bf (pv 5) (zV T) T.ki.m (rN T) (U.mono (by decide)) T.ki.b .nil aJ (ae (pv 6) ak)) (u6 (bf (pv 5) (rF T) T.gA.m (mv T m6) (U.mono (by decide)) T.gA.b .nil aJ (ae (pv 6) ak)) (bf (pv 5) (x6 T) T.jC.m (qo T) (U.mono (by decide)) T.jC.b .nil aJ (ae (pv 6) ak)))))
   (aj (cw (fY PassesOwn.leaving (bq ny (pv 8) c9 (bC _))
    (aj (bV (bq QY (aB (pv 6) Y) (pv 3) (bC _))
     (ax (E3 (E:=E) (qv T) (U.mono (by decide)) T.eI.b Y Y T.xZ (BJ T.vH T.eI.m.at_) T.eI.m.fn T.Dj (ae (aB (pv 6) Y) (ae (gb (pv 6) (aF T) T.iC.m (oN T) (U.mono (by decide)) T.iC.b .nil aJ) ak)) Xr))
     bG)
    (aj (aZ (bf (pv 7) (aK T) T.lY.m (vZ T) (U.mono (by decide)) T.lY.b .nil aJ (ae (bN fH (pv 8) aM (λ_ _=>rfl)) (ae (bN fH (pv 8) aM (λ_ _=>rfl)) ak))))
    (ax (a9 (i:=8) kZ.nd Y (Or.inl Y) (u6 (bf (pv 5) (zV T) T.ki.m (rN T) (U.mono (by decide)) T.ki.b .nil aJ (ae (pv 6) ak)) (u6 (bf (pv 5) (rF T) T.gA.m (mv T m6) (U.mono (by decide)) T.gA.b .nil aJ (ae (pv 6) ak)) (bf (pv 5) (x6 T) T.jC.m (qo T) (U.mono (by decide)) T.jC.b .nil aJ (ae (pv 6) ak))))))))))
   (ax (bB (gw (ae (bH (A7 T) (U.mono (by decide)) Y T.numbered.m T.numbered.F.kp T.numbered.b .nil aJ (ae (pv 6) ak)) (ae (gb (pv 6) (aF T) T.iC.m (oN T) (U.mono (by decide)) T.iC.b .nil aJ) ak))))))))))),?_⟩
  try dsimp only[a8,bQ]
  refine ub ?_;intro BU ya tM oM jG gM;have Ki:∀u∈rs++f,∀z∈u,z∈bu (2* L)/\-z∈bu (2* L):=λu hu z hz=>((v9 (by omega) (aL u hu)).2 z hz).2
  suffices main:∀o M,ay H M->wc A.cK A.bK A.ck M o J->gM { nx:=λ_ H'=>Q .non H',rt:=Q } [some (.int L),some (.ref ru),some (.ref pa),some (.int D),some (.str (tx (m7 J))),some (.ref o),none,none,none] M by
   have sm:∀{C x d:Addr},H x=none->H d=none->d≠x->ay H (upd (upd H d (.own x)) x (.ins C d [])):=λ{C x d} nx nd I=>(ay.upd nd).trans (ay.upd (by rw[ai I.symm];exact nx))
   refine⟨_,Y,m7 J,Y,?_,λe x d nx nd I=>main x _ (sm nx nd I) ⟨d,.inl ⟨?_,ah⟩⟩,λe x d nx nd I=>main x _ (sm nx nd I) ⟨d,.inr (.inl ⟨?_,ah⟩)⟩,λe x d nx nd I=>main x _ (sm nx nd I) ⟨d,.inr (.inr ⟨?_,ah⟩)⟩⟩
   all_goals rcases (show J=0\/J=1\/J=2 by omega) with rfl|rfl|rfl
   all_goals first|rfl|decide|exact absurd e (by decide)
  intro o M s1 ho;have UE:=hT.same s1;replace yf:=yf.same s1;replace F0:=F0.same s1;refine⟨_,Y,λr dx nx Cp I=>⟨r,dx,L,Y,ah,qm,by omega,λra H2 k2 h2 UG=>⟨Y,?_⟩⟩⟩;obtain⟨s2,Qz⟩:=L5 (C:=A.aw) nx Cp I k2 UG;clear k2 UG nx Cp I;refine⟨_,Y,_,Y,_,Y,λx dx nx Cp I=>?_⟩;have s0:ay H2 (upd (upd H2 dx (.own x)) x (.ins A.az dx [])):=(ay.upd Cp).trans (ay.upd (by rw[ai I.symm];exact nx));have Kj:upd (upd H2 dx (.own x)) x (.ins A.az dx []) x=some (.ins A.az dx []):=ah;have Ar:¬ra.own r x:=λz=>by obtain⟨o,e⟩:=h2.there z;rw[nx]at e;cases e
  have n0:∀b,upd (upd H2 dx (.own x)) x (.ins A.az dx []) b=none->H2 b=none:=λb z=>same_none s0 z
  generalize upd (upd H2 dx (.own x)) x (.ins A.az dx [])=H3 at s0 Kj n0 ⊢;have gd:=t9 L (bu (2* L))
  have fit:∀F,wU rs F->1* F.length+ f.length<=700:=λF h=>by
   have:=aeh rs.length Zr;have:=Au h;omega
  have sl:0+ (RS.new L (bu (2* L))).stand<=1:=by rw[afa];exact Ak (RS.new L (bu (2* L)))
  have y0:=YS.new (L:=L) (ks:=bu (2* L));have UH:ik A.aw H2 r (RS.new L (bu (2* L))) ra (λ_ _ _=>False) (bu (2* L)) 1:=⟨h2,gd,y0.w,y0.k,by show 1<=2000;decide,by rw[sx];omega,sl,acr sl (by decide)⟩;refine⟨x,dx,r,ru,pa,RS.new L (bu (2* L)),ra,λ_ _ _=>False,rs,f,Y,Kj,h2.same s0,gd,Nat.one_pos,by show 1<=2000;decide,Ar,(yf.same s2).same s0,(F0.same s2).same s0,vR,mF,λu hu=>⟨(v9 (by omega) (aL u hu)).1,λz hz=>((v9 (by omega) (aL u hu)).2 z hz).1⟩,λF h=>by have:=fit F h;show 1* F.length+ f.length<50000;omega,λq gs ag F O H4 f4 c4 q4 o4 Cd UI hp=>⟨Y,?_⟩⟩;have hf:=fit F hp;have sd:(cW (RS.new L (bu (2* L)))).length<=1:=acr (ad8 _ _) (by rw[adA];exact aca _);have Ur:(cW (RS.new L (bu (2* L)))).length* F.length<=1* F.length:=aeh _ sd;have l1:=kX F (cW (RS.new L (bu (2* L))));have l2:=rL f rs.length f.length;have m6:(dq F (cW (RS.new L (bu (2* L))))++fm f rs.length f.length).length<=1* F.length+ f.length:=by rw[ab6];omega
  have UJ:live gs<=(dq F (cW (RS.new L (bu (2* L))))++fm f rs.length f.length).length:=by rw[<-Cd.len];exact aeb
  have r4:ik A.aw H4 r (RS.new L (bu (2* L))) ra (λ_ _ _=>False) (bu (2* L)) 1:=(UH.same s0).keep (λb o hb e=>f4 b o e (λz=>Ar (by rw[<-z];exact hb))) (λb xs e=>f4 b _ e (b6 e Kj (by nofun)))
  have dj:∀b,ra.own r b->¬O b:=λb z y=>by
   obtain⟨o,e⟩:=(h2.same s0).there z;rcases o4 b y with w|w
   ·exact Ar (by rw[<-w];exact z)
   ·rw[w]at e;cases e
  have bin:∀b∈dq F (cW (RS.new L (bu (2* L))))++fm f rs.length f.length,((rs++f)[b.1]?=some b.2.1/\(b.1<rs.length\/b.2.2=0))/\b.2.2<1:=λb hb=>by
   rcases L0 hb with ⟨p,Oe,e1,Z,e3⟩|⟨j,u,hj,rfl⟩
   ·have h1:=hp.a p Oe;have h2:=(ab5.mp h1).1;rw[e1,Z,acn h2];exact⟨⟨h1,.inl h2⟩,adq.mp (adN.mp e3).1⟩
   ·exact⟨⟨by show (rs++f)[rs.length+ j]?=_;rw[acp (by omega),Nat.add_sub_cancel_left];exact hj,.inr Y⟩,Nat.one_pos⟩
  have X:An (rs++f) rs.length (bu (2* L)) (dq F (cW (RS.new L (bu (2* L))))++fm f rs.length f.length):=
   ⟨λb hb=>(bin b hb).1.1,λb hb=>(bin b hb).1.2,λb hb=>(aL _ (ab4 (bin b hb).1.1)).1,λb hb z hz=>Ki _ (ab4 (bin b hb).1.1) z hz,by omega⟩
  have QB:∀w∈rs,w≠[]->∃n,(n,w,0)∈dq F (cW (RS.new L (bu (2* L))))++fm f rs.length f.length:=λw hw lF=>by
   obtain⟨n,hn⟩:=hp.b w hw;have Zt:0∈cW (RS.new L (bu (2* L))):=adN.mpr ⟨adq.mpr Nat.one_pos,acy Y⟩;exact⟨n,acu _ (adH.mpr ⟨0,Zt,adH.mpr ⟨(w,n),hn,Dv lF⟩⟩)⟩
  have QC:∀w∈f,w≠[]->∃n,(n,w,0)∈dq F (cW (RS.new L (bu (2* L))))++fm f rs.length f.length:=λw hw lF=>by
   obtain⟨j,hj⟩:=acJ hw;refine⟨rs.length+ j,ab8 _ (adH.mpr ⟨j,adq.mpr (ab5.mp hj).1,?_⟩)⟩;rw[acd,hj];exact Dv lF
  generalize dq F (cW (RS.new L (bu (2* L))))++fm f rs.length f.length=bs at Cd UI m6 UJ bin X QB QC;have hmul:live gs* (2* bs.length+ 1)<=700* 1401:=Nat.mul_le_mul (by omega) (by omega);clear l1 l2 Ur sd;refine⟨_,Y,x,q.dx,_,Y,c4.ins,eS (by decide),x,r,q,RS.new L (bu (2* L)),ra,λ_ _ _=>False,bu (2* L),1,rs++f,rs.length,bs,gs,ag,rM,F,O,Y,c4,r4,by omega,dj,Cd,X,by omega,λS' a' R' iE W' O' B' H5 f5 c5 r5 ow oo UK F4 rr em eL tr Zu=>?_⟩;have Kk:S'.made=1:=em
  have EW:∀b o,M b=some o->H5 b=some o:=λb o e=>by
   have Z:=s2 _ _ e
   have nO:¬O b:=λy=>by
    rcases o4 b y with w|w
    ·rw[w,nx]at Z;cases Z
    ·rw[s0 _ _ Z]at w;cases w
   exact f5 b o nO (λy=>by rw[Qz b y]at e;cases e) (f4 b o (s0 _ _ Z) (au Z nx))
  have U5:∀b,a'.own r b\/O' b->M b=none:=λb y=>by
   have nn:ra.own r b\/O b\/H4 b=none->M b=none:=λy=>by
    rcases y with y|y|y
    ·exact Qz b y
    ·cases e:M b with
     |none=>rfl
     |some u=>
      have Z:=s2 _ _ e;rcases o4 b y with w|w
      ·rw[w,nx]at Z;cases Z
      ·rw[s0 _ _ Z]at w;cases w
    ·cases e:M b with
     |none=>rfl
     |some u=>
      have Z:=s2 _ _ e;rw[f4 b u (s0 _ _ Z) (au Z nx)]at y;cases y
   rcases y with y|y
   ·exact nn (ow b y)
   ·rcases oo b y with v|v|v
    ·exact nn (.inr (.inl v))
    ·exact nn (.inl v)
    ·exact nn (.inr (.inr v))
  have QD:CS A.aw A.aH A.az H5 x r q S' a' R' (bu (2* L)) B' rs f F bs iE [] W' O':=by
   refine⟨c5,f5 _ _ (c4.FL q4) (wV r4.at_ q4) q4,r5,UK,F4,X,hp,λb hb=>by rw[Kk];exact(bin b hb).2,λw hw lF c hc _=>?_,QC,by rw[Kk];exact m6,λu hu=>v9 (by omega) (aL u hu)⟩;have:c=0:=by omega
   subst this;exact QB w hw lF
  have UL:wg A M H5 x r L D J rs f S':=⟨λb u _ e=>EW b u e,UE.same EW,⟨q,a',R',B',F,bs,iE,W',O',QD,U5,by rw[Kk];omega⟩,.start tr (QD.Qy (by omega)),by omega,eL.trans Y⟩;clear QD U5 EW hmul QC QB X bin dj r4 UJ m6 hf UH y0 sl c5 r5 ow oo UK F4 rr f5 Zu Kk em eL tr c4 q4 o4 Cd UI hp f4 Kj Ar n0 s0 gd fit
  have look:∀{H5:Hp} {S:RS} {σ:St} {Qv:VK},wg A M H5 x r L D J rs f S->σ[5]?=some (some (.ref o))->σ[6]?=some (some (.ref r))->(∀v H6,wg A M H6 x r L D J rs f S->Kh S L J H6 v->Qv v H6)->(zt (my A.cK "gap" (jI A.aw A.dW A.cK 0) [] (λ_ _ _=>False) (iK 5) (jq (iK 6) ku)) (zt (my A.bK "gap" (jI A.aw A.dW A.bK 1) [] (λ_ _ _=>False) (iK 5) (jq (iK 6) ku)) (my A.ck "gap" (jI A.aw A.dW A.ck 2) [] (λ_ _ _=>False) (iK 5) (jq (iK 6) ku)))) σ H5 Qv:=λ{H5 S σ Qv} G e5 e6 kk=>by
   obtain⟨Ry,y⟩:=G.f.ys Ki;obtain⟨q,a,R,B,F,bs,gs,W,O,cs,_⟩:=G.cs;exact L8 e5 e6 (ho.keep λC d e=>G.k.at UE e (by nofun)) cs.rm.at_ (y.gl (by have:=G.m;omega) (by omega)) G.t λv H6 k6 t6 an=>kk v H6 (G.kp k6 t6) an
  refine look UL Y Y λv H6 UM an=>?_
  clear UL;refine⟨λ fU H'=>∃S,fU=[some (.int L),some (.ref ru),some (.ref pa),some (.int D),some (.str (tx (m7 J))),some (.ref o),some (.ref r),some (.ref x),some .non]/\wg A M H' x r L D J rs f S/\∀c z,¬eU S L c z,?_,?_⟩
  ·refine⟨λm σ H'=>∃S v,m=D+ 1 - S.made/\σ=[some (.int L),some (.ref ru),some (.ref pa),some (.int D),some (.str (tx (m7 J))),some (.ref o),some (.ref r),some (.ref x),some v]/\wg A M H' x r L D J rs f S/\Kh S L J H' v,⟨_,S',v,Y,Y,UM,an⟩,?_⟩;clear UM an;rintro m σ H7 ⟨S,v,rfl,rfl,G,an⟩;refine⟨_,Y,Y,_,Y,?_⟩;rcases an with ⟨rfl,hn⟩|⟨c,z,t,rfl,hl,ht⟩
   ·exact uN Y ⟨S,Y,G,hn⟩
   refine df (λ_=>?_) (λh=>absurd Y h);refine⟨_,λ fU H' h=>h,?_⟩;obtain⟨Ry,y⟩:=G.f.ys Ki;obtain⟨q,a,R,B,F,bs,gs,W,O,cs,n0,hB⟩:=G.cs;have hm:=G.m;have eL:=G.l;have rb:=cs.rm.rb;have wr:=y.wr;have Zv:B<=702* 300:=acr hB (Nat.mul_le_mul_left _ (by omega));refine⟨_,Y,r,_,a.dx,_,_,Y,cs.rm.at_.ins,aF T,T.oH,r6 _ _ _,_,Y,_,_,Y,Y,_,Y,?_⟩;refine df (λh=>?_) (λh=>?_)
   ·have h:(D:Int)<=(S.made:Int):=acI h;refine⟨_,Y,r,_,a.dx,_,_,Y,cs.rm.at_.ins,aF T,T.oH,r6 _ _ _,_,Y,r,a.dx,_,Y,cs.rm.at_.ins,cD _ _ _ (by decide),r,S,a,Y,cs.rm.at_,by omega,λp d hd e=>(y.d d hd).low e,λl qs H8 s8 nl Zw E4=>?_⟩;intro xx UN;have s9:=ay.upd (o:=XO xx A.bh none true) UN;have Zx:(qs.map V.ref).length<=1000000:=by rw[ab9,E4.1];omega
    refine⟨xx,l,S.made,qs.map V.ref,Y,ah,by omega,s9 _ _ Zw,Zx,λd l2 H9 nd B6 Cp f9 Zy Zz ZC ZD=>⟨Y,some d,Zy,?_⟩⟩
    have QF:ay H8 (del H9 xx):=λb u e=>by
     have nb:=au e UN;rw[qS nb];exact f9 b u nb (s9 _ _ e)
    refine ke d l2 S _ (λb u nb e=>QF _ _ (s8 _ _ (G.k b u nb (s1 _ _ e)))) ((G.t.same s8).same QF) G.f (by omega) ⟨c,z,hl⟩ (by rw[qS Cp];exact Zz) ⟨qs,by rw[qS ZD];exact ZC,E4.imp (λp d _ _ e=>e.same QF),by omega⟩
   have h:S.made<D:=Nat.lt_of_not_le λw=>h (acy (by omega))
   obtain⟨g1,g2,g3,g4⟩:=hl.1;obtain⟨z1,z2⟩:=cU.mp g3;have PN:F.length<=rs.length:=Au cs.pl;have JM:(S.made+ 1)* F.length<=D* rs.length:=Nat.mul_le_mul h PN;rw[<-eL]at cs;refine⟨_,Y,x,q.dx,_,Y,cs.c.ins,eS (by decide),_,Y,t,_,_,_,Y,Y,bT.of ht,Y,_,Y,t,_,_,_,Y,Y,bT.of ht,Y,x,r,q,S,a,R,B,rs,f,F,bs,gs,W,O,c,z,Y,cs,by omega,by omega,g1,kr g2,g4,by rw[eL];exact g3,cU.mpr ⟨by omega,by omega⟩,by omega,by omega,by omega,by omega,λS2 a2 R2 ZE ZF W2 O2 B2 H8 f8 QG ZG UO ZH ZI hb8=>?_⟩
   have ZJ:wg A M H8 x r L D J rs f S2:=by
    rw[eL]at QG UO;refine⟨λb u nb e=>f8 b u (λw=>by rw[n0 b (.inr w)]at e;cases e) (λw=>by rw[n0 b (.inl w)]at e;cases e) (G.k b u nb e),cs.tab G.t f8,⟨q,a2,R2,B2,F,ZE,ZF,W2,O2,QG,λb w=>?_,by rw[ZH];omega⟩,.next G.f h hl UO (QG.Qy (by omega)),by omega,ZI.trans eL⟩;rcases ZG b w with v|v|v
    ·exact n0 b (.inl v)
    ·exact n0 b (.inr v)
    ·cases e:M b with
     |none=>rfl
     |some u=>
      have nP:b≠A.dW:=λw=>by
       rcases G.t with p|⟨_,_,_,_,p,_⟩
       ·rw[w,p]at v;cases v
       ·rw[w,p]at v;cases v
      rw[G.k b u nP e]at v;cases v
   exact look ZJ Y Y λv H9 ZK an=>⟨D+ 1 - S2.made,by omega,S2,v,Y,Y,ZK,an⟩
  rintro σ H7 ⟨S,rfl,G,hn⟩;obtain⟨Ry,y⟩:=G.f.ys Ki;obtain⟨q,a,R,B,F,bs,gs,W,O,cs,n0,hB⟩:=G.cs;have hm:=G.m;have eL:=G.l;have rb:=cs.rm.rb;have g:=y.g;have Zv:B<=702* 300:=acr hB (Nat.mul_le_mul_left _ (by omega));refine⟨_,Y,r,S,a,λc=>c<S.made/\S.ao c=c,Y,cs.rm.at_,by omega,by omega,by omega,g.wf.w,⟨y.m,by have:=(g.el 0 y.m).1;omega⟩,λc hc=>⟨hc.1,λk hk=>?_⟩,λtb N H8 s8 nt h8 hN=>?_⟩
  ·cases e:S.by c (M12.st k) with
   |some d=>
    obtain⟨_,d2,_,d4⟩:=g.st _ _ _ e;exact⟨d,Y,d2,d4⟩
   |none=>
    rw[eL]at hk;refine absurd ⟨hc.1,?_,ab4 (vN hk),e⟩ (hn c _);rw[oO (by rw[g.wf.e];exact hc.1),hc.2]
  refine⟨_,Y,r,a.dx,_,Y,(cs.rm.at_.same s8).ins,cD _ _ _ (by decide),r,S,a,Y,cs.rm.at_.same s8,by omega,λp d hd e=>(y.d d hd).low e,λpp qs H9 s9 np ZL E4=>?_⟩;refine⟨by show 2<=sizeLine;decide,λt nt=>?_⟩;have sA:=ay.upd (o:=.tup [.ref tb,.ref pp]) nt;exact kq t tb pp S N _ (λb u nb e=>sA _ _ (s9 _ _ (s8 _ _ (G.k b u nb (s1 _ _ e))))) (((G.t.same s8).same s9).same sA) G.f hn ah ((h8.same s9).same sA) hN ⟨qs,sA _ _ ZL,E4.imp (λp d _ _ e=>e.same sA),by omega⟩
structure wj (S:RS) (G:Int->Nat) (d:Nat):Prop where
 b1:∀t,S.by (G t) 1=some (G (t+ 1))
 b2:∀t,S.by (G t) (-1)=some (G (t - 1))
 UQ:gW G d
 inj:∀t t',G t=G t'->(d:Int)∣t - t'
 zero:∃t,G t=0
structure uA (rs ps:Za3) (need d:Nat):Prop where
 n1:1<=need
 d1:0<d
 al:∀w∈rs++ps,∃s n,w=pw s n/\(s=1\/s= -1)/\need<=n/\d∣n
 ex:∃s,(s=1\/s= -1)/\pw s need∈rs++ps
 pe:∀G:Int->Nat,(∀s n,pw s n∈rs++ps->(s=1\/s= -1)->gW G n)->gW G d
theorem Sl (b:z=1\/z= -1):∀a∈pw z n,a∈bu (2* 1)/\-a∈bu (2* 1):=λa c=>by
 have e:=List.eq_of_mem_replicate c;subst e;rcases b with rfl|rfl <;> exact⟨cU.mpr (by decide),cU.mpr (by decide)⟩
theorem uA.ks {rs b:Za3}{need:Nat}(o:uA rs b need n):∀u∈rs++b,∀z∈u,z∈bu (2* 1)/\-z∈bu (2* 1):=λu c=>by
 obtain⟨s,a,rfl,d,_⟩:=o.al u c;exact Sl d
theorem Gb {rs j:Za3}{need:Nat}{P:Nat->Int}{lo:Int}(o:uA rs j need n)(y:YS S 1 (bu (2* 1)) R)(h:fN S P lo)(D:S.made=need)(t:Tr (rs++j) rs.length S T)(cl:wI rs j T):
 T.made=need/\(∀c z,¬eU T 1 c z)/\∃G,wj T G n:=by
 obtain⟨R',d,u,rr,_⟩:=y.tr t o.ks;have lt:=Later.of y.g d.g rr (aeJ u.symm);have F:=d.m;have m:T.ao 0=0:=Nat.le_zero.mp (d.g.el 0 F).1;have Jn:∀w∈rs++j,xS T 0 w:=λw g=>(ach.mp g).elim (λq=>cl.r w q 0 F m) (cl.p w)
 obtain⟨s,l,I⟩:=o.ex;have L:=Jn _ I;rw[<-D,<-m]at L;obtain⟨G,i,M,E⟩:=h.ring y.g d.g lt y.m l y.m L;have H:G (P 0)=0:=by rw[<-M 0 y.m,m]
 have v:gW G n:=o.pe G λs f g l=>by
  have r:=Jn _ g;rw[<-H]at r;have p:=i.all d.g y.m (i.Jn d.g l r);rcases l with rfl|rfl
  ·grind
  ·have:=p.neg
   grind
 have J:(n:Int)∣S.made:=by
  obtain⟨s',n',e,_,O,V⟩:=o.al _ I
  have:n'=need:=by
   have:=ac5 List.length e;unfold pw at this;rw[aeK,aeK]at this;exact this.symm
  rw[D,<-this];exact Int.natCast_dvd_natCast.mpr V
 refine⟨u.trans D,λc z X=>?_,G,i.st,λt=>i.back d.g t,v,λt1 Z e=>?_,_,H⟩
 ·obtain⟨k,x,B,C⟩:=X;have ec:=kr x;rw[u]at k;rw[<-ec,M c k]at C;obtain⟨z1,z2⟩:=cU.mp B;rw[i.by_ d.g (show z=1\/z= -1 by omega)]at C;cases C
 ·obtain⟨a,N,ea,da⟩:=E t1;obtain⟨b,U,Q,db⟩:=E Z;rw[ea,Q]at e;have k:=h.sound y.g y.w y.k o.d1 t o.ks (λw g=>by obtain⟨s,f,e,_,_,q⟩:=o.al w g;exact⟨s,f,e,q⟩) N U e;have x:=Int.dvd_trans J da;have B:=Int.dvd_trans J db;have:=afx (Int.dvd_add x k) B
  grind
theorem Ge {rs g:Za3}{need w:Nat}(o:uA rs g need n)(f:Fl rs g 1 w m S):(S.made<need/\∃P lo,fN S P lo)\/(S.made=need/\(∀c z,¬eU S 1 c z)/\∃G,wj S G n):=by
 have i:∀{S b:RS} {P:Nat->Int} {lo:Int} {R:Za2},YS S 1 (bu (2* 1)) R->fN S P lo->S.made<=need->Tr (rs++g) rs.length S b->wI rs g b->(b.made<need/\∃P lo,fN b P lo)\/(b.made=need/\(∀c z,¬eU b 1 c z)/\∃G,wj b G n):=λ{S b P lo R} y h v t d=>by
  by_cases e:S.made=need
  ·exact .inr (Gb o y h e t d)
  ·have:=h.tr t λw r=>by
    obtain⟨s,a,q,D,H,_⟩:=o.al w r;exact⟨s,a,q,D,by omega⟩
   rw[this];exact .inl ⟨by omega,P,lo,h⟩
 induction f with
 |start t d=>exact i YS.new (fN.new 1 _) o.n1 t d
 |next f0 F l t d x=>
  rcases x with ⟨B,P,lo,h⟩|⟨_,h,_⟩
  ·obtain⟨R,y⟩:=f0.ys o.ks;obtain⟨j,C,p,k⟩:=l.1;obtain⟨z1,z2⟩:=cU.mp p;obtain⟨I,u,E⟩:=h.make y.g j k (by omega) (bu (2* 1));exact i (y.make j (kr C) k p (cU.mpr ⟨by omega,by omega⟩)) E B t d
  ·exact absurd l.1 (h _ _)
theorem Gf {i h:Za3}{w:Nat}(f:Fl i h n w m S)(d:∀u∈i++h,∀z∈u,z∈bu (2* n)/\-z∈bu (2* n)):S.rows.countP isNew+ 1=S.made:=by
 induction f with
 |start t _=>
  obtain⟨_,_,a,_,r,e,_,_,_,_,g⟩:=YS.new.tr t d;rw[e,adD,E7 g,a];rfl
 | @next b _ c z f0 _ l t _ k=>
   obtain⟨R,y⟩:=f0.ys d;obtain⟨o,p,j,q⟩:=l.1;obtain⟨z1,z2⟩:=cU.mp j;obtain⟨_,_,a,_,r,e,_,_,_,_,g⟩:=(y.make o (kr p) q j (cU.mpr ⟨by omega,by omega⟩)).tr t d;rw[e,adD,E7 g,a];show (b.rows++[j5 c z b.made]).countP isNew+ 0+ 1=b.made+ 1;rw[adD,adQ,LC,acv Y,k]
def dz (d:Nat)(i x:Nat):Nat:=if i=0 then (x+ 1) % d else (x+ d - 1) % d
def wm (d:Nat):Za3:=M24.lL (dz d) 2 (M24.bp (dz d) 2 0 d)
theorem Ay:∀d,d<41->0<d->(M24.bp (dz d) 2 0 d).length=d:=by decide
theorem wj.tab {G:Int->Nat}(h:wj S G n)(hd:0<n)(l:n<41)(hN:(M24.bp (bI S) 2 0 m).length=m):M24.lL (bI S) 2 (M24.bp (bI S) 2 0 m)=wm n:=by
 obtain⟨c,u⟩:=h.zero
 have s:∀y:Nat,G (c+ ((y % n:Nat):Int))=G (c+ (y:Nat)):=λy=>by
  have D:=Nat.mod_add_div y n;have H:((y % n:Nat):Int)+ (n:Int)* ((y / n:Nat):Int)=y:=by exact_mod_cast D
  have:=h.UQ.mul ((y / n:Nat):Int) (c+ ((y % n:Nat):Int));rw[<-this]
  congr 1
  omega
 have o:∀x i,x<n->i<2->G (c+ (dz n i x:Nat))=bI S i (G (c+ (x:Nat))):=λx i r d=>by
  unfold bI dz;rcases (show i=0\/i=1 by omega) with rfl|rfl
  ·rw[show M12.st 0=1 from Y,h.b1,acv Y,s]
   grind
  ·rw[show M12.st 1= -1 from Y,h.b2,acm (by decide),s];show _=G (c+ x - 1);have p:=h.UQ (c+ x - 1);rw[<-p];congr 1;omega
 have inj:∀a b,a<n->b<n->G (c+ (a:Nat))=G (c+ (b:Nat))->a=b:=λa b z C e=>xY z C (by
  have:=h.inj _ _ e
  grind)
 have cl:∀x i,x<n->i<2->dz n i x<n:=λx i _ _=>by
  unfold dz;split <;> exact Nat.mod_lt _ hd
 have q:=M24.BM (f:=dz n) (g:=bI S) (φ:=λx=>G (c+ (x:Nat))) (P:=λx=>x<n) (k:=2) inj cl o (x0:=0) hd m;have v:G (c+ ((0:Nat):Int))=0:=by rw[<-u];congr 1;omega
 rw[v]at q;have B:(M24.bp (dz n) 2 0 m).length=m:=by rw[<-ab9 (f:=λx:Nat=>G (c+ (x:Nat))),q];exact hN
 have eN:=M24.LK B (Ay n l hd);subst eN;rw[<-q];refine M24.Hx (M24.ju _ _ _ _) (by rw[q];exact M24.ju _ _ _ _) (λx r i d=>?_) λx r i d=>o x i (M24.jR (P:=λx=>x<m) hd (λy i E d=>cl y i E d) m x r) d
 obtain⟨j,t⟩:=acJ r;exact M24.jv (by have:=(ab5.mp t).1;omega) t d
inductive Az (Pt cT:Addr) (vs:List V) (H:Hp) (Q:VK) (E_:XK):Prop
 |mk (ru pa:Addr) (L lim w:Nat) (ot:List Nat) (rs ps:Za3):vs=[.int L,.ref ru,.ref pa,.int lim,.str (tx ot)]->(ot=m7 w\/ot=[]/\w=0)->w<3->1<=L->L<=40->1<=lim->lim<=300->cj H ru rs->cj H pa ps->(∀u∈rs++ps,F9 L u)->lim* rs.length+ ps.length<=700->rs.length<=400->ps.length<=400->cY Pt dO g9 H->(∀q t tb pp S N H',Kp Pt H H'->cY Pt dO g9 H'->Fl rs ps L w lim S->(∀c z,¬eU S L c z)->H' q=some (.tup [.ref t,.non])->H' t=some (.tup [.ref tb,.ref pp])->TabAt H' tb (M24.lL (bI S) (2* S.L) (M24.bp (bI S) (2* S.L) 0 N))->(M24.bp (bI S) (2* S.L) 0 N).length=N->jZ H' pp S->Q (.ref q) H')->(∀q x d pp S H',Kp Pt H H'->cY Pt dO g9 H'->Fl rs ps L w lim S->S.made=lim->(∃c z,jY w S L c z)->H' q=some (.tup [.non,.ref x])->H' x=some (XO x cT (some d) false)->H' d=some (XD d (yg S.made pp))->jZ H' pp S->Q (.ref q) H')->Az Pt cT vs H Q E_
theorem jZ.same (h:jZ H a S)(s:ay H I):jZ I a S:=by
 obtain⟨c,g,b,f⟩:=h;exact⟨c,s _ _ g,b.imp (λp d _ _ e=>e.same s),f⟩
theorem wZ (T:Txt K mg A)(D:jQ mg base):bx P w K mg base (bD P w) 12 A.p9 A.qb ["_law_letters","_law_rules","_law_part","_law_limit","_law_order"] (Az A.dW A.bh):=by
 refine T._law_filled.F.okN dD (λvs H Q E h=>?_) (λcy AA outer s H vs Q E hr h=>?_)
 ·obtain⟨ru,pa,L,f,n,ot,R,F,rfl,_⟩:=h;rfl
 ·obtain⟨ru,pa,L,f,n,ot,R,F,rfl,v,M,qm,I,B,X,yf,y,u,r,vR,mF,hT,kq,ke⟩:=h;obtain⟨tkd,ZM⟩:=T.fill.bd
  refine⟨_,(aj (a9 (i:=5) dD.nd Y (Or.inl Y) c9)
   (aj (a9 (i:=6) dD.nd Y (Or.inl Y) c9)
   (aj (cw (Lx Y Y (Ow (bq iG (pv 4) (eA (l:=[]) Y) (bC _)) (BI (i:=5) dD.nd Y (Or.inl Y) (zA (dvs:=[V.str (tx [114,111,111,109,115])]) (Cm T D) hr.Za5 Y T.fill.m T.fill.kp ZM (.cons ⟨_,Y⟩ .nil) (ae (pv 0) (ae (pv 1) (ae (pv 2) (ae (pv 3) ak)))))) (BI (i:=5) dD.nd Y (Or.inl Y) (zA (Cm T D) hr.Za5 Y T.fill.m T.fill.kp T.fill.b .nil (ae (pv 0) (ae (pv 1) (ae (pv 2) (ae (pv 3) (ae (pv 4) ak))))))))
    (Ox (i:=7) dD.nd Y Y Y T.xZ (λ_=>(ax (a9 (i:=6) dD.nd Y (Or.inl Y) (pv 7))))
    Oy)))
   (ax (bB (gw (ae (pv 5) (ae (pv 6) ak)))))))),?_⟩
  try dsimp only[a8,bQ]
  refine iQ ?_;intro oM jG gM;refine⟨λ fU g=>Kp A.dW H g/\cY A.dW dO g9 g/\∃O U,fU=[some (.int L),some (.ref ru),some (.ref pa),some (.int f),some (.str (tx ot)),some O,some U,none]/\((∃t p b S N,O=.ref t/\U=.non/\Fl R F L n f S/\(∀c z,¬eU S L c z)/\g t=some (.tup [.ref p,.ref b])/\TabAt g p (M24.lL (bI S) (2* S.L) (M24.bp (bI S) (2* S.L) 0 N))/\(M24.bp (bI S) (2* S.L) 0 N).length=N/\jZ g b S)\/∃x d b S,O=.non/\U=.ref x/\Fl R F L n f S/\S.made=f/\(∃c z,jY n S L c z)/\g x=some (XO x A.bh (some d) false)/\g d=some (XD d (yg S.made b))/\jZ g b S),?_,?_⟩
  ·refine⟨_,Y,Y,_,Y,?_⟩;refine df (λh=>?_) (λh=>?_)
   ·have e:ot=[]:=gH.mp (acI h)
    have ew:n=0:=by
     rcases v with q|q
     ·rw[e]at q;rcases (show n=0\/n=1\/n=2 by omega) with rfl|rfl|rfl
      ·rfl
      ·exact absurd q (by decide)
      ·exact absurd q (by decide)
     ·exact q.2
    subst ew;refine⟨_,Y,_,Y,_,Y,_,Y,ru,pa,L,f,0,R,F,Y,M,qm,I,B,X,yf,y,u,r,vR,mF,hT,λt p b S N g m t1 j J k a2 Z G=>?_,λd b S g m t1 j C l1 k a2=>?_⟩
    ·exact⟨m,t1,.ref t,.non,Y,.inl ⟨t,p,b,S,N,Y,Y,j,J,k,a2,Z,G⟩⟩
    ·refine⟨_,Y,true,T.Tf,iL λx nx=>⟨_,Y,?_⟩⟩;have a:=ay.upd (o:=XO x A.bh (some d) false) nx;exact⟨m.trans (.same a),t1.same a,.non,.ref x,Y,.inr ⟨x,d,b,S,Y,Y,j,C,l1,ah,a _ _ k,a2.same a⟩⟩
   ·have e:ot=m7 n:=v.elim id λq=>absurd (acy (gH.mpr q.1)) h
    subst e;refine⟨_,Y,_,Y,_,Y,_,Y,_,Y,ru,pa,L,f,n,R,F,Y,M,qm,I,B,X,yf,y,u,r,vR,mF,hT,λt p b S N g m t1 j J k a2 Z G=>?_,λd b S g m t1 j C l1 k a2=>?_⟩
    ·exact⟨m,t1,.ref t,.non,Y,.inl ⟨t,p,b,S,N,Y,Y,j,J,k,a2,Z,G⟩⟩
    ·refine⟨_,Y,true,T.Tf,iL λx nx=>⟨_,Y,?_⟩⟩;have a:=ay.upd (o:=XO x A.bh (some d) false) nx;exact⟨m.trans (.same a),t1.same a,.non,.ref x,Y,.inr ⟨x,d,b,S,Y,Y,j,C,l1,ah,a _ _ k,a2.same a⟩⟩
  rintro fU H1 ⟨m,t1,O,U,rfl,cs⟩;refine⟨_,Y,_,Y,by show 2<=sizeLine;decide,λq nq=>?_⟩;have a:=ay.upd (o:=.tup [O,U]) nq;rcases cs with ⟨t,p,b,S,N,rfl,rfl,j,J,k,a2,Z,G⟩|⟨x,d,b,S,rfl,rfl,j,C,l1,a0,k,a2⟩
  ·exact kq q t p b S N _ (m.trans (.same a)) (t1.same a) j J ah (a _ _ k) (a2.same a) Z (G.same a)
  ·exact ke q x d b S _ (m.trans (.same a)) (t1.same a) j C l1 ah (a _ _ a0) (a _ _ k) (a2.same a)
def IA:Sp:=λc H Q _=>∃a b:Nat,c=[.int a,.int b]/\Q (.int (Nat.gcd a b:Nat)) H
theorem w4 (T:Txt K mg A):bx P w K mg base (bD P w) 1 A.qc A.qd ["_law_one","_law_other"] IA:=by
 refine T._law_common.F.okN ia (λn H Q E h=>?_) (λq u g s H n Q E t h=>?_)
 ·obtain⟨a,b,rfl,_⟩:=h;rfl
 ·obtain⟨a,b,rfl,k⟩:=h
  refine⟨_,(aj (cw (fY acH (bq Cv (pv 1) aM (bC _))
   (aj (a9 (i:=2) ia.nd Y (Or.inl Y) (bP fG (pv 0) (pv 1)))
   (aj (a9 (i:=0) ia.nd Y (Or.inl Y) (pv 1))
   (ax (a9 (i:=1) ia.nd Y (Or.inl Y) (pv 2)))))))
   (ax (bB (pv 0)))),?_⟩
  try dsimp only[a8,bQ]
  refine iP ?_;intro o;refine⟨λ c f=>f=H/\∃l d,c=[some (.int (Nat.gcd a b:Nat)),l,d],?_,?_⟩
  ·refine⟨λm j f=>f=H/\∃(x y:Nat) (d:Option V),m=y/\j=[some (.int x),some (.int y),d]/\Nat.gcd x y=Nat.gcd a b,⟨b,Y,a,b,none,Y,Y,Y⟩,?_⟩;rintro m j p ⟨rfl,x,y,d,r,rfl,e⟩;refine⟨_,Y,_,_,Y,Y,_,Y,?_⟩;refine df (λh=>?_) (λh=>?_)
   ·have h:(y:Int) > 0:=acI h;refine⟨_,λ c f h=>h,?_⟩;refine⟨_,Y,_,Y,_,_,Y,Y,h,?_⟩;refine⟨_,Y,?_⟩;refine⟨_,Y,?_⟩;refine⟨x % y,by rw[r];exact Nat.mod_lt _ (by omega),Y,y,x % y,_,Y,Y,?_⟩;rw[Nat.gcd_comm y,<-Nat.gcd_rec,Nat.gcd_comm];exact e
   ·have h:¬(y:Int) > 0:=λz=>h (acy z)
    have:y=0:=by omega
    subst this;rw[Nat.gcd_zero_right]at e;exact⟨Y,_,_,by rw[e]⟩
  rintro c p ⟨rfl,l,d,rfl⟩;exact⟨_,Y,k⟩
theorem Kl {d:Za3}{e:List Nat}{W:Za2}{b:List Dt}(h:Go d n B W b e R):∀x∈b,∃l c,x=Dt.t (.s l::c):=by
 induction h with
 |nil=>grind
 |cons o _ f=>
  intro x a;rcases aci.mp a with rfl|a
  ·cases o <;> exact⟨_,_,rfl⟩
  ·exact f x a
theorem Km {j i:Za3}{w:Nat}(f:Fl j i n w m S)(d:∀u∈j++i,∀z∈u,z∈bu (2* n)/\-z∈bu (2* n)):∀x∈S.rows,∃l v,x=Dt.t (.s l::v):=by
 induction f with
 |start t _=>
  obtain⟨_,_,a,_,B,e,_,_,_,_,g⟩:=YS.new.tr t d;rw[e];exact Kl g
 | @next h _ c z f0 _ l t _ o=>
   obtain⟨R,y⟩:=f0.ys d;obtain⟨q,r,k,s⟩:=l.1;obtain⟨z1,z2⟩:=cU.mp k;obtain⟨_,_,a,_,B,e,_,_,_,_,g⟩:=(y.make q (kr r) s k (cU.mpr ⟨by omega,by omega⟩)).tr t d;rw[e];intro x b;rcases ach.mp b with b|b
   ·have b:x∈h.rows++[j5 c z h.made]:=b;rcases ach.mp b with p|p
    ·exact o x p
    ·rw[acb.mp p];exact⟨_,_,Y⟩
   ·exact Kl g x b
theorem IB {d:List Dt}(h:bF H 4 (.ref a) (.t (.s B::d))):∃b,H a=some (.tup (.str (tx B)::b)):=by
 cases h with
 | @t _ _ b _ f c e=>
   match b,c with
   |v::b,_=>
    have q:=e 0 v _ Y rfl;cases q;exact⟨b,f⟩
def QH:Sp:=λc H Q _=>∃(l:Addr) (S:RS),c=[.ref l]/\jZ H l S/\(∀x∈S.rows,∃l b,x=Dt.t (.s l::b))/\S.rows.length<=1000000/\∀a,ay H a->Q (.int (S.rows.countP isNew:Nat)) a
theorem rO (T:Txt K mg A):bx P w K mg base (bD P w) 1 A.tj A.tm ["_law_rows"] QH:=by
 refine T._law_news.F.okN zW (λJ H Q E h=>?_) (λZ AA q s H J Q E t h=>?_)
 ·obtain⟨l,S,rfl,_⟩:=h;rfl
 ·obtain⟨l,S,rfl,⟨b,y,j,_⟩,F,hlen,k⟩:=h
  refine⟨_,(aj (bV (k8 (fF (bA dS Y T.cz acE (ae (pv 0) (ae (e8 (v:=.ty "list") Y T.fP acO Y) ak)))))
   (ax (bB (gI fb aM)))
   bG)
   (ax (bB (bA bM Y T.fj acX (ae (ve (fns:=[]) (ixs:=[]) (cl:=_) Y (du (pv 0)) (kP (by decide) (by decide) Y (by decide) Y) (λC s H ex=>(bq iG (bN (Bu (K:=K) Y) (pv 0) aM (λ_ _=>rfl)) (eA (l:=[110,101,119]) Y) (bC _))) (λC s H ex=>(pv 0))) ak))))),?_⟩
  try dsimp only[a8,bQ]
  refine iP ?_;intro U;refine⟨_,Y,_,_,_,_,Y,.lst y,jM _ _,true,Y,dc ?_⟩;have r:b.length=S.rows.length:=j.1;refine⟨_,Y,l,Y,⟨_,aI.of y⟩,?_⟩;refine⟨λi m ys M=>m=b.length - i/\i<=b.length/\ay H M/\ys.length=(S.rows.take i).countP isNew,⟨b.length,by simp,acF _,λ_ _ e=>e,Y⟩,?_⟩;rintro i m ys M ⟨rfl,hi,s2,n⟩;have d:=s2 _ _ y;have g:=aeb (p:=isNew) (l:=S.rows.take i);rw[acQ]at g;by_cases a:i<b.length
  ·refine .inr ⟨lA (aI.of d) i (by rw[ab9];exact a),ace (show ys.length<=1000000 by omega) (by decide),λx R o=>?_⟩;obtain⟨rfl,N⟩:=jL (aI.of d) i x R (by rw[ab9];exact a) o;have B:=ab3 a;have t:i<S.rows.length:=by omega
   have c:=ab3 t;obtain⟨tl,G,ed⟩:=F _ (List.getElem_mem t);have u:=j.2 i _ _ B c;rw[ed]at u c;obtain⟨J,L⟩:=IB (u.same s2);generalize b[i]=p at B L u;rw[aco,B]at N;have ex:=Za0 N;subst ex;have I:S.rows.take (i+ 1)=S.rows.take i++[Dt.t (.s tl::G)]:=by rw[List.take_add_one,c];rfl
   refine⟨_,Y,p,_,_,.str (tx tl),Y,Y,bT.of L,(show lu _ ((0:Nat):Int)=_ from dA Y),Y,_,Y,?_⟩;by_cases h:tl=[110,101,119]
   ·rw[acy (gH.mpr h)];refine⟨_,Y,b.length - (i+ 1),by omega,Y,a,s2,?_⟩;rw[I,adD,adQ,ab6,n];have:isNew (Dt.t (.s tl::G))=true:=acy h;rw[this];rfl
   ·rw[acU (λz=>h (gH.mp z))];refine⟨b.length - (i+ 1),by omega,Y,a,s2,?_⟩;rw[I,adD,adQ,n];have:isNew (Dt.t (.s tl::G))=false:=acU h;rw[this];rfl
  ·have e:i=b.length:=by omega
   subst e;rw[r,adG]at n;have g:=aeb (p:=isNew) (l:=S.rows);refine .inl ⟨by rw[<-ab9 (f:=V.ref)];exact iM (aI.of d),acr (show ys.length<=1000000 by omega) (by decide),λD X=>?_⟩;refine⟨D,_,Y,.inl (aI.of ah),?_⟩;rw[n];exact k _ (s2.trans (ay.upd X))
inductive Gh (vs:List V) (H:Hp) (Q:VK) (E_:XK):Prop
 |mk (a b:Addr) (W:Za3):vs=[.ref a,.ref b]->TabAt H a W->TabAt H b W->(∀r∈W,r.length=2)->Q (.bl true) H->Gh vs H Q E_
theorem AB (T:Txt K mg A):bx P w K mg base (bD P w) 2 A.tq A.tu ["_law_table","_law_due"] Gh:=by
 refine T._law_same.F.okN rH (λO H Q E h=>?_) (λX AA q s H O Q E u h=>?_)
 ·obtain⟨a,b,W,rfl,_⟩:=h;rfl
 ·obtain⟨a,b,W,rfl,G,L,S,k⟩:=h;have x:=jW u
  refine⟨_,(aj (cw (bV (PW.pt (oV (k8 (fF (bA dS Y T.cz acE (ae (pv 0) (ae (e8 (v:=.ty "list") Y T.fP acO Y) ak))))) (uC (bq oY (bA bM Y T.fj acX (ae (pv 0) ak)) (bA bM Y T.fj acX (ae (pv 1) ak)) (bC _)))))
   (ax (bB oU))
   bG))
   (aj (eB acH Y (du (pv 0)) (cC (i:=2) rH.nd Y (Or.inl Y))
    (ax (cw (bV (PW.pt (oV (k8 (fF (bA dS Y T.cz acE (ae (pv 2) (ae (e8 (v:=.ty "list") Y T.fP acO Y) ak))))) (oV (bq oY (bA bM Y T.fj acX (ae (pv 2) ak)) aM (bC _)) (oV (k8 (fF (bH (kF T) (u.mono (by decide)) Y T._law_whole.m T._law_whole.F.kp T._law_whole.b .nil aJ (ae (bN bS (pv 2) aM (λ_ _=>rfl)) ak)))) (uC (k8 (fF (bH (kF T) (u.mono (by decide)) Y T._law_whole.m T._law_whole.F.kp T._law_whole.b .nil aJ (ae (bN bS (pv 2) aM (λ_ _=>rfl)) ak)))))))))
     (ax (bB oU))
     bG))))
   (ax (bB (rT (KR x) (pv 0) (pv 1) (bC _)))))),?_⟩
  try dsimp only[a8,bQ]
  refine eF ?_;intro M U;obtain⟨g,c,f⟩:=id G;obtain⟨N,t,F⟩:=id L;refine⟨λ m D=>m=[some (.ref a),some (.ref b),none]/\D=H,?_,?_⟩
  ·refine⟨_,Y,_,_,_,_,Y,.lst c,jM _ _,true,Y,dc ?_⟩;refine⟨_,Y,a,_,Y,.inl (aI.of c),_,Y,b,_,Y,.inl (aI.of t),Y,_,Y,?_⟩;refine df (λh=>?_) (λ_=>⟨Y,Y⟩);have J:(!decide (V.int ((g.map V.ref).length:Int)=V.int ((N.map V.ref).length:Int)))=true:=h;rw[ab9,ab9,f.1,F.1,acy rfl]at J;cases J
  rintro m D ⟨rfl,rfl⟩;refine⟨_,Y,a,Y,⟨_,aI.of c⟩,?_⟩;refine fZ (K:=K) (a:=a) (xs:=g.map V.ref) (λi n p=>∃C:Option V,n=[some (.ref a),some (.ref b),C]/\p=D) ⟨none,Y,Y⟩ (λi n p _ ⟨_,_,e⟩=>by rw[e];exact aI.of c) ?_ ?_
  ·rintro i y n p l ⟨C,rfl,rfl⟩;rw[aco]at l
   have j:i<g.length:=by
    cases e:g[i]? with
    |none=>rw[e]at l;cases l
    |some r=>exact(ab5.mp e).1
   have z:g[i]?=some g[i]:=ab3 j
   rw[z]at l;have Z:V.ref g[i]=y:=Za0 l;subst Z;generalize g[i]=o at z;have B:W[i]?=some (W[i]'(by rw[<-f.1];exact j)):=ab3 (by rw[<-f.1];exact j)
   generalize W[i]'(by grind)=I at B;have d:=f.2 i o I z B;obtain⟨R,z1,rfl⟩:=args_is2 (S I (ab4 B));refine⟨_,?_,λ_ _ h=>h⟩;refine⟨_,Y,_,_,_,_,Y,.lst d,jM _ _,true,Y,dc ?_⟩;refine⟨_,Y,o,_,Y,.inl (aI.of d),Y,_,Y,?_⟩;refine uN Y ?_;refine⟨_,Y,o,_,_,_,Y,Y,aI.of d,Y,R,Y,true,Y,dc ?_⟩;exact⟨_,Y,o,_,_,_,Y,Y,aI.of d,Y,z1,Y,true,Y,dc ⟨_,Y,Y⟩⟩
  ·rintro n p ⟨C,rfl,rfl⟩;refine⟨_,Y,_,Y,a,b,W,W,Y,Y,G,L,?_⟩;rw[acy rfl];exact k
def ip (m:Nat):Nat->List Nat
 |0=>[0]
 |k+ 1=>M24.add (M24.add (ip m k) (k+ 1)) ((m - (k+ 1) % m) % m)
theorem IC:∀m,m<41->0<m->∀k,k<41->(ip m k).length<m->k+ 1<41/\k+ 1<m+ 1:=by decide
def Kn (m k:Nat):Bool:=decide ((ip m k).length<m) || !(decide (k=0) || decide ((ip m (k - 1)).length<m)) || (ip m k==M24.bp (dz m) 2 0 m)
theorem QI:∀m,m<41->0<m->∀k,k<41->Kn m k=true:=by decide
theorem L9 {k:Nat}(b:m<41)(a:0<m)(c:k<41)(h:¬(ip m k).length<m)(d:k=0\/(ip m (k - 1)).length<m):ip m k=M24.bp (dz m) 2 0 m:=by
 have:=QI m b a k c;unfold Kn at this
 grind
theorem Sn:∀m:Nat,m<41->0<m->∀x:Nat,x<42->(-((x:Nat):Int)) % (m:Int)=(((m - x % m) % m:Nat):Int):=by decide
theorem Sq:∀m:Nat,m<41->0<m->∀x:Nat,x<41->(((x:Nat):Int) - 1) % (m:Int)=(((x+ m - 1) % m:Nat):Int):=by decide
theorem wq {come:List Nat}:((n:Int)∈nI come)↔n∈come:=by
 unfold nI
 grind
theorem Ko {come:List Nat}(a:come.Nodup)(h:(nI come)[i]?=some (n:Int)):i=M24.ix come n:=by
 unfold nI at h;rw[aco]at h
 cases e:come[i]? with
 |none=>grind
 |some q=>
  rw[e]at h;have h:((q:Nat):Int)=n:=Za0 h;have:q=n:=by omega
  rw[this]at e;exact(M24.sr a e).symm
def w6 (m k:Nat):Nat->List Nat
 |0=>ip m k
 |1=>M24.add (ip m k) (k+ 1)
 |_=>ip m (k+ 1)
theorem Gi (c:List Nat)(y:Nat):(M24.add c y).length<=c.length+ 1:=by
 unfold M24.add;split
 ·omega
 ·rw[ab6];exact aca _
def QJ:Sp:=λb H Q _=>∃m:Nat,b=[.int m]/\0<m/\m<41/\∀l a,ay H a->TabAt a l (wm m)->Q (.ref l) a
theorem AF (T:Txt K mg A):bx P w K mg base (bD P w) 1 A.tf A.ti ["_law_many"] QJ:=by
 refine T._law_ring.F.okN gZ (λvs H Q E h=>?_) (λcy AA outer s H vs Q E hr h=>?_)
 ·obtain⟨m,rfl,_⟩:=h;rfl
 ·obtain⟨m,rfl,f,X,k⟩:=h
  refine⟨_,(aj (a9 (i:=1) gZ.nd Y (Or.inr Y) (cq (ae aM ak)))
   (aj (a9 (i:=2) gZ.nd Y (Or.inl Y) aM)
   (aj (cw (fY acH (bq mx (bA bM Y T.fj acX (ae (pv 1) ak)) (pv 0) (bC _))
    (aj (eB acH Y (du (cq (ae (pv 2) (ae (bP fG (gI fb (pv 2)) (pv 0)) ak)))) (cC (i:=3) gZ.nd Y (Or.inl Y))
     (ax (cw (bV (bq CQ (pv 3) (pv 1) Y)
      (ax (aZ (dP acq acA acB cu (pv 1) (ae (pv 3) ak))))
      bG))))
    (ax (a9 (i:=2) gZ.nd Y (Or.inl Y) (bP iz (pv 2) aM))))))
   (ax (bB (lJ (fns:=["_law_spots","_law_many"]) (ixs:=[1,0]) (cl:=_) Y (du (pv 1)) (CP Y Y Y (by decide) Y (by decide) Y (by decide) (by decide) Y Y Y Y Y Y Y) (λC s H ex=>(cq (ae (Eo (K:=K) Y acq PySem.F.slot_list_index PySem.F.type_list_index pS (pv 1) (ae (bP fG (bP iz (pv 0) aM) (pv 2)) ak)) (ae (Eo (K:=K) Y acq PySem.F.slot_list_index PySem.F.type_list_index pS (pv 1) (ae (bP fG (bP j1 (pv 0) aM) (pv 2)) ak)) ak)))))))))),?_⟩
  try dsimp only[a8,bQ]
  refine iQ ?_;intro oM jG gM;refine⟨by show 1<=sizeLine;decide,λl nl=>?_⟩;have s1:=ay.upd (o:=.lst [.int 0]) nl;have h1:upd H l (.lst [.int 0]) l=some (.lst (av (nI (ip m 0)))):=ah;generalize upd H l (.lst [.int 0])=H1 at s1 h1 ⊢;refine⟨λ fU F=>∃(v2 G:Option V),fU=[some (.int m),some (.ref l),v2,G]/\(∀b u,b≠l->H1 b=some u->F b=some u)/\F l=some (.lst (av (nI (M24.bp (dz m) 2 0 m)))),?_,?_⟩
  ·refine⟨λj M F=>∃(c:Nat) (G:Option V),j=41 - c/\c<41/\(c=0\/(ip m (c - 1)).length<m)/\M=[some (.int m),some (.ref l),some (.int ((c+ 1:Nat):Int)),G]/\(∀b u,b≠l->H1 b=some u->F b=some u)/\F l=some (.lst (av (nI (ip m c)))),⟨_,0,none,Y,by decide,.inl Y,Y,λ_ _ _ e=>e,h1⟩,?_⟩;rintro j M H2 ⟨c,G,rfl,hk,V7,rfl,f2,B⟩;refine⟨_,Y,l,_,Y,.inl (aI.of B),_,Y,_,_,Y,Y,_,Y,?_⟩;refine df (λh=>?_) (λh=>?_)
   ·have h:((av (nI (ip m c))).length:Int)<(m:Int):=acI h;rw[aT,bL]at h;have i7:(ip m c).length<m:=by omega
    obtain⟨m1,m2⟩:=IC m X f c hk i7;refine⟨_,λ fU F h=>h,?_⟩;refine⟨_,Y,_,Y,_,Y,_,Y,_,_,Y,Y,(by show (0:Int)<m;omega),by show 2<=sizeLine;decide,λq nq=>?_⟩;have N:V.int (-((c+ 1:Nat):Int) % (m:Int))=V.int (((m - (c+ 1) % m) % m:Nat):Int):=ac5 V.int (Sn m X f (c+ 1) (by omega));rw[N];have t:=ay.upd (o:=.lst [V.int ((c+ 1:Nat):Int),V.int (((m - (c+ 1) % m) % m:Nat):Int)]) nq;have h3:upd H2 q (.lst [V.int ((c+ 1:Nat):Int),V.int (((m - (c+ 1) % m) % m:Nat):Int)]) q=some (.lst (av (nI [c+ 1,(m - (c+ 1) % m) % m]))):=ah;have ZN:q≠l:=(au B nq).symm;generalize upd H2 q (.lst [V.int ((c+ 1:Nat):Int),V.int (((m - (c+ 1) % m) % m:Nat):Int)])=L at t h3 ⊢;refine⟨q,Y,⟨_,aI.of h3⟩,?_⟩;refine fZ (K:=K) (a:=q) (xs:=av (nI [c+ 1,(m - (c+ 1) % m) % m])) (λi M F=>∃G:Option V,M=[some (.int m),some (.ref l),some (.int ((c+ 1:Nat):Int)),G]/\(∀b u,b≠l->H1 b=some u->F b=some u)/\F l=some (.lst (av (nI (w6 m c i))))/\F q=some (.lst (av (nI [c+ 1,(m - (c+ 1) % m) % m])))/\(w6 m c i).length<=100) ⟨G,Y,λb u n e=>t _ _ (f2 b u n e),t _ _ B,h3,by show (ip m c).length<=100;omega⟩ (λi M F _ q0=>by obtain⟨_,_,_,_,e,_⟩:=q0;exact aI.of e) ?_ ?_
    ·rintro i y M H4 d ⟨G,rfl,f4,R,q4,l4⟩
     have SX:i<2:=by
      have:=(ab5.mp d).1;rw[aT,bL]at this;exact this
     obtain⟨o,rfl,S⟩:∃o:Nat,y=V.int (o:Int)/\w6 m c (i+ 1)=M24.add (w6 m c i) o:=by
      rcases (show i=0\/i=1 by omega) with rfl|rfl
      ·exact⟨c+ 1,(Za0 d).symm,Y⟩
      ·exact⟨(m - (c+ 1) % m) % m,(Za0 d).symm,Y⟩
     rw[S]
     have l5:(M24.add (w6 m c i) o).length<=100:=by
      rw[<-S];have a1:=Gi (ip m c) (c+ 1);have a2:=Gi (M24.add (ip m c) (c+ 1)) ((m - (c+ 1) % m) % m);rcases (show i=0\/i=1 by omega) with rfl|rfl
      ·show (M24.add (ip m c) (c+ 1)).length<=100;omega
      ·show (M24.add (M24.add (ip m c) (c+ 1)) ((m - (c+ 1) % m) % m)).length<=100;omega
     generalize w6 m c i=come at R l4 l5 ⊢;clear S;refine⟨_,?_,λ_ _ h=>h⟩;refine⟨_,Y,_,Y,(o:Int),l,nI come,Y,Y,R,_,Y,?_⟩;by_cases J:o∈come
     ·rw[acy (wq.mpr J)];have e:M24.add come o=come:=acv J;rw[e];exact dc ⟨_,Y,f4,R,q4,l4⟩
     ·rw[acU (λq=>J (wq.mp q))];have e:M24.add come o=come++[o]:=acm J;rw[e]at l5 ⊢;refine iL ?_;refine⟨_,Y,.inl ⟨Y,_,aI.of R⟩,_,Y,l,_,_,Y,Y,R,?_,?_⟩
      ·rw[aT,bL];exact ace (show come.length<=300 by omega) (by decide)
      exact⟨_,Y,λb u n e=>by rw[ai n];exact f4 b u n e,by rw[ah,gT,ints_app];rfl,by rw[ai ZN];exact q4,l5⟩
    ·rintro M H4 ⟨G,rfl,f4,R,q4,l4⟩;refine⟨_,Y,_,_,Y,Y,?_⟩;exact⟨41 - (c+ 1),by omega,c+ 1,_,Y,by omega,.inr i7,Y,f4,R⟩
   ·have h:¬((av (nI (ip m c))).length:Int)<(m:Int):=λz=>h (acy z)
    rw[aT,bL]at h;rw[L9 X f hk (by omega) V7]at B;exact⟨_,_,Y,f2,B⟩
  rintro M H2 ⟨v2,G,rfl,f2,B⟩;have hlen:=Ay m X f;have nd:=M24.ju (dz m) 2 0 m;have lt:∀x∈M24.bp (dz m) 2 0 m,x<m:=M24.jR (P:=λx=>x<m) f (λy i _ _=>by unfold dz;split <;> exact Nat.mod_lt _ f) m
  have O:∀x∈M24.bp (dz m) 2 0 m,∀i,i<2->dz m i x∈M24.bp (dz m) 2 0 m:=λx hx i d=>by
   obtain⟨j,hj⟩:=acJ hx;exact M24.jv (by have:=(ab5.mp hj).1;omega) hj d
  have eT:wm m=(M24.bp (dz m) 2 0 m).map λx=>[((M24.ix (M24.bp (dz m) 2 0 m) (dz m 0 x):Nat):Int),((M24.ix (M24.bp (dz m) 2 0 m) (dz m 1 x):Nat):Int)]:=rfl
  rw[eT]at k;generalize M24.bp (dz m) 2 0 m=come at hlen nd lt O B k;have hx:∀i,i<come.length->come[i]?=some (come.getD i 0):=λi d=>by grind
  refine⟨_,Y,l,Y,⟨_,aI.of B⟩,?_⟩;refine mB come.length (λi=>.int ((come.getD i 0:Nat):Int)) (λL v i=>∃p,v=.ref p/\L p=some (.lst (av [((M24.ix come (dz m 0 (come.getD i 0)):Nat):Int),((M24.ix come (dz m 1 (come.getD i 0)):Nat):Int)]))) (λ_ _ _ _ s ⟨p,e,q⟩=>⟨p,e,s _ _ q⟩) (acr (show come.length<=1000 by omega) (by decide)) (λi L t d=>lA (aI.of (t _ _ B)) i (by rw[aT,bL];exact d)) (λi x L H4 t d y=>?_) (λL t=>by have:=iM (aI.of (K:=K) (t _ _ B));rw[aT,bL]at this;omega) (λi L Rr d t c=>?_) (λD L ys t nD Ke hr=>?_)
  ·obtain⟨N,U⟩:=jL (aI.of (t _ _ B)) i x H4 (by rw[aT,bL];exact d) y;refine⟨N,?_⟩;rw[cJ (iB (hx i d))]at U
   grind
  ·have g:come.getD i 0∈come:=ab4 (hx i d);have I:=t _ _ B;generalize come.getD i 0=x at g c ⊢;have WG:=lt x g;have N:V.int (((x:Int)+ 1) % (m:Int))=V.int ((dz m 0 x:Nat):Int):=ac5 V.int (by show ((x:Int)+ 1) % m=(((x+ 1) % m:Nat):Int);grind);have U:V.int (((x:Int) - 1) % (m:Int))=V.int ((dz m 1 x:Nat):Int):=ac5 V.int (Sq m X f x (by omega));refine⟨_,Y,.inl ⟨Y,_,aI.of I⟩,_,Y,_,_,Y,Y,_,Y,_,_,Y,Y,(by show (0:Int)<m;omega),l,nI come,((dz m 0 x:Nat):Int),Y,ac5 (λv=>[v]) N,I,wq.mpr (O x g 0 (by decide)),λi1 g1 _=>?_⟩;refine⟨_,Y,.inl ⟨Y,_,aI.of I⟩,_,Y,_,_,Y,Y,_,Y,_,_,Y,Y,(by omega),l,nI come,((dz m 1 x:Nat):Int),Y,ac5 (λv=>[v]) U,I,wq.mpr (O x g 1 (by decide)),λi2 g2 _=>?_⟩;refine⟨by show 2<=sizeLine;decide,λp np=>c _ _ (ay.upd np) ⟨p,Y,?_⟩⟩;rw[ah,Ko nd g1,Ko nd g2];rfl
  ·obtain⟨Z,rfl,hq⟩:=si (P:=λi p=>L p=some (.lst (av [((M24.ix come (dz m 0 (come.getD i 0)):Nat):Int),((M24.ix come (dz m 1 (come.getD i 0)):Nat):Int)]))) ys 0 (λi v hv=>by rw[afa];exact hr i v hv);have sD:=ay.upd (o:=.lst (Z.map V.ref)) nD;rw[ab9]at Ke;refine k D _ (λb u e=>sD _ _ (t _ _ (f2 b u (au e nl) (s1 _ _ e)))) ⟨Z,ah,by grind,λi p r N U=>sD _ _ ?_⟩;have:=hq i p N;rw[afa]at this;have d:i<come.length:=by rw[<-Ke];exact(ab5.mp N).1
   rw[aco,hx i d]at U;rw[<-Za0 U];exact this
theorem Sr (a:z=1\/z= -1)(h:1<=n):uA [pw z n] [] n n:=
 ⟨h,h,λw b=>⟨z,n,acb.mp b,a,aca _,Nat.dvd_refl _⟩,⟨z,a,acb.mpr Y⟩,λG p=>p z n (acb.mpr Y) a⟩
theorem Ss (b:z=1\/z= -1)(a:y=1\/y= -1)(e:1<=n)(g:1<=m):uA [pw z n] [pw y m] (min n m) (Nat.gcd n m):=by
 have d:pw z n∈[pw z n]++[pw y m]:=acu _ (acb.mpr Y);have c:pw y m∈[pw z n]++[pw y m]:=ab8 _ (acb.mpr Y);refine⟨by omega,Nat.gcd_pos_of_pos_left _ e,λw f=>?_,?_,λG p=>(p z n d b).gcd (p y m c a)⟩
 ·rcases ach.mp f with q|q
  ·exact⟨z,n,acb.mp q,b,by omega,Nat.gcd_dvd_left _ _⟩
  ·exact⟨y,m,acb.mp q,a,by omega,Nat.gcd_dvd_right _ _⟩
 grind
theorem Gj (b:z=1\/z= -1)(h:n<=40):F9 1 (pw z n):=by
 refine⟨by unfold pw;rw[aeK];omega,λa c=>?_⟩;rw[List.eq_of_mem_replicate c];rcases b with rfl|rfl <;> decide
theorem Gk (s:Int)(n:Nat):(List.replicate ((n:Int)).toNat [V.int s]).flatten=av (pw s n):=by
 rw[acY];unfold pw av;rw[List.map_replicate]
 induction n with
 |zero=>rfl
 |succ n a=>grind
theorem yh {w:List Int}(h:H a=some (.lst [.ref b]))(e:H b=some (.tup (av w))):cj H a [w]:=by
 refine⟨[b],h,Y,λi p u c d=>?_⟩
 cases i with
 |zero=>cases c;cases d;exact e
 |succ i=>simp at c
theorem Gm (z:Int):∃s:Int,(s=1\/s= -1)/\lu [V.int 1,V.int (-1)] (z % 2)=some (.int s):=by
 rcases (show z % 2=0\/z % 2=1 by omega) with e|e
 ·exact⟨1,.inl Y,by rw[e];rfl⟩
 ·exact⟨-1,.inr Y,by rw[e];rfl⟩
theorem QK {e d:Za3}{w:Nat}(i:1<=m)(f:Fl e d n w m S)(b:∀u∈e++d,∀z∈u,z∈bu (2* n)/\-z∈bu (2* n)):S.made<=m:=by
 induction f with
 |start t _=>
  obtain⟨_,_,a,_⟩:=YS.new.tr t b;rw[a];exact i
 | @next p _ c z f0 h l t _ q=>
   obtain⟨R,y⟩:=f0.ys b;obtain⟨j,k,g,o⟩:=l.1;obtain⟨z1,z2⟩:=cU.mp g;obtain⟨_,_,a,_⟩:=(y.make j (kr k) o g (cU.mpr ⟨by omega,by omega⟩)).tr t b;rw[a];exact h
theorem Ma {P:Nat->Int}{lo:Int}(y:YS S 1 (bu (2* 1)) R)(h:fN S P lo):∃c z,eU S 1 c z:=by
 have:=y.m;obtain⟨c,a,e⟩:=h.on lo (Int.le_refl _) (by omega);refine⟨c,-1,a,?_,cU.mpr (by decide),?_⟩
 ·rw[oO (by rw[y.g.wf.e];exact a),h.el c a]
 ·cases q:S.by c (-1) with
  |none=>rfl
  |some b=>
   obtain⟨_,d,_,_⟩:=y.g.st _ _ _ q;have g:=(h.by_ _ _ _ q).2;have f:=h.rg b d;omega
theorem Mb (d:Nat):∀r∈wm d,r.length=2:=λr a=>by
 obtain⟨x,_,rfl⟩:=adl.mp (show r∈(M24.bp (dz d) 2 0 d).map λx=>[((M24.ix (M24.bp (dz d) 2 0 d) (dz d 0 x):Nat):Int),((M24.ix (M24.bp (dz d) 2 0 d) (dz d 1 x):Nat):Int)] from a);rfl
seal L2.PE L2.PS L2.i6 L2.PA L2.PT
theorem QL (T:Txt K mg A)(m6:jQ mg base):bx P w K mg base (bD P w) 13 A.Jr A.Js ["_law_script"] (yx K A.dW):=by
 refine T.law.F.okN eM (λvs H Q E h=>?_) (λcy AA outer s H vs Q E B h=>?_)
 ·obtain⟨a,X,rfl,_⟩:=h;rfl
 ·obtain⟨a,X,rfl,ha,hns,hP,k⟩:=h;have ZO:=ace (Nat.add_le_add_left (by decide:8<=64) _) B.units
  refine⟨_,(aj (a9 (i:=1) eM.nd Y (Or.inl Y) (bP iz aM (bP fG (bH (cG T) (B.mono (by decide)) Y T._law_cell_at.m T._law_cell_at.F.kp T._law_cell_at.b .nil aJ (ae (pv 0) (ae aM ak))) aM)))
   (aj (a9 (i:=2) eM.nd Y (Or.inl Y) (cq (ae (bP Bm (gw (ae (bN bS (cq (ae aM (ae (gI fb aM) ak))) (bP fG (bP nu (bH (cG T) (B.mono (by decide)) Y T._law_cell_at.m T._law_cell_at.F.kp T._law_cell_at.b .nil aJ (ae (pv 0) (ae aM ak))) aM) aM) (λ_ _=>rfl)) ak)) (pv 1)) ak)))
   (aj (a9 (i:=3) eM.nd Y (Or.inl Y) (cq ak))
   (aj (a9 (i:=4) eM.nd Y (Or.inl Y) (pv 1))
   (aj (cw (bV (bq iG (bP fG (bH (cG T) (B.mono (by decide)) Y T._law_cell_at.m T._law_cell_at.F.kp T._law_cell_at.b .nil aJ (ae (pv 0) (ae aM ak))) aM) aM (bC _))
    (aj (a9 (i:=5) eM.nd Y (Or.inl Y) (bP iz aM (bP fG (bP nu (bH (cG T) (B.mono (by decide)) Y T._law_cell_at.m T._law_cell_at.F.kp T._law_cell_at.b .nil aJ (ae (pv 0) (ae aM ak))) aM) aM)))
    (aj (a9 (i:=3) eM.nd Y (Or.inl Y) (cq (ae (bP Bm (gw (ae (bN bS (cq (ae aM (ae (gI fb aM) ak))) (bP fG (bP nu (bH (cG T) (B.mono (by decide)) Y T._law_cell_at.m T._law_cell_at.F.kp T._law_cell_at.b .nil aJ (ae (pv 0) (ae aM ak))) aM) aM) (λ_ _=>rfl)) ak)) (pv 5)) ak)))
    (aj (a9 (i:=4) eM.nd Y (Or.inl Y) (bA (xj Y) Y T.C9 PyProof.Rows.boot_min (ae (pv 1) (ae (pv 5) ak))))
    (ax (a9 (i:=1) eM.nd Y (Or.inl Y) (bH (w4 T) (B.mono (by decide)) Y T._law_common.m T._law_common.F.kp T._law_common.b .nil aJ (ae (pv 1) (ae (pv 5) ak))))))))
    bG))
   (aj (a9 (i:=6) eM.nd Y (Or.inl Y) (bP iz aM (bP fG (bH (cG T) (B.mono (by decide)) Y T._law_cell_at.m T._law_cell_at.F.kp T._law_cell_at.b .nil aJ (ae (pv 0) (ae aM ak))) aM)))
   (aj (cw (bV (bq iG (bP fG (bP nu (bH (cG T) (B.mono (by decide)) Y T._law_cell_at.m T._law_cell_at.F.kp T._law_cell_at.b .nil aJ (ae (pv 0) (ae aM ak))) aM) aM) aM (bC _))
    (ax (a9 (i:=6) eM.nd Y (Or.inl Y) (bA (xi Y) Y T.Jt PyProof.Rows.boot_max (ae aM (ae (bP j1 (pv 4) (bP fG (bP nu (bH (cG T) (B.mono (by decide)) Y T._law_cell_at.m T._law_cell_at.F.kp T._law_cell_at.b .nil aJ (ae (pv 0) (ae aM ak))) aM) aM)) ak)))))
    bG))
   (aj (a9 (i:=7) eM.nd Y (Or.inl Y) (bN bS (cq (ae (eA (l:=[114,111,111,109,115]) Y) (ae (eA (l:=[108,101,116,116,101,114,115]) Y) (ae (eA (l:=[110,101,119,101,115,116]) Y) (ae (eA (l:=[]) Y) ak vM) vM) vM) vM)) (bP fG (bH (cG T) (B.mono (by decide)) Y T._law_cell_at.m T._law_cell_at.F.kp T._law_cell_at.b .nil aJ (ae (pv 0) (ae aM ak))) aM) (λ_ _=>rfl)))
   (aj (a9 (i:=8) eM.nd Y (Or.inl Y) (cq (ae (eh lz Y T.fP acO (ae (pv 2) ak)) (ae (eh lz Y T.fP acO (ae (pv 3) ak)) ak))))
   (aj (qx (bH (wZ T m6) (B.mono (by decide)) Y T._law_filled.m T._law_filled.F.kp T._law_filled.b .nil aJ (ae aM (ae (bN bS (pv 8) aM (λ_ _=>rfl)) (ae (bN bS (pv 8) aM (λ_ _=>rfl)) (ae (pv 6) (ae (pv 7) ak)))))) (uE Y (gQ (cC (i:=9) eM.nd Y (Or.inl Y)) (gQ (cC (i:=10) eM.nd Y (Or.inl Y)) rS))))
   (aj (bV (bq (KY ZO) (pv 8) (cq (ae (pv 2) (ae (pv 3) ak))) (bC _))
    (ax (bB oU))
    bG)
   (aj (bV (bq mx (pv 6) (pv 4) (bC _))
    (aj (cw (bV (PW.pt (oV (bq qy (pv 10) c9 (bC _)) (uC (k8 (fF (bH (kF T) (B.mono (by decide)) Y T._law_whole.m T._law_whole.F.kp T._law_whole.b .nil aJ (ae (wN (pv 10) Y) ak)))))))
     (ax (bB oU))
     bG))
    (ax (bB (yC (rT iG (wN (pv 10) Y) (pv 6) (bC _)) (yB (rT iG (bH (rO T) (B.mono (by decide)) Y T._law_news.m T._law_news.F.kp T._law_news.b .nil aJ (ae (wN (pv 10) Y) ak)) (bP j1 (pv 6) aM) (bC _)))))))
    bG)
   (aj (cw (bV (PW.pt (oV (bq ny (pv 10) c9 (bC _)) (oV (k8 (fF (bA dS Y T.cz acE (ae (pv 9) (ae (e8 (v:=.ty "tuple") Y T.oF adX Y) ak))))) (uC (bq oY (bA bM Y T.fj acX (ae (pv 9) ak)) aM (bC _))))))
    (ax (bB oU))
    bG))
   (ax (bB (yC (bH (AB T) (B.mono (by decide)) Y T._law_same.m T._law_same.F.kp T._law_same.b .nil aJ (ae (bN fH (pv 9) aM (λ_ _=>rfl)) (ae (bH (AF T) (B.mono (by decide)) Y T._law_ring.m T._law_ring.F.kp T._law_ring.b .nil aJ (ae (pv 1) ak)) ak))) (yB (rT iG (bH (rO T) (B.mono (by decide)) Y T._law_news.m T._law_news.F.kp T._law_news.b .nil aJ (ae (bN fH (pv 9) aM (λ_ _=>rfl)) ak)) (bP j1 (pv 4) aM) (bC _))))))))))))))))))),?_⟩
  try dsimp only[a8,bQ]
  refine EC ?_;intro aaZ aa0 V8 V9 u_9 XA OV BU ya tM oM jG gM;have ha:aI K H a (av X):=ha;refine⟨_,Y,a,X,0,Y,ha,by decide,λy=>⟨_,_,Y,Y,(by show (0:Int)<40;decide),_,_,Y,Y,?_⟩⟩;obtain⟨n,en,QM,Z⟩:∃n:Nat,1+ y % 40=(n:Int)/\1<=n/\n<=40:=⟨(1+ y % 40).toNat,by omega,by omega,by omega⟩;rw[show V.int (1+ y % 40)=V.int (n:Int) from ac5 V.int en];clear en y;refine⟨_,Y,by show 2<=sizeLine;decide,λq nq=>⟨_,Y,a,X,0,Y,(ay.upd nq).seq ha,by decide,λy=>⟨_,_,Y,Y,⟨by decide,by decide⟩,_,_,Y,Y,(by show (0:Int)<2;decide),?_⟩⟩⟩;obtain⟨s,hs,C⟩:=Gm (y / 40);refine⟨q,_,_,_,Y,Y,aI.of ah,C,by show 1<=sizeLine;decide,λt nt=>⟨_,Y,t,(n:Int),[.int s],Y,Y,ah,by omega,by omega,?_,λp H1 s1 hp=>?_⟩⟩
  ·rw[acY];exact acr (show 1* n<=40 by omega) (by decide)
  rw[Gk]at hp;have b:=(ay.upd nq).trans ((ay.upd nt).trans s1);clear s1 nt nq C y;refine⟨by show 1<=sizeLine;decide,λaR nR=>?_⟩;have s2:=ay.upd (o:=.lst [.ref p]) nR;have J:=yh (ah (a:=aR) (H:=H1) (o:=.lst [.ref p])) (s2 _ _ hp);replace b:=b.trans s2;generalize upd H1 aR (.lst [.ref p])=H2 at b J ⊢;clear s2 hp nR H1;refine⟨by show 0<=sizeLine;decide,λaP nP=>?_⟩;have s2:=ay.upd (o:=.lst []) nP;have I:cj (upd H2 aP (.lst [])) aP []:=⟨[],ah,Y,λi p u e=>by simp at e⟩;replace b:=b.trans s2;replace J:=J.same s2;generalize upd H2 aP (.lst [])=H3 at b J I ⊢;clear s2 nP H2;refine⟨_,Y,?_⟩;refine⟨λ D g=>∃(vo:Option V) (aP:Addr) (ps:Za3) (need d:Nat),D=[some (.ref a),some (.int (d:Int)),some (.ref aR),some (.ref aP),some (.int (need:Int)),vo,none,none,none,none,none]/\ay H3 g/\cj g aP ps/\uA [pw s n] ps need d/\need<=40/\d<=40/\ps.length<=1/\∀u∈ps,F9 1 u,?_,?_⟩
  ·refine⟨_,Y,a,X,1,Y,b.seq ha,by decide,λy=>⟨_,_,Y,Y,(by show (0:Int)<2;decide),Y,_,Y,df (λhh=>?_) λ_=>⟨none,aP,[],n,n,Y,λ_ _ e=>e,I,Sr hs QM,Z,Z,acF _,λu hu=>by cases hu⟩⟩⟩;clear hh y I;refine⟨_,Y,a,X,1,Y,b.seq ha,by decide,λy=>⟨_,_,Y,Y,⟨by decide,by decide⟩,_,_,Y,Y,(by show (0:Int)<40;decide),_,_,Y,Y,?_⟩⟩;obtain⟨m,em,ZP,Wa⟩:∃m:Nat,1+ y / 2 % 40=(m:Int)/\1<=m/\m<=40:=⟨(1+ y / 2 % 40).toNat,by omega,by omega,by omega⟩;rw[show V.int (1+ y / 2 % 40)=V.int (m:Int) from ac5 V.int em];clear em y;refine⟨_,Y,by show 2<=sizeLine;decide,λq nq=>⟨_,Y,a,X,1,Y,(ay.upd nq).seq (b.seq ha),by decide,λy=>⟨_,_,Y,Y,⟨by decide,by decide⟩,_,_,Y,Y,(by show (0:Int)<2;decide),?_⟩⟩⟩;obtain⟨s',Bw,C⟩:=Gm (y / 80);refine⟨q,_,_,_,Y,Y,aI.of ah,C,by show 1<=sizeLine;decide,λt nt=>⟨_,Y,t,(m:Int),[.int s'],Y,Y,ah,by omega,by omega,?_,λp H4 s4 hp=>?_⟩⟩
   ·rw[acY];exact acr (show 1* m<=40 by omega) (by decide)
   rw[Gk]at hp;replace s4:=(ay.upd nq).trans ((ay.upd nt).trans s4);clear nt nq C y;refine⟨by show 1<=sizeLine;decide,λaQ nQ=>?_⟩;have s5:=ay.upd (o:=.lst [.ref p]) nQ;have I:=yh (ah (a:=aQ) (H:=H4) (o:=.lst [.ref p])) (s5 _ _ hp);refine⟨_,Y,_,Y,_,_,Y,?_⟩
   obtain⟨nd,e1,e2⟩:∃nd:Nat,(if (m:Int)<(n:Int) then (m:Int) else (n:Int))=(nd:Int)/\nd=min n m:=by
    grind
   rw[e1];subst e2;clear e1;refine⟨_,Y,_,Y,n,m,Y,?_⟩;have hg:=Nat.gcd_le_left m QM;exact⟨_,aQ,_,_,_,Y,s4.trans s5,I,Ss hs Bw QM ZP,by omega,by omega,aca _,λu hu=>by rw[acb.mp hu];exact Gj Bw Wa⟩
  clear I;rintro σ H4 ⟨vo,aQ,ps,need,d,rfl,s4,I,one,lF,hd,mF,aL⟩;replace b:=b.trans s4;replace J:=J.same s4;clear s4 H3;refine⟨_,Y,a,X,2,Y,b.seq ha,by decide,λy=>⟨_,_,Y,Y,(by show (0:Int)<45;decide),_,_,Y,Y,?_⟩⟩;obtain⟨li,el,U,M⟩:∃n:Nat,1+ y % 45=(n:Int)/\1<=n/\n<=45:=⟨(1+ y % 45).toNat,by omega,by omega,by omega⟩;rw[show V.int (1+ y % 45)=V.int (li:Int) from ac5 V.int el];clear el y;refine⟨λ D g=>∃f:Nat,1<=f/\f<=45/\D=[some (.ref a),some (.int (d:Int)),some (.ref aR),some (.ref aQ),some (.int (need:Int)),vo,some (.int (f:Int)),none,none,none,none]/\g=H4,?_,?_⟩
  ·refine⟨_,Y,a,X,2,Y,b.seq ha,by decide,λy=>⟨_,_,Y,Y,⟨by decide,by decide⟩,_,_,Y,Y,(by show (0:Int)<3;decide),Y,_,Y,df (λhh=>?_) λ_=>⟨li,U,M,Y,Y⟩⟩⟩;clear hh y;refine⟨_,Y,_,Y,a,X,2,Y,b.seq ha,by decide,λy=>⟨_,_,Y,Y,⟨by decide,by decide⟩,_,_,Y,Y,(by show (0:Int)<2;decide),_,_,Y,Y,_,_,Y,?_⟩⟩;refine⟨(if (need:Int) - y / 135 % 2 > 1 then (need:Int) - y / 135 % 2 else 1).toNat,?_,?_,?_,Y⟩
   ·split <;> omega
   ·split <;> omega
   ·rw[aey (by split <;> omega)];rfl
  clear U M li;rintro σ g ⟨f,U,M,rfl,rfl⟩;refine⟨by show 4<=sizeLine;decide,λq nq=>⟨_,Y,a,X,3,Y,(ay.upd nq).seq (b.seq ha),by decide,λy=>⟨_,_,Y,Y,(by show (0:Int)<4;decide),?_⟩⟩⟩
  obtain⟨ot,w_,C,ZQ,JL⟩:∃(ot:List Nat) (w_:Nat),lu [V.str (tx [114,111,111,109,115]),V.str (tx [108,101,116,116,101,114,115]),V.str (tx [110,101,119,101,115,116]),V.str (tx [])] (y % 4)=some (.str (tx ot))/\(ot=m7 w_\/ot=[]/\w_=0)/\w_<3:=by
   rcases (show y % 4=0\/y % 4=1\/y % 4=2\/y % 4=3 by omega) with e|e|e|e
   ·exact⟨_,0,by rw[e];rfl,.inl Y,by decide⟩
   ·exact⟨_,1,by rw[e];rfl,.inl Y,by decide⟩
   ·exact⟨_,2,by rw[e];rfl,.inl Y,by decide⟩
   ·exact⟨_,0,by rw[e];rfl,.inr ⟨Y,Y⟩,by decide⟩
  refine⟨q,_,_,_,Y,Y,aI.of ah,C,?_⟩;have s5:=ay.upd (o:=.lst [V.str (tx [114,111,111,109,115]),V.str (tx [108,101,116,116,101,114,115]),V.str (tx [110,101,119,101,115,116]),V.str (tx [])]) nq;replace b:=b.trans s5;replace J:=J.same s5;replace I:=I.same s5;generalize upd g q _=H5 at b J I ⊢;clear s5 nq C y g;obtain⟨pR,UT,tR⟩:=id J;obtain⟨pQ,UU,tQ⟩:=id I;refine⟨_,Y,aR,_,Y,.inl (aI.of UT),λh1 n1=>?_⟩;have s5:=ay.upd (o:=.lst (pR.map V.ref)) n1;have w1:cj (upd H5 h1 (.lst (pR.map V.ref))) h1 [pw s n]:=⟨pR,ah,tR.same s5⟩;generalize upd H5 h1 (.lst (pR.map V.ref))=H6 at s5 w1 ⊢;refine⟨_,Y,aQ,_,Y,.inl (aI.of (s5 _ _ UU)),λh2 n2=>?_⟩;have s6:=ay.upd (o:=.lst (pQ.map V.ref)) n2;have w2:cj (upd H6 h2 (.lst (pQ.map V.ref))) h2 ps:=⟨pQ,ah,(tQ.same s5).same s6⟩;generalize upd H6 h2 (.lst (pQ.map V.ref))=H7 at s6 w2 ⊢;refine⟨(Za4 2),λj n3=>?_⟩;have s7:=ay.upd (o:=.lst [.ref h1,.ref h2]) n3;have hh:upd H7 j (.lst [.ref h1,.ref h2]) j=some (.lst [.ref h1,.ref h2]):=ah;replace w1:=w1.same (s6.trans s7);replace w2:=w2.same s7;have O:=s5.trans (s6.trans s7);generalize upd H7 j (.lst [.ref h1,.ref h2])=H8 at s7 hh w1 w2 O ⊢;replace b:=b.trans O;replace J:=J.same O;replace I:=I.same O;clear s5 s6 s7 O n1 n2 n3 UT UU tR tQ H5 H6 H7 pR pQ;have hT:cY A.dW dO g9 H8:=.inl (b _ _ hP);have ks:=one.ks
  have step:∀vf vr g,Kp A.dW H8 g->(∀r,ay g r->V8 { nx:=λ_ g=>Q .non g,rt:=Q } [some (.ref a),some (.int (d:Int)),some (.ref aR),some (.ref aQ),some (.int (need:Int)),vo,some (.int (f:Int)),some (.str (tx ot)),some (.ref j),some vf,some vr] r)->V9 { nx:=λ_ g=>Q .non g,rt:=Q } [some (.ref a),some (.int (d:Int)),some (.ref aR),some (.ref aQ),some (.int (need:Int)),vo,some (.int (f:Int)),some (.str (tx ot)),some (.ref j),some vf,some vr] g:=λvf vr g k1 go=>by
   have kw:∀{l:Addr} {ws:Za3},cj H8 l ws->cj g l ws:=λ{l ws} ⟨qs,e1,e2⟩=>⟨qs,k1.at hT e1 (by grind),e2.keep λp xs e=>k1.at hT e (by grind)⟩
   refine⟨_,Y,_,Y,_,Y,by show 2<=sizeLine;decide,λe ne=>?_⟩;have F:=ay.upd (o:=.lst [.ref aR,.ref aQ]) ne;exact⟨_,j,e,Y,Y,F7 (F _ _ (k1.at hT hh (by grind))) ((pO ((kw w1).same F)).le (by decide)) ((pO ((kw w2).same F)).le (by decide)),F7 ah ((pO ((kw J).same F)).le (by decide)) ((pO ((kw I).same F)).le (by decide)),_,Y,dc (go _ F)⟩
  refine⟨_,Y,j,_,_,_,Y,Y,aI.of hh,Y,_,Y,j,_,_,_,Y,Y,aI.of hh,Y,_,Y,_,Y,h1,h2,1,f,w_,ot,[pw s n],ps,Y,ZQ,JL,aca _,by decide,U,by omega,w1,w2,λu hu=>(ach.mp hu).elim (λq=>by rw[acb.mp q];exact Gj hs Z) (aL u),by show f* 1+ ps.length<=700;omega,by show 1<=400;decide,by omega,hT,λq t tb pp S N g k1 t1 f1 g1 a0 L a2 a3 a4=>?_,λq x dd pp S g k1 t1 f1 m1 l1 a0 L a2 a3=>?_⟩
  ·have hm:=QK U f1 ks;obtain⟨R,ys⟩:=f1.ys ks;rcases Ge one f1 with ⟨_,P,lo,hp⟩|⟨em,_,G,rg⟩
   ·obtain⟨c,z,hg⟩:=Ma ys hp;exact absurd hg (g1 c z)
   refine⟨q,_,Y,bT.of a0,Y,_,_,Y,_,_,Y,Y,step _ _ g k1 λH9 F=>?_⟩;have QN:¬(f:Int)<need:=by omega
   refine⟨_,Y,_,Y,_,_,Y,Y,_,Y,df (λh=>absurd (acI h) QN) (λ_=>?_)⟩;replace L:=F _ _ L;replace a2:=a2.same F;replace a4:=a4.same F;refine⟨λ D r=>D=[some (.ref a),some (.int (d:Int)),some (.ref aR),some (.ref aQ),some (.int (need:Int)),vo,some (.int (f:Int)),some (.str (tx ot)),some (.ref j),some (.ref t),some .non]/\r=H9,?_,?_⟩
   ·refine⟨_,Y,Y,_,Y,df (λh=>?_) λ_=>?_⟩
    ·exact absurd h (by decide)
    refine⟨_,Y,_,_,_,_,Y,.tup L,jM _ _,true,Y,dc ?_⟩;exact⟨_,Y,t,_,Y,.inr (bT.of L),Y,_,Y,uN Y ⟨Y,Y⟩⟩
   rintro σ r ⟨rfl,rfl⟩;have eL:=ys.l;rw[eL]at a2 a3;rw[rg.tab one.d1 (by omega) a3]at a2;refine⟨_,Y,t,_,_,_,Y,Y,bT.of L,Y,_,Y,d,Y,one.d1,by omega,λl BX QO hl=>?_⟩;refine⟨tb,l,wm d,Y,a2.same QO,hl,Mb d,_,Y,iL ?_⟩;have nw:=Gf f1 ks;refine⟨_,Y,t,_,_,_,Y,Y,bT.of (QO _ _ L),Y,pp,S,Y,a4.same QO,Km f1 ks,(by obtain⟨_,_,_,h⟩:=a4;exact h),λFz ZR=>?_⟩;refine⟨_,Y,_,_,Y,Y,Y,?_⟩
   grind
  ·have i7:f<need:=by
    rcases Ge one f1 with ⟨h,_⟩|⟨_,hg,_⟩
    ·omega
    ·obtain⟨c,z,ZS⟩:=l1;exact absurd ZS.1 (hg c z)
   refine⟨q,_,Y,bT.of a0,Y,_,_,Y,_,_,Y,Y,step _ _ g k1 λH9 F=>?_⟩;have QN:(f:Int)<need:=by omega
   refine⟨_,Y,_,Y,_,_,Y,Y,_,Y,df (λ_=>?_) (λh=>absurd (acy QN) h)⟩;replace L:=F _ _ L;replace a2:=F _ _ a2;replace a3:=a3.same F;refine⟨λ D r=>D=[some (.ref a),some (.int (d:Int)),some (.ref aR),some (.ref aQ),some (.int (need:Int)),vo,some (.int (f:Int)),some (.str (tx ot)),some (.ref j),some .non,some (.ref x)]/\r=H9,?_,?_⟩
   ·refine⟨_,Y,Y,_,Y,df (λh=>?_) λ_=>?_⟩
    ·exact nomatch (acI h:V.ref x=V.non)
    exact⟨_,Y,x,A.bh,dd,false,yg S.made pp,_,Y,L,a2,v7 T,T.wO,Y,_,Y,true,Y,dc ⟨Y,Y⟩⟩
   rintro σ r ⟨rfl,rfl⟩;refine⟨_,Y,x,A.bh,dd,false,yg S.made pp,_,Y,L,a2,v7 T,T.wO,Y,_,Y,Y,_,Y,df (λ_=>?_) (λh=>absurd (acy (ac5 (λq:Nat=>V.int (q:Int)) m1)) h)⟩;have nw:=Gf f1 ks;refine⟨_,Y,x,A.bh,dd,false,yg S.made pp,.ref pp,Y,L,a2,v7 T,T.BP,Y,pp,S,Y,a3,Km f1 ks,(by obtain⟨_,_,_,h⟩:=a3;exact h),λFz ZR=>?_⟩;refine⟨_,Y,_,_,Y,Y,Y,?_⟩;rw[acy (ac5 V.int (show ((S.rows.countP isNew:Nat):Int)=(f:Int) - 1 by omega))];exact k _
unseal L2.PE L2.PS L2.i6 L2.PA L2.PT
end
theorem all_mk {l:PySem.W.OpenLaw}(x:M "law"=some (.ref a))
 {d f h m b i j k g:Addr}
 {o n:Addr}
 {f1 f2 f3 f4 f5 f6 f7 f8 f9 C y FD B ZT JF ZU ZV ZW ZX ZY ZZ Z0 Z1 A r E Z J Z2 S Z3 Z4 Z5 N Z6 Z7 Z8 Z9 Q I t F f43 f44 f45 U X q:Addr} {d1 d2 d3 d4 d5 d6 d7 d8 d9 d10 d11 D d13 d14 u d16 d17 p d19 P d21 L d23 O d25 W d27 d28 d29 d30 d31 d32 d33 R z d36 d37 d38 d39 d40 d41 d42 G d44 H V d47 d48:FuncData}
 (T:Txt K M ⟨f1,d1,f2,d2,f3,d3,f4,d4,f5,d5,f6,d6,f7,d7,f8,d8,f9,d9,C,d10,y,d11,FD,D,B,d13,ZT,d14,JF,u,ZU,d16,ZV,d17,ZW,p,ZX,d19,ZY,P,ZZ,d21,Z0,L,Z1,d23,A,O,r,d25,E,W,Z,d27,J,d28,Z2,d29,S,d30,Z3,d31,Z4,d32,Z5,d33,N,R,Z6,z,Z7,d36,Z8,d37,Z9,d38,Q,d39,I,d40,t,d41,F,d42,f43,G,f44,d44,f45,H,U,V,X,d47,q,d48,d,f,h,m,b,i,j,k,g,o,n⟩)
 :∃fd:FuncData,(∃fd2 c,LamAt K fd2 c n)/\(∀(s:Shared) (v:Value),BindsTo s fd ⟨[v],[]⟩ [("_law_script",v)])/\∀base:Heap,K.In base->base.Ns mainGlobals M->jQ M base->bx l.prog w K M base (bD l.prog w) 13 a fd ["_law_script"] (yx K n):=by
 have e:=x.symm.trans T.law.m;cases e;obtain⟨kV,doc,pm,an,cy,ct,e⟩:=T.law.fd;exact⟨_,⟨_,_,T.lam⟩,λs v=>by rw[e];exact .of_eq Y,λbase _ _ m6=>QL T m6⟩
theorem walk {l:PySem.W.OpenLaw}{loose:List Str}{XP:(Str->Option Value)->Heap->Prop}{i:World->Heap->Prop}{d:DefRec}{K:Params->Za1}(q:l.most=some 63)(g:d.params.defaults=[])
 (v:∀(w:World) (h:Heap),i w h->(K w.params).In h/\h.get? a=some (PySem.W.tabObj #[]))
 (F:∀(w:World) (e:Str->Option Value) (j:Addr) (h:Heap),(K w.params).In h->h.Ns mainGlobals e->e d.name=some (.ref j)->
  ∃fd:FuncData,(∃fd2 c,LamAt (K w.params) fd2 c a)/\(∀(s:Shared) (u:Value),BindsTo s fd ⟨[u],[]⟩ [("_law_script",u)])/\∀base:Heap,(K w.params).In base->base.Ns mainGlobals e->jQ e base->bx l.prog w (K w.params) e base (bD l.prog w) 13 j fd ["_law_script"] (yx (K w.params) a)):
 PySem.W.WalkO P loose XP i l.row.toRowW d [] (λf m=>PySem.call f m):=
 L2.Hh (n:=63) (k:=13) (x:="_law_script") (CX:=λw=>(bD l.prog w)) (sp:=λw=>yx (K w.params) a) q (by decide) g ⟨Y,by decide,by decide⟩ v F (λ_ _ b r p t o=>⟨b,r,Y,o,p,t,λ_=>rfl⟩) λ_ _ _ _ _ z=>Jk z
end K30
open PySem PySem.W PyProof.Rows
namespace PySem.W.Fast
def tw3511085854254775680:=0
def tw11900310293131417295:=0
def tw7303971677207285082:=0
def tw7210279880461220603:=0
def tw8680463659305504084:=0
def tw9915753606014297994:=0
def tw9771451341420852854:=0
def tw14060946854391817546:=0
def tw17393643490350772758:=0
def tw11260265784401901317:=0
def tw14574777736995167663:=0
def tw15286958819994388049:=0
def tw13776859752200044993:=0
def tw3277125935978486053:=0
def tw8362933734166926438:=0
def tw14687262242299898042:=0
def tw17747274693025200435:=0
def tw8280853613723501198:=0
def tw12739391151760058129:=0
def tw7603848441591147194:=0
def tw1477886778691059923:=0
def tw1701636760540426263:=0
def tw9104750647813793211:=0
def tw16120409805669236890:=0
def tw7277196904389675662:=0
def tw5903550928055559978:=0
def tw359164150925893937:=0
def tw11278787782786613906:=0
def tw763110972743991338:=0
def tw10926095469236793759:=0
def tw15514535216210842386:=0
def tw7199776426087503860:=0
def tw12897450169148582767:=0
def tw3181280053444258595:=0
def tw14427213277547504089:=0
def tw4191830955956623403:=0
def tw10146575269780199529:=0
def tw10406794594409593467:=0
def tw4832333224030715676:=0
def tw13376305064367164059:=0
def tw8277132549841742595:=0
def tw1939656966189137865:=0
def tw3238459914260064318:=0
def tw3296292653488373366:=0
def tw5476875229000644745:=0
def tw14519215805759556612:=0
def tw13827600140682315035:=0
def tw6259426837962315251:=0
def tw11128911857385601813:=0
def tw9062167753725142101:=0
def tw3755941924151391563:=0
def tw15748024194383334865:=0
def tw12507855757623647054:=0
def tw16513558916384337850:=0
def tw9147916701124706715:=0
def tw12457143345633147614:=0
def tw6183989869806573866:=0
def tw2738936302648979541:=0
def tw6496770090798920224:=0
def tw5046464658169841255:=0
def tw16242720569361938605:=0
def tw4120884802334946485:=0
def tw2249096814570742648:=0
def tw11667517344021678044:=0
def tw15176603294282146361:=0
def tw11966293369505255949:=0
def tw3983643798468015010:=0
def tw6537386181415719770:=0
def tw5147828359309133391:=0
def tw8993972304722180580:=0
def tw7102505436011009904:=0
def tw2996397343987382504:=0
def tw14261918202363864300:=0
def tw14404719059209404117:=0
def tw173330629422039102:=0
def tw3437930769971325758:=0
def tw9819931847881566414:=0
def tw15370857618924045706:=0
def tw17785528286303481170:=0
def tw12915265405185616541:=0
def tw6628920680075122898:=0
def tw18062243880320540108:=0
def tw6582655299822998855:=0
def tw18284127664222292527:=0
def tw12818637849443027278:=0
def tw12042290286688809782:=0
def tw6363096475929379442:=0
def tw16035942713305988000:=0
def tw8659086748759025518:=0
def tw10225217123214004857:=0
def tw4131309870943889884:=0
def tw17852778212160928241:=0
def tw3942751870672290051:=0
def tw99924620189483091:=0
def tw12468488004083732928:=0
def tw9258768750451434730:=0
def tw11317502500365695487:=0
def tw7752654256225975283:=0
def tw10354429867792646810:=0
def tw13249854049936499198:=0
def tw9222594874511420571:=0
def tw17085114623146664247:=0
def tw5718289821204506123:=0
def tw8254427963935338105:=0
def tw5657415381753171316:=0
def tw12793296340522748500:=0
def tw9839231977773562412:=0
def tw14901069036729375395:=0
def tw6617282164962128904:=0
def tw16979194370225167857:=0
def tw12415696960336633021:=0
def tw9245382234875034619:=0
def tw15537053671970856365:=0
def tw6835004283006163995:=0
def tw7801820800422264835:=0
def tw15325966726650232117:=0
def tw2105781352086540330:=0
def tw13466801833079207834:=0
def tw10716865596660988111:=0
def tw9386030220400681800:=0
def tw12055840953627335783:=0
def tw13796359977302125154:=0
def tw4062441550891048546:=0
def tw5241160995489227693:=0
def tw9922770605466833071:=0
def tw11918471981286846621:=0
def tw380031572219644807:=0
def tw10756707715999861631:=0
def tw15386656210588765402:=0
def tw17027993874963616317:=0
def tw5019005266894326596:=0
def tw3375663613655023031:=0
def tw4030867638273612547:=0
def tw1152087564070131929:=0
def tw3441277900553046485:=0
def tw9059457134342191390:=0
def tw15630773942325225288:=0
def tw18003631857637261096:=0
def tw17782168977335520387:=0
def tw9846080272643706413:=0
def tw7703508356165171042:=0
def tw15654199681044135679:=0
def tw6716076247255324988:=0
def tw17075545662354299304:=0
def tw1420334786456093721:=0
def tw17183503108666109637:=0
def tw5232754041670168360:=0
def tw12268395993685690492:=0
def tw1390174520031538872:=0
def tw8857976889680203737:=0
def tw199981526695155834:=0
def tw16484603614712946405:=0
def tw11681708022844083790:=0
def tw5387112553375040088:=0
def tw4582870778547878704:=0
def tw3315362916812132507:=0
def tw11791757022281996967:=0
def tw11005152430697722658:=0
def tw1648570657618191984:=0
def tw12740026632758892218:=0
def tw4721459381903126074:=0
def tw988405444408637562:=0
def tw9657454293368077219:=0
def tw5945228165743133412:=0
def tw16437272140720802266:=0
def tw15732558540402683845:=0
def tw15701589727755987778:=0
def tw15708150106319111051:=0
def tw4411390349471849508:=0
def tw4380636814129513333:=0
def tw13116632303525528698:=0
def tw7483640119866219278:=0
def tw18279635462383192863:=0
def tw5826337524495656863:=0
def tw4721784420262540680:=0
def tw300840610807802431:=0
def tw1340609241107264112:=0
def tw9577693447621615781:=0
def tw13731610618210540871:=0
def tw3110895996482404482:=0
def tw608288930659610669:=0
def tw18377131135203628391:=0
def tw15428651817844892699:=0
def tw4344767713847293853:=0
def tw12745279696104503415:=0
def tw9873674089223075085:=0
def tw8801796245550408801:=0
def tw7053968476981707575:=0
def tw14751851954216100798:=0
def tw9278372177681198330:=0
end PySem.W.Fast
end
set_option maxRecDepth 100000 in
set_option maxHeartbeats 0 in
theorem PySem.Challenge.cw_cosetyard_k30_one_letter_holds : PySem.Challenge.rw_cosetyard_k30_one_letter.Holds := by
  w_on; o_law; k_head;(case hw => w_witness2)
  k_fill
  refine K30.walk (l := PySem.Challenge.rw_cosetyard_k30_one_letter) rfl rfl (fun w h Y => ⟨PySem.W.km_in_of Y, PySem.W.km_tabs_of Y _ (List.Mem.head _)⟩) ?F
  case F =>
    intro w mg fa h KX G hmg
    refine' K30.all_mk hmg ⟨?D1,?D2,?D3,?D4,?D5,?D6,?D7,?D8,?D9,?D10,?D11,?D12,?D13,?D14,?D15,?D16,?D17,?D18,?D19,?D20,?D21,?D22,?D23,?D24,?D25,?D26,?D27,?D28,?D29,?D30,?D31,?D32,?D33,?D34,?D35,?D36,?D37,?D38,?D39,?D40,?D41,?D42,?D43,?D44,?D45,?D46,?D47,?D48,?z1,?z2,?z3,?z4,?z5,?z6,?z7,?z8,?z9,?z10,?z11,?z12,?y_YardError,?y_NoOrder,?y_TooMany,?y_Order,?y_ByLetters,?y_Newest,?y_Rooms,?y_Going,?y_Closing,_,_,_,_,_,_,_,_,_,_,_,_,_,_,_,_,_,_,_,_,_,_,_,_,_,_,_,_,_,_,_,_,_,_,_,_,_,_,_,_,_,_,_,_,_,_,_,_,_,_,_,_,_,_,_,_,_,_,_,_,_,_,_,_,_,_,_,_,_,_,_,_,_,_,_,_,_,_,_,_,_,?w_lam⟩
    all_goals try dsimp only
    (case y_YardError|y_NoOrder|y_TooMany|y_Order|y_ByLetters|y_Newest|y_Rooms|y_Going|y_Closing => refine' PySem.W.mg_of KX G ?a;(case a => k_is))
    (case D1 => refine' L2.Def.of KX G ?_ ?_ ?_ ?_ (fun _ _ _ _ _ _ _ hl => by obtain ⟨_, _, _, rfl⟩ := L2.args_is3 hl; rfl);all_goals try k_is)
    (case D2|D3|D4|D5|D6|D8|D9|D12|D14|D16|D18 => refine' L2.Def.of KX G ?_ ?_ ?_ ?_ (fun _ _ _ _ _ _ _ hl => by obtain ⟨_, rfl⟩ := L2.args_is1 hl; rfl);all_goals try k_is)
    (case D7|D11|D15|D17 => refine' L2.Def.of KX G ?_ ?_ ?_ ?_ (fun _ _ _ _ _ _ _ hl => by obtain ⟨_, _, rfl⟩ := L2.args_is2 hl; rfl);all_goals try k_is)
    (case D10 => refine' L2.DDef.of KX G ?_ ?_ ?_ ?_ ?_ (fun _ _ _ _ _ _ _ hl => by obtain ⟨_, _, _, _, _, rfl⟩ := L2.args_is5 hl; exact ⟨_, rfl, rfl⟩) (fun _ _ _ _ _ _ _ hl => by obtain ⟨_, _, _, _, rfl⟩ := L2.args_is4 (Nat.succ.inj hl); exact ⟨_, rfl, rfl⟩);all_goals try k_is)
    (case D13 => refine' L2.Def.of KX G ?_ ?_ ?_ ?_ (fun _ _ _ _ _ _ _ hl => by obtain ⟨_, _, _, _, _, rfl⟩ := L2.args_is5 hl; rfl);all_goals try k_is)
    (case D19|D22|D24|D28|D45 => refine' L2.MDef.of ?_ ?_ ?_ ?_ ?_ (fun _ _ _ _ _ _ _ hl => by obtain ⟨_, _, _, _, rfl⟩ := L2.args_is4 hl; rfl);all_goals try k_is)
    (case D20|D21|D23|D27|D29|D32|D34|D35|D36|D37|D41|D44 => refine' L2.MDef.of ?_ ?_ ?_ ?_ ?_ (fun _ _ _ _ _ _ _ hl => by obtain ⟨_, _, rfl⟩ := L2.args_is2 hl; rfl);all_goals try k_is)
    (case D25|D31|D42|D43 => refine' L2.MDef.of ?_ ?_ ?_ ?_ ?_ (fun _ _ _ _ _ _ _ hl => by obtain ⟨_, rfl⟩ := L2.args_is1 hl; rfl);all_goals try k_is)
    (case D26|D30|D33|D38|D40|D46|D48 => refine' L2.MDef.of ?_ ?_ ?_ ?_ ?_ (fun _ _ _ _ _ _ _ hl => by obtain ⟨_, _, _, rfl⟩ := L2.args_is3 hl; rfl);all_goals try k_is)
    (case D39 => refine' L2.MDef.of ?_ ?_ ?_ ?_ ?_ (fun _ _ _ _ _ _ _ hl => by obtain ⟨_, _, _, _, _, rfl⟩ := L2.args_is5 hl; rfl);all_goals try k_is)
    (case D47 => refine' L2.MDef.of ?_ ?_ ?_ ?_ ?_ (fun _ _ _ _ _ _ _ hl => by obtain ⟨_, _, _, _, _, _, rfl⟩ := L2.args_is6 hl; rfl);all_goals try k_is)
    (case z1|z2|z3|z4|z5|z6|z7|z8|z9|z10|z11|z12 => refine' PySem.W.mg_none_of KX G ?a;(case a => k_is))
    (case w_lam => refine' L2.LamAt.mk ?e ?h ?n;(case e => rfl);(case h => kernel_rfl);(case n => kernel_rfl))
    all_goals first|k_is|kit_is|kts_exm|kernel_rfl
