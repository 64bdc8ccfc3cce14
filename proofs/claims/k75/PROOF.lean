import PyProof.Rows.All
import Wide.All
import OpenK.AllK
import Wide.FinOn
import Lean
import PyProof.EqAt
import PyProof.EqKinds
import PyProof.TupleCall
import PyProof.FString
import OpenK.KOwn
import KE.KTryMore
import PyProof.NsDelKeeps
import PyProof.StrBlock2
import PyProof.AutoListH
import KE.KIntText
import PyProof.Rows.StrIntSpec
import KE.KRevIter
import PyProof.StrWalks
import PyProof.CompUse
import PyProof.NeKinds
import PyProof.Rows.Range3
import PyProof.Rows.EnumRows
import PyProof.ConsumeWalk
import PyProof.Rows.SeqGen
import PyProof.StrLawsRepr
import PyProof.ZipIter
import PyProof.Rows.FactsT2
import PyProof.EnumMake
import PyProof.DictWalks
import PyProof.DictTruth
import PyProof.ListRange
import PyProof.ListStr
import PyProof.TupleOfGen
import PyProof.TupleOfSeq
import PyProof.MinMaxWalk
import PyProof.WalkInts
import KE.KSortAsk
import PyProof.MeetsSeq3
import KE.KRevSl
import PyProof.Rows.SeqMore
import PyProof.ListMulRoad
import PyProof.Rows.SumAny
import PyProof.SeqI3
import PyProof.AttrMissSeq
import KE.KDictOf
import PyProof.Rows.StrCut
import PyProof.Rows.StrSplitCount
import PyProof.DictItems
import PyProof.Rows.SortWalk
import PySem.Challenge.RW_cosetyard_k75_whole_told_otherwise
set_option Elab.async false
set_option linter.all false
set_option maxRecDepth 100000
set_option compiler.extract_closed false
set_option compiler.small 0
set_option genSizeOfSpec false
set_option maxHeartbeats 4000000
noncomputable section
def YL(s:String):List (String×String):=(s.splitOn "%").map λx=>match x.splitOn "&" with|[a,b]=>(a,b)|_=>("","")
def YT(a:Array Lean.Syntax)(t:String):Lean.Syntax:=let r:=String.ofList t.toList.tail;if t="_"then Lean.mkHole .missing else if t="Prop"then .node .none ``Lean.Parser.Term.prop #[Lean.mkAtom t]else if t.front='\''then Lean.mkAtom r else if t.front='#'then a[r.toNat!]!else if t.front.isDigit then Lean.Syntax.mkNumLit t else Lean.mkIdent (t.splitOn "."|>.foldl .str .anonymous)
def YF(a:Array Lean.Syntax)(p:List (Array Lean.Syntax)×String):List (Array Lean.Syntax)×String:=match p with|(x::r,t)=>if t=""then p else(x.push (YT a t)::r,"")|_=>p
def YA(a:Array Lean.Syntax):Lean.Syntax:=if a.size=1 then a[0]!else .node .none ``Lean.Parser.Term.app #[a[0]!,Lean.mkNullNode (a.extract 1 a.size)]
def YB(a:Array Lean.Syntax):Lean.Syntax:=let k:=a[0]!.getId;let r:=a.extract 1 a.size;if k=`b then .node .none ``Lean.Parser.Term.byTactic #[Lean.mkAtom "by",.node .none ``Lean.Parser.Tactic.tacticSeq #[.node .none ``Lean.Parser.Tactic.tacticSeq1Indented #[Lean.mkNullNode r]]]else .node .none (((k.replacePrefix `T `Lean.Parser.Term).replacePrefix `t `Lean.Parser.Tactic).replacePrefix `n `null) r
def YP(f:Array Lean.Syntax→Lean.Syntax)(p:List (Array Lean.Syntax)×String):List (Array Lean.Syntax)×String:=match p with|(x::y::r,_)=>(y.push (f x)::r,"")|p=>p
def Y0(a:Array Lean.Syntax)(s:String):Lean.Syntax:=YA (YF a (s.foldl (λp c=>if c=' 'then YF a p else if p.2.front='\''then(p.1,p.2.push c)else if c='('||c='{'then(#[]::(YF a p).1,"")else if c=')'then YP YA (YF a p)else if c='}'then YP YB (YF a p)else(p.1,p.2.push c)) ([#[]],""))).1.head!
def YM(t:List (String×String)):Lean.Name→Lean.Name|.str p s=>(match t.lookup s with|some v=>v.splitOn "."|_=>[s]).foldl .str (YM t p)|n=>n
def YS(x:Array Lean.Syntax):Lean.Syntax:=Lean.Syntax.mkSep x (Lean.mkAtom ",")
def YC(x:Array Lean.Syntax):Lean.Syntax:=Y0 #[YS (x.flatMap λe=>match e.isNatLit? with|some n=>(toString n).toList.toArray.map λc=>Y0 #[] ["_","rfl","{b {t.first 'first {n {group '| {t.tacticSeq {t.tacticSeq1Indented {n {t.lia 'lia {t.optConfig {n}}}}}}} {group '| {t.tacticSeq {t.tacticSeq1Indented {n {t.omega 'omega {t.optConfig {n}}}}}}}}}}","{b {t.decide 'decide {t.optConfig {n {t.configItem {t.posConfigItem '+ kernel}}}}}}","{T.syntheticHole '? '_ }"][c.toNat-49]!|_=>#[e])] "{T.anonymousCtor '⟨ #0 '⟩ }"
def YV:Nat→Lean.Syntax→Lean.Syntax
|0,s=>s
|n+1,s=>if s.isIdent then Y0 #[s] "{t.rcasesPat.one #0}"else if s.isOfKind ``Lean.Parser.Term.anonymousCtor then Y0 #[YS (s[1].getSepArgs.map λe=>Y0 #[YV n e] "{t.rcasesPatLo {t.rcasesPatMed {n #0}} {n}}")] "{t.rcasesPat.tuple '⟨ #0 '⟩ }"else Y0 #[] "{t.rcasesPat.ignore '_ }"
def YO(p e:Lean.Syntax):Lean.Syntax:=Y0 #[YV 9 p,e] "{t.obtain 'obtain {n {t.rcasesPatMed {n #0}}} {n} {n ':= {n #1}}}"
def YR(x:Lean.Syntax):Lean.Syntax:=if x.getId=`rfl then Lean.mkIdent (.num `r (x.getPos?.getD 0).byteIdx)else x
def YH:Nat→Lean.Syntax→Array Lean.Syntax
|0,_=>#[]
|n+1,s=>if s.getId=`rfl then#[YR s]else s.getArgs.flatMap (YH n)
def YQ(e:Lean.Syntax):Lean.Syntax:=if e.isNatLit?.isSome then Y0 #[e] "(L2.pv #0)"else e
def YI(t u:List (String×String))(m:Bool):Nat→Lean.Syntax→Lean.Syntax
|0,s=>s
|n+1,s=>s.rewriteBottomUp λs=>if s.isIdent then let i:=s.getId;if i.hasMacroScopes then s.setInfo .none else let v:=(t.lookup (i.toString (escape:=false))).getD "";if v.front=' 'then YI t u m n (Y0 #[] v)else if v.front='"'then Lean.Syntax.mkStrLit (String.ofList v.toList.tail)else let k:=YM t i;if k=`rfl then Lean.mkIdentFrom s k else Lean.mkIdent k else
let a:=s.getArgs;let d:=s.setInfo .none;if a.isEmpty then d else let k:=s.getKind.toString (escape:=false)
if let some v:=u.lookup k then Y0 a v else if k="null"then d
else if k="Lean.Parser.Term.app"then s.setArg 1 (Lean.mkNullNode (s[1].getArgs.flatMap λa=>match[`β,`γ,`δ].idxOf? a.getId with|some n=>.replicate (n+2) (Lean.mkHole .missing).raw|_=>#[a]))
else if k="choice"then(a.find? (·.isOfKind ``Lean.Parser.Term.anonymousCtor)).getD s
else if k="Lean.Parser.Term.anonymousCtor"then YC s[1].getSepArgs
else if k="term{_}"then let x:=s[1].getSepArgs;if x.size=1&&x[0]!.isOfKind ``Lean.Parser.Term.anonymousCtor then let y:=x[0]![1].getSepArgs;y.pop.foldr (λe r=>Y0 #[e,r] "(L2.ai #0 #1)") (Y0 #[y.back!] "(L2.aw #0)")else YC x
else if k="Lean.Parser.Tactic.tacticErw___"then Y0 #[YC ((s[2][1].getSepArgs.map (·[1])).push (Y0 #[] "{T.syntheticHole '? '_ }")),d] "{t.first 'first {n {group '| {t.tacticSeq {t.tacticSeq1Indented {n {t.refine 'refine #0}}}}} {group '| {t.tacticSeq {t.tacticSeq1Indented {n #1}}}}}}"
else if k="Lean.Parser.Tactic.tacticRwa__"then let x:=s[1][1].getSepArgs.map (·[1]);Y0 #[if x.size=1&&x[0]!.isNatLit?.isNone then x[0]!else YC x,d] "{t.first 'first {n {group '| {t.tacticSeq {t.tacticSeq1Indented {n {t.refine 'refine #0}}}}} {group '| {t.tacticSeq {t.tacticSeq1Indented {n #1}}}}}}"
else if k="Lean.Parser.Tactic.tacticLet__"then let d:=s[2][0];let p:=d[0];if d.isOfKind ``Lean.Parser.Term.letPatDecl&&p.isOfKind ``Lean.Parser.Term.anonymousCtor then(if p[1].getSepArgs.size<3 then YO p d[4]else Y0 #[Lean.Syntax.mkSep (#[Y0 #[] "{t.refine 'refine (_root_.GL {T.syntheticHole '? '_ })}",Y0 #[] "{t.intro 'intro {n y'y}}",YO (p.rewriteBottomUp YR) d[4],Y0 #[] "{t.subst 'subst {n y'y}}"]++(YH 9 p).map (YO (Lean.mkIdent `rfl) ·)) (Lean.mkAtom ";")] "{t.paren '( {t.tacticSeq {t.tacticSeq1Indented #0}} ') }")else Y0 a "{t.tacticHave__ 'have #1 #2}"
else if k="Lean.Parser.Term.letPatDecl"then(if s[0].isOfKind `«term[_]» then s.setArg 0 (YC s[0][1].getSepArgs)else d)
else if k="term_^_"then(if s[2].isNatLit?.isSome then d else Y0 a "(#0 _ _ #2)")
else if k="Vector.term#v[_,]"then Y0 #[YS (s[1].getSepArgs.map λe=>if e.isOfKind ``Lean.Parser.Term.dotIdent||e[0].isOfKind ``Lean.Parser.Term.dotIdent then Y0 #[e] "(some #0)"else e)] "{term[_] '[ #0 '] }"
else if k="Lean.Parser.Term.subst"&&s[0].isOfKind `«term[_]» then Y0 #[YS (s[0][1].getSepArgs.map λe=>if e.isOfKind `«term-_» then Y0 #[e[1]] "{t.rwRule {n '← } #0}"else Y0 #[e] "{t.rwRule {n} #0}"),s[2][0]] "{b {t.rwSeq 'rw {t.optConfig {n}} {t.rwRuleSeq '[ #0 '] } {n}} '; {t.exact 'exact #1}}"
else if k="Lean.Elab.Tactic.Ext.ext"then(if s[1].getNumArgs=0 then Y0 #[d] "{t.first 'first {n {group '| {t.tacticSeq {t.tacticSeq1Indented {n {t.lia 'lia {t.optConfig {n}}}}}}} {group '| {t.tacticSeq {t.tacticSeq1Indented {n {t.omega 'omega {t.optConfig {n}}}}}}} {group '| {t.tacticSeq {t.tacticSeq1Indented {n #0}}}}}}"else Y0 #[s[1][0][0][0],d] "{t.first 'first {n {group '| {t.tacticSeq {t.tacticSeq1Indented {n {t.cases 'cases {n {t.elimTarget {n} #0}} {n} {n}}}}}} {group '| {t.tacticSeq {t.tacticSeq1Indented {n #1}}}}}}")
else if k="Lean.Parser.Tactic.cases"&&s[1][0][0].getNumArgs>0&&s[3].getNumArgs=0 then Y0 #[s[1][0][0][0][0],s[1][0][1],d] "{t.first 'first {n {group '| {t.tacticSeq {t.tacticSeq1Indented {n {tacticBy_cases_:_ 'by_cases {n #0 ': } #1}}}}} {group '| {t.tacticSeq {t.tacticSeq1Indented {n #2}}}}}}"
else if k="Lean.Parser.Tactic.change"&&s[1].isOfKind `«term_=_»&&s[1][2].isIdent then Y0 #[s[1][0],s[1][2],s[2],d] "{t.first 'first {n {group '| {t.tacticSeq {t.tacticSeq1Indented {n {t.generalize 'generalize {n {t.generalizeArg {n} #0 '= #1}} #2}}}}} {group '| {t.tacticSeq {t.tacticSeq1Indented {n #3}}}}}}"
else if k="Lean.Parser.Term.explicit"then(if s[1].isOfKind ``Lean.Parser.Term.proj&&s[1][1].isToken ".."then s.setArg 1 s[1][0]else Y0 a "{T.proj #1 '.. length}")
else if k="Lean.Parser.Term.syntheticHole"&&s[1].isIdent then Y0 a "({T.dotIdent '. ref} #1)"
else if m=false then d
else if k="term#[_,]"then s[1].getSepArgs.foldr (λe r=>Y0 #[YQ e,r] "(L2.ae #0 #1)") (Y0 #[] "L2.ah")
else if k="Lean.Parser.Term.tuple"&&s[1].getNumArgs=0 then YC #[Lean.Syntax.mkNumLit "2224244"]
else if k="term_&&&_"then Y0 #[YQ s[0],YQ s[2]] "(L2.aU L2.cI #0 #1 {T.fun 'λ {T.basicFun {n _ _} {n} '=> rfl}})"
else if k="term_|||_"then Y0 #[YQ s[0],YQ s[2]] "(L2.aU L2.a9 #0 #1 {T.fun 'λ {T.basicFun {n _ _} {n} '=> rfl}})"
else if k="term_<<<_"then Y0 #[YQ s[0]] (if s[2].isNatLit?=some 0 then"(L2.aY L2.aV rfl T.cq PySem.boot_len (L2.ae #0 L2.ah))"else"(L2.aJ #0 rfl)")
else d
local macro_rules(kind:=Lean.Parser.Command.declaration)|x=>do if (x.getPos? true).isNone then throw .unsupportedSyntax else if x[1].isOfKind ``Lean.Parser.Command.example then return Lean.mkNullNode (x[1][2][1][1].getArgs.map λi=>Y0 #[i] "{Lean.Parser.Command.declaration {Lean.Parser.Command.declModifiers {n} {n} {n} {n} {n} {n} {n}} {Lean.Parser.Command.definition 'def {Lean.Parser.Command.declId #0 {n}} {Lean.Parser.Command.optDeclSig {n} {n}} {Lean.Parser.Command.declValSimple ':= Nat {Lean.Parser.Termination.suffix {n} {n}} {n}} {n}}}")else let r:=YI (YL "ε&none%η&Nat%θ&List%ι&some%ν& Prop%ο&Int%π&trans%ρ&true%ς&heap%τ&int%υ&upd%χ&false%ψ&inl%ω&this%Α&map%Β&symm%Γ&size%Δ&same%Ε&lst%Ζ&inr%Η&ref%Θ&tup%Ι&Str%Κ&elim%Λ&getD%Μ&Bool%Ν&objs%Ξ&length%Ο&Option%Ρ&imp%Τ&rfl%Υ& Inv X pins σ H s%Φ& amK _%Χ&\"self%Ψ& max x y%Ω&\"tuple%À&\"list%Á& aB C H r S a%Â&\"room%Ã&\"enumerate%Ä& eG X.prog X.w X.K X.mg X.base (dG X.prog X.w) k f fd ps sp%Å& eG X.prog X.w X.K X.mg X.base CX k f fd ps sp%Æ& cN CG CC H x r c gs ag W hd fp O%Ç&\"__init__%È& aX dI (aK cP (pv 1) ak) ak (bh _)%É&\"letters%Ê&\"rooms%Ë& S.joined c z u v%Ì& Inv X o D H s%Í& starEach es X.env%Î&\"object.__setattr__%Ï& I.a0.fresh Φ%Ð&\"step%Ñ& model prog w%Ò& Sum.ψ s%Ó&\"object.__init__%Ô& min x y%Õ& dG P w%Ö&\"__debug__%Ø& M11.pl z%Ù& aF st%Ú&\"reversed%Û&\"_law_letters%Ü& bC f k 0 n%Ý& aK dF (pv 1) ak%Þ&\"_law_number%ß&\"word%à&\"dict_keyiterator%á& S.way c%â& ip X x fns ixs scope cl%ã& Mv rs ps L D g x%ä&\"ValueError.__new__%å& word.take m%æ&\"start%ç&\"dict%è&\"_law_rules%é& θ Zh%ê& eI P w H h%ë& model X.prog X.w%ì& eU H k D E S%í&\"rules%î&\"_law_script%ï&\"__setattr__%ð& fj s.ς d es ep%ñ&\"list_iterator%ò&\"dict_itemiterator%ó& M16.fill (im U) w%ô&\"which%õ& cX st%ö& Good S pend R%ø& Binds X.K fd ps ds%ù&\"table%ú& XO x A.bQ (ι d) ρ%û& cf X.prog X.w%ü&\"forth%ý& dP B P w K M base N qual scope a d A c s H E%þ& M11.pl s%ÿ& NS H0 H lf d lr ts kvs found Tb%Ā& aX dI (aK cP Ý ak) ak (bh _)%ā&\"other%Ă& FuncData%ă& gK (S.gap c)%Ą&\"_law_word%ą&\"range%Ć&\"made%ć& υ H a o%Ĉ& rs.Α V.Η%ĉ& am6 e%Ċ& M20.Good TT (wy t) h%ċ& Heap%Č&\"type.__call__%č& max x m%Ď& S.way v%ď& dY st%Đ& au H I%đ& Expr%Ē&\"many%ē& eval e X.env%Ĕ& au.υ nt%ĕ& Sum.ψ i%Ė& M11.nx F%ė&\"moves%Ę&\"default%ę& wy ws r%Ě& I.tok _%ě& Inv (dP Õ P w K mg base N qual scope f cd A outer s H E) pins σ H1 s1%Ĝ& iC X pins σ H' x C dx s%ĝ& S.joined c z Ô Ψ%Ğ& amN _ (amN _ (jw t e))%ğ& aX oz (pv 2) dJ (bh _)%Ġ&\"StopIteration%ġ& M18.fill Im w%Ģ& Around%ģ&\"__next__%Ĥ& X.N.Nodup%ĥ&\"pending%Ħ& ws.take n%ħ& amN _ amR%Ĩ& World%ĩ& Program%Ī& Loc X.env.scope x%ī& Array Zl%Ĭ&\"first%ĭ&\"dict_items%Į& qG wi (jQ ixs) tt te%į& im (hW ws h)%İ& anl (ano ĉ (I.ok.Cw x c F t))%ı& g.word.take g.first%Ĳ& Txt K M A%ĳ& PE X o td%Ĵ& M11.aH L w%ĵ& K.In s.ς%Ķ&\"ways%ķ&\"rows%ĸ& Passes CX X E%Ĺ& Ch L R i r r'%ĺ&\"__getitem__%Ļ& excClassObj nm o a N bs n k sn sub r col s C z E B D ä%ļ& Vals dvs ds%Ľ& RelV y u%ľ& S.ay c%Ŀ& Array DictEntry%ŀ&\"reversed.__next__%Ł&\"reversed.__iter__%ł& ano ĉ I.ok.above%Ń& M11.pl (M12.st c)%ń& Tz n A B U V%Ņ&\"_law_table%ņ&\"_law_found%Ň& pB.Α V.Η%ň& ns.Α V.τ%ŉ& kQ (pv 5) (pv 3) set_list%Ŋ& g i j%ŋ& fnOf name qual params body scope X kV doc pm W d Y%Ō& M11.back w%ō& EP X a b Q%Ŏ& PE X e te%ŏ& PE X a ta%Ő& amZ _ b%ő& gu H k W O c d%Œ& IsTup s.ς a items%œ& Gl X x%Ŕ&\"object.__class__%ŕ&\"goings%Ŗ&\"behind%ŗ&\"__getattribute__%Ř& w.take n%ř& kp h o (l _ m) e%Ś& bY TT (wd u)%ś& ao (nI path)%Ŝ& Value.Η c.Ν.Γ%ŝ& Sum.ψ.inj z%Ş& s5.π (s79.π (O.π S))%ş& bD K H a xs%Š& Scope%š&\"front%Ţ& aK cP (pv 0) ak%ţ& String%Ť&\"_law_images%ť& fs.lookup f%Ŧ& fz S R ks%ŧ& Md L D g%Ũ&\"waiting%ũ&\"object%Ū&\"number%ū&\"agenda%Ŭ& nI S.bq%ŭ& bD.of b%Ů& ax e hd%ů& args_tuple_getitem β%Ű& aop (anT hd _)%ű& amJ _ e%Ų& I.base.free b o e a f%ų&\"home%Ŵ&\"__name__%ŵ& bZ X.stack%Ŷ& bC f k 0 N%ŷ& amD f%Ÿ& amD e%Ź& aM a (aM b (aM c z))%ź& Or.ψ Τ%Ż& M12.st k%ż&\"BaseException%Ž& Stmt%ž&\"ValueError.__init__%ſ& θ Dt%ϊ& mI X.K C%ϋ& M11.Tab n T%ό&\"max%ύ&\"elders%ώ&\"called%Ϗ& fX R c z S.q%ϐ& eval o X.env%ϑ& ao (nI l)%ϒ& PE X e ty%ϓ& PE X b tb%ϔ&\"value%ϕ&\"slice%ϖ&\"by_home%ϗ& min x m%Ϙ& bN ah%ϙ& amD b%Ϛ& yl K x qual st a fd%ϛ& eI X.prog X.w H' h'%Ϝ& xa Τ T.mC (pv 0)%ϝ& M16.fill (im W) w%Ϟ& M16.fill (im W) u%ϟ&\"int%Ϡ& gY xs lo hi%ϡ& eQ f x Ü m%Ϣ& S.sub y c q%ϣ& M11.back ns%Ϥ&\"dict.update.loop%ϥ& gs.set n (ι g')%Ϧ& cC items.Γ 0 lo%ϧ& Sum.ψ z%Ϩ& M12.st i%ϩ& wO s.ς x dx C mA%Ϫ& lT S pend S'%ϫ& base.StaysIn s.ς%Ϭ& aB a H r S O%ϭ& Tab L T%Ϯ& Loc X.env.scope f%ϯ&\"turned%ϰ&\"setdefault%ϱ&\"limit%ϲ&\"heard%ϳ&\"_law_other%ϴ&\"BaseException.__getattribute__%ϵ& θ.replicate k.toNat a.toArray%Ϸ& pA.Α V.Η%ϸ& isNs_of_in XK i%Ϲ& cp X U%Ϻ& bC f k m n%ϻ& amD u%Q1& aM a z%Q2& aK cZ (pv 3) ak%Q3& aK cP Ý (pv 2)%Q4& Rc r ta tb%X0& F.args_tuple_iterator_next_1 _%O0& PT X a tA%Z0& PE X o ta%Z1&\"rule%Z2&\"rear%Z3& eY T ws%Z4& ao (nI (dE S))%Z5& amV _ f%Z6& M18.fill (Im r u) (q.take i)%Z7&\"_law_step%Z8&\"_law_many%Z9& sO R S.bj%G1& rs.take i%G2& ps.zip us%B0& model P w%r8& ls.take i%i0& kX á z d%i1& j b o e f%i8& iK (pv 2)%l3& iK (pv 0)%l5& g.Α V.Η%l6& f.Α V.Η%l7& cD (pv 1)%l9& cD (pv 0)%Za0&Option.some.inj%amB&List.getElem?_eq_getElem%amC&PySem.wpAny_bind%amD&List.mem_of_getElem?%amE&List.length_map%amF&List.getElem?_eq_some_iff%amG&List.length_append%amH&List.getD_eq_getElem?_getD%amI&List.mem_singleton%amJ&PySem.Heap.get?_push_of_some%amK&Nat.le_refl%amL&PySem.wpAny_pure%amM&Nat.le_trans%amN&List.mem_append_right%amO&List.mem_append%amP&List.getElem?_append_left%amQ&List.getElem?_map%amR&List.mem_cons_self%amS&Nat.lt_of_le_of_lt%amT&List.length_cons%amU&List.getElem?_append_right%amV&List.mem_append_left%amW&List.mem_cons%amX&PySem.F.plainAttrs_list%amY&if_neg%amZ&List.mem_cons_of_mem%am0&PySem.Heap.get?_push_size%am1&if_pos%am2&PySem.F.slot_list_append%am3&PySem.F.type_list_append%am4&List.size_toArray%am5&PySem.PassesOwn.never%am6&PySem.Heap.lt_size%am7&List.length_set%am8&List.map_append%am9&List.append_nil%ana&List.getElem?_eq_none%anb&Int.toNat_natCast%anc&List.length_take%ane&of_decide_eq_true%anf&beq_eq_false_iff_ne%ang&PySem.boot_len%anh&decide_eq_true%ani&Nat.zero_le%anj&List.mem_range%ank&List.length_nil%anl&Nat.ne_of_lt%anm&List.mem_map%ano&Nat.lt_of_lt_of_le%anp&List.length_range%anq&List.nodup_cons%anr&PyProof.Rows.slot_tuple_getitem%ans&List.append_assoc%ant&List.getElem?_of_mem%anu&List.map_map%anv&List.getElem?_set_self%anw&PySem.wpAny_newObj_type%anx&PySem.Heap.get?_update_self%anz&Bool.false_ne_true%anA&List.mem_filter%anB&PySem.wpAny_field%anC&List.nodup_append%anD&List.take_succ%anE&List.take_of_length_le%anF&PyProof.Rows.boot_list%anG&decide_eq_false%anH&PySem.Heap.get?_update_other%anI&List.length_drop%anJ&List.take_length%anK&List.not_mem_nil%anL&PySem.wpAny_callSpecial?_slot%anM&PyProof.Rows.boot_isinstance%anN&List.length_filter_le%anO&PySem.Calls.spliced_cons%anP&PyProof.Rows.callWith_type1%anQ&List.getElem?_set_ne%anR&PySem.wpAny_call_entry%anS&List.mem_flatMap%anT&PySem.Obj.data_mapFields%anU&decide_eq_true_iff%anV&PyProof.Rows.boot_tuple%anW&PySem.Heap.SameBut.update%anY&Classical.byContradiction%anZ&PySem.Calls.callWith_builtin%an0&List.map_cons%an1&Nat.mul_le_mul_right%an2&List.take_append_drop%an3&List.getElem?_range%an4&List.map_congr_left%an5&Ne.symm%an6&Bool.and_eq_true%an7&congrArg%an8&Option.map_eq_some_iff%an9&PySem.wpAny_holding%aoa&PySem.wpAny_Call_Name_kw%aob&PySem.wpAny_setField_rec%aoc&List.length_singleton%aod&List.filter_cons%aoe&PySem.F.plainAttrs_dict%aof&Nat.lt_succ_of_lt%aog&Array.getElem?_eq_some_iff%aoh&PySem.Calls.evalArgs_plain%aoi&Nat.sub_self%aoj&List.filter_append%aok&PySem.wpAny_mono%aol&PySem.W.kia_one%aom&Nat.min_eq_left%aon&List.range_succ%aoo&Nat.lt_succ_self%aop&PySem.Obj.isFreed_of_fields%aoq&PySem.Calls.spliced_nil%aor&List.pairwise_map%aos&List.dropLast_concat_getLast%aot&PySem.wpAny_setField%aou&Nat.lt_irrefl%aov&Int.neg_neg%aow&List.length_reverse%aox&List.ext_getElem?%aoy&List.flatMap_append%aoz&List.flatMap_cons%aoA&List.nodup_nil%aoB&List.getElem?_eq_none_iff%aoC&Nat.ne_of_gt%aoD&PySem.F.slot_dict_get%aoE&List.length_erase_of_mem%aoF&List.eq_nil_of_length_eq_zero%aoG&PySem.codeAny_call_builtin%aoH&PySem.F.slot_dict_setdefault%aoI&Nat.le_of_lt%aoJ&PySem.wpAny_pyIter_list%aoK&Array.length_toList%aoL&Bool.eq_iff_iff%aoM&PySem.mem_of_lookup%aoN&List.replicate_succ%aoO&List.foldl_cons%aoP&List.mem_map_of_mem%aoQ&List.filter_sublist%aoR&PySem.F.slot_tuple_iterator_next%aoS&PySem.F.excBase_ValueError%aoT&Array.getElem?_toList%aoU&PySem.builtinLookup_eq_fast%aoV&PySem.tupleKind_room_in1%aoW&PyProof.Rows.boot_abs%aoX&List.mem_or_eq_of_mem_set%aoY&List.drop_eq_getElem_cons%aoZ&List.mem_of_mem_take%ao0&PySem.wpAny_truthy_bool%ao1&PySem.wpAny_passesOwn%ao2&List.getElem?_take_of_lt%ao3&PySem.wpAny_updateSeq%ao4&List.nil_append%ao5&PySem.wpAny_Call_method%ao6&List.foldl_append%ao7&not_false_eq_true%ao8&List.Pairwise.imp_of_mem%ao9&PySem.wpAny_typeOf%apa&PySem.call_meetsIn%apb&or_false%apc&List.cons_append%apd&PySem.F.plain_max_loop%ape&Nat.min_eq_right%apf&PySem.F.slot_dict_itemiterator_next%apg&List.nodup_range%aph&List.getElem_mem%apj&PySem.Heap.size_push%apk&PySem.F.entry_dict_get%apl&List.find?_cons_of_neg%apm&PySem.W.callWith_K%apn&PySem.F.slot_dict_keyiterator_next%apo&List.getElem?_take%apq&List.getElem?_drop%apr&PySem.wpAny_execs_nil%aps&PySem.wpAny_of_eq%apt&PySem.codeAny_mono%apu&Nat.mul_comm%apv&PySem.wpAny_loadPart'%apw&List.find?_cons%apx&PySem.F.slot_dict_pop%apy&PySem.wpAny_notOrdered_dict%apz&Nat.lt_or_ge%apA&Nat.add_mul%apB&Int.emod_nonneg%apC&PySem.Obj.cls_mapFields%apD&List.flatten_cons%apE&PySem.wpAny_dictEntries%apF&PySem.plainId_quiet%apG&List.filter_congr%apH&List.getElem?_inj%apI&Decidable.not_not%apJ&PySem.wpAny_loadPart_at%apK&PySem.Around.under_plainId%apL&List.mem_iff_getElem%apM&PySem.wpAny_seqItems%apN&PySem.isSubtype_type%apO&Nat.mul_le_mul%apP&Nat.max_eq_right%apQ&decide_eq_decide%apR&List.all_eq_true%apS&List.map_reverse%apT&PySem.W.hideAll_get%apU&Nat.mul_le_mul_left%apV&PySem.wpAny_rule%apW&Nat.le_of_eq%apX&PySem.wpAny_call%apY&Option.isSome_iff_exists%apZ&PySem.F.args_tuple_add_2%ap0&PySem.call_meets%ap1&Nat.lt_trans%ap2&List.map_set%ap3&Int.zero_add%ap4&PySem.F.slot_list_extend%ap5&PySem.F.type_list_extend%ap6&PySem.wpAny_standAt%ap7&PySem.F.entry_tuple_add%ap8&PySem.typeLookup_type%ap9&PySem.wpAny_attempt%aqa&Bool.or_eq_true%aqb&PySem.codeAny_builtin%aqc&Nat.max_eq_left%aqd&List.filter_cons_of_pos%aqe&Int.emod_lt_of_pos%aqf&PySem.F.slot_tuple_add%aqg&List.find?_cons_of_pos%aqh&Option.map_eq_none_iff%aqi&if_true%aqj&List.reverse_cons%aqk&PySem.wpAny_letGo%aql&Nat.le_total%aqm&Nat.succ_mul%aqn&Nat.zero_add%aqo&List.lookup_cons%aqp&Nat.succ_le_succ%aqq&if_false%aqr&List.map_take%aqs&List.map_drop%aqt&beq_iff_eq%aqu&Nat.le_succ%DT& top 6%qP& top 7%yH& top 11%LR& top 12%v7& top 13%yI& top 15%Sg& top 16%yJ& top 17%yK& top 22%yL& top 23%yM& top 26%Sh& top 27%LV& top 29%Bs& top 31%ud& top 33%Si& top 36%uf& top 37%sR& top 38%jW& top 40%sS& top 41%yN& top 42%nB& top 43%DU& top 44%ug& top 45%qQ& top 46%v9& top 47%Bu& top 49%yO& top 50%pX& top 51%wc& top 52%oV& top 53%nF& top 54%kB& top 55%sT& top 56%yP& top 57%uh& top 58%qR& top 59%Sj& top 60%mO& inClass (top 3) 0%oW& inClass (top 8) 0%pY& inClass (top 8) 1%wg& inClass (top 8) 2%mP& inClass (top 9) 0%kD& inClass (top 9) 1%pZ& inClass (top 9) 2%oX& inClass (top 9) 3%qS& inClass (top 9) 4%p5& inClass (top 9) 5%qT& inClass (top 9) 6%sU& inClass (top 9) 7%qU& inClass (top 9) 8%qV& inClass (top 9) 9%mQ& inClass (top 9) 10%wm& inClass (top 19) 0%oY& inClass (top 25) 0%ui& inClass (top 25) 1%wq& inClass (top 25) 2%yQ& inClass (top 25) 3%sV& inClass (top 25) 4%o5& inClass (top 25) 5%sW& inClass (top 25) 6%nH& inClass (top 25) 7%uj& inClass (top 25) 8%p6& inClass (top 25) 9%kZ& inClass (top 25) 10%p7& inClass (top 25) 11%o6& inClass (top 39) 0%p8& inClass (top 39) 1") (YL "Lean.Parser.Term.omission&{b {t.decide 'decide {t.optConfig {n {t.configItem {t.posConfigItem '+ kernel}}}}}}%term∅&{b {t.first 'first {n {group '| {t.tacticSeq {t.tacticSeq1Indented {n {t.lia 'lia {t.optConfig {n}}}}}}} {group '| {t.tacticSeq {t.tacticSeq1Indented {n {t.omega 'omega {t.optConfig {n}}}}}}}}}}%Lean.Parser.Tactic.omega&{t.first 'first {n {group '| {t.tacticSeq {t.tacticSeq1Indented {n {t.lia 'lia {t.optConfig {n}}}}}}} {group '| {t.tacticSeq {t.tacticSeq1Indented {n {t.omega 'omega {t.optConfig {n}}}}}}}}}%Lean.Parser.Tactic.decide&{t.decide 'decide {t.optConfig {n {t.configItem {t.posConfigItem '+ kernel}}}}}%Lean.Parser.Tactic.cbv&{t.grind 'grind {t.optConfig {n {t.configItem {t.negConfigItem '- abstractProof}}}} {n} {n} {n}}%Lean.Parser.Tactic.tacticTrivial&{t.first 'first {n {group '| {t.tacticSeq {t.tacticSeq1Indented {n {t.exact 'exact ({T.dotIdent '. inl} rfl)}}}}} {group '| {t.tacticSeq {t.tacticSeq1Indented {n {t.exact 'exact ({T.dotIdent '. inr} rfl)}}}}} {group '| {t.tacticSeq {t.tacticSeq1Indented {n {t.exact 'exact ({T.dotIdent '. inr} ({T.dotIdent '. inl} rfl))}}}}} {group '| {t.tacticSeq {t.tacticSeq1Indented {n {t.exact 'exact ({T.dotIdent '. inr} ({T.dotIdent '. inr} rfl))}}}}} {group '| {t.tacticSeq {t.tacticSeq1Indented {n {t.assumption 'assumption }}}}} {group '| {t.tacticSeq {t.tacticSeq1Indented {n {t.tacticTrivial 'trivial }}}}}}}%term_\\_&{term_=_ #0 '= (some #2)}%coeSortNotation&{T.proj #1 '. heap.objs.size}%coeFunNotation&{T.proj #1 '. length}%coeNotation&({T.dotIdent '. ref} #1)%termS!_&{b {t.intro 'intro {n _ z}} '; {t.cases 'cases {n {t.elimTarget {n} z}} {n} {n}}}%Std.termF!_&{b {t.intro 'intro {n z}} '; {t.cases 'cases {n {t.elimTarget {n} z}} {n} {n}}}%term_<*_&{T.structInst '{ {n {n #0} 'with } {T.structInstFields {n {T.structInstField {T.structInstLVal heap {n}} {n {n} {n} {T.structInstFieldDef ':= {n} #2}}}}} {T.optEllipsis {n}} {n} '} }%term_>>>_&{T.structInst '{ {n} {T.structInstFields {n {T.structInstField {T.structInstLVal cls {n}} {n {n} {n} {T.structInstFieldDef ':= {n} ({T.dotIdent '. type} #0)}}} ', {T.structInstField {T.structInstLVal data {n}} {n {n} {n} {T.structInstFieldDef ':= {n} #2}}}}} {T.optEllipsis {n}} {n} '} }%term_⁻¹&(PySem.wpAny (PySem.model {T.proj #0 '. prog} {T.proj #0 '. w}))%term_<|>_&(PySem.wpAny (PySem.model #0 #2))%term_•_&({T.proj #0 '. heap.get?} #2)%term~~~_&(List.range #1)") ((←Lean.Macro.getCurrNamespace)=`Lake.K75) 9 x;return if x[1].isOfKind ``Lean.Parser.Command.definition&&x[0].getArgs.all (·.isNone)then r.setArg 0 (Y0 #[] "{Lean.Parser.Command.declModifiers {n} {n} {n} {n} {n {Lean.Parser.Command.noncomputable 'noncomputable }} {n} {n}}")else r
theorem GL {p:Prop}(h:let q:Prop:=p;q):p:=h
abbrev Zg:=List Int
abbrev Zh:=List Nat
abbrev Zi:=Option Nat
abbrev Zj:=Option Int
abbrev Zk:=List PySem.Value
abbrev Zl:=Option PySem.Value
abbrev Zm:=Array PySem.Value
abbrev Zn:=List PySem.Addr
abbrev Zo:=Option PySem.Addr
abbrev Zp:=List PySem.Str
abbrev Zq:=List PySem.Env
abbrev Zr:=List PySem.Expr
abbrev Zs:=PySem.Addr
abbrev Zt:=PySem.Value
abbrev Zu:=PySem.Shared
abbrev Za1:=PySem.W.Frag
abbrev Za2:=Nat->Int->Nat->Prop
abbrev Za3:=List Zg
def Za4 (n:Nat)(h:n<=PySem.sizeLine:=by decide):n<=PySem.sizeLine:=h
namespace Lake
open PySem PySem.Spec
open PyProof.Rows hiding St st
open PySem.W (instObj methodObj hideAll lookIn plainGet hasDictIn findIn plainGet_of isFn plainOver takerIn makesIn emptyDict makes_of keepIn mroIn kitOne fnOf codeIn excIn isNs_of_in mg_of exmOne)
namespace L2
abbrev Key:=Sum Int Str
abbrev Zd:=List Key
def uV:Key->Zt->Μ
 |.ψ k,v=>Value.isInt k v
 |.Ζ x,v=>Value.isStrOf x v
def aek (w:Ĩ):Key->ο
 |.ψ k=>hashInt k
 |.Ζ x=>hashStr w x
theorem eV:∀{k:Key}{v:Zt},uV k v=ρ->(∃i t,k=Sum.ψ i/\v=Value.τ i t)\/(∃x t,k=Sum.Ζ x/\v=Value.str x t)
 |.ψ i,v,h=>by let[t,e]:=Value.isInt_shape (k:=i) (v:=v) h;rwa[.ψ {i,t,2,e}]
 |.Ζ x,v,h=>by let[t,e]:=Value.isStrOf_shape (x:=x) (v:=v) h;rwa[.Ζ {x,t,2,e}]
def JF (i:ο)(t:Tok):uV (.ψ i) (.τ i t)=ρ:=by simp[uV,Value.isInt]
def JG (x:Ι)(t:Tok):uV (.Ζ x) (.str x t)=ρ:=by simp[uV,Value.isStrOf]
def VA (a b:ο):decide ((Sum.ψ a:Key)=Sum.ψ b)=(a==b):=by cbv
def VB (a b:Ι):decide ((Sum.Ζ a:Key)=Sum.Ζ b)=decide (a=b):=by cbv
def VC (a:ο)(b:Ι):decide ((Sum.ψ a:Key)=Sum.Ζ b)=χ:=anG (λq=>nomatch q)
def VD (a:Ι)(b:ο):decide ((Sum.Ζ a:Key)=Sum.ψ b)=χ:=anG (λq=>nomatch q)
def cf (c:ĩ)(w:Ĩ):PySem.KeyKind c w Key where
 is:=uV
 hash:=aek w
 inj:=λv a b l f=>by
  rcases eV l with ⟨i,t,Τ,rfl⟩|⟨x,t,Τ,rfl⟩
  .rcases eV f with ⟨j,u,Τ,e⟩|⟨y,u,Τ,e⟩
   .cbv
   cbv
  .rcases eV f with ⟨j,u,Τ,e⟩|⟨y,u,Τ,e⟩
   .rwa[nomatch e]
   cbv
 byValue:=λk v h=>by rcases eV h with ⟨i,t,Τ,rfl⟩|⟨x,t,Τ,rfl⟩ <;> rfl
 pyHash:=λd h=>by
  rcases eV d with ⟨i,t,Τ,rfl⟩|⟨x,t,Τ,rfl⟩
  .rwa[wpAny_pyHash_int h]
  .rwa[wpAny_pyHash_str h]
 eqBool:=λm d h=>by
  rcases eV m with ⟨i,t,Τ,rfl⟩|⟨x,t,Τ,rfl⟩
  .rcases eV d with ⟨j,u,Τ,rfl⟩|⟨y,u,Τ,rfl⟩
   .rw[VA]at h;rwa[wpAny_eqBool_int h]
   .rw[VC]at h;rwa[SeqAt.EqAt.int_str i t y u δ h]
  .rcases eV d with ⟨j,u,Τ,rfl⟩|⟨y,u,Τ,rfl⟩
   .rw[VD]at h;rwa[SeqAt.EqAt.str_int x t j u δ h]
   .rw[VB]at h;rwa[wpAny_eqBool_str h]
 «strs»:=λk x t v h=>by
  rcases eV h with ⟨i,u,Τ,e⟩|⟨y,u,Τ,e⟩
  .rwa[nomatch e]
  .injection e with g _
   subst g;cases v <;> rfl
def Fx (a:ĩ)(w:Ĩ)(i:ο)(t:Tok):(cf a w).is (.ψ i) (.τ i t)=ρ:=JF i t
def Fy (a:ĩ)(w:Ĩ)(x:Ι)(t:Tok):(cf a w).is (.Ζ x) (.str x t)=ρ:=JG x t
end L2
variable {n m i j:Nat}{a b c d:PySem.Addr}{z y:Int}{v u:PySem.Value}{x f:PySem.Str}{e:PySem.Expr}{p:PySem.Pos}{K:Za1}{Q E:PySem.Value->PySem.Shared->Prop}{s t:PySem.Shared}{P:PySem.Program}{w:PySem.World}{h g:PySem.Heap}{R:Za2}{A:PySem.Around}{o:List (PySem.Addr×PySem.Obj)}{M:PySem.Str->Option PySem.Value}{l:Zg}{N:List PySem.Value}{B:Zh}{W:Za3}{U:Unit->PySem.Shared->Prop}{C:List PySem.Expr}{F:List PySem.Addr}{Z:List PySem.Str}
namespace L2
inductive V where
 |non|bl (b:Μ)|τ (i:ο)|str (x:Ι)|pO (b:Array UInt8)|Cv (b:UInt64)|Η (a:Zs)|ty (n:ţ)
 deriving DecidableEq
abbrev Zc:=Option V
abbrev Zb:=List V
def RelV:V->Zt->ν
 |.non,u=>u=Value.ε
 |.bl b,u=>u=Value.bool b
 |.τ i,u=>∃t,u=Value.τ i t
 |.str x,u=>∃t,u=Value.str x t
 |.pO b,u=>∃t,u=Value.bytes b t
 |.Cv b,u=>∃t,u=Value.float b t
 |.Η a,u=>u=Value.Η a
 |.ty n,u=>u=Value.type n
abbrev Vals:Zb->Zk->Prop:=Paired RelV
def Vals.Ξ {xs:Zb}{us:Zk}(r:Vals xs us):@xs=@us:=Paired.Ξ r
theorem Vals.get:∀{b:Zb}{a:Zk}{i:η}{x:V},Vals b a->b[i]?\x->∃u,a[i]?\u/\RelV x u
 |_,_,_,_,.nil,e=>by simp at e
 |_,_,0,_,.cons r _,e=>by simp at e;subst e;rwa[12,r]
 |_,_,i+ 1,x,.cons _ t,e=>by let[u,d,c]:=Vals.get (i:=i) (x:=x) t (by simpa using e);rwa[u,by simpa using d,c]
theorem Vals.set {x:V}(r:RelV x u):∀{xs:Zb}{us:Zk}(i:η),Vals xs us->Vals (xs.set i x) (us.set i u)
 |_,_,_,.nil=>.nil
 |_,_,0,.cons _ t=>.cons r t
 |_,_,i+ 1,.cons q t=>.cons q (Vals.set r i t)
theorem Vals.append:∀{a ys:Zb}{b ws:Zk},Vals a b->Vals ys ws->Vals (a++ys) (b++ws)
 |_,_,_,_,.nil,s=>s
 |_,_,_,_,.cons r t,s=>.cons r (Vals.append t s)
theorem Vals.take:∀{xs:Zb}{us:Zk}(n:η),Vals xs us->Vals (xs.take n) (us.take n)
 |_,_,0,_=>.nil
 |_,_,_+ 1,.nil=>.nil
 |_,_,n+ 1,.cons r t=>.cons r (Vals.take n t)
theorem Vals.drop:∀{xs:Zb}{us:Zk}(n:η),Vals xs us->Vals (xs.drop n) (us.drop n)
 |_,_,0,r=>r
 |_,_,_+ 1,.nil=>.nil
 |_,_,n+ 1,.cons _ t=>Vals.drop n t
def fF:Zc->Zl->ν
 |ι v,ι u=>RelV v u
 |ε,ε=>True
 |_,_=>False
def KV {a:Type}:θ (a×V)->θ (a×Zt)->ν:=Paired λ(p:a×V)(q:a×Zt)=>p.1=q.1/\RelV p.2 q.2
def kV:Key->V
 |.ψ i=>.τ i
 |.Ζ x=>.str x
inductive HO where
 /-- a list -/
 |Ε (xs:Zb)
 /-- a tuple (never changes) -/
 |Θ (xs:Zb)
 /-- a dict whose keys are ints and texts;one whose keys are tuples of ints and texts (the empty one is both) -/
 |dK (kvs:θ (Key×V))|dT (kvs:θ (Zd×V))
 /-- a set of ints:its members,its Γ -/
 |set (S:ο->Μ) (n:η)
 /-- an instance of the class at C,its dict at dx,its attributes -/
 |ins (C dx:Zs) (fs:θ (Ι×V))
 /-- the dict of the instance at x -/
 |own (x:Zs)
 /-- the dict of an exception -/
 |xd (fs:θ (Ι×V))
 /-- a bound method,f of x -/
 |met (f x:Zs)
 /-- a range object lo,lo+ 1,.. below hi -/
 |mF (lo hi:ο)
 /-- a thing that is known to the object (the script;a dict while a loop walks it):read,never written while it is so -/
 |dz (o:Obj) (u:HO)
 /-- a code object's table -/
 |sI (ps:Zm)
 /-- any other thing,by what is ρ of its one object (a def of ak2 own:ak8 a S n:=HO.ext λh=>..) -/
 |ext (φ:Heap->ν)
abbrev Hp:=Zs->Option HO
def υ (H:Hp)(a:Zs)(o:HO):Hp:=λb=>if b=a then ι o else H b
def aj {H:Hp}{o:HO}:υ H a o a\o:=by unfold υ;cbv
def aq {H:Hp}{o:HO}(h:b≠a):υ H a o b=H b:=by unfold υ;rw[amY h]
def T6 {H:Hp}{o u:HO}:υ ć a u=υ H a u:=by funext b;unfold υ;cbv
def bF {H:Hp}{o u:HO}(h:H a\o)(c:H b\u)(d:o≠u):a≠b:=by cbv
def ax {H:Hp}{o:HO}(h:H a\o)(c:H b=ε):a≠b:=by cbv
section
variable (P:Program) (w:World)
def cu (H:Hp)(h:ċ)(a:Zs):HO->ν
 |.Ε xs=>@xs<=sizeLine/\∃(c:Zk)(n:η),Vals xs c/\h.get? a\(À>>>.seq c.toArray n)
 |.Θ xs=>@xs<=sizeLine/\∃c:Zk,Vals xs c/\IsTup h a c.toArray
 |.dK b=>@b<=sizeLine/\(a==sysModules)=χ/\∃j,KV b j/\h.DictOf (cf P w) a j
 |.dT b=>@b<=sizeLine/\(a==sysModules)=χ/\∃xs:θ (Zd×Zs×Zt),
  Paired (λ(p:Zd×V)(q:Zd×Zs×Zt)=>p.1=q.1/\H q.2.1\.Θ (p.1.Α kV)/\RelV p.2 q.2.2) b xs/\∃o l s,h.get? a\o/\o.ExactDict/\o.data=.dict l s/\l.toList=xs.Α (entryOfKey (tupleKind (cf P w)))/\(xs.Α (·.1)).Nodup
 |.set S n=>h.SetOf (intKind P w) a S n
 |.ins C e fs=>H e\.own a/\@fs<=1000/\e≠a/\h.get? a\instObj C e/\∃d,h.Ns1 e d/\(∀f,fF ť (d f))/\PySem.Within d (fs.Α (·.1))
 |.own _=>∃o,h.get? a\o
 |.xd fs=>∃d,h.Ns1 a d/\∀f,fF ť (d f)
 |.mF lo r=>∃t u v,h.get? a\(ą>>>.fields #[.τ lo t,.τ r u,.τ 1 v])
 |.dz o u=>h.get? a\o/\cu H h a u
 |.sI m=>h.get? a\{ cls:=.ε,data:=.fields m }
 |.met f x=>h.get? a\(methodObj ?f ?x)
 |.ext g=>g h/\(∃o,h.get? a\o)/\∀k i:Heap,g k->(∀o,k.get? a\o->i.get? a\o)->g i
def eI (H:Hp)(h:ċ):ν:=∀a o,H a\o->cu P w H h a o
end
section
variable {P:Program}{w:World}{H H':Hp}{h h':Heap}{a:Zs}{o:HO}
def cu.lt (x:cu P w H h a o):a<h.Ν.Γ:=by
 cases o with
 |Ε c=>let[_,_,_,_,e]:=x;rwa[am6 e]
 |Θ c=>let[_,_,_,p]:=x;rwa[p.lt]
 |dK b=>let[_,_,_,_,o,_,_,e,_]:=x;rwa[am6 e]
 |dT b=>let[_,_,_,_,o,_,_,e,_]:=x;rwa[am6 e]
 |set S n=>let[o,_,_,_,e,_]:=x;rwa[am6 e]
 |ins C dx fs=>let[_,_,_,e,_]:=x;rwa[am6 e]
 |own y=>let[_,e]:=x;rwa[am6 e]
 |xd fs=>let[_,⟨_,_,_,e,_⟩,_]:=x;rwa[am6 e]
 |mF lo i=>let[_,_,_,e]:=x;rwa[am6 e]
 |dz ob u=>let[e,_]:=x;rwa[am6 e]
 |sI d=>exact am6 (show h.get? a=ι _ from x)
 |met f y=>exact am6 (show h.get? a=ι _ from x)
 |ext g=>let[_,⟨_,e⟩,_]:=x;rwa[am6 e]
theorem Paired.NX {g e:Type}{F G:g->e->ν}:∀{c:θ g}{d:θ e},Paired F c d->(∀a b,F a b->G a b)->Paired G c d
 |_,_,.nil,_=>.nil
 |_,_,.cons r t,f=>.cons (f^r) (Paired.NX t f)
def cu.iV (x:cu P w H h a o)(k:∀b u,(b=a\/H b\.own a)->h.get? b\u->h'.get? b\u)(G:∀b,H b\.own a->H' b\.own a)(D:∀b l,H b\.Θ l->H' b\.Θ l):cu P w H' h' a o:=by
 induction o with
 |Ε l=>let[z,j,n,r,e]:=x;rwa[z,j,n,r,k β (.ψ Τ) e]
 |Θ l=>let[z,j,r,ob,e,c]:=x;rwa[z,j,r,ob,k β (.ψ Τ) e,c]
 |dK m=>let[z,y,E,r,ob,g,i,e,c]:=x;rwa[z,y,E,r,ob,g,i,k β (.ψ Τ) e,c]
 |dT m=>let[z,y,l,r,ob,g,i,e,c]:=x;rwa[z,y,l,Paired.NX r λp q z=>{z.1,D^z.2.1,z.2.2},ob,g,i,k β (.ψ Τ) e,c]
 |set S n=>let[ob,g,i,t,e,c]:=x;rwa[ob,g,i,t,k β (.ψ Τ) e,c]
 |ins C dx fs=>let[d,z,ne,e,s,⟨A,g,i,F,c⟩,r]:=x;rwa[G _ d,z,ne,k β (.ψ Τ) e,s,{A,g,i,k β (.Ζ d) F,c},r]
 |own y=>let[ob,e]:=x;rwa[ob,k β (.ψ Τ) e]
 |xd fs=>let[s,⟨A,g,i,e,c⟩,r]:=x;rwa[s,{A,g,i,k β (.ψ Τ) e,c},r]
 |mF lo L=>let[t,u,v,e]:=x;rwa[t,u,v,k β (.ψ Τ) e]
 |dz ob u I=>let[e,q]:=x;rwa[k β (.ψ Τ) e,I q]
 |sI B=>let e:h.get? a\{ cls:=.ε,data:=.fields B }:=x;show h'.get? a\{ cls:=.ε,data:=.fields B };rwa[k a _ (.ψ Τ) e]
 |met f y=>let e:h.get? a\(methodObj ?f ?y):=x;show h'.get? a\methodObj ?f ?y;rwa[k a _ (.ψ Τ) e]
 |ext J=>let[p,⟨o,e⟩,st]:=x;rwa[st β p λo q=>k β (.ψ Τ) q,{o,k β (.ψ Τ) e},st]
def eI.lt (x:ê)(e:H a\o):a<h.Ν.Γ:=(x a o e).lt
def eI.fresh (x:ê)(e:h.Ν.Γ<=a):H a=ε:=by
 cases q:H a with
 |ε=>rfl
 |ι u=>exact absurd (ano (x.lt q) e) (aou _)
def eI.kept (x:ê)(k:∀b u,h.get? b\u->h'.get? b\u):eI P w H h':=λa o e=>(x a o e).iV (λb u _ q=>k b u q) (λ_ q=>q) λ_ _ q=>q
def eI.laid (x:ê)(k:∀b u,h.get? b\u->h'.get? b\u)(g:h.Ν.Γ<=a)(new:cu P w ć h' a o):eI P w ć h':=λb u e=>by
 let f:=x.fresh g;cases d:b=a
 .subst d;rw[aj]at e;cbv
 .rw[aq d]at e;rwa[(x b u e).iV (λc v _ q=>k c v q) (λc q=>[aq (ax q f)]▸q) λc i q=>[aq (ax q f)]▸q]
end
def Rd (H:Hp)(a:Zs)(u:HO):ν:=H a\u\/∃o,H a\(.dz o u)
def Rd.ok {H:Hp}{u:HO}(r:Rd H a u)(x:ê):cu P w H h a u:=by
 rcases r with r|⟨o,r⟩
 .rwa[x a u r]
 .let[_,q]:=x a _ r;rwa[q]
def vP:Ο HO->ν
 |ι (.Ε _)=>True
 |ι (.dK _)=>True
 |ι (.dT _)=>True
 |ι (.set β)=>True
 |ι (.ins γ)=>True
 |ι (.ext _)=>True
 |_=>False
section
variable {P:Program}{w:World}{H:Hp}{h h':Heap}{x e:Zs}{o':HO}
def eI.write (ok:ê)(mu:vP (H x))(l:e=x\/H e\.own x)(k:∀b u,b≠e->h.get? b\u->h'.get? b\u)(g:∃u,h'.get? e\u)(new:cu P w (υ H x o') h' x o'):eI P w (υ H x o') h':=λb u q=>by
 let a:∀c y,H c\.own y->c≠x:=λc y r z=>by subst z;rw[r]at mu;rwa[mu]
 let j7:∀c d,H c\.Θ d->c≠x:=λc d r z=>by subst z;rw[r]at mu;rwa[mu]
 cases i:b=x
 .subst i;rw[aj]at q;cbv
 .rw[aq i]at q;cases f:b=e
  .let j:H b\(.own x):=by
    rcases l with z|z
    .cbv
    .rw[f];rwa[z]
   rw[q]at j;ext j;let[v,m]:=g;rwa[v,by cbv]
  .refine(ok b u q).iV (λc v hc r=>k c v ?_ r) (λc r=>[aq (a c b r)]▸r) λc d r=>by rw[aq (j7 c d r)];rwa[r]
   cbv
end
structure Un (fs ex:Zn)(H H':Hp)(h h':ċ):ν where
 keep:∀b o,h.get? b\o->H b=ε->b∉fs->b∉ex->h'.get? b\o
 slot:∀b o,h.get? b\o->H b=ε->b∈fs->b∉ex->∃sl,h'.get? b\{ o with slots:=sl }
 free:∀b o,h.get? b\o->H b=ε->b∉ex->H' b=ε
 there:∀b o,h.get? b\o->b∉ex->∃o',h'.get? b\o'
 lG:∀b xs,H b\.Θ xs->H' b\(.Θ xs)
 j8:∀b o u,H b\.dz o u->H' b\(.dz o u)
 mY:∀b ps,H b\.sI ps->∃more,H' b\(.sI (ps++more))
section
variable {fs ex:Zn}{H H1:Hp}{h h1 h':Heap}{a x e:Zs}{o:HO}
def Un.any (u:Un fs ex H H1 h h1){b:Zs}{ob:Obj}(q:h.get? b\ob)(n:H b=ε)(d:b∉ex):∃sl,h1.get? b\{ ob with slots:=sl }:=by
 cases c:b∈fs
 .rwa[u.slot b ob q n c d]
 .rwa[ob.slots,u.keep b ob q n c d]
def Un.kept (k:∀b u,h.get? b\u->h'.get? b\u):Un fs ex H H h h':={λb ob q _ _ _=>k b ob q,λb ob q _ _ _=>{ob.slots,k b ob q},λ_ _ _ n _=>n,λb ob q _=>{ob,k b ob q},λ_ _ q=>q,λ_ _ _ q=>q,λ_ c q=>{#[],by rw[q];simp}}
def Un.refl:Un fs ex H H h h:=Un.kept λ_ _ q=>q
def Un.laid (k:∀b u,h.get? b\u->h'.get? b\u)(d:h.Ν.Γ<=a)(c:H a=ε):Un fs ex H ć h h' where
 keep:=λb u q _ _ _=>k b u q
 slot:=λb u q _ _ _=>{u.slots,k b u q}
 free:=λb u q n _=>by rw[aq (anl (ano (am6 q) d))];rwa[n]
 there:=λb u q _=>{u,k b u q}
 lG:=λb f q=>by rw[aq (ax q c)];rwa[q]
 j8:=λb u f q=>by rw[aq (ax q c)];rwa[q]
 mY:=λb g q=>{#[],by rw[aq (ax q c),q];simp}
def Un.write (mu:vP (H x))(l:e=x\/H e\.own x)(k:∀b u,b≠e->h.get? b\u->h'.get? b\u)(g:∃u,h'.get? e\u):Un fs ex H (υ H x o) h h':=by
 let i:∀b,H b=ε->b≠x:=λb n z=>by subst z;rw[n]at mu;rwa[mu]
 let d:∀b,H b=ε->b≠e:=λb n z=>by cbv
 let c:∀b u,H b\u->¬vP (ι u)->b≠x:=λb u q nm z=>by cbv
 rwa[λb u q n _ _=>k b u (d b n) q,λb u q n _ _=>{u.slots,k b u (d b n) q},λb u q n _=>[aq (i b n)]▸n,λb u q _=>?_,λb f q=>[aq (c b _ q λz=>z)]▸q,λb u f q=>[aq (c b _ q λz=>z)]▸q,λb j q=>{#[],by rw[aq (c b _ q λz=>z),q];simp}]
 cbv
end
def QZ (h:ċ)(H:Hp):Zn:=(~~~h.Ν.Γ).filter λa=>(H a).isSome
def rH (h:ċ)(H:Hp):Heap:=hideAll h (QZ h H)
def JH (h:ċ)(H:Hp):(rH h H).Ν.Γ=h.Ν.Γ:=PySem.W.hideAll_size β
def NZ {H:Hp}{o:Obj}(e:h.get? b\o)(n:H b=ε):(rH h H).get? b\o:=
 apT _ e λa=>by
  let q:(H b).isSome=ρ:=(anA.mp a).2
  cbv
def T7 {H:Hp}{o:Obj}(e:(rH h H).get? b\o):h.get? b\o/\H b=ε:=by
 let a:h.get? b\o:=PySem.W.of_hideAll (QZ h H) e;erw[a]
 cases q:H b with
 |ε=>rfl
 |ι x=>
  let c:b∈QZ h H:=anA.mpr {anj.mpr (am6 a),by simp[q]};let z:(rH h H).get? b=ε:=PySem.W.hideAll_none (QZ h H) c
  cbv
end L2
variable {H I J:L2.Hp}{q:L2.V}{L:List L2.V}
namespace L2
structure Mod (K:Za1)(mg:Ι->Zl)(base:ċ):ν where
 pP:K.In base
 glob:base.Ns mainGlobals mg
 blt:∃mb,base.Ns builtinsNs mb/\∀x:Ι,x≠Ŵ->mb x=bootBuiltins x
 nolimit:base.NoLimit
structure Cx where
 prog:Program
 w:World
 K:Za1
 mg:Ι->Zl
 base:Heap
 A:Around
 N:Zp
 fG:Zu
 wG:Hp
 env:Env
 outer:Zq
 stack:Zq
 ex:Zn
 fn:Ι->Μ
 calm:Μ
 pn:θ (Zs×Obj)
 xe:Zt->Zu->ν
def bZ (l:Zq):Zn:=l.filterMap (·.frame)
abbrev Cx.fs (X:Cx):Zn:=bZ X.outer
def VF (sc:Š)(x:Ι):ν:=sc.names.lookup x=ι .local\/sc.names.lookup x=ι .cell\/sc.names.lookup x=ι .free
def Loc (sc:Š)(x:Ι):ν:=sc.names.lookup x=ι .local\/sc.names.lookup x=ι .cell
def Look (env:Env)(h:ċ)(m:Ι->Zl)(x:Ι)(u:Zt):ν:=(env.kindOf x=ι .local/\m x\u)\/((env.kindOf x=ι .cell\/env.kindOf x=ι .free)/\∃c,env.cells.lookup x\c/\h.IsCell c (ι u))
class e9 (X:Cx)(K:outParam Za1):ν where
 eq:X.K=K
instance (priority:=low) e9.any {X:Cx}:e9 X X.K:={2}
structure Cx.Ok (X:Cx):ν where
 mod:Mod X.K X.mg X.base
 kind:X.env.scope.kind=.function
 glob:X.env.globals=mainGlobals
 blt:X.env.builtins=builtinsNs
 above:X.fG.ς.Ν.Γ<=X.env.locals
 inj:∀x y c,X.env.cells.lookup x\c->X.env.cells.lookup y\c->x=y
 has:∀x,(X.env.kindOf x=ι .cell\/X.env.kindOf x=ι .free)->∃c,X.env.cells.lookup x\c
 Cw:∀x c,X.fn x=ρ->X.env.cells.lookup x\c->X.fG.ς.Ν.Γ<=c
 hd:X.calm=ρ->X.A.handled=ε
 frames:X.A.frames\X.stack
 Gd:X.stack=X.outer\/(X.stack=X.env::X.outer/\X.env.frame\X.env.locals)
 Q0:∀b∈X.ex,b≠X.env.locals/\∀x c,X.env.cells.lookup x\c->c≠b
 bs:∀b o,X.base.get? b\o->X.fG.ς.get? b\o/\X.wG b=ε
 vQ:X.base.Ν.Γ<=X.fG.ς.Ν.Γ
 wH:∀b o,X.base.get? b\o->b∉X.ex
 zK:∀b∈X.ex,b∉X.fs
 kO:X.fG.ς.FunFrames X.base X.outer
 yc:∀b∈X.fs,X.wG b=ε
structure Inv (X:Cx)(pins:θ (Zs×Obj))(σ:θ Zc)(H:Hp)(s:Zu):ν where
 ok:X.Ok
 os:s.os=X.fG.os
 bare:AllBare s.gens
 base:Un X.fs X.ex X.wG H X.fG.ς s.ς
 loc:∃m,s.ς.Ns X.env.locals m/\∀(i:η)(x:Ι)(v:V),X.N[i]?\x->σ[i]?\ι v->VF X.env.scope x->∃u,RelV v u/\Look X.env s.ς m x u
 cell:∀x c,X.env.cells.lookup x\c->∃v,s.ς.IsCell c v
 free:H X.env.locals=ε
 iX:∀x c,X.env.cells.lookup x\c->H c=ε
 pin:∀p∈X.pn++pins,s•p.1\p.2/\H p.1=ε/\p.1≠X.env.locals/\p.1∉X.fs/\∀v,p.2.data≠.cell v
 a0:eI X.prog X.w H s.ς
 len:@σ=@X.N
section
variable {X:Cx}{pins:List (Zs×Obj)}{σ:List Zc}{H H':Hp}{s:Zu}{h':Heap}
def Cx.Ok.ael (ok:X.Ok){b:Zs}{o:Obj}(e:X.base.get? b\o):b∉X.fs:=λa=>by
 have:=(ok.kO.mem a).1
 cbv
def Inv.bs (I:Υ):∀b o,X.base.get? b\o->s•b\o/\H b=ε:=λb o e=>{I.base.keep b o (I.ok.bs b o e).1 (I.ok.bs b o e).2 (I.ok.ael e) (I.ok.wH b o e),I.base.free b o (I.ok.bs b o e).1 (I.ok.bs b o e).2 (I.ok.wH b o e)}
def Inv.bk (I:Υ):∀b o,X.base.get? b\o->s•b\o:=λb o e=>(I.bs b o e).1
def Inv.mod (I:Υ):Mod X.K X.mg X.base:=I.ok.mod
def Inv.dZ (I:Υ):X.K.In s.ς:=I.ok.mod.pP.keeps I.bk
def Inv.lt (I:Υ):X.env.locals<↥s:=let ⟨_,a,_⟩:=I.loc;a.lt
def Inv.sz (I:Υ):X.fG.ς.Ν.Γ<=↥s:=amM I.ok.above (aoI I.lt)
def Inv.VG (I:Υ){a:Zs}(h:↥s<=a):a∉X.fs:=λc=>by let[_,o,b,_]:=I.ok.kO.mem c;rwa[absurd (ano (am6 b) (amM I.sz h)) (aou _)]
def Inv.tJ (I:Υ):∀x c,X.env.cells.lookup x\c->c≠X.env.locals:=λx c e z=>by
 let[v,o,f,hd]:=I.cell x c e;let[m,⟨h,g,d,b,a,_⟩,_]:=I.loc
 cbv
def Inv.kO (I:Υ):s.ς.FunFrames X.base X.outer:=by
 let all:∀(l:Zq),(∀b∈bZ l,b∈X.fs)->X.fG.ς.FunFrames X.base l->s.ς.FunFrames X.base l:=by
  intro l
  induction l with
  |nil=>intro _ _;trivial
  |cons env r i=>
   intro f j;let[g,⟨L,o,d,m,h,hd⟩,k]:=j;let a:L∈X.fs:=f L (by unfold bZ;cbv);let[sl,e]:=I.base.slot L o h (I.ok.yc L a) a λz=>I.ok.zK L z a
   rwa[g,{L,_,d,m,e,hd},i (λb c=>f b (by unfold bZ;rw[θ.filterMap_cons,d];rwa[amZ _ c])) k]
 rwa[all X.outer (λ_ c=>c) I.ok.kO]
def Inv.stack (I:Υ):s.ς.FunFrames X.base X.stack:=by
 rcases I.ok.Gd with e|⟨e,a⟩
 .rw[e];rwa[I.kO]
 .rw[e];let[m,b,_]:=I.loc;rwa[.cons (by rw[I.ok.kind];decide) a b ?_ I.kO];rwa[Heap.get?_none_of_le (amM I.ok.vQ I.ok.above)]
def Inv.Cy (I:Υ):∀b∈bZ X.stack,b∈X.env.locals::X.fs:=λb a=>by
 rcases I.ok.Gd with e|⟨e,c⟩
 .cbv
 .rw[e]at a;unfold bZ at a;rw[θ.filterMap_cons,c]at a;rwa[a]
def Inv.uW (I:Υ):∀b∈bZ X.stack,H b=ε:=λb a=>by
 rcases amW.mp (I.Cy b a) with e|a
 .rw[e];rwa[I.free]
 .let[_,o,c,_]:=I.ok.kO.mem a;rwa[I.base.free b o c (I.ok.yc b a) λz=>I.ok.zK b z a]
def Inv.step {g':Array GenState}{d':Drawn}{ch:Zn}(I:Υ)(h:∀b∈ch,(b∈X.ex\/X.fG.ς.Ν.Γ<=b)/\b≠X.env.locals/\(∀x c,X.env.cells.lookup x\c->c≠b)/\∀p∈X.pn++pins,p.1≠b)(keep:∀b o,b≠X.env.locals->b∉X.fs->b∉ch->s•b\o->H b=ε->h'.get? b\o)(slot:∀b o,b≠X.env.locals->b∈X.fs->b∉ch->s•b\o->H b=ε->∃sl,h'.get? b\{ o with slots:=sl })(free:∀b o,b∉ch->s•b\o->H b=ε->H' b=ε)(there:∀b o,b∉ch->s•b\o->∃C,h'.get? b\C)(lG:∀b t,H b\.Θ t->H' b\.Θ t)(j8:∀b o u,H b\.dz o u->H' b\.dz o u)(mY:∀b D,H b\.sI D->∃more,H' b\.sI (D++more))(ns:∀m,s.ς.Ns X.env.locals m->h'.Ns X.env.locals m)(a0:ϛ)(L:AllBare g'):
 Inv X pins σ H' { s with ς:=h',gens:=g',drawn:=d',toks:=n }:=by
 let B:∀b o,X.fG.ς.get? b\o->b≠X.env.locals:=λb o e=>anl ł
 let j:∀b o,X.fG.ς.get? b\o->b∉X.ex->b∉ch:=λb o e f y=>by
  rcases (h b y).1 with z|z
  .rwa[f z]
  .rwa[absurd (ano ĉ z) (aou _)]
 let cellK:∀x c,X.env.cells.lookup x\c->∀v,s.ς.IsCell c v->h'.IsCell c v:=λx c e v ζ=>by
  let[o,A,hd]:=ζ
  let g:c∉ch:=λz=>(h c z).2.2.1 x c e rfl
  cases hc:c∈X.fs
  .let[sl,q]:=slot c o (I.tJ x c e) hc g A (I.iX x c e);rwa[_,q,hd]
  .rwa[o,keep c o (I.tJ x c e) hc g A (I.iX x c e),hd]
 rwa[I.ok,I.os,L,{λb o e a y f=>?_,λb o e a y f=>?_,λb o e a f=>?_,λb o e f=>?_,λb t e=>lG b t (I.base.lG b t e),λb o t e=>j8 b o t (I.base.j8 b o t e),λb D e=>?_},5,λx c e=>?_,5,λx c e=>?_,λp G=>?_,a0,I.len]
 .rwa[keep b o (B b o e) y i1 (I.base.keep b o e a y f) Ų]
 .let[sl,w]:=I.base.slot b o e a y f;let[F,E]:=slot b _ (B b o e) y i1 w Ų;rwa[F,E]
 .let[C,w]:=I.base.there b o e f;rwa[free b C i1 w Ų]
 .let[C,w]:=I.base.there b o e f;rwa[there b C i1 w]
 .let[P,w]:=I.base.mY b D e
  cbv
 .let[m,N,M]:=I.loc;rwa[m,ns m N,λi x v w E O=>?_];let[u,r,l]:=M i x v w E O;erw[u,r];rcases l with l|⟨k,c,e,z⟩
  .rwa[.ψ l]
  .rwa[.Ζ {k,c,e,cellK x c e _ z}]
 .let[v,z]:=I.cell x c e;rwa[v,cellK x c e v z]
 .let[m,⟨o,_,_,A,_⟩,_]:=I.loc;rwa[free _ o (λz=>(h _ z).2.1 Τ) A I.free]
 .let[v,o,A,hd]:=I.cell x c e;rwa[free c o (λz=>(h c z).2.2.1 x c e Τ) A (I.iX x c e)]
 .let[e,a,ne,J,d]:=I.pin p G;let g:p.1∉ch:=λz=>(h p.1 z).2.2.2 p G rfl
  rwa[keep p.1 p.2 ne J g e a,free p.1 p.2 g e a,ne,J,d]
def Inv.un {t':η}(I:Υ)(u:Un X.fs [] H H' s.ς h')(a0:ϛ):Inv X pins σ H' { s with ς:=h',toks:=t' }:=by
 let[m,⟨o,q,w,g,r⟩,_]:=id I.loc;let[sl,i]:=u.any g I.free (by simp)
 exact I.step (g':=s.gens) (d':=s.drawn) (ch:=[]) (λ_ z=>nomatch z) (λb o _ c _ e n=>u.keep b o e n c (by simp)) (λb o _ c _ e n=>u.slot b o e n c (by simp)) (λb o _ e n=>u.free b o e n (by simp)) (λb o _ e=>u.there b o e (by simp)) u.lG u.j8 u.mY (λv j=>by let[t,f,d,a,h]:=j;rw[g]at a;ext a;rwa[_,f,d,i,h]) a0 I.bare
def Inv.call {g':Array GenState}{t':η}{d':Drawn}{ch:Zn}(I:Υ)(u:Un ŵ ch H H' s.ς h')(a0:ϛ)(l:AllBare g')(d:∀b∈ch,(b∈X.ex\/X.fG.ς.Ν.Γ<=b)/\b≠X.env.locals/\(∀x c,X.env.cells.lookup x\c->c≠b)/\∀p∈X.pn++pins,p.1≠b):
 Inv X pins σ H' { s with ς:=h',gens:=g',drawn:=d',toks:=t' }:=by
 let[m,⟨o,t,y,i,r⟩,_]:=id I.loc;let[sl,g]:=u.any i I.free λz=>(d _ z).2.1 rfl
 exact I.step (ch:=ch) d (λb o g k hc e n=>u.keep b o e n (λz=>(amW.mp (I.Cy b z)).Κ g k) hc) (λb o _ _ hc e n=>u.any e n hc) (λb o hc e n=>u.free b o e n hc) (λb o hc e=>u.there b o e hc) u.lG u.j8 u.mY (λw q=>by let[v,h,f,a,j]:=q;rw[i]at a;ext a;rwa[_,h,f,g,j]) a0 l
def Inv.turned {t':η}{it:Zs}(I:Υ)(k:∀b o,b≠it->s•b\o->h'.get? b\o)(D:H it=ε)(a:it≠X.env.locals)(g:it∈X.ex\/X.fG.ς.Ν.Γ<=it)(d:∀x c,X.env.cells.lookup x\c->c≠it)(j:∀p∈X.pn++pins,p.1≠it):Inv X pins σ H { s with ς:=h',toks:=t' }:=by
 let l:∀b u,H b\u->b≠it:=λb u e z=>by cbv
 refine I.step (g':=s.gens) (d':=s.drawn) (ch:=[it]) (λb f=>?_) (λb o _ _ hc e _=>k b o (λz=>hc (by simp[z])) e) (λb o _ _ hc e _=>{o.slots,k b o (λz=>hc (by simp[z])) e}) (λ_ _ _ _ n=>n)
  (λb o hc e=>{o,k b o (λz=>hc (by simp[z])) e}) (λ_ _ e=>e) (λ_ _ _ e=>e) (λb A e=>{#[],by rw[e];simp}) (λm t=>?_) (λb u e=>?_) I.bare
 .let e:b=it:=by simpa using f
  subst e;rwa[g,a,d,j]
 .let[o,i,w,h,r]:=t;rwa[o,i,w,k _ o (an5 a) h,r]
 .rwa[(I.a0 b u e).iV (λc v hc q=>k c v ?_ q) (λ_ q=>q) λ_ _ q=>q]
  cbv
def Inv.tok (I:Υ)(t:η):Inv X pins σ H { s with toks:=t }:=I.un (h':=s.ς) (t':=t) Un.refl I.a0
def Inv.kept {t':η}(I:Υ)(k:∀b u,s•b\u->h'.get? b\u):Inv X pins σ H { s with ς:=h',toks:=t' }:=I.un (Un.kept k) (I.a0.kept k)
def Inv.laid {o:HO}{t':η}(I:Υ)(k:∀b u,s•b\u->h'.get? b\u)(c:↥s<=a)(new:cu X.prog X.w ć h' a o):
 Inv X pins σ ć { s with ς:=h',toks:=t' }:=I.un (Un.laid k c (I.a0.fresh c)) (I.a0.laid k c new)
def Inv.write {x e:Zs}{o:HO}{t':η}(I:Υ)(mu:vP (H x))(c:e=x\/H e\.own x)(k:∀b u,b≠e->s•b\u->h'.get? b\u)(a:∃u,h'.get? e\u)(new:cu X.prog X.w (υ H x o) h' x o):Inv X pins σ (υ H x o) { s with ς:=h',toks:=t' }:=I.un (Un.write mu c k a) (I.a0.write mu c k a new)
def Inv.qB (I:Υ)(h:∀p∈o,s•p.1\p.2/\H p.1=ε/\p.1≠X.env.locals/\p.1∉X.fs/\∀v,p.2.data≠.cell v):Inv X o σ H s:={I.ok,I.os,I.bare,I.base,I.loc,I.cell,I.free,I.iX,λp a=>(amO.mp a).Κ (λz=>I.pin p (amV _ z)) (h p),I.a0,I.len}
def Cz (d:Z.Nodup){i j:η}{x:Ι}(a:Z[i]?\x)(b:Z[j]?\x):i=j:=by let[g,c]:=amF.mp a;let[f,e]:=amF.mp b;rwa[(θ.getElem_inj d).mp (c.π e.Β)]
def AU {M:Model}{v:V}(I:Υ)(hN:Ĥ)(L:X.N[i]?\x)(l:Ī)(r:RelV v u)(h:∀O,Inv X pins (σ.set i (ι v)) H O->(∃a,Heap.SameBut a s.ς O.ς/\(a=X.env.locals\/X.env.cells.lookup x\a))->U () O)(hf:X.fn x=ρ\/X.env.scope.names.lookup x=ι .local:=by trivial):wpAny M A (storeName X.env x u) U E s:=by
 let[m,hn,hl]:=id I.loc;let J:(X.env.scope.kind==.class || (X.env.scope.kind==.module && X.env.locals !=X.env.globals))=χ:=by rw[I.ok.kind];rfl
 let B:i < @σ:=by rw[I.len];rwa[(amF.mp L).1]
 let tJ:=I.tJ
 let tracked:∀{a:Zs}{h':ċ},(∃o,s•a\o/\H a=ε)->Heap.SameBut a s.ς h'->eI X.prog X.w H h':=λ{a h'} ha f b ob e=>by
  let[_,_,T]:=ha;rwa[(I.a0 b ob e).iV (λc R t q=>(f.2 c ?_).π q) (λ_ q=>q) λ_ _ q=>q]
  cbv
 rcases l with G|G
 .rwa[wpAny_storeName_local G hn (λh' hn' f=>?_) J];let[oL,_,_,hoL,_]:=id hn;rwa[h _ {I.ok,I.os,I.bare,{λb o e n C l=>?_,λb o e n C l=>?_,I.base.free,λb o e l=>?_,I.base.lG,I.base.j8,I.base.mY},{_,hn',λj y S g w e3=>?_},λy c e=>?_,I.free,I.iX,λp hp=>?_,tracked {oL,hoL,I.free} f,by simpa using I.len} {_,f,.ψ Τ}]
  .rwa[(f.2 b (anl ł)).π (I.base.keep b o e n C l)]
  .let[Y,g]:=I.base.slot b o e n C l;rwa[Y,(f.2 b (anl ł)).π g]
  .let[o',g]:=I.base.there b o e l;rwa[o',(f.2 b (anl ł)).π g]
  .cases D:j=i
   .subst D;rw[L]at g;ext g;rw[anv B]at w;ext w;rwa[u,r,.ψ {G,by simp}]
   .rw[anQ (an5 D)]at w;let[u',Q,q]:=hl j y S g w e3;erw[u',Q];rcases q with ⟨k,e⟩|⟨k,c,e,z⟩
    .rwa[.ψ {k,?_}];have:y≠x:=λe=>D (Cz hN g (e ▸ L))
     simp[ω,e]
    .rwa[.Ζ {k,c,e,z.sameBut f (tJ y c e)}]
  .let[R,z]:=I.cell y c e;rwa[R,z.sameBut f (tJ y c e)]
  .let[e,n,ne,nf,d]:=I.pin p hp;rwa[(f.2 p.1 ne).π e,n,ne,nf,d]
 .let F:X.fn x=ρ:=by
   rcases hf with z|z
   .rwa[z]
   .cbv
  let[c,t]:=I.ok.has x (.ψ G);let[R,z]:=I.cell x c t;rwa[wpAny_storeName_cell I.ok.kind G t z (λh' Z f=>?_)];let[oc,P,ak9]:=id z;rwa[h (s<*h') {I.ok,I.os,I.bare,{λb o e n C l=>?_,λb o e n C l=>?_,I.base.free,λb o e l=>?_,I.base.lG,I.base.j8,I.base.mY},{m,hn.sameBut f (an5 (tJ x c t)),λj y S g w e3=>?_},λy N e=>?_,I.free,I.iX,λp hp=>?_,tracked {oc,P,I.iX x c t} f,by simpa using I.len} {c,f,.Ζ t}]
  .rwa[(f.2 b İ).π (I.base.keep b o e n C l)]
  .let[Y,g]:=I.base.slot b o e n C l;rwa[Y,(f.2 b İ).π g]
  .let[o',g]:=I.base.there b o e l;rwa[o',(f.2 b İ).π g]
  .cases D:j=i
   .subst D;rw[L]at g;ext g;rw[anv B]at w;ext w;rwa[u,r,.Ζ {.ψ G,c,t,Z}]
   .rw[anQ (an5 D)]at w;let[u',Q,q]:=hl j y S g w e3;erw[u',Q];rcases q with q|⟨k,N,e,z'⟩
    .rwa[.ψ q]
    .rwa[.Ζ {k,N,e,z'.sameBut f ?_}];rintro rfl;rwa[D (Cz hN g (I.ok.inj γ e t ▸ L))]
  .cases W:N=c
   .cbv
   .let[w2,z2]:=I.cell y N e;rwa[w2,z2.sameBut f W]
  .let[e,n,ne,nf,d]:=I.pin p hp;rwa[(f.2 p.1 ?_).π e,n,ne,nf,d]
   cbv
def wI {M:Model}(I:Υ)(d:Ĥ)(e:X.N[i]?\x)(f:Ī)(r:RelV q u)(h:∀a,Inv X pins (σ.set i (ι q)) H a->U () a)(b:X.fn x=ρ\/X.env.scope.names.lookup x=ι .local:=by trivial):wpAny M A (storeName X.env x u) U E s:=AU I d e f r (λa c _=>h a c) b
def Inv.Q5 {s':Zu}{ch:Zn}(I:Υ)(h:s'.os=s.os)(u:Un ŵ ch H H' s.ς s'.ς)(a0:eI X.prog X.w H' s'.ς)(i:AllBare s'.gens)(a:∀b∈ch,(b∈X.ex\/X.fG.ς.Ν.Γ<=b)/\b≠X.env.locals/\(∀x c,X.env.cells.lookup x\c->c≠b)/\∀p∈X.pn++pins,p.1≠b):Inv X pins σ H' s':=by let[h',g,d,f,j]:=s';let e:j=s.os:=h;subst e;rwa[I.call (g':=g) (t':=f) (d':=d) u a0 i a]
end
abbrev XK:=Zt->Zo->Hp->Prop
abbrev St:=List Zc
abbrev VK:=V->Hp->Prop
abbrev TE:=St->Hp->VK->Prop
abbrev TT:=St->Hp->(Bool->Hp->Prop)->Prop
abbrev TA:=St->Hp->(Zb->Hp->Prop)->Prop
structure Ends where
 nx:St->Hp->ν
 rt:VK
 bk:St->Hp->ν:=λ_ _=>False
 ct:St->Hp->ν:=λ_ _=>False
abbrev TS:=Ends->St->Hp->Prop
def EP (X:Cx)(a:θ (Zs×Obj))(d:St)(Q:VK)(u:Zt)(c:Zu):ν:=∃v b,Inv X a d b c/\RelV v u/\Q v b
def TP (X:Cx)(a:θ (Zs×Obj))(e:St)(Q:Μ->Hp->ν)(b:Μ)(d:Zu):ν:=∃c,Inv X a e c d/\Q b c
def AP (X:Cx)(a:θ (Zs×Obj))(f:St)(Q:Zb->Hp->ν)(e:Zk)(d:Zu):ν:=∃b c,Inv X a f c d/\Vals b e/\Q b c
def SP (X:Cx)(b:θ (Zs×Obj))(D:Ends)(f:Flow)(d:Zu):ν:=
 match f with
 |.next=>∃ a c,Inv X b a c d/\D.nx a c
 |.brk=>∃ a c,Inv X b a c d/\D.bk a c
 |.cont=>∃ a c,Inv X b a c d/\D.ct a c
 |.ret u=>∃v a c,Inv X b a c d/\RelV v u/\D.rt v c
def PE (X:Cx)(e:đ)(t:TE):ν:=∀(a:θ (Zs×Obj))(s:Zu)(b:St)(H:Hp)(Q:VK),Inv X a b H s->t b H Q->X⁻¹ X.A ē ō X.xe s
def PT (X:Cx)(e:đ)(t:TT):ν:=∀(a:θ (Zs×Obj))(s:Zu)(b:St)(H:Hp)(Q:Μ->Hp->ν),Inv X a b H s->t b H Q->X⁻¹ X.A (isTrue e X.env ē) (TP X a b Q) X.xe s
def PW (X:Cx)(e:đ)(t:TT):ν:=∀(whole:Sem Zt)(a:θ (Zs×Obj))(s:Zu)(b:St)(H:Hp)(Q:Μ->Hp->ν),Inv X a b H s->t b H Q->X⁻¹ X.A (isTrue e X.env whole) (TP X a b Q) X.xe s
def PW.pt {X:Cx}{t:TT}(h:PW X e t):PT X e t:=h _
def PA (X:Cx)(c:Zr)(t:TA):ν:=∀(pos:Pos)(a:θ (Zs×Obj))(s:Zu)(b:St)(H:Hp)(Q:Zb->Hp->ν),Inv X a b H s->t b H Q->X⁻¹ X.A (spliced (backTo pos (starEach c X.env))) (AP X a b Q) X.xe s
def PS (X:Cx)(st:Ž)(t:TS):ν:=∀(a:θ (Zs×Obj))(s:Zu)(b:St)(H:Hp)(D:Ends),Inv X a b H s->t D b H->X⁻¹ X.A (exec st X.env) (SP X a D) X.xe s
def iY (X:Cx)(st:θ Stmt)(t:TS):ν:=∀(a:θ (Zs×Obj))(s:Zu)(b:St)(H:Hp)(D:Ends),Inv X a b H s->t D b H->X⁻¹ X.A (execs st X.env) (SP X a D) X.xe s
def bx {c:Type}{t:Sem c}{Q b:c->Zu->ν}{M:Model}(h:wpAny M A t Q E s)(d:∀a s,Q a s->b a s):wpAny M A t b E s:=aok h d λ_ _ x=>x
end L2
variable {D:L2.St}{G:L2.Ends}{X:L2.Cx}
namespace L2
section
variable {X:Cx}
inductive CB (i:η)(σ:St)(H:Hp)(Q:VK):ν
 |mk (v:V):σ[i]?\ι v->Q v H->CB i σ H Q
def tC (v:V):TE:=λ_ H Q=>Q v H
def VH {pos:Pos}(n:X.N[i]?\x)(q:VF X.env.scope x)(hd:(x==(Ö:Ι))=χ:=by decide)(f:(x==("__classdict__":Ι))=χ:=by decide):PE X (.Name x pos) (CB i):=by
 intro d s k H Q I h;let[v,e,h]:=h;let[m,o,j]:=I.loc;let[u,r,l]:=j i x v n e q;let fin:EP X d k Q u s:={v,H,I,r,h};rcases l with ⟨b,p⟩|⟨b,c,g,a⟩
 .rwa[wpAny_Name (wpAny_loadName_local I.ok.kind b o p fin) hd]
 .rcases b with b|b
  .rwa[wpAny_Name (wpAny_loadName_cell I.ok.kind b g a fin) hd]
  .rwa[wpAny_Name (wpAny_loadName_free I.ok.kind b g a fin f) hd]
def ak {i j pos}:PE X (.Constant (.τ i) j pos) (tC (.τ i)):=λ_ _ _ H _ I h=>wpAny_Constant_int {.τ i,H,I.tok _,{12},h}
def iw {b j pos}:PE X (.Constant (.bool b) j pos) (tC (.bl b)):=λ_ _ _ H _ I h=>Constant_bool {.bl b,H,I,2,h}
def dJ {j pos}:PE X (.Constant .ε j pos) (tC .non):=λ_ _ _ H _ I h=>Constant_none {.non,H,I,2,h}
def VJ {x j pos}:PE X (.Constant (.str x) j pos) (tC (.str x)):=λ_ _ _ H _ I h=>Calls.Constant_str {.str x,H,I.tok _,{12},h}
def Gl (X:Cx)(x:Ι):ν:=X.env.kindOf x=ι .globalImplicit
def jv {pos:Pos}(I:Ì)(b:œ)(a:X.mg x\u)(h:Q u s)(hd:(x==(Ö:Ι))=χ:=by decide):X⁻¹ X.A (eval (.Name x pos) X.env) Q E s:=Calls.Name_function_global I.ok.kind b (Calls.loadGlobal_global ([I.ok.glob]▸I.mod.glob.keeps I.bk) a h) hd
def iI {pos:Pos}(I:Ì)(e:œ)(a:X.mg x=ε)(b:bootBuiltins x\u)(h:Q u s)(f:x≠Ŵ:=by decide)(hd:(x==(Ö:Ι))=χ:=by decide):X⁻¹ X.A (eval (.Name x pos) X.env) Q E s:=by let[g,d,c]:=I.mod.blt;rwa[Calls.Name_function_global I.ok.kind e (Calls.loadGlobal_builtin ([I.ok.glob]▸I.mod.glob.keeps I.bk) a ([I.ok.blt]▸d.keeps I.bk) ((c x f).π b) h) hd]
def Ge {v:V}{pos:Pos}(b:œ)(a:X.mg x\u)(r:RelV v u)(hd:(x==(Ö:Ι))=χ:=by decide):PE X (.Name x pos) (tC v):=λ_ _ _ H _ I h=>jv I b a {v,H,I,r,h} hd
def kj {v:V}{pos:Pos}(c:œ)(a:X.mg x=ε)(b:bootBuiltins x\u)(r:RelV v u)(d:x≠Ŵ:=by decide)(hd:(x==(Ö:Ι))=χ:=by decide):PE X (.Name x pos) (tC v):=λ_ _ _ H _ I h=>iI I c a b {v,H,I,r,h} d hd
variable {a b:Expr}{ta tb:TE}{pos:Pos}
def PC (X:Cx)(g:CmpOp)(a b:đ)(t:TE):ν:=
 ∀(c:θ (Zs×Obj))(s:Zu)(f:St)(H:Hp)(Q:VK),Inv X c f H s->t f H Q->X⁻¹ X.A (eval a X.env) (λv e=>X⁻¹ X.A (eval b X.env) (λu d=>X⁻¹ X.A (compareOp g v u) (EP X c f Q) X.xe d) X.xe e) X.xe s
def N0 (b:đ){c:CmpOp}(h:c≠.In)(f:c≠.NotIn):behindInMarks c b=χ:=by
 let d:(c==CmpOp.In)=χ:=by cbv
 let e:(c==CmpOp.NotIn)=χ:=by cbv
 cases b <;> simp[behindInMarks,d,e]
def tB (t:TE):TT:=λ e H Q=>t e H λx d=>∃c,x=.bl c/\Q c d
def tK {g:CmpOp}{t:TE}(h:PC X g a b t)(f:behindInMarks g b=χ:=by first|rwa[N0 _ (by decide) (by decide)]|rfl):PT X (.Compare a [g] [b] pos) (tB t):=by intro e s o H Q I m;rwa[wpAny_isTrue_Compare1 (bx (h e s o H _ I m) λv r f=>bx f λu p i=>bx i λc w ζ=>?_) f];let[x,n,k,j,l]:=ζ;let[d,Τ,q]:=l;ext j;rwa[ao0 {n,k,q}]
def gS {t:TE}(h:PE X e t)(m:∀whole,isTrue e X.env whole=(do let v <-whole;standAt e.pos;holding [v] (truthy v)):=by intro _;rfl):PT X e (tB t):=by intro c s l H Q I j;rwa[isTrue_plain (bx (h c s l H _ I j) λv n ζ=>?_) (m _)];let[x,k,g,f,i]:=ζ;let[d,Τ,q]:=i;ext f;rwa[ao0 {k,g,q}]
variable {tA Q6:TT}{rest:Zr}
def aem (t u:TT):TT:=λ e H Q=>t e H λc d=>if c=ρ then u e d Q else Q χ d
def tOr (t u:TT):TT:=λ e H Q=>t e H λc d=>if c=ρ then Q ρ d else u e d Q
def aen (t:TT):TT:=λ e H Q=>t e H λc d=>Q (!c) d
def uX (f:O0):PW X (.BoolOp .And [a] pos) tA:=by
 intro i d s g H Q I h;rwa[isTrue_and (bx (f d s g H Q I h) λc j e=>?_)]
 cases c with
 |ρ=>exact isTrue_and_nil e
 |χ=>exact e
def tL (f:O0):PW X (.BoolOp .Or [a] pos) tA:=by
 intro i d s g H Q I h;rwa[isTrue_or (bx (f d s g H Q I h) λc j e=>?_)]
 cases c with
 |χ=>exact isTrue_or_nil e
 |ρ=>exact e
def tM (j:O0)(m:PW X (.BoolOp .And (b::rest) pos) Q6):PW X (.BoolOp .And (a::b::rest) pos) (aem tA Q6):=by
 intro k d s i H Q I h;rwa[isTrue_and (bx (j d s i H _ I h) λc l ζ=>?_)];let[e,g,f]:=ζ
 cases c with
 |ρ=>exact m k d l i e Q g f
 |χ=>rwa[e,g,f]
def pQ (j:O0)(m:PW X (.BoolOp .Or (b::rest) pos) Q6):PW X (.BoolOp .Or (a::b::rest) pos) (tOr tA Q6):=by
 intro k d s i H Q I h;rwa[isTrue_or (bx (j d s i H _ I h) λc l ζ=>?_)];let[e,g,f]:=ζ
 cases c with
 |ρ=>rwa[e,g,f]
 |χ=>exact m k d l i e Q g f
def ot (f:O0):PT X (.UnaryOp .Not a pos) (aen tA):=by intro d s g H Q I h;rwa[isTrue_not (f d s g H (λc e=>Q (!c) e) I h)]
def tIf (t:TT)(ta tb:TE):TE:=λ d H Q=>t d H λc e=>if c=ρ then ta d e Q else tb d e Q
def N3 (n:PT X e tA)(l:ŏ)(m:ϓ):PE X (.IfExp e a b pos) (tIf tA ta tb):=by
 intro c s f H Q I h;rwa[wpAny_IfExp (bx (n c s f H _ I h) λd j ζ=>?_)];let[g,k,i]:=ζ
 cases d with
 |ρ=>exact l c j f g Q k i
 |χ=>exact m c j f g Q k i
end
def az (K:Za1)(H:Hp)(a:Zs)(c:Zb):ν:=
 Rd H a (.Ε c)\/
  ∃(o:Obj)(b:Zm)(n:η),K.lookup a\o/\o.cls=.type À/\o.dict=ε/\o.data=.seq b n/\b.Γ<=sizeLine/\Vals c b.toList
def bD (K:Za1)(H:Hp)(a:Zs)(c:Zb):ν:=
 Rd H a (.Θ c)\/
  ∃(o:Obj)(b:Zm)(n:η),K.lookup a\o/\o.cls=.type Ω/\o.data=.seq b n/\b.Γ<=sizeLine/\Vals c b.toList
def aeo:Zt->Zc
 |.ε=>ι .non
 |.bool b=>ι (.bl b)
 |.τ i _=>ι (.τ i)
 |.str x _=>ι (.str x)
 |.bytes b _=>ι (.pO b)
 |.float b _=>ι (.Cv b)
 |.Η a=>ι ?a
 |.type n=>ι (.ty n)
 |_=>ε
def RelV.abs {x:V}(r:RelV x u):aeo u\x:=by
 cases x with
 |non=>ext r;rfl
 |bl _=>ext r;rfl
 |τ _=>let[t,Τ]:=r;rfl
 |str _=>let[t,Τ]:=r;rfl
 |pO _=>let[t,Τ]:=r;rfl
 |Cv _=>let[t,Τ]:=r;rfl
 |Η _=>ext r;rfl
 |ty _=>ext r;rfl
def RelV.inj {x:V}(r:RelV x u)(a:RelV q u):x=q:=Za0 (r.abs.Β.π a.abs)
theorem Vals.inj:∀{b ys:Zb}{a:Zk},Vals b a->Vals ys a->b=ys
 |_,_,_,.nil,.nil=>rfl
 |_,_,_,.cons r t,.cons c d=>by rw[r.inj c,Vals.inj t d]
section
variable {X:Cx}{pins:List (Zs×Obj)}{σ:St}{H:Hp}{s:Zu}{a:Zs}{xs ys:Zb}
def az.of (h:H a\.Ε xs):az K H a xs:=.ψ (.ψ h)
def bD.of (h:H a\.Θ xs):bD K H a xs:=.ψ (.ψ h)
def Inv.list (I:Υ)(h:az X.K H a xs):∃b:Zk,Vals xs b/\PlainL s.ς a b.toArray/\@xs<=sizeLine:=by
 rcases h with h|⟨o,b,n,c,hc,hd,d,hz,r⟩
 .let[z,b,n,r,e]:=h.ok I.a0;rwa[b,r,{_,n,e,222},z]
 .erw[b.toList,r,{o,n,I.dZ a o c,hc,hd,3}];let e:=@r;simp only[aoK]at e;ext
def Inv.tuple (I:Υ)(h:bD X.K H a xs):∃b:Zk,Vals xs b/\IsTup s.ς a b.toArray/\@xs<=sizeLine:=by
 rcases h with h|⟨o,b,n,c,hc,d,hz,r⟩
 .let[z,b,r,p]:=h.ok I.a0;rwa[b,r,p,z]
 .erw[b.toList,r,{o,I.dZ a o c,hc,n,3}];let e:=@r;simp only[aoK]at e;ext
def Inv.wJ (I:Υ)(h:az X.K H a xs)(i:az X.K H a ys):xs=ys:=by
 let[c,r,⟨o,n,e,_,_,d⟩,_]:=I.list h;let[b,j,⟨l,k,g,_,_,f⟩,_]:=I.list i;rw[e]at g;ext g;rw[d]at f;injection f with d1 _
 have:c=b:=by simpa using an7 Array.toList d1
 subst ω;rwa[r.inj j]
def Inv.AV (I:Υ)(h:bD X.K H a xs)(i:bD X.K H a ys):xs=ys:=by
 let[c,r,⟨o,e,_,n,d⟩,_]:=I.tuple h;let[b,j,⟨l,g,_,k,f⟩,_]:=I.tuple i;rw[e]at g;ext g;rw[d]at f;injection f with d1 _
 have:c=b:=by simpa using an7 Array.toList d1
 subst ω;rwa[r.inj j]
end
abbrev Cx.wish (X:Cx) (E:Zt->Zu->Prop):Cx:={ X with xe:=E }
instance e9.wish {X:Cx}{K:Za1}{f:_}[h:e9 X K]:e9 (X.wish f) K:={h.eq}
abbrev Cx.CD (X:Cx):Cx:=X.wish λ_ _=>False
def Cx.Ok.wish (ok:X.Ok)(E:Zt->Zu->ν):(X.wish E).Ok:={ok.mod,ok.kind,ok.glob,ok.blt,ok.above,ok.inj,ok.has,ok.Cw,ok.hd,ok.frames,ok.Gd,ok.Q0,ok.bs,ok.vQ,ok.wH,ok.zK,ok.kO,ok.yc}
def Cx.Ok.kP (ok:(X.wish E).Ok):X.Ok:={ok.mod,ok.kind,ok.glob,ok.blt,ok.above,ok.inj,ok.has,ok.Cw,ok.hd,ok.frames,ok.Gd,ok.Q0,ok.bs,ok.vQ,ok.wH,ok.zK,ok.kO,ok.yc}
section
variable {X:Cx}{pins:List (Zs×Obj)}{σ:St}{H:Hp}{s:Zu}{E:Zt->Zu->Prop}
def Inv.wish (I:Υ)(E:Zt->Zu->ν):Inv (X.wish E) pins σ H s:={I.ok.wish E,I.os,I.bare,I.base,I.loc,I.cell,I.free,I.iX,I.pin,I.a0,I.len}
def Inv.kP (I:Inv (X.wish E) pins σ H s):Inv X pins σ H s:={I.ok.kP,I.os,I.bare,I.base,I.loc,I.cell,I.free,I.iX,I.pin,I.a0,I.len}
def SP.kP {f:Flow}(h:SP (X.wish E) pins G f t):SP X pins G f t:=by
 cases f with
 |next=>let[a,b,I,q]:=h;rwa[a,b,I.kP,q]
 |brk=>let[a,b,I,q]:=h;rwa[a,b,I.kP,q]
 |cont=>let[a,b,I,q]:=h;rwa[a,b,I.kP,q]
 |ret u=>let[v,a,b,I,r,q]:=h;rwa[v,a,b,I.kP,r,q]
def iY.CD {st:θ Stmt}{t:TS}(h:iY X.CD st t):iY X st t:=λpins s σ H D I a=>aok (h pins s σ H D (I.wish _) a) (λ_ _ q=>q.kP) λ_ _ z=>False.Κ z
end
section
variable {X:Cx}{st:Stmt}{rest:List Stmt}{t u:TS}{e:Expr}{te:TE}{pos:Pos}
def abi:TS:=λD a H=>D.nx a H
def aM (t u:TS):TS:=λD a H=>t { D with nx:=u D } a H
def bp:iY X [] abi:=λ_ _ a H _ I h=>apr {a,H,I,h}
def ai (d:PS X st t)(c:iY X rest u):iY X (st::rest) (aM t u):=by
 intro a s k H D I h;rwa[wpAny_execs_cons (bx (d a s k H { D with nx:=u D } I h) λf i q=>?_)]
 cases f with
 |next=>let[b,j,g,q]:=q;rwa[c a i b j D g q]
 |ret v=>exact q
 |brk=>exact q
 |cont=>exact q
def aw (b:PS X st t):iY X [st] t:=by
 intro a s c H D I h;rwa[wpAny_execs_cons (bx (b a s c H D I h) λf d q=>?_)]
 cases f with
 |next=>exact apr q
 |ret v=>exact q
 |brk=>exact q
 |cont=>exact q
def VL:TS:=λD a H=>D.bk a H
def wL:PS X (.Break pos) VL:=λ_ _ a H _ I h=>wpAny_Break {a,H,I,h}
def Inv.quiet (I:Ì):interactive X.env=χ:=by simp[interactive,I.ok.kind]
def abj (te:TE):TS:=λD a H=>te a H λ_ b=>D.nx a b
def a8 (d:Ŏ)(g:swapsWith e ε pos.line X.env=pure χ:=by rfl):PS X (.Expr e pos) (abj te):=by intro a s b H D I h;rwa[wpAny_Expr_any (bx (d a s b H _ I h) λv k ζ=>?_) I.quiet g];let[x,c,i,j,f]:=ζ;rwa[b,c,i,f]
def aep (te:TE):TS:=λD a H=>te a H D.rt
def bf (d:Ŏ):PS X (.Return (ι e) pos) (aep te):=by intro a s b H D I h;rwa[wpAny_Return_some (bx (d a s b H _ I h) λv j ζ=>?_)];let[x,c,i,f,g]:=ζ;rwa[x,b,c,i,f,g]
def abk:TS:=λD _ H=>D.rt .non H
def zL:PS X (.Return ε pos) abk:=λ_ _ a H _ I h=>wpAny_Return_none {.non,a,H,I,2,h}
def aeq (c:TT)(t u:TS):TS:=λD a H=>c a H λb d=>if b=ρ then t D a d else u D a d
def bI {c:đ}{a b:θ Stmt}{j:TT}(p:PT X c j)(o:iY X a t)(n:iY X b u):PS X (.If c a b pos) (aeq j t u):=by
 intro f s g H D I h;rwa[wpAny_If (bx (p f s g H _ I h) λd m ζ=>?_)];let[l,i,k]:=ζ
 cases d with
 |ρ=>exact o f m g l D i k
 |χ=>exact n f m g l D i k
def VM:TS:=λ_ _ _=>False
def ou:PS X st VM:=λ_ _ _ _ _ _ h=>h.Κ
end
abbrev TG:=V->St->Hp->(St->Hp->Prop)->Prop
abbrev Gf:=Zb->St->Hp->(St->Hp->Prop)->Prop
def PG (X:Cx)(target:đ)(t:TG):ν:=
 ∀(a:θ (Zs×Obj))(s:Zu)(d:St)(H:Hp)(v:V)(u:Zt)(Q:St->Hp->ν),Inv X a d H s->RelV v u->t v d H Q->X⁻¹ X.A (assign target X.env u) (λ_ e=>∃ b c,Inv X a b c e/\Q b c) X.xe s
def Q7 (X:Cx)(h:Zr)(t:Gf):ν:=
 ∀(a:θ (Zs×Obj))(s:Zu)(f:St)(H:Hp)(d:Zb)(c:Zk)(Q:St->Hp->ν),Inv X a f H s->Vals d c->t d f H Q->X⁻¹ X.A (assignInOrder ((assignEach h X.env).Α (·.2)) c) (λ_ g=>∃ b e,Inv X a b e g/\Q b e) X.xe s
abbrev N4:=V->V->V->Hp->(Hp->Prop)->Prop
def VN (X:Cx)(t:N4):ν:=
 ∀(a:θ (Zs×Obj))(s:Zu)(e:St)(H:Hp)(o i v:V)(d b u:Zt)(Q:Hp->ν),Inv X a e H s->RelV o d->RelV i b->RelV v u->t o i v H Q->X⁻¹ X.A (setItem d b u) (λ_ f=>∃c,Inv X a e c f/\Q c) X.xe s
section
variable {X:Cx}{pos:Pos}
def cU (i:η):TG:=λv a H Q=>Q (a.set i (ι v)) H
def Gh (d:Ĥ)(e:X.N[i]?\x)(f:Ī)(b:X.fn x=ρ\/X.env.scope.names.lookup x=ι .local:=by trivial):PG X (.Name x pos) (cU i):=by intro a s j H v u Q I r h;rwa[wpAny_assign_Name (wI I d e f r (λg c=>{_,H,c,h}) b)]
def aer:Gf:=λb a H Q=>b=[]/\Q a H
inductive Q8 (t:TG)(u:Gf)(vs:Zb)(σ:St)(H:Hp)(Q:(St->Hp->ν)):ν
 |mk (v:V)(r:Zb):vs=v::r->(t v σ H λ fH H'=>u r fH H' Q)->Q8 t u vs σ H Q
def lH:Q7 X [] aer:=by intro a s b H d c Q I r h;let[e,h]:=h;subst e;rwa[assignInOrder_nil {b,H,I,h}]
def dM {t:TG}{u:Gf}(g:PG X e t)(c:Q7 X C u)(l:(assignEach (e::C) X.env).Α (·.2)=assign e X.env::(assignEach C X.env).Α (·.2):=by rfl):Q7 X (e::C) (Q8 t u):=by
 intro a s m H o q Q I r h;let[v,p,n,h]:=h;subst n
 cases r with
 |cons r i=>rw[l];rwa[assignInOrder_cons (bx (g a s m H γ I r h) λ_ k ζ=>?_)];let[b,j,d,f]:=ζ;rwa[c a k b j β Q d i f]
inductive VP (K:Za1)(n:η)(t:Gf)(v:V)(σ:St)(H:Hp)(Q:(St->Hp->ν)):ν
 |mk (a:Zs)(xs:Zb):v=?a->bD K H a xs->@xs=n->t xs σ H Q->VP K n t v σ H Q
def oy [i:e9 X K]{d:Zr}{k:η}{t:Gf}{n:η}(D:X.calm=ρ)(h:Q7 X d t)(A:@(assignEach d X.env)=n:=by rfl)(f:(assignEach d X.env).findIdx? (·.1)=ε:=by rfl):PG X (.Tuple d k pos) (VP K n t):=by
 cases i.eq;intro c s j H v u Q I r g;let[a,z,C,q,y,g]:=g;subst C;ext r;let[w,x,l,F]:=I.tuple q;rwa[assign_Tuple_tuple (I.ok.hd D) l (by simp[A,<-y,@x]) f λp B=>?_]
 let m:Inv X c j H (s<*p):=I.kept (t':=s.toks) λb o e=>B b o (anl ĉ) e
 rwa[h c _ j H z _ Q m ∅ g]
def aes (to b:TE)(t:N4):TG:=λv a H Q=>to a H λo d=>b a d λi c=>t o i v c λe=>Q a e
def kQ {i:đ}{to f:TE}{t:N4}(q:PE X e to)(B:PE X i f)(A:VN X t)(G:∀v,assign (.Subscript e i pos) X.env v=(do
  let b <-holding [v] ē
  let c <-holding [v,b] (eval i X.env)
  standAt pos
  holding [v,b,c] (setItem b c v)
  release [v,b,c] []):=by intro _;rfl):PG X (.Subscript e i pos) (aes to f t):=by intro a s d H v u Q I r h;rwa[amC (an9 (bx (q a s d H _ I h) λb z ζ=>?_))];let[x,w,j,g,n]:=ζ;rwa[amC (an9 (bx (B a z d w _ j n) λc m ζ=>?_))];let[y,D,p,C,E]:=ζ;rwa[amC (ap6 (amC (an9 (bx (A a m d D x y v b c u _ p g C r E) λ_ F ζ=>?_))))];let[k,l,o]:=ζ;rwa[wpAny_release {d,k,l,o}]
def zM (b:TE)(g:TG):TS:=λD a H=>b a H λx c=>g x a c D.nx
def jS {a:đ}{c:TE}{g:TG}(r:PE X a c)(i:PG X e g)(p:swapsWithSole [e] a pos.line X.env=pure χ:=by rfl)(m:swappedStores [e] a X.env=pure ε:=by rfl)(l:(assignEach [e] X.env).Α (·.2)=[assign e X.env]:=by rfl):PS X (.Assign [e] a pos) (zM c g):=by intro b s d H D I h;rwa[wpAny_Assign_stores (bx (r b s d H _ I h) λv o ζ=>?_) p m];let[x,n,j,f,k]:=ζ;rw[l];rwa[bx (i b o d n x v _ j f k) λ_ t q=>q]
def VQ {b:TE}{pos':Pos}(p:Ĥ)(m:X.N[i]?\x)(o:Ī)(q:PE X e b)(l:swapsWith e (ι (.Name x pos')) pos.line X.env=pure χ:=by rfl)(j:X.fn x=ρ\/X.env.scope.names.lookup x=ι .local:=by trivial):
 PS X (.Assign [.Name x pos'] e pos) (zM b (cU i)):=by intro a s n H D I h;rwa[wpAny_Assign_Name (bx (q a s n H _ I h) λv t ζ=>?_) l];let[y,k,d,c,f]:=ζ;rwa[wI d p m o c (λr g=>{_,k,g,f}) j]
end
section
variable {X:Cx}{pos:Pos}
def VR (c:TT)(h:TS):TS:=λD a H=>∃W:η->St->Hp->ν,(∃m,W m a H)/\∀m a H,W m a H->c a H λb e=>if b=ρ then ∃N:St->Hp->ν,(∀ d g,N d g->∃f,f<m/\W f d g)/\h { D with nx:=N,ct:=N,bk:=D.nx } a e else D.nx a e
def ja {body:θ Stmt}{r:TT}{u:TS}(w:PassesOwn ë X.A X.env X.xe)(P:PT X e r)(E:iY X body u):PS X (.While e body [] pos) (VR r u):=by
 intro c s O H D I h;let[W,⟨J,L⟩,turn]:=h;rwa[wpAny_While (codeAny_whileLoop (λn B=>∃ i z,Inv X c i z B/\W n i z) ?_ J ⟨O,H,I,L⟩)];rintro n M ⟨d,x,F,C⟩;rwa[ao1 w (bx (P c M d x _ F (turn n d x C)) λb G ζ=>?_)];let[y,t,k]:=ζ
 cases b with
 |ρ=>
  let[N,A,k]:=k;rwa[ao1 w (bx (E c G d y _ t k) λf Q j=>?_)]
  cases f with
  |next=>let[a,g,o,m]:=j;let[p,q,l]:=A a g m;rwa[p,q,a,g,o,l]
  |cont=>let[a,g,o,m]:=j;let[p,q,l]:=A a g m;rwa[p,q,a,g,o,l]
  |brk=>exact j
  |ret v=>exact j
 |χ=>rwa[apr {d,y,t,k}]
end
structure It where
 go:η->Hp->ν
 sJ:η->Hp->V->Hp->ν
 stop:η->Hp->ν
def rJ (X:Cx)(a:θ (Zs×Obj))(H:Hp)(b:Zs):ν:=H b=ε/\b≠X.env.locals/\b∉X.fs/\(b∈X.ex\/X.fG.ς.Ν.Γ<=b)/\(∀x c,X.env.cells.lookup x\c->c≠b)/\∀p∈X.pn++a,p.1≠b
def Inv.zN (a:Ì)(d:↥s<=b)(g:I b=ε):rJ X o I b:=by
 rwa[g,aoC (ano a.lt d),a.VG d,.Ζ (amM a.sz d),λx c e z=>?_,λp f z=>?_]
 .let[v,q]:=a.cell x c e;rwa[absurd (ano q.lt ([z]▸d)) (aou _)]
 .rwa[absurd (ano (am6 (a.pin p f).1) ([z]▸d)) (aou _)]
structure Turn (P:ĩ)(w:Ĩ)(K:Za1)(tg:đ)(J:It)(fp:Zn)(it:Zs)(tn:η->Heap->ν):ν where
 mem:it∈fp
 obj:∀i h,tn i h->∀b∈fp,∃o,h.get? b\o/\∀v,o.data≠.cell v
 keep:∀i h h',tn i h->(∀b∈fp,∀o,h.get? b\o->h'.get? b\o)->tn i h'
 item:∀(X:Cx),X.prog=P->X.w=w->X.K=K->X.calm=ρ->∀(i:η)(pins:θ (Zs×Obj))(s:Zu)(σ:St)(H:Hp)(E:Zt->Zu->ν),Inv X pins σ H s->(∀b∈fp,rJ X pins H b)->tn i s.ς->J.go i H->
  (P<|>w) X.A (pyNext ?it) (λr s1=>∃u,r\u/\(P<|>w) X.A (letOwnedTupleGo tg ?it u) (λ_ s2=>∃x H',Inv X pins σ H' s2/\RelV x u/\J.sJ i H x H'/\tn (i+ 1) s2.ς/\∀b∈fp,H' b=ε) E s1) E s
 done:∀(X:Cx),X.prog=P->X.w=w->X.K=K->X.calm=ρ->∀(i:η)(pins:θ (Zs×Obj))(s:Zu)(σ:St)(H:Hp)(E:Zt->Zu->ν),Inv X pins σ H s->(∀b∈fp,rJ X pins H b)->tn i s.ς->J.stop i H->(P<|>w) X.A (pyNext ?it) (λr s1=>r=ε/\Inv X pins σ H s1) E s
 self:∀(A:Ģ)(i:η)(s:Zu)(Q E:Zt->Zu->ν),tn i s.ς->Q ?it s->(P<|>w) A (pyIter ?it) Q E s
abbrev TI:=St->Hp->(It->Hp->Prop)->Prop
def Q9 (X:Cx)(a:θ (Zs×Obj))(h:St)(g:đ)(R:It->Hp->ν)(c:Zt)(s2:Zu):ν:=∃(it:Zs)(f:Zn)(e:η->Heap->ν)(J:It)(d:Hp),c=?it/\Inv X a h d s2/\Turn X.prog X.w X.K g J f it e/\e 0 s2.ς/\(∀b∈f,rJ X a d b)/\R J d
def PI (X:Cx)(d iter:đ)(c:TI):ν:=
 ∀(a:θ (Zs×Obj))(s:Zu)(b:St)(H:Hp)(R:It->Hp->ν),Inv X a b H s->c b H R->X⁻¹ X.A (eval iter X.env) (λv e=>X⁻¹ X.A (pyIter v) (Q9 X a b d R) X.xe e) X.xe s
abbrev Rb:List String:=["enumerate","zip","dict_itemiterator","dict_reverseitemiterator","odict_iterator","itertools.zip_longest","itertools.pairwise"]
def HF {M:Model}{it:Zs}{o:Obj}{n:ţ}{b:Zm}(c:s•it\o)(d:o.cls=.type n)(hd:o.data=.fields b)(f:Rb.contains n=χ)(a:U () s):wpAny M A (letOwnedTupleGo e ?it u) U E s:=by
 cases e <;> first
  |rwa[amL a]
  |(cases u <;> first
   |rwa[amL a]
   |(rwa[amC (wpAny_load c ?_)]
     rw[d,hd];show wpAny M A (if (Rb.contains n && b[0]?==ι (rawInt _))=ρ then _ else _) U E s;rw[amY (by cbv)];rwa[amL a]))
def Gi (Q:Hp->Zb->ν):It:={λi H=>∃xs x,Q H xs/\xs[i]?\x,λi H x a=>a=H/\∀xs,Q H xs->xs[i]?\x,λi H=>∃xs,Q H xs/\@xs=i}
abbrev yd (K:Za1) (a:Zs):It:=Gi (λH=>az K H a)
abbrev JK (K:Za1) (a:Zs):It:=Gi (λH=>bD K H a)
def Gj (lo:ο)(n:η):It:={λi _=>i<n,λi H x a=>a=H/\x=.τ (lo+ i),λi _=>n<=i}
def Inv.lI {fp:Zn}{t':η}(I:Ì)(k:∀b u,b∉fp->s•b\u->h.get? b\u)(d:∀b∈fp,rJ X o H b):Inv X o D H { s with ς:=h,toks:=t' }:=by
 let g:∀b u,H b\u->b∉fp:=λb u e z=>by rw[(d b z).1]at e;ext e
 refine I.step (g':=s.gens) (d':=s.drawn) (ch:=fp) (λb f=>{(d b f).2.2.2.1,(d b f).2.1,(d b f).2.2.2.2.1,(d b f).2.2.2.2.2}) (λb a _ _ hc e _=>k b a hc e) (λb a _ _ hc e _=>{a.slots,k b a hc e})
  (λb a _ e n=>n) (λb a hc e=>{a,k b a hc e}) (λb j e=>e) (λb a u e=>e) (λb x e=>{#[],by rw[e];simp}) (λm p=>?_) (λb u e=>?_) I.bare
 .let[a,l,t,i,r]:=p;rwa[a,l,t,k _ a (λz=>(d _ z).2.1 Τ) i,r]
 .rwa[(I.a0 b u e).iV (λc v hc q=>k c v ?_ q) (λc q=>q) λc j q=>q]
  rcases hc with z|z
  .rw[z];rwa[g b u e]
  .rwa[g c _ z]
namespace Et
variable {prog:Program}{w:World}{A:Around}{E:Zt->Zu->Prop}{s:Zu}
theorem item {it:Zs}{items:Zm}{x:Zt}(hit:s.ς.IsTupleIter it a i)(e:s.ς.IsTuple a items)(j:items[i]?\x)(f:∀g,g.IsTupleIter it a (i+ 1)->Heap.SameBut it s.ς g->Q x (s<*g)):(prog<|>w) A (Builtin.SmallTypes.nextOf ?it) Q E s:=by let[o,b,h,hd]:=id hit;let[l,d,_,k,c]:=e;rwa[amC (anL (name:=Ι.ofString ģ) hit.typeIs aoR (anR aoR hit.typeIs F.entry_tuple_iterator_next ?_ X0))];show wpAny β (field ?it 0 >>=_) β s;rwa[amC (anB b hd (x:=?a) Τ ?_)];rw[amY (show ¬((Value.Η a==Value.ε)=ρ) by cbv)];rwa[amC (anB b hd (x:=.τ i 0) Τ ?_)];rwa[amC (apM d c ?_)];simp only[anb,j];rwa[amC (aot b hd (by simp) (amL {x,2,amL (f _ {_,anx _ b Ű,(apC ..).π h,by rw[anT hd];simp[rawInt]} (anW ..))}))]
theorem fin {it:Zs}{items:Zm}(h:A.handled=ε)(hit:s.ς.IsTupleIter it a i)(j:s.ς.IsTuple a items)(l:items[i]?=ε)(k:∀g e,Heap.ExtBut it s.ς g->(∃o,g.get? e\o/\o.cls=.type Ġ)->E ?e (s<*g)):(prog<|>w) A (Builtin.SmallTypes.nextOf ?it) Q E s:=by
 let[o,d,p,hd]:=id hit;let[q,c,_,n,f]:=j;rwa[amC (anL (name:=Ι.ofString ģ) hit.typeIs aoR (anR aoR hit.typeIs F.entry_tuple_iterator_next ?_ X0))];show wpAny β (field ?it 0 >>=_) β s;rwa[amC (anB d hd (x:=?a) Τ ?_)];rw[amY (show ¬((Value.Η a==Value.ε)=ρ) by cbv)];rwa[amC (anB d hd (x:=.τ i 0) Τ ?_)];rwa[amC (apM c f ?_)];simp only[anb,l];rwa[amC (apV (amC (aot d hd (by simp) ?_)))];rwa[amC ?_];rwa[amC (m:=firstArgMember β) (aps (a:=Value.ε) (by first|rfl|(simp only[firstArgMember];rfl)) ?_)];rwa[anw ?_ (by size_fits)];rwa[amC (wpAny_handled ?_)];first|rw[show A.in1.handled=ε from h]|rw[h]
 rwa[amC (amL (wpAny_throw ?_))];rwa[k β (((anW ..).extBut.push _).push _) {_,am0 _ Τ,2}]
def draws (m:A.handled=ε)(it l:Zs)(b:l≠it)(items:Zm):Draws prog w A it [it,l] items.Γ (λi v=>items[i]?\v) (λi h=>h.IsTupleIter it l i/\h.IsTuple l items) where
 live:=λ_ _ st=>let ⟨o,a,_⟩:=st.1;{o,a}
 frame:=λ_ _ _ st c=>{st.1.at λo e=>c it (by simp) o e,by let[o,a,r]:=st.2;rwa[o,c l (by simp) o a,r]}
 item:=λi s Q E f st k=>by
  rwa[item st.1 st.2 (x:=items[i]) (by simp[f]) λg n d=>?_]
  rwa[k _ g s.toks (by simp[f]) {n,st.2.extBut d.extBut b} d]
 done:=λs Q E st j=>fin m st.1 st.2 (by simp) j
end Et
def iJ {o u:Obj}(c:h.get? a\o)(d:h.get? b\u)(e:o.cls≠u.cls):a≠b:=λz=>by cbv
structure JL (K:Za1)(Q:Hp->Zb->ν)(a it:Zs)(tn:η->Heap->ν):ν where
 ob:∀i h,tn i h->∃o n vs,h.get? it\o/\o.cls=.type n/\o.data=.fields vs/\Rb.contains n=χ
 kp:∀i h h',tn i h->(∀o,h.get? it\o->h'.get? it\o)->tn i h'
 dr:∀{X:Cx}{pins:θ (Zs×Obj)}{σ:St}{H:Hp}{s:Zu}{i:η}{xs:Zb},X.K=K->X.calm=ρ->Inv X pins σ H s->Q H xs->tn i s.ς->
  (∀ys,Q H ys->ys=xs)/\∃(its:Zk)(oa:Obj)(St:η->Heap->ν),Vals xs its/\s•a\oa/\oa.cls≠.type Ã/\Draws X.prog X.w X.A.in1 it [it,a] its.toArray.Γ (λi v=>its.toArray[i]?\v) St/\Walks X.prog X.w X.A it [it,a] [it] its.toArray.Γ (λi v=>its.toArray[i]?\v) St/\St i s.ς/\∀i h,St i h->tn i h
def wM (a it:Zs):JL K (λH=>az K H a) a it (λi h=>h.IsListIter it a i) where
 ob:=λi h ζ=>by let[o,e,c,d]:=ζ;rwa[o,11,e,c,d,4]
 kp:=λi h v st k=>st.at k
 dr:=λ{X g B H s i z} m j I q st=>by subst m;let[b,r,p,_]:=I.list q;let p:=p.isList;let[u,f,t,_]:=id p;let[w,l,x,_]:=id st;let n:=iJ f l (by cbv);rwa[λys y=>I.wJ y q,b,u,_,r,f,by rw[t];decide,Draws.list (A:=X.A.in1) (I.ok.hd j) it a n _,.list (I.ok.hd j) it a n _,{st,p},λ_ _ y=>y.1]
def T8 (a it:Zs):JL K (λH=>bD K H a) a it (λi h=>h.IsTupleIter it a i) where
 ob:=λi h ζ=>by let[o,e,c,d]:=ζ;rwa[o,11,e,c,d,4]
 kp:=λi h v st k=>st.at k
 dr:=λ{X g B H s i z} m j I q st=>by subst m;let[b,r,p,_]:=I.tuple q;let[u,f,t,_]:=id p;let[w,l,x,_]:=id st;let n:=iJ f l (by cbv);rwa[λys y=>I.AV y q,b,u,_,r,f,by rw[t];decide,Et.draws (A:=X.A.in1) (I.ok.hd j) it a n _,.tuple (I.ok.hd j) it a n _,{st,p},λ_ _ y=>y.1]
def JM {J:It}{it:Zs}{j:η->Heap->ν}(S:∀i h,j i h->∃o n F,h.get? it\o/\o.cls=.type n/\o.data=.fields F/\Rb.contains n=χ)(kp:∀i h g,j i h->(∀o,h.get? it\o->g.get? it\o)->j i g)(wk:∀(X:Cx) (f:θ (Zs×Obj)) (t:St) (H:Hp) (s:Zu) (i:η),X.K=K->X.calm=ρ->Inv X f t H s->j i s.ς->J.go i H\/J.stop i H->∃C n u St,Walks X.prog X.w X.A it C [it] n u St/\St i s.ς/\(∀i h,St i h->j i h)/\(J.go i H->i<n/\∀v,u i v->∃x,RelV x v/\J.sJ i H x H)/\(J.stop i H->i=n))(T:∀(A:Ģ) (i:η) (s:Zu) (Q:Zt->Zu->ν) (E:Zt->Zu->ν),j i s.ς->Q ?it s->(P<|>w) A (pyIter ?it) Q E s):Turn P w K e J [it] it j where
 mem:=by simp
 obj:=λi h st b D=>by let[o,n,F,a,_,d,_]:=S i h st;rw[amI.mp D];rwa[o,a,by cbv]
 keep:=λi h g st k=>kp i h g st (k it (by simp))
 item:=by
  intro X N M G O i f s t H E I z st l;subst N M;let[C,n,u,St,W,L,B,q,_]:=wk X f t H s i G O I st (.ψ l);let[U,q]:=q l;rwa[W.item i s β U L λv g R Y p k=>?_]
  let[o,m,F,a,c,d,V]:=S^B^p;let[x,r,y]:=q v Y;rwa[v,2,HF (s:={ s with ς:=g,toks:=R }) a c d V {x,H,I.lI k z,r,y,B^p,λb D=>(z b D).1}]
 done:=by intro X N M G O i f s t H E I z st l;subst N M;let[C,n,u,St,W,L,B,_,q]:=wk X f t H s i G O I st (.Ζ l);rwa[W.done s β (q l ▸ L) λg R k=>{2,I.lI k z}]
 self:=T
def CF {Q:Hp->Zb->ν}{it:Zs}{d:η->Heap->ν}(S:JL K Q a it d)(p:∀(A:Ģ) (i:η) (s:Zu) (Q:Zt->Zu->ν) (E:Zt->Zu->ν),d i s.ς->Q ?it s->(P<|>w) A (pyIter ?it) Q E s):Turn P w K e (Gi Q) [it] it d:=
 JM S.ob S.kp (λX j D H s i n t I st h=>by
  obtain⟨b,q⟩:∃b,Q H b:=by rcases h with ⟨b,_,q,_⟩|⟨b,q,_⟩ <;> rwa[b,q]
  let[inj,m,F,St,f,_,_,_,W,o,k]:=S.dr n t I q st;let B:=@f;rwa[1111,W,o,k,λg=>?_,λg=>?_]
  .let[ys,x,y,c]:=g;rw[inj ys y]at c;let[u,C,G]:=f.get c;rwa[by simp;cbv,λv r=>{x,52,λl z=>[inj l z]▸c}];simp at r
   cbv
  .let[ys,y,c]:=g;rw[inj ys y]at c;simp;omega) p
def JN (a it:Zs):Turn P w K e (yd K a) [it] it (λi h=>h.IsListIter it a i):=CF (wM a it) λ_ _ _ _ _ st h=>wpAny_pyIter_listiter st h
def HG (a it:Zs):Turn P w K e (JK K a) [it] it (λi h=>h.IsTupleIter it a i):=CF (T8 a it) λ_ _ _ _ _ st h=>wpAny_pyIter_tupleiter st h
def HJ (it:Zs)(lo:ο)(n:η):Turn P w K e (Gj lo n) [it] it (λi h=>IsRangeIter h it (lo+ (i:η)* 1) ((n:ο) - (i:η)) 1) where
 mem:=by simp
 obj:=λi h st b f=>by cbv
 keep:=λi h l st k=>k it (by simp) _ st
 item:=by
  intro X u q p m i d s A H E I g st j;subst u q p;let W:=Walks.range (prog:=X.prog) (w:=X.w) (I.ok.hd m) it lo 1 n;rwa[W.item i s β j st λv l x B c y=>?_]
  let[t,Τ]:=B;rwa[12,HF (s:={ s with ς:=l,toks:=x }) (n:="range_iterator") c Τ Τ ⋯ {.τ (lo+ i),H,I.lI y g,{t,5},{22},c,λb f=>(g b f).1}]
  cbv
 done:=by intro X u q p m i d s A H E I g st j;rwa[wpAny_pyNext_range_end (I.ok.hd m) st (by have:n<=i:=j;omega) λl z=>{2,I.lI (t':=s.toks) (λb o f a=>z b o (by simpa using f) a) g}]
 self:=λ_ _ _ _ _ st h=>wpAny_pyIter_rangeiter st h
section
variable {X:Cx}{tg:Expr}
def abl (K:Za1)(tl:TE):TI:=λ d H R=>tl d H λx b=>∃a,x=?a/\(∃c,az K b a c)/\R (yd K a) b
def aeu (K:Za1)(tl:TE):TI:=λ d H R=>tl d H λx b=>∃a,x=?a/\(∃c,bD K b a c)/\R (JK K a) b
def CH {R:It->Hp->ν}{J:It}{c:η->Heap->ν}{a:Obj}(I:Ì)(T:Turn X.prog X.w X.K tg J [↥s] ↥s c)(d:c 0 (s.ς.push a))(q:R J H):
 Q9 X o D tg R ↑↥s { s with ς:=s.ς.push a,toks:=n }:={1111,H,2,I.kept λb a e=>amJ _ e,T,d,λb f=>by rw[amI.mp f];rwa[I.zN Φ Ï],q}
def cD [c:e9 X K]{l:đ}{tl:TE}(j:PE X l tl):PI X tg l (abl K tl):=by
 cases c.eq;intro b s k H R I h;rwa[bx (j b s k H _ I h) λv t ζ=>?_];let[x,o,d,f,a,e,⟨r,g⟩,q]:=ζ
 subst e;ext f;let[i,m,p,n]:=d.list g;rwa[aoJ p.isList (CH d (JN a _) {_,am0 _ Τ,22} q)]
def iK [g:e9 X K]{l:đ}{tl:TE}(r:PE X l tl):PI X tg l (aeu K tl):=by
 cases g.eq;intro c s t H R I h;rwa[bx (r c s t H _ I h) λv s1 ζ=>?_];let[x,n,d,i,m]:=ζ
 let[a,e,⟨z,k⟩,q]:=m;subst e;ext i;let[f,w,p,y]:=d.tuple k;rwa[wpAny_pyIter_tuple (show s1.ς.IsTuple a f.toArray from p) ?_];rwa[↥s1,[↥s1],11,n,2,d.kept (t':=s1.toks) λb o e=>amJ _ e,HG a _,{_,am0 _ Τ,22},λb j=>?_,q];let e:b=↥s1:=by simpa using j
 subst e;rwa[d.zN Φ (d.a0.fresh Φ)]
def CJ {R:It->Hp->ν}{lo:ο}{t u v:Tok}(I:Ì)(f: -(2 ^ 62)<=lo)(c:lo<2 ^ 62)(h: -(2 ^ 62)<=z)(d:z<2 ^ 62)(q:R (Gj lo (z - lo).toNat) H):X⁻¹ X.A (pyIter ↑↥s) (Q9 X o D tg R) E { s with ς:=s.ς.push (ą>>>.fields #[.τ lo t,.τ z u,.τ 1 v]),toks:=n }:=by
 rwa[wpAny_pyIter_range (IsRange.new ..) (small_one f c h d) (CH (s:={ s with ς:=s.ς.push _,toks:=n }) (I.kept λb a e=>amJ _ e) (HJ _ lo (z - lo).toNat) ?_ q)];let i:lo+ ((0:η):ο)* 1=lo:=by simp
 let g:(((z - lo).toNat:η):ο) - ((0:η):ο)=Builtin.Range.rangeSize lo z 1:=by rw[rangeSize_one];split <;> ext
 rw[i,g];rwa[am0 _ Τ]
def abm (c:TA):TI:=λ d H R=>c d H λa b=>∃j:ο,a=[.τ j]/\-(2 ^ 62)<=j/\j<2 ^ 62/\R (Gj 0 j.toNat) b
def abn (c:TA):TI:=λ d H R=>c d H λa b=>∃i j:ο,a=[.τ i,.τ j]/\(-(2 ^ 62)<=i/\i<2 ^ 62/\-(2 ^ 62)<=j/\j<2 ^ 62)/\R (Gj i (j - i).toNat) b
def jb {d:TA}{pos:Pos}(g:Gl X ą)(n:X.mg ą=ε)(o:PA X [e] d)(l:starEach [e] X.env=[(χ,eval e X.env)]:=by rfl):PI X tg (.Call (.Name ą p) [e] [] pos) (abm d):=by
 intro a s m H R I h;rwa[Call_ (iI I g n boot_range (anP (bx (o pos a s m H _ I h) λy x ζ=>?_) l Τ))];let[v,w,i,f,c]:=ζ;let[j,b,c,u,q]:=c;subst b
 cases f with
 |cons r k=>ext k;let[t,Τ]:=r;rwa[call_range_1 (CJ i ∅ ∅ c u (by simpa using q))]
def mG {b:đ}{k:TA}{pos:Pos}(n:Gl X ą)(y:X.mg ą=ε)(z:PA X [e,b] k)(w:starEach [e,b] X.env=[(χ,eval e X.env),(χ,eval b X.env)]:=by rfl)(d:starEach [b] X.env=[(χ,eval b X.env)]:=by rfl):
 PI X tg (.Call (.Name ą p) [e,b] [] pos) (abn k):=by
 intro a s x H R I h;rwa[Call_ (iI I n y boot_range (anP (bx (z pos a s x H _ I h) λF E ζ=>?_) (by rw[w,d]) (by rw[d];rfl)))];let[C,D,o,m,f]:=ζ;let[i,j,c,⟨f,A,u,v⟩,q]:=f;subst c
 cases m with
 |cons r g=>
  cases g with
  |cons l g=>ext g;let[t,Τ]:=r;let[B,Τ]:=l;rwa[call_range_2 (CJ o f A u v q)]
abbrev tN (J:It) (g:TG) (tb:TS) (D:Ends) (σ:St) (H:Hp):Prop:=∃W:Nat->Nat->St->Hp->Prop,(∃m,W 0 m σ H)/\∀i m σ H,W i m σ H->
 (J.stop i H/\D.nx σ H)\/(J.go i H/\∃N:St->Hp->Prop,(∀ fH H',N fH H'->∃m',m'<m/\W (i+ 1) m' fH H')/\∀x H',J.sJ i H x H'->g x σ H' λ σ2 H2=>tb { D with nx:=N,ct:=N,bk:=D.nx } σ2 H2)
def aev (c:TI)(g:TG)(b:TS):TS:=λD a H=>c a H λJ d=>tN J g b D a d
def ye (a:Zn)(h:ċ):θ (Zs×Obj):=a.filterMap λb=>(h.get? b).Α λo=>(b,o)
def jw {o:Obj}(a:b∈F)(e:h.get? b\o):(b,o)∈ye F h:=θ.mem_filterMap.mpr {b,a,by rw[e];rfl}
def JP {p:Zs×Obj}(a:p∈ye F h):p.1∈F/\h.get? p.1\p.2:=by
 let[b,c,e]:=θ.mem_filterMap.mp a
 cases q:h.get? b with
 |ε=>rw[q]at e;ext e
 |ι o=>cbv
def Inv.pinned (I:Ì)(d:∀b∈F,rJ X o H b)(h:∀b∈F,∃a,s•b\a/\∀v,a.data≠.cell v):Inv X (o++ye F s.ς) D H s:=
 I.qB λp c=>(amO.mp c).Κ (λz=>I.pin p (amN _ z)) λz=>by
  let[f,e]:=JP z;let[i,f1,g,_]:=d p.1 f
  cbv
def Inv.wN {pl:θ (Zs×Obj)}(I:Inv X (o++pl) D H s):Inv X o D H s:=I.qB λp a=>I.pin p (amN _ (amV _ a))
def bU {iter:đ}{body:θ Stmt}{R:TI}{g:TG}{Y:TS}{pos:Pos}(E:PassesOwn ë X.A X.env X.xe)(V:X.calm=ρ)(hi:PI X tg iter R)(hg:PG X tg g)(k:iY X body Y)(hs:∀x,foldedSetIterable iter X.env x=pure x:=by intro _;rfl):PS X (.For tg iter body [] pos) (aev R g Y):=by
 intro c s σ H D I h;rwa[wpAny_For (bx (hi c s σ H _ I h) λv s1 h1=>bx h1 λitv s2 h2=>?_) hs];let[it,A,tn,J,H2,e,I2,T,O,U,W,⟨m0,w0⟩,turn]:=h2;subst e
 let stat:∀{t:Hp},(∀b∈A,t b=ε)->∀b∈A,rJ X c t b:=λhn b k=>{hn b k,(U b k).2}
 rwa[codeAny_forLoop_any (λn s'=>∃i q t,Inv X c q t s'/\tn i s'.ς/\(∀b∈A,t b=ε)/\W i n q t) ?_ m0 ⟨(0),σ,H2,I2,O,λb k=>(U b k).1,w0⟩];rintro n s3 ⟨i,j,F,Z,B,C,w3⟩;rcases turn i n j F w3 with ⟨stop,qn⟩|⟨go,N,hN,step⟩
 .rwa[ao1 E (bx (T.done X Τ Τ Τ V i c s3 j F X.xe Z (stat C) B stop) λr s4 ζ=>?_)];let[P,I4]:=ζ;subst P;rwa[apr {j,F,I4,qn}]
 .rwa[ao1 E (bx (T.item X Τ Τ Τ V i c s3 j F X.xe Z (stat C) B go) λr s4 ζ=>?_)];let[u,P,h4]:=ζ;subst P;rwa[ao1 E (bx h4 λ_ s5 ζ=>?_)];let[x,S,I5,r5,y5,y,L]:=ζ;let Q:=I5.pinned (stat L) (T.obj^y);rwa[ao1 E (bx (hg _ s5 j S x u _ Q r5 (step x S y5)) λ_ s6 ζ=>?_)];let[M,H6,I6,q6]:=ζ;rwa[ao1 E (bx (k _ s6 M H6 _ I6 q6) λf G w=>?_)]
  let again:∀{a:St}{l:Hp},Inv X (c++ye A s5.ς) a l G->N a l->∃m,m<n/\∃i q t,Inv X c q t G/\tn i G.ς/\(∀b∈A,t b=ε)/\W i m q t:=λ{a l} p z=>by let[m',hm,w7]:=hN a l z;rwa[m',hm,i+ 1,a,l,p.wN,T.keep γ y λb k o e=>(p.pin (b,o) (amN _ (amN _ (jw k e)))).1,λb k=>?_,w7];let[o,e,d]:=T.obj β y b k;rwa[(p.pin (b,o) (amN _ (amN _ (jw k e)))).2.1]
  cases f with
  |next=>let[a,l,p,z]:=w;rwa[again p z]
  |cont=>let[a,l,p,z]:=w;rwa[again p z]
  |brk=>let[a,l,p,w]:=w;rwa[a,l,p.wN,w]
  |ret v=>let[x7,a,l,p,r7,w]:=w;rwa[x7,a,l,p.wN,r7,w]
end
section
variable {g:TG}{tb:TS}{D:Ends}{σ:St}{H:Hp}{Pv:Nat->St->Hp->Prop}
def uY {J:It}(j:Pv 0 σ H)(d:∀i σ H,i<n->Pv i σ H->J.go i H/\∀x c,J.sJ i H x c->g x σ c λ b e=>tb { D with nx:=Pv (i+ 1),ct:=Pv (i+ 1),bk:=D.nx } b e)(f:∀ σ H,Pv n σ H->J.stop n H/\D.nx σ H):tN J g tb D σ H:=by
 erw[λi m σ H=>m=n - i/\i<=n/\Pv i σ H,{n,2,ani _,j}];rintro i m σ H ⟨rfl,o,p⟩;cases a:i<n
 .rwa[.Ζ {(d i σ H a p).1,Pv (i+ 1),λ k c h=>{n - (i+ 1),32,a,h},(d i σ H a p).2}]
 .obtain rfl:i=n:=∅
  rwa[.ψ (f σ H p)]
def cS {Q:Hp->Zb->ν}{xs:Zb}(Pv:η->St->Hp->ν)(e:Pv 0 σ H)(b:∀i σ H,i<=@xs->Pv i σ H->Q H xs)(f:∀i x σ H,xs[i]?\x->Pv i σ H->g x σ H λ a d=>tb { D with nx:=Pv (i+ 1),ct:=Pv (i+ 1),bk:=D.nx } a d)(hd:∀ σ H,Pv @xs σ H->D.nx σ H):tN (Gi Q) g tb D σ H:=uY e (λi σ H c p=>{{xs,xs[i],b i σ H (aoI c) p,amB c},λx h y=>by rw[y.1];rwa[f i x σ _ (y.2 xs (b i σ _ (aoI c) p)) p]}) λ σ H p=>{{xs,b _ σ H Φ p,2},hd σ H p}
def ik {lo:ο}(Pv:η->St->Hp->ν)(d:Pv 0 σ H)(e:∀i σ H,i<n->Pv i σ H->g (.τ (lo+ i)) σ H λ a c=>tb { D with nx:=Pv (i+ 1),ct:=Pv (i+ 1),bk:=D.nx } a c)(hd:∀ σ H,Pv n σ H->D.nx σ H):tN (Gj lo n) g tb D σ H:=uY d (λi σ H b p=>{b,λx f y=>by rw[y.1,y.2];rwa[e i σ _ b p]}) λ σ H p=>{amK n,hd σ H p}
end
abbrev R2:=V->V->Hp->VK->Prop
def il (X:Cx)(f:Zt->Zt->Sem Zt)(r:R2):ν:=
 ∀(a:θ (Zs×Obj))(s:Zu)(b:St)(H:Hp)(x y:V)(v u:Zt)(Q:VK),Inv X a b H s->RelV x v->RelV y u->r x y H Q->X⁻¹ X.A (f v u) ō X.xe s
def VS (X:Cx)(f:Zt->Sem Zt)(r:V->Hp->VK->ν):ν:=
 ∀(a:θ (Zs×Obj))(s:Zu)(b:St)(H:Hp)(x:V)(v:Zt)(Q:VK),Inv X a b H s->RelV x v->r x H Q->X⁻¹ X.A (f v) ō X.xe s
def iz (X:Cx)(f:Zt)(r:Zb->Hp->VK->ν):ν:=
 ∀(a:θ (Zs×Obj))(s:Zu)(d:St)(H:Hp)(c:Zb)(b:Zk)(Q:VK),Inv X a d H s->Vals c b->r c H Q->X⁻¹ X.A (call f b) (EP X a d Q) X.xe s
def aew (X:Cx)(r:V->Hp->(Μ->Hp->ν)->ν):ν:=
 ∀(a:θ (Zs×Obj))(s:Zu)(b:St)(H:Hp)(x:V)(v:Zt)(Q:Μ->Hp->ν),Inv X a b H s->RelV x v->r x H Q->X⁻¹ X.A (truthy v) (TP X a b Q) X.xe s
def Rc (r:R2)(e b:TE):TE:=λ a H Q=>e a H λx d=>b a d λy c=>r x y c Q
def tUn (r:V->Hp->VK->ν)(b:TE):TE:=λ c H Q=>b c H λx a=>r x a Q
inductive rI (C:ο->ο->ν)(g:ο->ο->V)(x y:V)(H:Hp)(Q:VK):ν
 |mk (i j:ο):x=.τ i->y=.τ j->C i j->Q Ŋ H->rI C g x y H Q
inductive yf (g:ο->ο->V)(x y:V)(H:Hp)(Q:VK):ν
 |mk (i j:ο):x=.τ i->y=.τ j->Q Ŋ H->yf g x y H Q
inductive rU (g:ο->V)(x:V)(H:Hp)(Q:VK):ν
 |mk (i:ο):x=.τ i->Q (g i) H->rU g x H Q
section
variable {X:Cx}{a b:Expr}{ta tb:TE}{pos:Pos}
def N5 (z:ŏ)(n:ϓ){d:θ (Zs×Obj)}{s:Zu}{e:St}{H:Hp}{R:V->V->Hp->ν}(I:Inv X d e H s)(h:ta e H λx l=>tb e l λy g=>R x y g){Q:Zt->Zu->ν}{f:Zt->Zt->Sem Zt}(r:∀v u k x y g,Inv X d e g k->RelV x v->RelV y u->R x y g->X⁻¹ X.A (f v u) Q X.xe k):
 X⁻¹ X.A (eval a X.env) (λv j=>X⁻¹ X.A (eval b X.env) (λu i=>X⁻¹ X.A (f v u) Q X.xe i) X.xe j) X.xe s:=by
 rwa[bx (z d s e H _ I h) λv t ζ=>?_];let[x,l,o,m,p]:=ζ
 rwa[bx (n d t e l _ o p) λu k ζ=>?_];let[y,g,q,w,A]:=ζ
 rwa[r v u k x y g q m w A]
def aK {e:Operator}{r:R2}(j:il X (binaryOp e) r)(o:ŏ)(f:ϓ):PE X (.BinOp a e b pos) Q4:=by intro d s m H Q I h;rwa[wpAny_BinOp (N5 o f I h λv u g x y n i k l q=>j d g m n x y v u Q i k l q)]
def fx {e:UnaryOp}{r:V->Hp->VK->ν}(g:VS X (unaryOp e) r)(j:ŏ):PE X (.UnaryOp e a pos) (tUn r ta):=by intro d s f H Q I h;rwa[UnaryOp_ (bx (j d s f H _ I h) λv m ζ=>?_)];let[x,i,n,k,l]:=ζ;rwa[g d m f i x v Q n k l]
def JQ {f:Zt->Zt->Sem Zt}{C:ο->ο->ν}{g:ο->ο->ο}(rule:∀(i j:ο) (t u:Tok) (s:Zu) (Q:Zt->Zu->ν) (E:Zt->Zu->ν),C i j->Q (.τ Ŋ s.toks) { s with toks:=s.toks+ 1 }->X⁻¹ X.A (f (.τ i t) (.τ j u)) Q E s):
 il X f (rI C λi j=>.τ Ŋ):=by intro d s n H x y v u Q I k l h;let[i,j,Τ,Τ,m,q]:=h;let[t,Τ]:=k;let[e,Τ]:=l;rwa[rule i j t e s β m {.τ Ŋ,H,I.tok _,{12},q}]
def VW {f:Zt->Zt->Sem Zt}{g:ο->ο->ο}(rule:∀(i j:ο) (t u:Tok) (s:Zu) (Q:Zt->Zu->ν) (E:Zt->Zu->ν),Q (.τ Ŋ s.toks) { s with toks:=s.toks+ 1 }->X⁻¹ X.A (f (.τ i t) (.τ j u)) Q E s):
 il X f (yf λi j=>.τ Ŋ):=by intro d s m H x y v u Q I k l h;let[i,j,Τ,Τ,q]:=h;let[t,Τ]:=k;let[e,Τ]:=l;rwa[rule i j t e s β {.τ Ŋ,H,I.tok _,{12},q}]
def HK {f:Zt->Zt->Sem Zt}{g:ο->ο->Μ}(rule:∀(i j:ο) (t u:Tok) (s:Zu) (Q:Zt->Zu->ν) (E:Zt->Zu->ν),Q (.bool Ŋ) s->X⁻¹ X.A (f (.τ i t) (.τ j u)) Q E s):
 il X f (yf λi j=>.bl Ŋ):=by intro d s m H x y v u Q I k l h;let[i,j,Τ,Τ,q]:=h;let[t,Τ]:=k;let[e,Τ]:=l;rwa[rule i j t e s β {.bl Ŋ,H,I,2,q}]
def aex (i j:ο):ν:=0<j/\j<1073741824
def aey (i j:ο):ν:=0<=j/\j<=1000000/\i.natAbs<2 ^ 64
def N6 (i j:ο):ν:=(-(2 ^ 64)<i/\i<2 ^ 64)\/(-(2 ^ 64)<j/\j<2 ^ 64)
def N6.ok (h:N6 z y):IntMulOk z y:=by
 rcases h with ⟨e,d⟩|⟨e,d⟩
 .rwa[.of_left (intBits_le_64 e d)]
 .rwa[.of_right (intBits_le_64 e d)]
def cZ:il X (binaryOp .Add) (yf λi j=>.τ (i+ j)):=VW λ_ _ _ _ _ _ _ q=>add_int q
def fI:il X (binaryOp .Sub) (yf λi j=>.τ (i - j)):=VW λ_ _ _ _ _ _ _ q=>sub_int q
def jc:il X (binaryOp .Mult) (rI N6 λi j=>.τ (i* j)):=JQ λ_ _ _ _ _ _ _ d q=>mul_int q d.ok
def dF:il X (binaryOp .FloorDiv) (rI aex λi j=>.τ (i / j)):=JQ λi j _ _ _ _ _ d q=>by let f:(0:ο)<j:=d.1;let e:j<1073741824:=d.2;rwa[floordiv_int ∅ ([ο.fdiv_eq_ediv_of_nonneg i ∅]▸q) (.ψ (PyProof.noPylong_small ∅))]
def cP:il X (binaryOp .Mod) (rI (λ_ j=>0<j) λi j=>.τ (i % j)):=JQ λi j _ _ _ _ _ d q=>by rwa[mod_int' ∅ ([ο.fmod_eq_emod_of_nonneg i ∅]▸q)]
def JR:il X (binaryOp .Pow) (rI aey λi j=>.τ (HPow.hPow i j.toNat)):=JQ λ_ _ _ _ _ _ _ d q=>pow_int_small d.1 d.2.1 d.2.2 q
def unI {f:Zt->Sem Zt}{g:ο->ο}(rule:∀(i:ο) (t:Tok) (s:Zu) (Q:Zt->Zu->ν) (E:Zt->Zu->ν),Q (.τ (g i) s.toks) { s with toks:=s.toks+ 1 }->X⁻¹ X.A (f (.τ i t)) Q E s):
 VS X f (rU λi=>.τ (g i)):=by intro d s j H x v Q I e h;let[i,Τ,q]:=h;let[t,Τ]:=e;rwa[rule i t s β {.τ (g i),H,I.tok _,{12},q}]
def dN:VS X (unaryOp .USub) (rU λi=>.τ (-i)):=unI λ_ _ _ _ _ q=>neg_int q
end
def N7:V->V->Μ
 |.non,.non=>ρ|.non,.τ _=>ρ|.τ _,.non=>ρ|.non,.bl _=>ρ|.bl _,.non=>ρ|.non,.str _=>ρ|.str _,.non=>ρ
 |.τ _,.τ _=>ρ|.bl _,.bl _=>ρ|.str _,.str _=>ρ|.pO _,.pO _=>ρ
 |.τ _,.str _=>ρ|.str _,.τ _=>ρ|.bl _,.str _=>ρ|.str _,.bl _=>ρ
 |_,_=>χ
inductive rEq (x y:V)(H:Hp)(Q:VK):ν
 |mk:N7 x y=ρ->Q (.bl (decide (x=y))) H->rEq x y H Q
inductive rNe (x y:V)(H:Hp)(Q:VK):ν
 |mk:N7 x y=ρ->Q (.bl (!decide (x=y))) H->rNe x y H Q
def Gk:decide (V.τ z=V.τ y)=(z==y):=by rw[aoL];simp
def JS {i j:Μ}:decide (V.bl i=V.bl j)=(i==j):=by rw[aoL];simp
def Gm:decide (V.str x=V.str f)=(x==f):=by rw[aoL];simp
def Gn {i j:Array UInt8}:decide (V.pO i=V.pO j)=(i.toList==j.toList):=by rw[aoL];ext i;ext j;simp
section
variable {X:Cx}{a b:Expr}{ta tb:TE}{pos:Pos}
def cj {Q:VK}{k d:Μ}(I:Ì)(q:Q (.bl k) H)(e:k=d):EP X o D Q (.bool d) s:=by subst e;rwa[.bl k,H,I,2,q]
def dI:il X (compareOp .Eq) rEq:=by
 intro k s l H x y v u Q I g d h;let[f,q]:=h
 cases x with
 |non=>
  ext g
  cases y with
  |non=>ext d;rwa[PySem.EqNone.eq_none_none (cj I q (by simp))]
  |bl j=>ext d;rwa[PySem.EqNone.eq_none_bool (cj I q (by simp))]
  |τ j=>let[e,Τ]:=d;rwa[PySem.EqNone.eq_none_int (cj I q (by simp))]
  |str j=>let[e,Τ]:=d;rwa[PySem.EqNone.eq_none_str (cj I q (by simp))]
  |_=>exact absurd (show χ=ρ from f) anz
 |bl i=>
  ext g
  cases y with
  |non=>ext d;rwa[PySem.EqNone.eq_bool_none (cj I q (by simp))]
  |bl j=>ext d;rwa[eq_bool (cj I q JS)]
  |str j=>let[e,Τ]:=d;rwa[PySem.EqMixed.eq_bool_str (cj I q (by simp))]
  |_=>exact absurd (show χ=ρ from f) anz
 |τ i=>
  let[t,Τ]:=g
  cases y with
  |non=>ext d;rwa[PySem.EqNone.eq_int_none (cj I q (by simp))]
  |τ j=>let[e,Τ]:=d;rwa[eq_int (cj I q Gk)]
  |str j=>let[e,Τ]:=d;rwa[PySem.EqMixed.eq_int_str (cj I q (by simp))]
  |_=>exact absurd (show χ=ρ from f) anz
 |str i=>
  let[t,Τ]:=g
  cases y with
  |non=>ext d;rwa[PySem.EqNone.eq_str_none (cj I q (by simp))]
  |bl j=>ext d;rwa[PySem.EqMixed.eq_str_bool (cj I q (by simp))]
  |τ j=>let[e,Τ]:=d;rwa[PySem.EqMixed.eq_str_int (cj I q (by simp))]
  |str j=>let[e,Τ]:=d;rwa[eq_str (cj I q Gm)]
  |_=>exact absurd (show χ=ρ from f) anz
 |pO i=>
  let[t,Τ]:=g
  cases y with
  |pO j=>let[e,Τ]:=d;rwa[PySem.W.eq_bytes (cj I q Gn)]
  |_=>exact absurd (show χ=ρ from f) anz
 |_=>cases y <;> rwa[absurd (show χ=ρ from f) anz]
def j3:il X (compareOp .NotEq) rNe:=by
 intro k s l H x y v u Q I g d h;let[f,q]:=h
 cases x with
 |non=>
  ext g
  cases y with
  |non=>ext d;rwa[PySem.EqNone.ne_none_none (cj I q (by simp))]
  |bl j=>ext d;rwa[PySem.EqNone.ne_none_bool (cj I q (by simp))]
  |τ j=>let[e,Τ]:=d;rwa[PySem.EqNone.ne_none_int (cj I q (by simp))]
  |str j=>let[e,Τ]:=d;rwa[PySem.EqNone.ne_none_str (cj I q (by simp))]
  |_=>exact absurd (show χ=ρ from f) anz
 |bl i=>
  ext g
  cases y with
  |non=>ext d;rwa[PySem.EqNone.ne_bool_none (cj I q (by simp))]
  |bl j=>ext d;rwa[ne_bool (cj I q (an7 not JS))]
  |str j=>let[e,Τ]:=d;rwa[PySem.EqMixed.ne_bool_str (cj I q (by simp))]
  |_=>exact absurd (show χ=ρ from f) anz
 |τ i=>
  let[t,Τ]:=g
  cases y with
  |non=>ext d;rwa[PySem.EqNone.ne_int_none (cj I q (by simp))]
  |τ j=>let[e,Τ]:=d;rwa[ne_int (cj I q (an7 not Gk))]
  |str j=>let[e,Τ]:=d;rwa[PySem.EqMixed.ne_int_str (cj I q (by simp))]
  |_=>exact absurd (show χ=ρ from f) anz
 |str i=>
  let[t,Τ]:=g
  cases y with
  |non=>ext d;rwa[PySem.EqNone.ne_str_none (cj I q (by simp))]
  |bl j=>ext d;rwa[PySem.EqMixed.ne_str_bool (cj I q (by simp))]
  |τ j=>let[e,Τ]:=d;rwa[PySem.EqMixed.ne_str_int (cj I q (by simp))]
  |str j=>let[e,Τ]:=d;rwa[ne_str (cj I q (an7 not Gm))]
  |_=>exact absurd (show χ=ρ from f) anz
 |pO i=>
  let[t,Τ]:=g
  cases y with
  |pO j=>let[e,Τ]:=d;rwa[PySem.W.ne_bytes (cj I q (an7 not Gn))]
  |_=>exact absurd (show χ=ρ from f) anz
 |_=>cases y <;> rwa[absurd (show χ=ρ from f) anz]
def nL:il X (compareOp .Lt) (yf λi j=>.bl (decide (i<j))):=HK λ_ _ _ _ _ _ _ q=>lt_int q
def Rf:il X (compareOp .LtE) (yf λi j=>.bl (decide (i<=j))):=HK λ_ _ _ _ _ _ _ q=>le_int q
def pR:il X (compareOp .Gt) (yf λi j=>.bl (decide (j<i))):=HK λ_ _ _ _ _ _ _ q=>gt_int q
def Rg:il X (compareOp .GtE) (yf λi j=>.bl (decide (j<=i))):=HK λ_ _ _ _ _ _ _ q=>ge_int q
def oz:il X (compareOp .Is) (λx y H Q=>y=.non/\Q (.bl (decide (x=.non))) H):=by
 intro d s g H x y v u Q I e f h;let[Τ,q]:=h;ext f;rwa[is_none_gen (cj I q ?_)]
 cases x <;> first
  |(ext e;rfl)
  |(let[t,Τ]:=e;rfl)
def zO:il X (compareOp .IsNot) (λx y H Q=>y=.non/\Q (.bl (!decide (x=.non))) H):=by
 intro d s g H x y v u Q I e f h;let[Τ,q]:=h;ext f;rwa[isnot_none_gen (cj I q ?_)]
 cases x <;> first
  |(ext e;rfl)
  |(let[t,Τ]:=e;rfl)
def bh (b:đ){d:CmpOp}(h:d≠.In:=by decide)(g:d≠.NotIn:=by decide):behindInMarks d b=χ:=by
 let e:(d==CmpOp.In)=χ:=by cbv
 let f:(d==CmpOp.NotIn)=χ:=by cbv
 cases b <;> simp[behindInMarks,e,f]
def zP {e:CmpOp}{r:R2}(j:il X (compareOp e) r)(p:ŏ)(f:ϓ)(n:behindInMarks e b=χ):PE X (.Compare a [e] [b] pos) Q4:=by intro d s m H Q I h;rwa[wpAny_Compare1 (N5 p f I h λv u g x y o i k l q=>j d g m o x y v u Q i k l q) n]
inductive VX (x:V)(H:Hp)(Q:Μ->Hp->ν):ν
 |mk (k:Μ):x=.bl k->Q k H->VX x H Q
def abo (t:TE):TT:=λ e H Q=>t e H λx d=>VX x d Q
def aX {g:CmpOp}{r:R2}(A:il X (compareOp g) r)(G:ŏ)(l:ϓ)(E:behindInMarks g b=χ):PT X (.Compare a [g] [b] pos) (abo Q4):=by
 intro d s f H Q I h
 rwa[wpAny_isTrue_Compare1 (bx (G d s f H _ I h) λv C ζ=>?_) E];let[x,B,m,j,q]:=ζ;rwa[bx (l d C f B _ m q) λu p ζ=>?_];let[y,F,w,D,J]:=ζ;rwa[ bx (A d p f F x y v u _ w j D J) λc L ζ=>?_];let[z,n,o,i,k,e,t]:=ζ
 subst e;ext i;rwa[ao0 {n,o,t}]
def VY (K:Za1)(x:V)(H:Hp)(k:Μ):ν:=
 match x with
 |.non=>k=χ
 |.bl b=>k=b
 |.τ i=>k=(i !=0)
 |.str y=>@y<=sizeLine/\k=((@y:ο) !=0)
 |.pO y=>y.Γ<=sizeLine/\k=((y.Γ:ο) !=0)
 |.Η p=>(∃xs,az K H p xs/\k=!xs.isEmpty)\/(∃xs,bD K H p xs/\k=!xs.isEmpty)\/∃d,H p\.dK d/\k=!d.isEmpty
 |_=>False
def HL {f:Type}{d:θ (f×V)}{e:θ (f×Zt)}(r:KV d e):(!e.isEmpty)=!d.isEmpty:=by cases r <;> rfl
def yg {xs:Zb}(r:Vals xs N):(!N.toArray.isEmpty)=!xs.isEmpty:=by cases r <;> simp
def oB:(sizeLine:η)<2 ^ 63:=⋯
def VZ [o:e9 X K]:aew X (λx H Q=>∃k,VY K x H k/\Q k H):=by
 cases o.eq;intro w s D H x v Q I g h;let[k,e,q]:=h;let B:=oB;let C:sizeLine=16777216:=sizeLine_eq
 cases x with
 |non=>ext g;let d:k=χ:=e;subst d;rwa[truthy_none {H,I,q}]
 |bl b=>ext g;let d:k=b:=e;subst d;rwa[ao0 {H,I,q}]
 |τ i=>let[t,Τ]:=g;let d:k=(i !=0):=e;subst d;rwa[PySem.P.truthy_int {H,I,q}]
 |str y=>let[t,Τ]:=g;obtain⟨z,d⟩:@y<=sizeLine/\k=((@y:ο) !=0):=e;subst d;rwa[PySem.P.truthy_str ∅ {H,I.tok _,q}]
 |pO y=>let[t,Τ]:=g;obtain⟨z,d⟩:y.Γ<=sizeLine/\k=((y.Γ:ο) !=0):=e;subst d;rwa[PySem.W.truthy_bytes ∅ {H,I.tok _,q}]
 |Η p=>
  ext g;let d:(∃xs,az X.K H p xs/\k=!xs.isEmpty)\/(∃xs,bD X.K H p xs/\k=!xs.isEmpty)\/∃f,H p\.dK f/\k=!f.isEmpty:=e;rcases d with ⟨xs,j,d⟩|⟨xs,j,d⟩|⟨f,j,d⟩
  .subst d;let[n,r,pl,u]:=I.list j;let hlen:=@r;rwa[wpAny_truthy_list pl.isList (by simp only[am4];omega) {H,I.tok _,[yg r]▸q}]
  .subst d;let[n,r,pl,u]:=I.tuple j;let hlen:=@r;rwa[truthy_tuple pl (by simp only[am4];omega) {H,I.tok _,[yg r]▸q}]
  .subst d;obtain⟨u,A,l,r,m⟩:@f<=sizeLine/\(p==sysModules)=χ/\∃l,KV f l/\s.ς.DictOf û p l:=I.a0 p _ j;let hlen:@f=@l:=Paired.Ξ r;rwa[wpAny_truthy_dict A m ∅ {H,I.tok _,[HL r]▸q}]
 |_=>exact(show False from e).Κ
def CK [f:e9 X K](l:ŏ)(j:∀whole,isTrue a X.env whole=(do let v <-whole;standAt a.pos;holding [v] (truthy v))):
 PT X a (λ e H Q=>ta e H λx g=>∃k,VY K x g k/\Q k g):=by cases f.eq;intro d s e H Q I h;rwa[isTrue_plain (bx (l d s e H _ I h) λv o ζ=>?_) (j _)];let[x,i,p,m,n]:=ζ;rwa[VZ d o e i x v Q p m n]
def vals1 {x:V}(r:Vals [x] N):∃u,N=[u]/\RelV x u:=by
 cases r with
 |cons e d=>ext d;rwa[12,e]
def vals2 {x:V}(r:Vals [x,q] N):∃u d,N=[u,d]/\RelV x u/\RelV q d:=by
 cases r with
 |cons h e=>
  cases e with
  |cons g f=>ext f;rwa[112,h,g]
def oC:iz X (.builtin "abs") (λd H Q=>∃i,d=[.τ i]/\Q (.τ (if i<0 then -i else i)) H):=by intro e s j H d f Q I r h;let[i,Τ,q]:=h;let[u,Τ,t,Τ]:=vals1 r;rwa[call_abs_int λu g=>{.τ (if i<0 then -i else i),H,I.tok _,{12},q}]
def JT (g:X.calm=ρ):iz X (.builtin ό) (λe H Q=>∃i j,e=[.τ i,.τ j]/\Q (.τ (if j > i then j else i)) H):=by
 intro f s p H e v Q I r h;let[i,j,Τ,q]:=h;let[u,l,Τ,⟨t,rfl⟩,⟨m,rfl⟩]:=vals2 r;rwa[max_two_ints (I.ok.hd g) λn o k=>{_,H,I.kept k,5,q}]
 cases d:j > i
 .rw[am1 d,am1 d];rwa[12]
 .rw[amY d,amY d];rwa[12]
def JV (g:X.calm=ρ):iz X (.builtin "min") (λe H Q=>∃i j,e=[.τ i,.τ j]/\Q (.τ (if j<i then j else i)) H):=by
 intro f s p H e v Q I r h;let[i,j,Τ,q]:=h;let[u,l,Τ,⟨t,rfl⟩,⟨m,rfl⟩]:=vals2 r;rwa[min_two_ints (I.ok.hd g) λn o k=>{_,H,I.kept k,5,q}]
 cases d:j<i
 .rw[am1 d,am1 d];rwa[12]
 .rw[amY d,amY d];rwa[12]
end
structure wO (h:ċ)(x dx C:Zs)(mA:Ι->Zl):ν where
 obj:h.get? x\(instObj C dx)
 ns:h.Ns1 dx mA
 ne:dx≠x
def JW (n:h.Ns1 a M):∃d,h.get? a\d/\∀name,lookIn name d\(M name):=by
 let[o,j,l,g,hd,f,_,k]:=n;rwa[o,g,λname=>?_];let e:=k name;unfold nsFind findBy at e;rw[<-Array.find?_toList]at e;unfold lookIn;rw[hd];dsimp only;split
 .cbv
 .rename_i q;rw[q]at e
  let b:j.toList.any (·.refKey)=χ:=by rw[θ.any_eq_false];intro y i;let[z,t,c]:=f y (Array.mem_toList_iff.mp i);simp[DictEntry.refKey,c]
  cbv
def wO.look {x dx:Zs}(I:wO h x dx a M):∃b,PySem.W.InstAt h x (instObj a dx) a (ι b)/\∀name,lookIn name b\(M name):=
 let ⟨b,c,d⟩:=JW I.ns
 {b,{I.obj,22,c},d}
section
variable {prog:Program}{w:World}{A:Around}{E:Zt->Zu->Prop}{s:Zu}{K:Za1}{x dx C f:Zs}{mA:Str->Zl}{name:Str}{v:Zt}
def get_map {expr:Μ}(X:ĵ)(I:ϩ)(g:plainGet K C name=ρ)(d:hasDictIn K C=ρ)(c:findIn K ?C name\ε)(b:mA name\v)(a:PySem.W.handedIn v=ρ)(h:Q v { s with toks:=s.toks+ 1 }):
 (prog<|>w) A (getAttr ?x name expr) Q E s:=by let[i,J,e]:=I.look;rwa[PySem.W.get_value X J (plainGet_of g).1 (PySem.W.findObj_own d c Τ (by rw[e,b])) a h]
def N8 {pl:Sem Μ}{Q:Zt×Zk->Zu->ν}(X:ĵ)(I:ϩ)(a:plainGet K C name=ρ)(b:findIn K ?C name\ι ?f)(g:isFn K ?f=ρ)(c:mA name=ε)(h:Q (?f,[?x]) s):
 (prog<|>w) A (getMethod ?x name pl) Q E s:=by let[d,J,e]:=I.look;rwa[PySem.W.method_fn X J (plainGet_of a).1 (plainGet_of a).2 b (aqt.mp g) (by show (lookIn name d).Α (·.isSome)\χ;rw[e,c];rfl) h]
def T9 {ns:Zp}(X:ĵ)(I:ϩ)(t:findIn K ?C ï=ι (ι (.builtin Î)))(o:plainOver K C=ρ)(l:takerIn K C name\ε)(q:hasDictIn K C=ρ)(p:PySem.Within mA ns)(n:@ns<=sizeLine)(h:∀e,wO e x dx C (λy=>if y=name then ι v else mA y)->Heap.SameBut dx s.ς e->U () { s with ς:=e,toks:=s.toks+ 2 }):
 (prog<|>w) A (setAttr ?x name v) U E s:=by
 let[H,J,G]:=I.look;rwa[PySem.W.set_plain X J t (PySem.W.osa_open (s:={ s with toks:=s.toks+ 1 }) (r:=ε) X J o l λb=>?_)];let[F,z,k]:=PySem.W.any_some q;let u:s•x\⟨?C,ι dx,.plain,#[]⟩:=I.obj;rwa[amC (amL (amC (amC (wpAny_loadPart u (amC (PySem.W.Looks.here (s:={ s with toks:=s.toks+ 1 }) (PySem.W.looks_clsIn X z) ?_))))))];rw[k];rwa[amL (a:=ι dx) (amC (amL (amC ?_)))];rwa[wpAny_nsSet1 (s:={ s with toks:=s.toks+ 1 }) I.ns λe d c=>?_]
 let[D,B,m,j,g,i]:=d.count (PySem.Within.cons name v p);rwa[amC (wpAny_lookBehind j ([g]▸pastItsLine_dict (amM i (by rw[amT];omega))) ?_)];rwa[amL (h _ {(c.2 _ (an5 I.ne)).π I.obj,d,I.ne} c)]
def N9 {R:Result->Zu->ν}{a:θ (Ι×Zt)}(X:ĵ)(b:makesIn K C=ρ)(d:findIn K ?C Ç=ι (ι ?f))(c:PySem.W.typeIn K ?f\(.type "function"))(h:codeAny Ñ (A.under (.builtin Č {?C::N,a})) (.call ?f {↑(↥s+ 1)::N,a}) (PySem.W.InitBack (↥s+ 1) R)
  { s with ς:=(s.ς.push emptyDict).push (instObj C ↥s) }):
 codeAny Ñ A (.call ?C {N,a}) R s:=by rwa[PySem.W.make_core (makes_of X b) (PySem.W.looks_findIn X d) (λself=>PySem.W.bind_fn X self c) (.ψ Τ) h]
def JX {R:Result->Zu->ν}(X:ĵ)(a:makesIn K C=ρ)(c:findIn K ?C Ç=ι (ι (.builtin Ó)))(b:∀self,PySem.W.Looks Ñ s.ς (bindSpecial (.builtin Ó) self) (.builtin Ó,[self]))(h:codeAny Ñ (A.under (.builtin Č ⟨[?C],[]⟩)) (.call (.builtin Ó) ⟨[↑(↥s+ 1)],[]⟩) (PySem.W.InitBack (↥s+ 1) R)
  { s with ς:=(s.ς.push emptyDict).push (instObj C ↥s) }):
 codeAny Ñ A (.call ?C {[],[]}) R s:=by rwa[PySem.W.make_core (makes_of X a) (PySem.W.looks_findIn X c) b (.Ζ {22}) h]
end
def bJ (f:Ι)(v:V):θ (Ι×V)->θ (Ι×V)
 |[]=>[(f,v)]
 |(g,x)::r=>if g=f then (g,v)::r else (g,x)::bJ f v r
theorem di (f g:Ι)(v:V):∀fs:θ (Ι×V),(bJ f v fs).lookup g=if g=f then ι v else fs.lookup g
 |[]=>by
  show θ.lookup g [(f,v)]=_
  cbv
 |(k,x)::r=>by
  let a:=di f g v r;rw[show bJ f v ((k,x)::r)=(if k=f then (k,v)::r else (k,x)::bJ f v r) from rfl]
  cbv
theorem mH (f:Ι)(v:V):∀fs:θ (Ι×V),f∈(bJ f v fs).Α (·.1)/\∀g,g∈fs.Α (·.1)->g∈(bJ f v fs).Α (·.1)
 |[]=>{by simp[bJ],λg h=>by simp at h}
 |(k,x)::r=>by
  let[a,b]:=mH f v r;rw[show bJ f v ((k,x)::r)=(if k=f then (k,v)::r else (k,x)::bJ f v r) from rfl]
  cbv
theorem vR (f:Ι)(v:V):∀fs:θ (Ι×V),@(bJ f v fs)<=@fs+ 1
 |[]=>by simp[bJ]
 |(k,x)::r=>by
  let a:=vR f v r;rw[show bJ f v ((k,x)::r)=(if k=f then (k,v)::r else (k,x)::bJ f v r) from rfl]
  cbv
def fF.some_of {v:V}{o:Zl}(r:fF (ι v) o):∃u,o\u/\RelV v u:=by
 cases o with
 |ε=>exact(show False from r).Κ
 |ι u=>rwa[u,2,r]
def fF.none_of {o:Zl}(r:fF ε o):o=ε:=by
 cases o with
 |ε=>rfl
 |ι u=>exact(show False from r).Κ
def JY (r:RelV q u):PySem.W.handedIn u=ρ:=by
 cases q with
 |non=>cases (show u=Value.ε from r);rfl
 |bl b=>cases (show u=Value.bool b from r);rfl
 |τ i=>let[t,e]:=(show ∃t,u=Value.τ i t from r);ext e;rfl
 |str x=>let[t,e]:=(show ∃t,u=Value.str x t from r);ext e;rfl
 |pO b=>let[t,e]:=(show ∃t,u=Value.bytes b t from r);ext e;rfl
 |Cv b=>let[t,e]:=(show ∃t,u=Value.float b t from r);ext e;rfl
 |Η a=>cases (show u=Value.Η a from r);rfl
 |ty n=>cases (show u=Value.type n from r);rfl
section
variable {P:Program}{w:World}{H:Hp}{h:Heap}{a C dx:Zs}{fs:List (Str×V)}
def uZ (c:ê)(e:H a\.ins C dx fs):∃b,wO h a dx C b/\(∀f,fF ť (b f))/\PySem.Within b (fs.Α (·.1))/\@fs<=1000/\H dx\(.own a):=by let[d,z,ne,g,b,n,r,q]:=(show cu P w H h a (.ins C dx fs) from c a _ e);rwa[b,{g,n,ne},r,q,z,d]
end
structure mI (K:Za1)(C:Zs):ν where
 pg:plainGet K C Ι.empty=ρ
 hd:hasDictIn K C=ρ
 po:plainOver K C=ρ
 sa:findIn K ?C ï=ι (ι (.builtin Î))
def mI.get (c:mI K a)(f:Ι):plainGet K a f=ρ:=c.pg
def oD (K:Za1)(C:Zs)(f:Ι):ν:=findIn K ?C f\ε
def oD.HM (n:oD K a f):takerIn K a f\ε:=by unfold takerIn;rw[show findIn K ?a f=ι ε from n];rfl
structure Meth (K:Za1)(C:Zs)(m:Ι)(f:Zs):ν where
 at_:findIn K ?C m\(ι ?f)
 fn:isFn K ?f=ρ
 kp:keepIn K ?f=ρ
section
variable {X:Cx}{pins:List (Zs×Obj)}{σ:St}{H:Hp}{s:Zu}{a C dx:Zs}{fs:List (Str×V)}{f:Str}{v:V}{A:Around}{E:Zt->Zu->Prop}
def HN {b:Μ}(I:Υ)(e:H a\.ins C dx fs)(c:ϊ)(n:oD X.K C f)(l:fs.lookup f\v)(h:∀u d,Inv X pins σ H d->RelV v u->Q u d):X⁻¹ A (getAttr ?a f b) Q E s:=by let[j,O,r,_,_,_]:=uZ I.a0 e;let[u,i,g]:=fF.some_of (v:=v) (o:=j f) (by rw[<-l];rwa[r f]);rwa[get_map I.dZ O (c.get f) c.hd n i (JY g) (h u _ Ě g)]
def yh {pl:Sem Μ}{Q:Zt×Zk->Zu->ν}(I:Υ)(e:H a\.ins C dx fs)(c:ϊ)(k:Meth X.K C x b)(l:fs.lookup x=ε)(h:Q (?b,[?a]) s):X⁻¹ A (getMethod ?a x pl) Q E s:=by let[g,O,r,_,_,_]:=uZ I.a0 e;let d:g x=ε:=fF.none_of (by cbv);rwa[N8 I.dZ O (c.get x) k.at_ k.fn d h]
theorem HP (I:Υ)(e:H a\.ins C dx fs)(c:ϊ)(n:oD X.K C f)(G:@fs<1000)(B:RelV q u)(h:∀j,Inv X pins σ (υ H a (.ins C dx (bJ f q fs))) j->U () j):X⁻¹ A (setAttr ?a f u) U E s:=by
 let[D,O,r,k,_,l]:=uZ I.a0 e;let y:@(fs.Α (·.1))<=sizeLine:=by rw[amE,sizeLine_eq];ext
 rwa[T9 I.dZ O c.sa c.po n.HM c.hd k y λt i F=>h _ ?_]
 let hd:∃o,t.get? dx\o:=let ⟨o,_,_,w,_⟩:=i.ns;{o,w}
 rwa[I.write (x:=a) (e:=dx) ([e]▸True.intro) (.Ζ l) (λb d m z=>(F.2 b m).π z) hd ?_];rwa[[aq O.ne]▸l,5,O.ne,i.obj,_,i.ns,λg=>?_,λg p=>?_]
 .have:=vR f q fs;ext
 .show fF ((bJ f q fs).lookup g) (if g=f then ι u else D g);rw[di];cases d:g=f
  .rw[am1 d,am1 d];rwa[B]
  cbv
 .cases d:g=f
  .rw[d];rwa[(mH f q fs).1]
  .rwa[(mH f q fs).2 g (k g λz=>p ?_)]
   cbv
def Inv.made (I:Υ):Inv X pins σ (υ (υ H ↥s (.own (↥s+ 1))) (↥s+ 1) (.ins C ↥s []))
 { s with ς:=(s.ς.push emptyDict).push (instObj C ↥s) }:=by
 let c:(s.ς.push emptyDict).get? ↥s\emptyDict:=am0 s.ς rfl
 let k:((s.ς.push emptyDict).push (instObj C ↥s)).get? (↥s+ 1)\(instObj C ↥s):=by
  have:=am0 (s.ς.push emptyDict) (o:=instObj C ↥s) rfl
  rwa [apj]at ω
 let d:(s.ς.push emptyDict).Ns ↥s (λ_=>ε):={emptyDict,#[],_,c,2,(λe g=>absurd g (by simp)),λ_=>rfl};let j:=I.laid (a:=↥s) (o:=.own (↥s+ 1)) (h':=s.ς.push emptyDict) (t':=s.toks) (λb u q=>amJ _ q) Φ {_,c};rwa[j.laid (a:=↥s+ 1) (o:=.ins C ↥s []) (t':=s.toks) (λb u q=>amJ _ q) (apW (apj β)) ?_];let ne:↥s≠↥s+ 1:=anl (aoo _);rwa[by rw[aq ne,aj],ani _,ne,k,λ_=>ε,(Heap.Ns1.of_empty d).at λo q=>amJ _ q,λ_=>True.intro,λy h=>absurd Τ h]
def Ua {env:Env}{f:Ι}{pos:Pos}{s:Zu}(c:attributeBase e f env (eval e env)=eval e env)(h:(P<|>w) A (eval e env) (λo b=>(P<|>w) A (getAttr o f ρ) Q E b) E s):(P<|>w) A (eval (.Attribute e f pos) env) Q E s:=Attribute_any_ h (by rw[arm_eval_Attribute,c])
end
inductive V0 (K:Za1)(f:Ι)(x:V)(H:Hp)(Q:VK):ν
 |mk (a C dx:Zs)(fs:θ (Ι×V))(v:V):x=?a->H a\.ins C dx fs->mI K C->oD K C f->fs.lookup f\v->Q v H->V0 K f x H Q
def V1 (K:Za1)(b:TE)(f:Ι):TE:=λ c H Q=>b c H λx a=>V0 K f x a Q
inductive V2 (K:Za1)(f:Ι)(y x:V)(H:Hp)(N:Hp->ν):ν
 |mk (a C dx:Zs)(fs:θ (Ι×V)):x=?a->H a\.ins C dx fs->mI K C->oD K C f->@fs<1000->N (υ H a (.ins C dx (bJ f y fs)))->V2 K f y x H N
def aez (K:Za1)(e b:TE)(f:Ι):TS:=λD a H=>b a H λy d=>e a d λx c=>V2 K f y x c (D.nx a)
section
variable {X:Cx}{o e value:Expr}{f:Str}{pos pos':Pos}{ta tv:TE}
def aJ [d:e9 X K](r:PE X e ta)(g:attributeBase e f X.env ē=eval e X.env):PE X (.Attribute e f pos) (V1 K ta f):=by cases d.eq;intro b s p H Q I h;rwa[Ua g (bx (r b s p H _ I h) λu A ζ=>?_)];let[x,k,i,m,a,C,B,fs,v,ex,w,c,n,l,q]:=ζ;subst ex;obtain rfl:u=Value.Η a:=m;rwa[HN i w c n l λz y j t=>{v,k,j,t,q}]
def ck [d:e9 X K](A:Z0)(z:PE X value tv)(t:swapsWith value (ι (.Attribute o f pos')) pos.line X.env=pure χ):PS X (.Assign [.Attribute o f pos'] value pos) (aez K ta tv f):=by cases d.eq;intro b s g H D I h;rwa[plainObj_wpAny_Assign_Attribute (bx (z b s g H _ I h) λu p ζ=>?_) t];let[y,m,i,v,q]:=ζ;rwa[bx (A b p g m _ i q) λr F ζ=>?_];let[x,G,k,w,a,C,L,fs,ex,B,c,n,l,E]:=ζ;subst ex;obtain rfl:r=Value.Η a:=w;rwa[HP k B c n l v λJ j=>{g,_,j,E}]
end
section
variable {X:Cx}{pins:List (Zs×Obj)}{σ:St}{H:Hp}{s:Zu}{A:Around}{E:Zt->Zu->Prop}{Q:Zt->Zu->Prop}{c:Zt}{b:Bool}
inductive lJ (K:Za1)(H:Hp):V->Zt->ν where
 |non:lJ K H .non (.type "NoneType")
 |bl (x:Μ):lJ K H (.bl x) (.type "bool")
 |τ (i:ο):lJ K H (.τ i) (.type ϟ)
 |str (x:Ι):lJ K H (.str x) (.type "str")
 |Cv (x:UInt64):lJ K H (.Cv x) (.type "float")
 |Ε {a:Zs} {xs:Zb} (e:H a\.Ε xs):lJ K H ?a (.type À)
 |dz {a:Zs} {o:Obj} {xs:Zb} (e:H a\.dz o (.Ε xs)):lJ K H ?a (.type À)
 |Θ {a:Zs} {xs:Zb} (e:H a\.Θ xs):lJ K H ?a (.type Ω)
 |dK {a:Zs} {kvs:θ (Key×V)} (e:H a\.dK kvs):lJ K H ?a (.type ç)
 |dT {a:Zs} {kvs:θ (Zd×V)} (e:H a\.dT kvs):lJ K H ?a (.type ç)
 |ins {a C dx:Zs} {fs:θ (Ι×V)} (e:H a\.ins C dx fs) (cl:mI K C) (ha:findIn K ?C "__class__"=ι (ι (.builtin Ŕ)))
  (hn:PySem.W.specialIn K (.builtin Ŕ) "__get__"=ι (ι (.builtin "getset_descriptor.__get__"))) (htk:PySem.W.takesIn K (.builtin Ŕ)\ρ)
  (hm:mroIn K C (.type ũ)\ρ):lJ K H ?a ?C
def JZ {x:V}(I:Υ)(d:RelV x u)(B:lJ X.K H x v)(e:kitOne X.K v c\b)(h:∀r,Q (.bool b) { s with toks:=r }):
 X⁻¹ A (call (.builtin "isinstance") [u,c]) Q E s:=by
 cases B with
 |non=>cases (show u=Value.ε from d);rwa[aol PySem.W.kitx_none I.dZ True.intro e (λz=>nomatch z) h]
 |bl y=>cases (show u=Value.bool y from d);rwa[aol PySem.W.kitx_bool I.dZ True.intro e (λz=>nomatch z) h]
 |τ i=>let[v,q]:=(show ∃v,u=Value.τ i v from d);ext q;rwa[aol PySem.W.kitx_int I.dZ True.intro e (λz=>nomatch z) h]
 |str y=>let[v,q]:=(show ∃v,u=Value.str y v from d);ext q;rwa[aol PySem.W.kitx_str I.dZ True.intro e (λz=>nomatch z) h]
 |Cv y=>let[v,q]:=(show ∃v,u=Value.float y v from d);ext q;rwa[aol PySem.W.kitx_float I.dZ True.intro e (λz=>nomatch z) h]
 | @Ε a k f=>cases (show u=Value.Η a from d);let[_,_,n,_,g]:=(show cu X.prog X.w H s.ς a (.Ε k) from I.a0 a _ f);rwa[aol PySem.W.kitx_list I.dZ {_,g,2} e (λz=>nomatch z) h]
 | @dz a t k f=>cases (show u=Value.Η a from d);let[_,_,_,n,_,g]:=(show cu X.prog X.w H s.ς a (.dz t (.Ε k)) from I.a0 a _ f);rwa[aol PySem.W.kitx_list I.dZ {_,g,2} e (λz=>nomatch z) h]
 | @Θ a k f=>cases (show u=Value.Η a from d);let[_,_,_,p]:=(show cu X.prog X.w H s.ς a (.Θ k) from I.a0 a _ f);let[o,g,l,_]:=p;rwa[aol PySem.W.kitx_tuple I.dZ {o,g,l} e (λz=>nomatch z) h]
 | @dK a j f=>cases (show u=Value.Η a from d);let[_,_,M,_,p]:=(show cu X.prog X.w H s.ς a (.dK j) from I.a0 a _ f);let[o,w,F,g,l,_]:=p;rwa[aol PySem.W.kitx_dict I.dZ {o,g,l.1} e (λz=>nomatch z) h]
 | @dT a j f=>cases (show u=Value.Η a from d);let[_,_,k,_,o,w,F,g,l,_]:=(show cu X.prog X.w H s.ς a (.dT j) from I.a0 a _ f);rwa[aol PySem.W.kitx_dict I.dZ {o,g,l.1} e (λz=>nomatch z) h]
 | @ins a C R fs f cl L D m G=>cases (show u=Value.Η a from d);let[N,O,_]:=uZ I.a0 f;let[P,J,_]:=O.look;rwa[aol (PySem.W.kitx_own (cl.get _) cl.hd L D m G) I.dZ J e (λz=>nomatch z) h]
end
structure dk (k:η)(A:Ģ):ν where
 hd:A.handled=ε
 dp:A.depth+ 3* k+ 5<recursionLimit
 un:A.units+ 16* k+ 200<cLine
def dk.mono {k:η}(r:dk k A)(h:j<=k):dk j A:={r.hd,by have:=r.dp;ext,by have:=r.un;ext}
def dk.Za5 {j k:η}{A:Ģ}(r:dk k A)(h:j<=k:=by decide):dk j A:=r.mono h
def dk.deeper {k:η}(r:dk (k+ 1) A)(env:Env):dk k (A.deeper env):={r.hd,by have:=r.dp;show A.depth+ 1+ 3* k+ 5<_;ext,by have:=r.un;show A.units+ 3+ 16* k+ 200<_;ext}
def HQ {b:θ (Ι×Zt)}:(A.under (.builtin Č {?a::N,b})).depth=A.depth+ 1:=by first|rfl|simp[Around.under,Code.weight,Code.isCreation,Code.isGuard,Code.isCaller,Code.frames,Code.isFrame,guardIds]
def HR {b:θ (Ι×Zt)}:(A.under (.builtin Č {?a::N,b})).units=A.units+ 1:=by first|rfl|simp[Around.under,Code.cUnits,Code.frames,Code.isFrame]
def dk.make {k:η}(r:dk (k+ 1) A)(C:Zs)(a:Zk)(b:θ (Ι×Zt)):dk k (A.under (.builtin Č {?C::a,b})):={r.hd,by have:=r.dp;rw[HQ];ext,by have:=r.un;rw[HR];ext}
def dk.depth {k:η}(r:dk k A):A.depth<recursionLimit:=by have:=r.dp;ext
def dk.units {k:η}(r:dk k A):A.units+ 64<cLine:=by have:=r.un;ext
def tO:TA:=λ_ H Q=>Q [] H
def u0 (e:TE)(tr:TA):TA:=λ a H Q=>e a H λx c=>tr a c λd b=>Q (x::d) b
section
variable {X:Cx}{e:Expr}{es:Zr}{te:TE}{t:TA}{pos:Pos}
def ah:PA X [] tO:=λ_ _ _ _ H Q I h=>aoq {[],H,I,.nil,h}
def ae (p:Ŏ)(j:PA X es t)(m:starEach (e::es) X.env=(χ,eval e X.env)::starEach es X.env:=by rfl):PA X (e::es) (u0 te t):=by intro pos a s b H Q I h;rw[m];rwa[anO (bx (p a s b H _ I h) λu l ζ=>?_)];let[x,i,d,c,f]:=ζ;rwa[bx (j pos a l b i _ d f) λv r ζ=>?_];let[k,o,g,n,q]:=ζ;rwa[x::k,o,g,.cons c n,q]
inductive V3 (xs:Zb)(H:Hp)(Q:VK):ν
 |mk:@xs<=sizeLine->(∀p,H p=ε->Q ?p (υ H p (.Θ xs)))->V3 xs H Q
def aeB (t:TA):TE:=λ c H Q=>t c H λb a=>V3 b a Q
inductive V4 (xs:Zb)(H:Hp)(Q:VK):ν
 |mk:@xs<=sizeLine->(∀p,H p=ε->Q ?p (υ H p (.Ε xs)))->V4 xs H Q
def aeC (t:TA):TE:=λ c H Q=>t c H λb a=>V4 b a Q
def bA {l}(h:PA X es t):PE X (.Tuple es l pos) (aeB t):=by intro a s j H Q I f;rwa[wpAny_Tuple_spliced (bx (h pos a s j H _ I f) λk s1 ζ=>?_)];let[i,d,c,r,z,q]:=ζ;rwa[by rw[<-@r];rwa[z],5];let g:d ↥s1=ε:=c.a0.fresh Φ;rwa[↑↥s1,υ d ↥s1 (.Θ i),c.laid (t':=s1.toks) (λb u e=>amJ _ e) Φ ?_,2,q _ g];rwa[z,k,r,{_,am0 _ Τ,212}]
def bN (h:PA X es t):PE X (.θ es pos) (aeC t):=by intro a s k H Q I g;rwa[wpAny_List_spliced (bx (h pos a s k H _ I g) λi s1 ζ=>?_)];let[j,c,d,r,z,q]:=ζ;rwa[by rw[<-@r];rwa[z],5];let f:c ↥s1=ε:=d.a0.fresh Φ;rwa[↑↥s1,υ c ↥s1 (.Ε j),d.laid (t':=s1.toks) (λb u e=>amJ _ e) Φ ?_,2,q _ f];rwa[z,i,(0),r,am0 _ Τ]
end
abbrev Sp:=Zb->Hp->VK->XK->Prop
abbrev qC:=Zq->Hp->Zu->XK->Zt->Zu->Prop
structure wQ (P:ĩ)(w:Ĩ)(K:Za1)(mg:Ι->Zl)(base:ċ)(A:Ģ)(outer:Zq)(s:Zu)(H:Hp):ν where
 frames:A.frames\outer
 mod:Mod K mg base
 bs:∀b o,base.get? b\o->s•b\o/\H b=ε
 vQ:base.Ν.Γ<=↥s
 kO:s.ς.FunFrames base outer
 yc:∀b∈bZ outer,H b=ε
 a0:eI P w H s.ς
 bare:AllBare s.gens
def CE (a:Zq)(P:ĩ)(w:Ĩ)(H:Hp)(s:Zu)(Q:VK)(u:Zt)(b:Zu):ν:=∃v c,b.os=s.os/\AllBare b.gens/\Un (bZ a) [] H c s.ς b.ς/\eI P w c b.ς/\RelV v u/\Q v c
def CR (c:qC)(a:Zq)(P:ĩ)(w:Ĩ)(H:Hp)(s:Zu)(Q:VK)(E:XK)(r:Result)(b:Zu):ν:=
 match r with
 |.ok (.ret u)=>CE a P w H s Q u b
 |.ok _=>False
 |.error e=>c a H s E e b
structure eG (P:ĩ)(w:Ĩ)(K:Za1)(mg:Ι->Zl)(base:ċ)(CX:qC)(k:η)(f:Zs)(fd:Ă)(ps:Zp)(sp:Sp):ν where
 len:∀vs H Q E,sp vs H Q E->@vs=@ps
 run:∀(A:Ģ)(outer:Zq)(s:Zu)(H:Hp)(args:Args)(us:Zk)(vs:Zb)(Q:VK)(E:XK),dk k A->wQ P w K mg base A outer s H->BindsTo s fd args G2->Vals vs us->sp vs H Q E->codeAny B0 A (.call ?f args) (CR CX outer P w H s Q E) s
def wQ.make {mg:Ι->Zl}{base:ċ}{outer:Zq}(e:wQ P w K mg base A outer s H)(C:Zs)(a:Zk)(b:θ (Ι×Zt)):
 wQ P w K mg base (A.under (.builtin Č {?C::a,b})) outer s H:={by first|rwa[e.frames]|(simpa [Around.under,Code.envs,Code.isFrame,pushEnvs] using e.frames),e.mod,e.bs,e.vQ,e.kO,e.yc,e.a0,e.bare}
section
variable {X:Cx}{pins:List (Zs×Obj)}{σ:St}{H:Hp}{s s':Zu}
def Inv.HS (I:Υ):wQ X.prog X.w X.K X.mg X.base X.A X.stack s H:={I.ok.frames,I.ok.mod,I.bs,amM I.ok.vQ I.sz,I.stack,I.uW,I.a0,I.bare}
def Inv.after {Q:VK}(I:Υ)(h:CE X.stack X.prog X.w H s Q u s'):EP X pins σ Q u s':=by let[v,e,os,bare,un,a0,r,q]:=h;let[c,g,d,t,a]:=s';obtain rfl:a=s.os:=os;rwa[v,e,I.call (h':=c) (g':=g) (d':=d) (t':=t) (ch:=[]) un a0 bare (λb z=>absurd z (by simp)),r,q]
end
def Ri (b:Sp)(a:Zb)(E:XK)(t:TA):TE:=λ e H Q=>t e H λc d=>b (c++a) d Q E
inductive V5 (C:Zs)(m:Ι)(sp:Sp)(dvs:Zb)(E:XK)(t:TA)(σ:St)(x:V)(H:Hp)(Q:VK):ν
 |mk (a dx:Zs)(fs:θ (Ι×V)):x=?a->H a\.ins C dx fs->fs.lookup m=ε->t σ H (λvs H2=>sp (x::(vs++dvs)) H2 Q E)->V5 C m sp dvs E t σ x H Q
def yi (C:Zs)(m:Ι)(c:Sp)(a:Zb)(E:XK)(e:TE)(t:TA):TE:=λ b H Q=>e b H λx d=>V5 C m c a E t b x d Q
def abp (C:Zs)(e:Sp)(c:Zb)(E:XK)(t:TA):TE:=λ g H Q=>t g H λf b=>∀x a,b x=ε->b a=ε->a≠x->e (?x::(f++c)) (υ (υ b a (.own x)) x (.ins C a [])) (λv d=>v=.non/\Q ?x d) E
def Binds (K:Za1)(fd:Ă)(c:Zp)(b:Zk):ν:=∀(s:Zu)(a:Zk),K.In s.ς->@(a++b)=@c->BindsTo s fd ⟨a,[]⟩ (c.zip (a++b))
def Binds.all {fd:Ă}(h:∀us:Zk,@us=@Z->bindArgs fd ⟨us,[]⟩=pure (Z.zip us)):Binds K fd Z []:=λs us _ a=>by rw[am9]at a ⊢;rwa[.of_eq (h us a)]
def Passes (c:qC)(X:Cx)(E:XK):ν:=∀(a:θ (Zs×Obj))(d:St)(H:Hp)(s:Zu)(e:Zt)(b:Zu),Inv X a d H s->c X.stack H s E e b->X.xe e b
section
variable {X:Cx}{CX:qC}{k:Nat}{f C:Zs}{fd:FuncData}{ps:Zp}{sp:Sp}{dvs:Zb}{ds:Zk}{E:XK}{x m:Str}{p pos apos:Pos}{e o:Expr}{es:Zr}{ta:TE}{t:TA}
theorem CL {a:θ (Zs×Obj)}{Q:VK}{us:Zk}{vs:Zb}(F:Å)(i:dk k X.A)(l:ø)(hd:ļ)(n:ĸ)(I:Inv X a D H s)(r:Vals vs us)(h:sp (vs++dvs) H Q E):X⁻¹ X.A (call ?f us) (EP X a D Q) X.xe s:=by
 let c:Vals (vs++dvs) (us++ds):=r.append hd;let g:@(us++ds)=@ps:=by rw[<-@c];rwa[F.len δ h]
 rwa[apX (apt (F.run X.A X.stack s H {us,[]} (us++ds) (vs++dvs) Q E i I.HS (l s us I.dZ g) c h) λr d b=>?_)]
 cases r with
 |error e=>exact n a D H s e d I b
 |ok j=>
  cases j with
  |ret u=>exact I.after b
  |next=>exact False.Κ b
  |brk=>exact False.Κ b
  |cont=>exact False.Κ b
def u6 (F:Å)(n:dk k X.A)(j:œ)(w:X.mg x\?f)(l:keepIn X.K ?f=ρ)(i:ø)(hd:ļ)(v:ĸ)(z:PA X (e::es) t)(c:(x==(Ö:Ι))=χ:=by decide)(y:starEach (e::es) X.env=(χ,eval e X.env)::starEach es X.env:=by rfl)(b:(backTo pos Í).any (·.1)=χ:=by rfl):
 PE X (.Call (.Name x p) (e::es) [] pos) (Ri sp dvs E t):=by intro a s u H Q I h;rwa[aoa (jv I j w ?_ c)];rwa[apm (h₀:=X.base) I.ok.mod.pP l (bx (z pos a s u H _ I h) λG D ζ=>?_) y b];let[A,B,d,r,q]:=ζ;rwa[d.dZ,5];rwa[CL F n i hd v d r q]
def Ub {pl:Sem Μ}(N:Z0)(c:ϊ)(hm:Meth X.K C m f)(F:Å)(G:dk k X.A)(B:ø)(hd:ļ)(M:ĸ)(O:PA X (e::es) t)(g:starEach (e::es) X.env=(χ,eval e X.env)::starEach es X.env:=by rfl)(d:(backTo pos Í).any (·.1)=χ:=by rfl)(A:eval (.Call (.Attribute o m apos) (e::es) [] pos) X.env=(do
  let v <-eval o X.env
  standAt apos.atName
  let (f,first) <-holding [v] (getMethod v m pl)
  callWith pos f first (backTo pos (starEach (e::es) X.env)) (backToKw pos (keywordEach [] X.env))):=by rfl):
 PE X (.Call (.Attribute o m apos) (e::es) [] pos) (yi C m sp dvs E ta t):=by intro b s w H Q I h;rwa[PySem.W.methodCall_KW (pl:=pl) (bx (N b s w H _ I h) λu J ζ=>?_) A];let[x,D,i,L,a,U,fs,ex,P,l,q]:=ζ;subst ex;obtain rfl:u=Value.Η a:=L;rwa[yh i P c hm l ?_];rwa[apm (first:=[?a]) (h₀:=X.base) I.ok.mod.pP hm.kp (bx (O pos b J w D _ i q) λy S ζ=>?_) g d];let[j,T,n,r,R]:=ζ;rwa[n.dZ,5];rwa[CL (us:=?a::y) (vs:=?a::j) F G B hd M n (.cons Τ r) R]
def Ob {pl:Sem Μ}(y:Z0)(c:ϊ)(hm:Meth X.K C m f)(F:Å)(n:dk k X.A)(j:ø)(hd:ļ)(w:ĸ)(i:eval (.Call (.Attribute o m apos) [] [] pos) X.env=(do
  let g <-eval o X.env
  standAt apos.atName
  let (f,first) <-holding [g] (getMethod g m pl)
  callWith pos f first (backTo pos (starEach [] X.env)) (backToKw pos (keywordEach [] X.env))):=by rfl):
 PE X (.Call (.Attribute o m apos) [] [] pos) (yi C m sp dvs E ta tO):=by intro b s v H Q I h;rwa[PySem.W.methodCall_KW (pl:=pl) (bx (y b s v H _ I h) λu D ζ=>?_) i];let[x,B,d,r,a,J,fs,ex,z,l,q]:=ζ;subst ex;obtain rfl:u=Value.Η a:=r;rwa[yh d z c hm l ?_];rwa[PySem.W.callWith_K0 (first:=[?a]) d.dZ hm.kp (CL (us:=[?a]) (vs:=[?a]) F n j hd w d (.cons Τ .nil) q)]
structure Mk (K:Za1)(C f:Zs):ν where
 makes:makesIn K C=ρ
 init:findIn K ?C Ç=ι (ι ?f)
 fn:isFn K ?f=ρ
 kp:keepIn K ?C=ρ
theorem Oc {a:θ (Zs×Obj)}{Q:VK}(M:Mk X.K C f)(F:Å)(A:dk (k+ 1) X.A)(l:ø)(hd:ļ)(G:ĸ)(I:Inv X a D H s)(r:Vals L N)(h:∀x d,H x=ε->H d=ε->d≠x->sp (?x::(L++dvs)) (υ (υ H d (.own x)) x (.ins C d [])) (λv J=>v=.non/\Q ?x J) E):
 X⁻¹ X.A (call ?C N) (EP X a D Q) X.xe s:=by
 let g:=h (↥s+ 1) ↥s (I.a0.fresh (aqu _)) Ï (anl (aoo _));let c:=Inv.made (C:=C) I;let i:Vals (V.Η (↥s+ 1)::(L++dvs)) (Value.Η (↥s+ 1)::(N++ds)):=.cons Τ (r.append hd)
 let z:@(Value.Η (↥s+ 1)::N++ds)=@ps:=by let e:=@i;rw[F.len δ g]at e;rwa[e.Β]
 refine apX (N9 (f:=f) I.dZ M.makes M.init (aqt.mp M.fn) (apt (F.run _ X.stack β {Value.Η (↥s+ 1)::N,[]} (Value.Η (↥s+ 1)::(N++ds)) β E (A.make C N [])
  (c.HS.make C N []) (l _ (Value.Η (↥s+ 1)::N) c.dZ z) i g) λr j b=>?_))
 cases r with
 |error e=>exact G a D β e j c b
 |ok B=>
  cases B with
  |ret u=>let[v,O,q,y,n,w]:=c.after b;subst n;rwa[y,{V.Η (↥s+ 1),O,q,2,w}]
  |next=>exact False.Κ b
  |brk=>exact False.Κ b
  |cont=>exact False.Κ b
def u9 (M:Mk X.K C f)(F:Å)(l:dk (k+ 1) X.A)(j:œ)(v:X.mg x\?C)(i:ø)(hd:ļ)(u:ĸ)(y:PA X (e::es) t)(c:(x==(Ö:Ι))=χ:=by decide)(w:starEach (e::es) X.env=(χ,eval e X.env)::starEach es X.env:=by rfl)(b:(backTo pos Í).any (·.1)=χ:=by rfl):
 PE X (.Call (.Name x p) (e::es) [] pos) (abp C sp dvs E t):=by intro a s n H Q I h;rwa[aoa (jv I j v ?_ c)];rwa[apm (h₀:=X.base) I.ok.mod.pP M.kp (bx (y pos a s n H _ I h) λD B ζ=>?_) w b];let[z,A,d,r,q]:=ζ;rwa[d.dZ,5];rwa[Oc M F l i hd u d r q]
end
def PK (X:Cx)(kws:θ Keyword)(t:TA):ν:=∀(pos:Pos)(a:θ (Zs×Obj))(s:Zu)(b:St)(H:Hp)(Q:Zb->Hp->ν),Inv X a b H s->t b H Q->X⁻¹ X.A (evalAll ((backToKw pos (keywordEach kws X.env)).Α (·.2))) (AP X a b Q) X.xe s
section
variable {X:Cx}{x:Str}{pos aeD:Pos}{e:Expr}{kws:List Keyword}{te:TE}{t:TA}{nm:Option Str}
def J0:PK X [] tO:=λ_ _ _ _ H Q I h=>wpAny_evalAll_nil {[],H,I,.nil,h}
def Gp (w:Ŏ)(l:PK X kws t):PK X ({nm,e,aeD}::kws) (u0 te t):=by intro pos a s b H Q I h;rwa[wpAny_evalAll_cons (amC (bx (w a s b H _ I h) λu q ζ=>?_))];let[x,j,d,c,g]:=ζ;rwa[amC (ap6 (amL ?_))];rwa[bx (l pos a q b j _ d g) λA z ζ=>?_];let[n,v,i,r,y]:=ζ;rwa[x::n,v,i,.cons c r,y]
end
structure aP (N P:Zp)(sc:Š):ν where
 kind:sc.kind=.function
 co:sc.isCoroutine=χ
 gen:sc.isGenerator=χ
 nd:N.Nodup
 pre:N.take @P=P
 par:∀x∈P,sc.names.lookup x=ι .local\/sc.names.lookup x=ι .cell
 V6:∀y∈sc.names,y.2≠.free
theorem AW {kindOf:Ι->Ο NameKind}:∀{binds:θ (Ι×Zt)}{m:Ι->Zl},(∀v,(x,v)∉binds)->bindL kindOf binds m x=m x
 |[],_,_=>rfl
 |(n,v)::r,m,h=>by
  unfold bindL;rw[AW λw a=>h w (amZ _ a)];split
  .cbv
  .rfl
theorem AX {kindOf:Ι->Ο NameKind}:∀{binds:θ (Ι×Zt)}{m:Ι->Zl},(∀v,(x,v)∉binds)->bindC kindOf binds m x=m x
 |[],_,_=>rfl
 |(n,v)::r,m,h=>by
  unfold bindC;rw[AX λw a=>h w (amZ _ a)];split
  .rfl
  cbv
theorem AY {kindOf:Ι->Ο NameKind}{x:Ι}{v:Zt}:∀{P:Zp}{a:Zk}{i:η}{m:Ι->Zl},P.Nodup->P[i]?\x->a[i]?\v->kindOf x=ι .local->
 bindL kindOf (P.zip a) m x=ι v
 |[],_,_,_,_,h,_,_=>by simp at h
 |_::_,[],_,_,_,_,h,_=>by simp at h
 |p::P,w::a,0,m,d,c,b,e=>by simp at c b;subst c;subst b;show bindL kindOf ((p,w)::P.zip a) m p=_;unfold bindL;rw[AW λv f=>(anq.mp d).1 (θ.of_mem_zip f).1,am1 e];simp
 |p::P,w::a,i+ 1,m,d,c,b,e=>by unfold bindL;rwa[AY (i:=i) (anq.mp d).2 (by simpa using c) (by simpa using b) e]
theorem AZ {kindOf:Ι->Ο NameKind}{x:Ι}{v:Zt}:∀{P:Zp}{a:Zk}{i:η}{m:Ι->Zl},P.Nodup->P[i]?\x->a[i]?\v->kindOf x≠ι .local->
 bindC kindOf (P.zip a) m x=ι v
 |[],_,_,_,_,h,_,_=>by simp at h
 |_::_,[],_,_,_,_,h,_=>by simp at h
 |p::P,w::a,0,m,d,c,b,e=>by simp at c b;subst c;subst b;show bindC kindOf ((p,w)::P.zip a) m p=_;unfold bindC;rw[AX λv f=>(anq.mp d).1 (θ.of_mem_zip f).1,amY e];simp
 |p::P,w::a,i+ 1,m,d,c,b,e=>by unfold bindC;rwa[AZ (i:=i) (anq.mp d).2 (by simpa using c) (by simpa using b) e]
def start (N:Zp)(a:Zb):St:=a.Α ι++θ.replicate (@N - @a) ε
def dP (c:qC)(P:ĩ)(w:Ĩ)(K:Za1)(mg:Ι->Zl)(base:ċ)(N:Zp)(qual:Ι)(scope:Š)(f:Zs)(b:Zt)(A:Ģ)(outer:Zq)(s:Zu)(H:Hp)(E:XK):Cx where
 prog:=P
 w:=w
 K:=K
 mg:=mg
 base:=base
 A:=A.deeper (envOfC qual scope ↥s f b)
 N:=N
 fG:=s
 wG:=H
 env:=envOfC qual scope ↥s f b
 outer:=outer
 stack:=envOfC qual scope ↥s f b::outer
 ex:=[]
 calm:=ρ
 fn:=λ_=>ρ
 pn:=[]
 xe:=λe d=>(P<|>w) (A.deeper (envOfC qual scope ↥s f b)) (leaving (envOfC qual scope ↥s f b) e) (λ_ a=>c outer H s E e a) (λg a=>c outer H s E g a) d
instance e9.cx {CX:qC}{P:ĩ}{w:Ĩ}{K:Za1}{mg:Ι->Zl}{base:ċ}{N:Zp}{qual:Ι}{scope:Š}{f:Zs}{cd:Zt}{A:Ģ}{outer:Zq}{s:Zu}{H:Hp}{E:XK}:e9 (dP CX P w K mg base N qual scope f cd A outer s H E) K:={2}
def CM {sc:Š}(h:sc.names.lookup x=ι .cell):∃c,(cellsFrom n sc.names []).lookup x\c:=by let q:=PySem.W.cellsFrom_some sc.names n [] (.ψ h);rwa[apY.mp q]
def J1 {O:qC}{base:ċ}{N:Zp}{qual:Ι}{scope:Š}{f:Zq}{E:XK}{G:Zk}(S:aP N Z scope)(hd:A.handled=ε)(j:wQ P w K M base A f s H)(W:@L=@Z)(r:Vals L G)(x:InCallC s ↥s (bindL (envOfC qual scope ↥s a v).kindOf (Z.zip G) λ_=>ε) (cellsFrom (↥s+ 1) scope.names []) (bindC (envOfC qual scope ↥s a v).kindOf (Z.zip G) λ_=>ε) t):
 Inv (dP O P w K M base N qual scope a v A f s H E) [] (start N L) H t:=by
 let Q:@Z<=@N:=by have:=an7 θ.Ξ S.pre;rw[anc]at ω;ext
 let[D,U,Τ,I]:=x.done;let m:∀b:Zs,b∉(dP O P w K M base N qual scope a v A f s H E).ex:=λb z=>absurd (show b∈([]:Zn) from z) (by simp)
 erw[{j.mod,S.kind,22,amK _,λy z c D l=>?_,λy B=>?_,λy c _ h=>?_,λ_=>hd,Around.frames_deeper j.frames,.Ζ {22},λb z=>absurd z (m b),j.bs,j.vQ,λb _ _=>m b,λb z=>absurd z (m b),j.kO,j.yc},2,j.bare,Un.kept I,{_,x.toInCall.ns,λi y g D l X=>?_},λy c h=>{_,x.cell y c h},j.a0.fresh Φ,λy c h=>?_,λp o=>absurd (show p∈([]:θ (Zs×Obj)) from o) (by simp),j.a0.kept I]
 .rwa[name_of_addr x.apart (aoM D) (aoM l)]
 .rcases B with B|B
  .rwa[CM B]
  .rwa[absurd Τ (S.V6 _ (aoM B))]
 .rwa[aoI (x.above y c (aoM h))]
 .let F:i<@L:=by
   unfold start at l;cases F:i<@L
   .rwa[F]
   .cbv
  let T:L[i]?\g:=by
   unfold start at l;rw[amP (by simpa using F),amQ]at l
   cases e:L[i]? with
   |ε=>rw[e]at l;ext l
   |ι d=>cbv
  let[u,J,R]:=r.get T
  let o:Z[i]?\y:=by rw[<-S.pre,ao2 ∅];rwa[D]
  let C:Z.Nodup:=by rw[<-S.pre];rwa[S.nd.sublist (θ.take_sublist β)]
  erw[u,R];rcases S.par y (amD o) with k|k
  .rwa[.ψ {k,AY C o J k}]
  .let[c,e]:=CM (n:=↥s+ 1) k;rwa[.Ζ {.ψ k,c,e,5}];let q:=x.cell y c e;rw[AZ C o J (by show scope.names.lookup y≠_;cbv)]at q;rwa[q]
 .rwa[j.a0.fresh (aoI (x.above y c (aoM h)))]
 .unfold start;show _=@N;rw[amG,amE,θ.length_replicate];ext
def HV {B:qC}{base:ċ}{k:η}{name qual:Ι}{params:Arguments}{body:θ Stmt}{scope:Š}{X kV doc pm d Y Z:Zt}{W od:Zo}{O:ī}{N z:Zp}{C:Sp}(lk:K.lookup a\{Z,od,.func ŋ,O})(L:codeIn K d qual=ρ)(S:aP N z scope)(len:∀f H Q E,C f H Q E->@f=@z)(j:∀(A:Ģ) (c:Zq) (s:Zu) (H:Hp) (f:Zb) (Q:VK) (E:XK),dk k (A.deeper (envOfC qual scope ↥s a d))->C f H Q E->∃t,iY ý body t/\t { nx:=λ_ h=>Q .non h,rt:=Q } (start N f) H):
 eG P w K M base B (k+ 1) a ŋ z C:=by
 rwa[len,λA c s H R us f Q E G m hb r p=>?_];let hl:=len δ p;let T:K.In s.ς:=m.mod.pP.keeps λb o e=>(m.bs b o e).1
 let lim:s.ς.NoLimit:=m.mod.nolimit.keeps λb o e=>(m.bs b o e).1
 let i:∀y∈z.zip us,scope.names.lookup y.1=ι .local\/(scope.names.lookup y.1=ι .cell/\((cellsFrom (↥s+ 1) scope.names []).lookup y.1).isSome=ρ):=λζ hy=>by
  let[n,v]:=ζ
  rcases S.par n (θ.of_mem_zip hy).1 with q|q
  .rwa[.ψ q]
  .rwa[.Ζ {q,PySem.W.cellsFrom_some γ (.ψ q)}]
 rwa[codeAny_call_function G.depth (T^lk) Τ S.co S.gen Τ (PySem.W.codeRec_of T L) (hb δ ?_)];rwa[wpAny_newFunctionEnv_cells S.kind i λenv he U x=>?_]
 subst he;rwa[lim.keeps x.toInCall.keep,codeAny_func ?_];let[t,ht,hq]:=j A c s H f Q E (G.deeper _) p;let I:Inv ý [] (start N f) H U:=J1 S G.hd m hl r x;rwa[aok (ht [] U (start N f) H _ I hq) (λfl D l=>?_) λe D l=>l]
 let fin:∀{g:St}{h:Hp}{v:V}{u:Zt},Inv ý [] g h D->RelV v u->Q v h->CE c P w H s Q u D:=λ{g h v u} J F q=>{v,h,J.os,J.bare,J.base,J.a0,F,q}
 cases fl with
 |ret u=>let[v,g,h,J,F,q]:=l;rwa[fin J F q]
 |next=>let[g,h,J,q]:=l;rwa[fin (v:=V.non) (u:=Value.ε) J Τ q]
 |brk=>let[_,_,_,q]:=l;rwa[False.Κ q]
 |cont=>let[_,_,_,q]:=l;rwa[False.Κ q]
variable {X:Cx}{x:Str}{p pos:Pos}{e:Expr}{es:Zr}{t:TA}{id T:String}{r:Zb->Hp->VK->Prop}
def tCB (r:Zb->Hp->VK->ν)(t:TA):TE:=λ c H Q=>t c H λa b=>r a b Q
def aY (l:iz X (.builtin id) r)(g:œ)(q:X.mg x=ε)(v:bootBuiltins x\.builtin id)(w:PA X (e::es) t)(o:x≠Ŵ:=by decide)(c:(x==(Ö:Ι))=χ:=by decide)(y:starEach (e::es) X.env=(χ,eval e X.env)::starEach es X.env:=by rfl)(b:(backTo pos Í).any (·.1)=χ:=by rfl):PE X (.Call (.Name x p) (e::es) [] pos) (tCB r t):=by intro a s d H Q I h;rwa[aoa (iI I g q v ?_ o c)];rwa[PyProof.Rows.callWith_builtin1 (bx (w pos a s d H _ I h) λu n ζ=>?_) y b];let[j,m,i,f,k]:=ζ;rwa[l a n d m j u Q i f k]
def cO (l:iz X (.type T) r)(g:œ)(q:X.mg x=ε)(v:bootBuiltins x\.type T)(w:PA X (e::es) t)(o:x≠Ŵ:=by decide)(c:(x==(Ö:Ι))=χ:=by decide)(y:starEach (e::es) X.env=(χ,eval e X.env)::starEach es X.env:=by rfl)(b:(backTo pos Í).any (·.1)=χ:=by rfl):PE X (.Call (.Name x p) (e::es) [] pos) (tCB r t):=by intro a s d H Q I h;rwa[aoa (iI I g q v ?_ o c)];rwa[anP (bx (w pos a s d H _ I h) λu n ζ=>?_) y b];let[j,m,i,f,k]:=ζ;rwa[l a n d m j u Q i f k]
end L2
namespace HT
variable {prog:Program}{w:World}{A:Around}{E:Zt->Zu->Prop}{s:Zu}
def Uc {ws:Zk}(r:IsTup s.ς a N.toArray)(t:IsTup s.ς b ws.toArray)(o:N≠[])(u:ws=[]->Q ?a s)(q:ws≠[]->Q ↑↥s { s with ς:=s.ς.push (Ω>>>.seq (N++ws).toArray) })(v:@N+ @ws<=sizeLine):(prog<|>w) A (binaryOp .Add ?a ?b) Q E s:=by
 let[⟨cls,m,data,k⟩,h,x,n,hd]:=id r;let[⟨l,d,data2,f⟩,c,j,p,i]:=id t;subst x hd j i;let e:N.toArray++ws.toArray=(N++ws).toArray:=by simp
 cases g:ws=[]
 .exact concat_meets {_,h,2} {_,c,2} noFill_tuple_add seq_tuple_add aqf ap7 (apZ β)
   (tuple_addW1 a b N.toArray ws.toArray n p m d k f (by simpa using o) (by simp[g])) {h,c,u g}
 .refine concat_meets {_,h,2} {_,c,2} noFill_tuple_add seq_tuple_add aqf ap7 (apZ β)
   (tuple_addW2 a b N.toArray ws.toArray n p m d k f (by simpa using o) (by simpa using g) ∅) {h,c,5}
  rw[e];rwa[q g]
def cC (n d:η):Zj->η
 |ε=>d
 |ι v=>if v<0 then (v+ (n:ο)).toNat else min v.toNat n
def va (n d k:η):cC n d (ι (k:ο))=min k n:=by show (if (k:ο)<0 then ((k:ο)+ (n:ο)).toNat else min (k:ο).toNat n)=min k n;rw[amY ∅,anb]
def Gq (v:ο)(n d:η):(if v<0 then max (v+ (n:ο)) 0 else min v (n:ο))=((cC n d (ι v):η):ο):=by
 show (if v<0 then max (v+ (n:ο)) 0 else min v (n:ο))=(((if v<0 then (v+ (n:ο)).toNat else min v.toNat n):η):ο);cases a:v<0
 .cbv
 .simp only[amY a];ext
def HW (lo a:Zj)(n:η):Builtin.Slice.sliceAdjust lo a 1 (n:ο)=(((cC n 0 lo:η):ο),((cC n n a:η):ο)):=by
 let b:¬((1:ο)<0):=∅
 unfold Builtin.Slice.sliceAdjust;rwa[Prod.ext ?_ ?_]
 .cases lo with
  |ε=>rfl
  |ι v=>exact Gq v n 0
 .cases a with
  |ε=>rfl
  |ι v=>exact Gq v n n
def HX (i j:η):Builtin.Slice.slicePlaces (i:ο) (j:ο) 1=j - i:=by
 unfold Builtin.Slice.slicePlaces;let a:(1:ο) > 0:=∅
 split <;> ext
def yj {o:Zj}{Q:Zj->Zu->ν}(p:IsPart v o)(h:Q o s):(prog<|>w) A (Builtin.Slice.slicePartIndex v) Q E s:=by
 cases p with
 |ε=>exact slicePart_none h
 |τ i t=>exact slicePart_int h
def oE {lo d:Zj}{Q:ο×ο×η->Zu->ν}(g:s.ς.IsSliceOf a v u .ε)(pl:IsPart v lo)(e:IsPart u d)(h:Q (((cC n 0 lo:η):ο),1,cC n n d - cC n 0 lo) s):(prog<|>w) A (Builtin.Slice.sliceApplied ?a (pure (n:ο))) Q E s:=by let[os,b,f,c]:=id g;rwa[amC (amC (anB b c (x:=v) Τ (amC (anB b c (x:=u) Τ (amC (anB b c (x:=.ε) Τ (amL ?_)))))))];rwa[amC (slicePart_none ?_)];rwa[amC (yj pl (amC (yj e (amC (amL ?_)))))];show wpAny β (match Builtin.Slice.sliceAdjust lo d 1 (n:ο) with|(lo,d)=>pure (lo,(1:ο),Builtin.Slice.slicePlaces lo d 1)) _ _ s;rw[HW lo d n];show wpAny β (pure (((cC n 0 lo:η):ο),(1:ο),Builtin.Slice.slicePlaces ((cC n 0 lo:η):ο) ((cC n n d:η):ο) 1)) β s;rw[HX];rwa[amL h]
def Od (xs:Zm)(i k:η):((~~~k).filterMap λ(m:η)=>xs[((i:ο)+ (m:ο)* 1).toNat]?).toArray=((xs.toList.drop i).take k).toArray:=by
 let e:(λ(m:η)=>xs[((i:ο)+ (m:ο)* 1).toNat]?)=λm=>xs[i+ m]?:=by
  funext m
  have:((i:ο)+ (m:ο)* 1).toNat=i+ m:=∅
  rw[ω]
 rw[e];have:=pick_run xs i k;rw[θ.filterMap_map]at ω;let a:((λx=>xs[x]?) ∘ λx=>i+ x)=λm=>xs[i+ m]?:=rfl
 cbv
def vz {items:Zm}{lo d:Zj}(e:Œ)(k:s.ς.IsSliceOf b v u .ε)(pl:IsPart v lo)(p:IsPart u d)(o:¬(cC items.Γ 0 lo=0/\cC items.Γ items.Γ d=items.Γ))(h:Q ↑↥s { s with ς:=s.ς.push (Ω>>>.seq ((items.toList.drop Ϧ).take (cC items.Γ items.Γ d - cC items.Γ 0 lo)).toArray) })(n:items.Γ<=sizeLine):(prog<|>w) A (getItem ?a ?b) Q E s:=by
 let c:sizeOk (.seq ((items.toList.drop Ϧ).take (cC items.Γ items.Γ d - cC items.Γ 0 lo)).toArray):=by show ((items.toList.drop Ϧ).take (cC items.Γ items.Γ d - cC items.Γ 0 lo)).toArray.Γ<=sizeLine;rw[am4,anc,anI,aoK];ext
 let[os,i,g,l]:=id k;let j:s.TypeIs ?b ϕ:={os,i,g};unfold getItem
 try with_reducible rwa[an9 ?_]
 rwa[amC (wpAny_sequenceKey e.typeIs ⋯ ?_)]
 refine amC (anL (name:=Ι.ofString ĺ) e.typeIs anr
  (anR anr e.typeIs entry_tuple_getitem ?_ ů))
 show wpAny β (Builtin.Tuple.tupleItemsOf ?a >>=_) β s;rwa[amC (tupleItemsOf_ e ?_)];rwa[amC (ao9 j ?_)];rwa[amC (oE k pl p ?_)]
 let f:¬((((cC items.Γ 0 lo:η):ο)==0 && (1:ο)==1 && (cC items.Γ items.Γ d - cC items.Γ 0 lo)==items.Γ)=ρ):=by intro q;rw[an6,an6]at q;let r:((cC items.Γ 0 lo:η):ο)=0:=eq_of_beq q.1.1;let t:cC items.Γ items.Γ d - cC items.Γ 0 lo=items.Γ:=eq_of_beq q.2;rwa[o {33}]
 show wpAny β (if (((cC items.Γ 0 lo:η):ο)==0 && (1:ο)==1 && (cC items.Γ items.Γ d - cC items.Γ 0 lo)==items.Γ)=ρ then _ else _) β s;rw[amY f,Od]
 first
  |rwa[amC (m:=Builtin.Tuple.tupleExact _) (anw (amL {_,Τ,amL h}) c)]
  |rwa[amC (m:=Builtin.Tuple.tupleExact _) (anw (amC (amL (amL {_,Τ,amL h}))) c)]
  |rwa[amC (amC (m:=Builtin.Tuple.tupleExact _) (anw (amL (amL {_,Τ,amL h})) c))]
  |rwa[amC (amC (m:=Builtin.Tuple.tupleExact _) (anw (amL {_,Τ,amL h}) c))]
end HT
namespace L2
abbrev TO:=St->Hp->(Zj->Hp->Prop)->Prop
def PO (X:Cx)(e:Ο Expr)(t:TO):ν:=
 ∀(a:θ (Zs×Obj))(s:Zu)(b:St)(H:Hp)(Q:Zj->Hp->ν),Inv X a b H s->t b H Q->X⁻¹ X.A (evalPart e X.env) (λu d=>∃o c,Inv X a b c d/\IsPart u o/\Q o c) X.xe s
def Ud:TO:=λ_ H Q=>Q ε H
def abq (t:TE):TO:=λ b H Q=>t b H λx a=>∃i,x=.τ i/\Q (ι i) a
section
variable {X:Cx}{e:Expr}{te:TE}{lo hi:Option Expr}{tl th:TO}{pos p2:Pos}
def iN:PO X ε Ud:=by intro a s b H Q I h;rwa[amL {ε,H,I,.ε,h}]
def gT (h:Ŏ):PO X (ι e) (abq te):=by
 intro a s j H Q I b;rwa[bx (h a s j H _ I b) λu k ζ=>?_];let[x,c,g,d,f]:=ζ
 let[i,Τ,q]:=f;let[t,Τ]:=d;rwa[ι i,c,g,.τ i t,q]
def Rj (X:Cx)(r:V->Zj->Zj->Hp->VK->ν):ν:=
 ∀(a:θ (Zs×Obj))(s:Zu)(f:St)(H:Hp)(x:V)(v d c:Zt)(lo hi:Zj)(b:Zs)(Q:VK),Inv X a f H s->RelV x v->s.ς.IsSliceOf b d c .ε->IsPart d lo->IsPart c hi->r x lo hi H Q->∃T id,typeLookup (.type T) ĺ=pure (ι (.builtin id))/\s.TypeIs v T/\X⁻¹ X.A (getItem v ?b) (EP X a f Q) X.xe s
def tSl (r:V->Zj->Zj->Hp->VK->ν)(te:TE)(tl th:TO):TE:=λ a H Q=>te a H λx c=>tl a c λl b=>th a b λu d=>r x l u d Q
def iA {r:V->Zj->Zj->Hp->VK->ν}(C:Rj X r)(J:Ŏ)(B:PO X lo tl)(E:PO X hi th):PE X (.Subscript e (.Slice lo hi ε p2) pos) (tSl r te tl th):=by
 intro a s c H Q I h;rwa[Subscript_ (bx (J a s c H _ I h) λv F ζ=>?_)];let[x,A,m,i,w]:=ζ;rwa[wpAny_Slice (bx (B a F c A _ m w) λf p ζ=>?_)];let[l,G,z,pl,L]:=ζ;rwa[bx (E a p c G _ z L) λd s3 ζ=>?_];let[u,g,o,D,y]:=ζ;rwa[amL ?_];let j:Inv X a c g { s3 with ς:=s3.ς.push (ϕ>>>.fields #[f,d,.ε]) }:=o.kept (t':=s3.toks) λb N q=>amJ _ q
 let[T,id,t,k,n]:=C a { s3 with ς:=s3.ς.push (ϕ>>>.fields #[f,d,.ε]) } c g x v f d l u ↥s3 Q j i (Heap.IsSliceOf.new ..) pl D y;rwa[tail_any (ops:=[↑↥s3,v]) k t n (by with_unfolding_all rfl)]
def gY (xs:Zb)(lo hi:Zj):Zb:=(xs.drop (HT.cC @xs 0 lo)).take (HT.cC @xs @xs hi - HT.cC @xs 0 lo)
def vS (xs:Zb)(lo hi:Zj):@(gY xs lo hi)<=@xs:=by unfold gY;rw[anc,anI];ext
inductive V7 (K:Za1)(x:V)(lo hi:Zj)(H:Hp)(Q:VK):ν
 |mk (a:Zs)(xs:Zb):x=?a->bD K H a xs->¬(HT.cC @xs 0 lo=0/\HT.cC @xs @xs hi=@xs)->(∀p,H p=ε->Q ?p (υ H p (.Θ Ϡ)))->V7 K x lo hi H Q
def V8 [d:e9 X K]:Rj X (V7 K):=by
 cases d.eq;intro i s z H x v y p lo hi u Q I l m pl k h;let[a,xs,Τ,n,j,q]:=h;ext l;let[c,r,f,g]:=I.tuple n;let hlen:c.toArray.Γ=@xs:=by rwa[r.Ξ.Β]
 erw[Ω,_,anr.lookup,f.typeIs];rwa[HT.vz f m pl k ([hlen]▸j) ?_ ([hlen]▸g)];rw[hlen];rwa[↑↥s,_,I.laid (t':=s.toks) (o:=.Θ Ϡ) (λb w q=>amJ _ q) Φ ?_,2,q _ Ï];rwa[amM (vS xs lo hi) g,_,(r.drop (HT.cC @xs 0 lo)).take (HT.cC @xs @xs hi - HT.cC @xs 0 lo),IsTup.new β]
inductive Rk (K:Za1)(x y:V)(H:Hp)(Q:VK):ν
 |mk (a b:Zs)(xs ys:Zb):x=?a->y=?b->bD K H a xs->bD K H b ys->xs≠[]->@xs+ @ys<=sizeLine->(ys=[]->Q ?a H)->(ys≠[]->∀p,H p=ε->Q ?p (υ H p (.Θ (xs++ys))))->Rk K x y H Q
def Vals.vb (r:Vals L N):N=[]↔L=[]:=by
 cases r with
 |nil=>simp
 |cons _ _=>simp
def Ue [f:e9 X K]:il X (binaryOp .Add) (Rk K):=by cases f.eq;intro i s F H x y v u Q I r t h;let[a,b,p,ys,Τ,Τ,B,k,A,g,m,C]:=h;ext r;ext t;let[l,d,n,_]:=I.tuple B;let[j,c,p2,_]:=I.tuple k;rwa[HT.Uc n p2 (λz=>A (d.vb.mp z)) (λz=>{?a,H,I,2,m (c.vb.mp z)}) (λz=>?_) (by rw[<-@d,<-@c];rwa[g])];rwa[↑↥s,_,I.laid (t':=s.toks) (o:=.Θ (p++ys)) (λb E q=>amJ _ q) Φ ?_,2,C (λw=>z (c.vb.mpr w)) _ Ï];rwa[[amG]▸g,_,d.append c,IsTup.new β]
end
def tP (n:η)(i:ο):Zi:=if 0<=i then (if i<n then ι i.toNat else ε) else if -(n:ο)<=i then ι (i+ n).toNat else ε
def pS {a:Type}(xs:θ a)(i:ο):Ο a:=(tP @xs i).bind λj=>xs[j]?
def Gr (h:tP n z\j):seqIndex? z n\j/\j<n/\-(n:ο)<=z/\z<n:=by
 unfold tP at h;cases b:0<=z
 .rw[am1 b]at h;cases a:z<n
  .rw[am1 a]at h;let e:z.toNat=j:=Za0 h;rwa[by rw[seqIndex_of b a,e],33,a]
  .rw[amY a]at h;ext h
 .rw[amY b]at h;cases a: -(n:ο)<=z
  .rw[am1 a]at h;let e:(z+ n).toNat=j:=Za0 h;rwa[by rw[seqIndex_neg ∅ a,e],3,a,3]
  .rw[amY a]at h;ext h
def Gs {a:Type}{xs:θ a}{v:a}(h:pS xs z\v):∃j,seqIndex? z @xs\j/\xs[j]?\v/\j<@xs/\-(@xs:ο)<=z/\z<@xs:=by
 unfold pS at h
 cases e:tP @xs z with
 |ε=>rw[e]at h;ext h
 |ι j=>rw[e]at h;let[d,b,f,c]:=Gr e;rwa[j,d,h,b,f,c]
def cG {a:Type}{xs:θ a}{v:a}(h:xs[j]?\v):pS xs (j:ο)\v:=by
 let b:j<@xs:=(amF.mp h).1
 let e:tP @xs (j:ο)\j:=by unfold tP;rw[am1 ∅,am1 ∅];simp
 unfold pS;rw[e];rwa[h]
def Oe {a:Type}(xs:θ a)(v:a):pS (xs++[v]) (-1)\v:=by
 let b:@(xs++[v])=@xs+ 1:=by simp
 let e:tP @(xs++[v]) (-1)\@xs:=by
  unfold tP;rw[b,amY ⋯,am1 ∅]
  congr 1
  ext
 unfold pS
 cbv
def Ug (b:đ):ν:=∀o i,subscripted b χ o i=operate [o,i] (getItem o i)
def Rl (X:Cx)(r:R2):ν:=
 ∀(value slice:đ)(a:θ (Zs×Obj))(s:Zu)(b:St)(H:Hp)(x y:V)(v u:Zt)(Q:VK),Inv X a b H s->RelV x v->RelV y u->r x y H Q->subscripted slice χ v u=operate [v,u] (getItem v u)->X⁻¹ X.A (subscriptTail value slice v u) ō X.xe s
def V9 (X:Cx)(id:ţ)(r:V->Zb->Hp->VK->ν):ν:=
 ∀(a:θ (Zs×Obj))(s:Zu)(d:St)(H:Hp)(x:V)(c:Zb)(v:Zt)(b:Zk)(Q:VK),Inv X a d H s->RelV x v->Vals c b->r x c H Q->X⁻¹ X.A (call (.builtin id) (v::b)) (EP X a d Q) X.xe s
section
variable {X:Cx}{a b:Expr}{ta tb:TE}{pos:Pos}
def aU {r:R2}(g:Rl X r)(n:ŏ)(d:ϓ)(j:Ug b):PE X (.Subscript a b pos) Q4:=by intro c s l H Q I h;rwa[Subscript_ (N5 n d I h λv u e x y m f i k q=>g a b c e l m x y v u Q f i k q (j β))]
inductive Og (K:Za1)(x y:V)(H:Hp)(Q:VK):ν
 |mk (p:Zs)(xs:Zb)(i:ο)(v:V):x=?p->y=.τ i->az K H p xs->pS xs i\v->Q v H->Og K x y H Q
inductive Wa (K:Za1)(x y:V)(H:Hp)(Q:VK):ν
 |mk (p:Zs)(xs:Zb)(i:ο)(v:V):x=?p->y=.τ i->bD K H p xs->pS xs i\v->Q v H->Wa K x y H Q
def a9 [g:e9 X K]:Rl X (Og K):=by
 cases g.eq;intro value slice c s o H x y v u Q I G J h n;let[p,N,i,z,Τ,Τ,C,L,q]:=h;ext G;let[t,Τ]:=J;let[f,r,pl,M]:=I.list C;let[j,d,B,O,D,E]:=Gs L;let[w,m,e]:=r.get B;let F:=@r;let P:=oB;let fin:EP X c o Q w s:={z,H,I,e,q};cases l:0<=i
 .let k:i.toNat=j:=by rw[seqIndex_of l E]at d;rwa[Za0 d]
  rwa[item_listR pl.isList l ∅ (by rw[k];simpa using m) fin n]
 .let k:(i+ (f.toArray.Γ:ο)).toNat=j:=by rw[seqIndex_neg ∅ D]at d;rw[am4,<-F];rwa[Za0 d]
  exact subscriptTail_builtinR (x:=w) pl.isList.typeIs slot_list_getitem.lookup
   (wpAny_getItem_list_neg (Q:=λr A=>r=w/\EP X c o Q r A) pl.isList ∅ (by rw[am4] <;> omega) ∅ (by rw[k];simpa using m) {2,fin}) n
def cI [e:e9 X K]:Rl X (Wa K):=by
 cases e.eq;intro value slice c s f H x y v u Q I o B h A;let[p,L,i,z,Τ,Τ,l,C,q]:=h;ext o;let[t,Τ]:=B;let[m,r,pl,G]:=I.tuple l;let[j,E,k,M,D,F]:=Gs C;let[w,n,d]:=r.get k;let J:=@r;let N:=oB;let fin:EP X c f Q w s:={z,H,I,d,q}
 exact subscriptTail_builtinR (x:=w) pl.typeIs slot_tuple_getitem.lookup
  (getItem_tuple (j:=j) (Q:=λr g=>r=w/\EP X c f Q r g) pl ∅ ∅ (by cbv) (by simpa using n) {2,fin}) A
def HY (c:Zk)(n j:η)(u:Zt):Obj.mapSeq (·.setIfInBounds j u) (À>>>.seq c.toArray n)=(À>>>.seq (c.set j u).toArray n):=by simp[Obj.mapSeq]
def Inv.Ε {xs:Zb}(I:Ì)(h:H c\.Ε xs):
 ∃(d:Zk)(n:η),Vals xs d/\s•c\(À>>>.seq d.toArray n)/\@xs<=sizeLine:=by let[z,d,n,r,e]:=I.a0 c _ h;rwa[d,n,r,e,z]
def Inv.Wb {ys:Zb}{d:Zk}{f:Obj->Obj}(I:Ì)(h:H c\.Ε L)(j:s•c\(À>>>.seq N.toArray n))(g:f (À>>>.seq N.toArray n)=(À>>>.seq d.toArray m))(r:Vals ys d)(hz:@ys<=sizeLine)(t:η):
 Inv X o D (υ H c (.Ε ys)) { s with ς:=s.ς.update c f,toks:=t }:=by
 let e:(s.ς.update c f).get? c\(À>>>.seq d.toArray m):=by rw[anx f j (by rw[g] <;> rfl),g]
 rwa[I.write (x:=c) (e:=c) (by rw[h];trivial) (.ψ Τ) (λb u i q=>(anH^an5 i).π q) {_,e} ?_];rwa[hz,d,m,r,e]
inductive Rm (o i v:V)(H:Hp)(Q:(Hp->ν)):ν
 |mk (p:Zs)(xs:Zb)(k:ο)(j:η):o=?p->i=.τ k->H p\.Ε xs->tP @xs k\j->Q (υ H p (.Ε (xs.set j v)))->Rm o i v H Q
def set_list:VN X Rm:=by
 intro d s D H o i v J M u Q I A E B h;let[p,xs,k,j,Τ,Τ,y,F,q]:=h;ext A;let[t,Τ]:=E;let[c,n,r,g,C]:=I.Ε y;let[e,G,z,w]:=Gr F;let l:=@r;let L:=oB
 let x:Inv X d D (υ H p (.Ε (xs.set j v))) { s with ς:=s.ς.update p (Obj.mapSeq (·.setIfInBounds j u)) }:=I.Wb y g (HY c n j u) (r.set B j) ([am7]▸C) s.toks
 cases m:0<=k
 .let f:k.toNat=j:=by rw[seqIndex_of m w]at e;rwa[Za0 e]
  rwa[PySem.W.ki_setAt g m ∅ (by rw[am4,<-l];rwa[w]) ([f]▸{_,x,q})]
 .let f:(k+ (c.toArray.Γ:ο)).toNat=j:=by rw[seqIndex_neg ∅ z]at e;rw[am4,<-l];rwa[Za0 e]
  rwa[PySem.W.ki_setBack g ∅ (by rw[am4,<-l];rwa[z]) ∅ ([f]▸{_,x,q})]
def CN (lo c:Zj)(n:η):(sliceBounds lo c ε n).1=((HT.cC n 0 lo:η):ο)/\(sliceBounds lo c ε n).2.1=((HT.cC n n c:η):ο)/\(sliceBounds lo c ε n).2.2=1:=by
 rwa[{552}]
 .cases lo with
  |ε=>simp[sliceBounds,HT.cC]
  |ι i=>
   simp only[sliceBounds,HT.cC,Ο.getD_none,show (1:ο) > 0 by decide,aqi];cases h:i<0
   .simp only[h,aqi] <;> ext
   .simp only[h,aqq] <;> ext
 .cases c with
  |ε=>simp[sliceBounds,HT.cC]
  |ι i=>
   simp only[sliceBounds,HT.cC,Ο.getD_none,show (1:ο) > 0 by decide,aqi];cases h:i<0
   .simp only[h,aqi] <;> ext
   .simp only[h,aqq] <;> ext
def BR (c:Zk)(lo d:Zj):slicePick c.toArray lo d ε=((c.drop (HT.cC @c 0 lo)).take (HT.cC @c @c d - HT.cC @c 0 lo)).toArray:=by let[f,e,g]:=CN lo d c.toArray.Γ;unfold slicePick;rw[f,e,g];simp only[sliceRange_one,pick_run,am4] <;> rfl
inductive Wc (K:Za1)(x:V)(lo hi:Zj)(H:Hp)(Q:VK):ν
 |mk (a:Zs)(xs:Zb):x=?a->az K H a xs->(∀p,H p=ε->Q ?p (υ H p (.Ε Ϡ)))->Wc K x lo hi H Q
def qD [c:e9 X K]:Rj X (Wc K):=by cases c.eq;intro f s y H x v w n lo d t Q I k l pl j h;let[a,xs,Τ,m,q]:=h;ext k;let[g,r,e,i]:=I.list m;let hlen:=@r;erw[À,_,slot_list_getitem.lookup,e.isList.typeIs];rwa[wpAny_getItem_list_slice e.isList l pl j .ε (by simp) ?_ (by rw[am4] <;> omega)];rw[BR,<-hlen];rwa[↑↥s,_,I.laid (t':=s.toks) (o:=.Ε (gY xs lo d)) (λb u q=>amJ _ q) Φ ?_,2,q _ Ï];rwa[amM (vS xs lo d) i,_,(0),(r.drop (HT.cC @xs 0 lo)).take (HT.cC @xs @xs d - HT.cC @xs 0 lo),am0 _ Τ]
inductive HZ (K:Za1)(xs:Zb)(H:Hp)(Q:VK):ν
 |mk (p:Zs)(ys:Zb):xs=[?p]->(az K H p ys\/bD K H p ys)->Q (.τ @ys) H->HZ K xs H Q
def aV [f:e9 X K]:iz X (.builtin "len") (HZ K):=by
 cases f.eq;intro g s l H k n Q I r h;let[p,ys,Τ,c,q]:=h;let[u,Τ,j]:=vals1 r;ext j;let m:=oB;rcases c with c|c
 .let[e,d,pl,i]:=I.list c;let hlen:=@d;rwa[Calls.call_len_list pl.isList (by simp only[am4] <;> omega) {.τ @ys,H,I.tok _,{s.toks+ 1,by cbv},q}]
 .let[e,d,pl,i]:=I.tuple c;let hlen:=@d;rwa[len_tuple pl (by simp only[am4] <;> omega) {.τ @ys,H,I.tok _,{s.toks+ 1,by cbv},q}]
def gZ [t:e9 X K]:iz X (.type À) (λw H Q=>∃p ys,w=[?p]/\(az K H p ys\/bD K H p ys)/\∀l,H l=ε->Q ?l (υ H l (.Ε ys))):=by
 cases t.eq;intro k s z H w B Q I r h;let[p,ys,Τ,i,q]:=h;let[u,Τ,y]:=vals1 r;ext y
 let fin:∀(c:Zk),Vals ys c->@ys<=sizeLine->∀(d:ċ)(g:η),(∀b x,s•b\x->d.get? b\x)->
  d.get? ↥s=ι { cls:=.type À,dict:=ε,data:=.seq c.toArray g,slots:=#[] }->EP X k z Q ↑↥s (s<*d):=λc f j d g kp e=>{↑↥s,_,I.laid (t':=s.toks) kp Φ (show cu X.prog X.w _ d _ (.Ε ys) from {j,c,g,f,e}),2,q _ Ï}
 rcases i with i|i
 .let[c,f,pl,j]:=I.list i;let hlen:=@f;let[o,m,v,n,hd]:=pl.isList;rwa[call_list_seq p (.ψ Τ) m v hd (λd g kp e=>fin c f j d g kp e) (by simp only[am4] <;> omega)]
 .let[c,f,pl,j]:=I.tuple i;let hlen:=@f;let[o,m,v,n,hd]:=pl;rwa[call_list_seq p (.Ζ Τ) m v hd (λd g kp e=>fin c f j d g kp e) (by simp only[am4] <;> omega)]
def fZ [j:e9 X K]:iz X (.type Ω) (λn H Q=>∃p ys,n=[?p]/\((az K H p ys/\∀l,H l=ε->Q ?l (υ H l (.Θ ys)))\/(bD K H p ys/\Q ?p H))):=by
 cases j.eq;intro c s t H n y Q I r h;let[p,ys,Τ,h]:=h;let[u,Τ,x]:=vals1 r;ext x;rcases h with ⟨i,q⟩|⟨i,q⟩
 .let[d,g,pl,m]:=I.list i;let hlen:=@g;rwa[call_tuple_list pl.isList (λf kp=>?_) (by simp only[am4] <;> omega)];let k:Inv X c t H (s<*f):=I.kept (t':=s.toks) kp
  let w:Inv X c t (υ H f.Ν.Γ (.Θ ys)) { s with ς:=f.push (Ω>>>.seq d.toArray) }:=k.laid (t':=s.toks) (λb o e=>amJ _ e) Φ (show cu X.prog X.w γ (.Θ ys) from {m,d,g,IsTup.new β})
  rwa[?f.Ν.Γ,_,w,2,q _ (k.a0.fresh Φ)]
 .let[d,g,pl,m]:=I.tuple i;rwa[call_tuple_same pl {?p,H,I,2,q}]
def Wd (K:Za1)(T:ţ)(x:V)(H:Hp):ν:=match x with
 |.str _=>T="str"
 |.τ _=>T=ϟ
 |.Η p=>(T=À/\∃d,az K H p d)\/(T=Ω/\∃o,K.lookup p\o/\o.cls=.type Ω/\o.dict=ε)\/
  (T=ç/\((∃c,H p\.dK c)\/∃c,H p\.dT c))\/(T="set"/\∃S n,H p\.set S n)
 |_=>False
def J2 {T:ţ}{x:V}(I:Ì)(r:RelV x v)(g:Wd X.K T x H):
 s.TypeIs v T/\∀a,v=?a->∃k,s•a\k/\k.dict=ε:=by
 cases x with
 |str z=>let[t,Τ]:=r;cases (show T="str" from g);rwa[typeIs_str s z t,λ_ e=>nomatch e]
 |τ i=>let[t,Τ]:=r;cases (show T=ϟ from g);rwa[typeIs_int s i t,λ_ e=>nomatch e]
 |Η p=>
  ext r;rcases g with ⟨rfl,u,l⟩|⟨rfl,d,f,q,hd⟩|⟨rfl,f⟩|⟨rfl,S,n,f⟩
  .let[m,_,pl,_]:=I.list l;rwa[pl.isList.typeIs,λa e=>?_];ext e;let[d,n,e,c,hd,_]:=pl;rwa[d,e,hd]
  .rwa[{d,I.dZ p d f,q},λa e=>?_];ext e;rwa[d,I.dZ _ d f,hd]
  .let z:∃d,s•p\d/\d.ExactDict:=by
    rcases f with ⟨h,f⟩|⟨h,f⟩
    .let[_,_,_,_,d,_,_,e,ex,_]:=I.a0 p _ f;rwa[d,e,ex]
    .let[_,_,_,_,d,_,_,e,ex,_]:=I.a0 p _ f;rwa[d,e,ex]
   let[d,e,ex]:=z;rwa[{d,e,ex.1},λa j=>?_];ext j;rwa[d,e,ex.2.1]
  .let[d,_,_,_,e,ex,_]:=I.a0 p _ f;rwa[{d,e,ex.1},λa j=>?_];ext j;rwa[d,e,ex.2.1]
 |_=>exact False.Κ g
def aeE (K:Za1)(T:ţ)(r:V->Zb->Hp->VK->ν)(to:TE):TE:=λ d H Q=>to d H λx c=>Wd K T x c/\r x [] c Q
def tBM (K:Za1)(T:ţ)(r:V->Zb->Hp->VK->ν)(to:TE)(t:TA):TE:=λ d H Q=>to d H λx c=>Wd K T x c/\t d c λf e=>r x f e Q
variable {o e:Expr}{es:Zr}{to:TE}{t:TA}{name:Str}{apos cQ:Pos}{T id:String}{r:V->Zb->Hp->VK->Prop}
def J9 [f:e9 X K](z:PlainAttrs T)(slot:Slot T name id)(g:typeOf (.builtin id)=pure (.type "method_descriptor"))(y:V9 X id r)(p:PE X o to)(d:attributeBase o name X.env ϐ=eval o X.env:=by rfl)(hline:(apos.endLine==cQ.line)=ρ:=by rfl):PE X (.Call (.Attribute o name apos) [] [] cQ) (aeE K T r to):=by cases f.eq;intro c s k H Q I h;rwa[wpAny_Call_method0_late d hline (bx (p c s k H _ I h) λv u ζ=>?_)];let[x,q,j,i,w,m]:=ζ;let[n,l]:=J2 j i w;rwa[T,id,z,slot,g,n,l,anZ Τ (PySem.evalArgs_none (y c u k q x [] v [] Q j i .nil m))]
def df [i:e9 X K](N:PlainAttrs T)(slot:Slot T name id)(j:typeOf (.builtin id)=pure (.type "method_descriptor"))(G:V9 X id r)(A:PE X o to)(M:PA X (e::es) t)(f:attributeBase o name X.env ϐ=eval o X.env:=by rfl)(g:((backTo cQ (starEach (e::es) X.env)).all (λx=>!x.1) && (backToKw cQ (keywordEach [] X.env)).all (λx=>x.1.isSome)
  && decide (@(e::es)+ @([]:θ Keyword)+ (if ([]:θ Keyword).isEmpty then 0 else 1)<30))=ρ:=by rfl)(hline:(apos.endLine==cQ.line)=ρ:=by rfl)(D:starEach (e::es) X.env=(χ,eval e X.env)::starEach es X.env:=by rfl)(d:(backTo cQ Í).any (·.1)=χ:=by rfl):
 PE X (.Call (.Attribute o name apos) (e::es) [] cQ) (tBM K T r to t):=by cases i.eq;intro c s k H Q I h;rwa[wpAny_Call_method_late f g hline Τ (bx (A c s k H _ I h) λv C ζ=>?_)];let[x,B,m,l,E,w]:=ζ;let[y,p]:=J2 m l E;erw[T,id,N,slot,j,y,p];let n:=M cQ c C k B _ m w;rw[D]at n ⊢;rwa[anZ (by show (χ || (backTo cQ Í).any (·.1))=χ;rw[d] <;> rfl) (aoh ?_)];rwa[bx n λL u ζ=>?_];let[q,J,z,F,O]:=ζ;rwa[G c u k J x q v L Q z l F O]
/- xs.append(e),list.index on a module's tuple .. are V9 facts of 06m -/
end
def Rn (X:Cx)(id:ţ)(r:V->Zb->Hp->VK->ν):ν:=
 ∀(a:θ (Zs×Obj))(s:Zu)(d:St)(H:Hp)(x:V)(c:Zb)(v:Zt)(b:Zk)(Q:VK),Inv X a d H s->RelV x v->Vals c b->r x c H Q->X⁻¹ X.A (call (.builtin id) (v::b)) (EP X a d Q) X.xe s
theorem Vals.one:∀{x:V}{a:Zk},Vals [x] a->∃u,a=[u]/\RelV x u
 |_,_,.cons r .nil=>{12,r}
theorem Vals.zero:∀{a:Zk},Vals [] a->a=[]
 |_,.nil=>rfl
def Vals.dropLast {xs:Zb}{us:Zk}(h:Vals xs us):Vals xs.dropLast us.dropLast:=by
 induction h with
 |nil=>exact .nil
 |cons r t a=>
  cases t with
  |nil=>exact .nil
  |cons q b=>exact .cons r a
def Vals.reverse {xs:Zb}{us:Zk}(h:Vals xs us):Vals xs.reverse us.reverse:=by
 induction h with
 |nil=>exact .nil
 |cons r t a=>rw[aqj,aqj];rwa[Vals.append a (.cons r .nil)]
theorem Vals.rep (h:Vals L N):∀k:η,Vals (θ.replicate k L).flatten (θ.replicate k N).flatten
 |0=>.nil
 |k+ 1=>by rwa[Vals.append h (Vals.rep h k)]
theorem foldl_rep (a:Zk):∀(k:η)(acc:Zk),
 θ.foldl (λc d=>c++d) acc.toArray (θ.replicate k a.toArray)=(acc++(θ.replicate k a).flatten).toArray
 |0,acc=>by simp
 |k+ 1,acc=>by
  let e:acc.toArray++a.toArray=(acc++a).toArray:=by simp
  let b:(acc++a)++(θ.replicate k a).flatten=acc++(θ.replicate (k+ 1) a).flatten:=by rw[aoN,apD,ans]
  rw[<-b,<-foldl_rep a k (acc++a),<-e,aoN,aoO]
section
variable {X:Cx}{pins:List (Zs×Obj)}{σ:St}{H:Hp}{s:Zu}{l:Zs}{xs ys:Zb}
def Inv.Ia {Oh:Zk}{f:Zm->Zm}(I:Υ)(d:H l\.Ε xs)(e:s•l\(À>>>.seq N.toArray n))(a:f N.toArray=Oh.toArray)(c:Vals ys Oh)(hz:@ys<=sizeLine):
 Inv X pins σ (υ H l (.Ε ys)) { s with ς:=s.ς.update l (Obj.mapSeq f),toks:=m }:=by let q:=PySem.IsL.update e f;rw[a]at q;rwa[I.write (x:=l) (e:=l) ([d]▸trivial) (.ψ Τ) (λi u h g=>(anH s.ς (Obj.mapSeq f) (an5 h)).π g) {_,q} ?_];rwa[hz,Oh,_,c,q]
def Inv.Wg {t':η}(I:Υ)(a:Vals ys N)(hz:@ys<=sizeLine):
 Inv X pins σ (υ H ↥s (.Ε ys)) { s with ς:=s.ς.push (À>>>.seq N.toArray),toks:=t' }:=I.laid (λ_ _ q=>amJ _ q) Φ {hz,N,(0),a,am0 _ Τ}
def Inv.fresh (I:Υ):H ↥s=ε:=I.a0.fresh Φ
def Inv.tQ (I:Υ)(c:H l\.Ε xs):@xs<=sizeLine/\∃(a:Zk)(n:η),Vals xs a/\@xs=@a/\s•l\(À>>>.seq a.toArray n):=by let[z,a,n,r,e]:=I.a0 l _ c;rwa[z,a,n,r,@r,e]
def wR (h:n<=sizeLine):Builtin.θ.listTooLong n=χ:=by rwa[anG ∅]
end
variable {X:Cx}
inductive Gu (x:V)(vs:Zb)(H:Hp)(Q:VK):ν
 |mk (l:Zs)(xs:Zb)(y:V):x=?l->vs=[y]->H l\.Ε xs->@xs<sizeLine->Q .non (υ H l (.Ε (xs++[y])))->Gu x vs H Q
theorem bS:Rn X "list.append" Gu:=by intro d s p H x j v t Q I g f h;let[l,o,y,Τ,Τ,c,k,q]:=h;ext g;let[u,Τ,i]:=f.one;let[z,a,n,r,m,e]:=I.tQ c;rwa[ap0 F.slot_list_append {_,e,2} F.entry_list_append (F.args_list_append_2 β) (PySem.list_append l a.toArray n u (by rw[am4];omega)) {e,5}];rwa[.non,_,I.Ia (Oh:=a++[u]) c e (by simp) (r.append (.cons i .nil)) ?_,2,q];rw[amG,aoc];ext
inductive zQ (x:V)(vs:Zb)(H:Hp)(Q:VK):ν
 |mk (l b:Zs)(xs zs:Zb):x=?l->vs=[?b]->H l\.Ε xs->H b\.Ε zs->@xs+ @zs<=sizeLine->Q .non (υ H l (.Ε (xs++zs)))->zQ x vs H Q
theorem A0:Rn X "list.extend" zQ:=by
 intro j s J H x C v L Q I p m h;let[l,b,G,B,Τ,Τ,i,y,D,q]:=h;ext p;let[u,Τ,w]:=m.one;ext w;let[z,c,n,r,E,e]:=I.tQ i;let[z2,a,A,t,k,o]:=I.tQ y;let f:c.toArray.Γ+ a.toArray.Γ<=sizeLine:=by rw[am4,am4];ext
 let d:¬(!c.toArray.isEmpty && Builtin.θ.listTooLong (c.toArray.Γ+ a.toArray.Γ))=ρ:=by rw[wR f,Μ.and_false];rwa[anz]
 refine ap0 F.slot_list_extend {_,e,2} F.entry_list_extend (F.args_list_extend_2 β)
  (AutoSeq1.list_extend_list_list_0 l c.toArray n b a.toArray A d ∅ ∅) {e,o,5}
 rwa[.non,_,I.Ia (Oh:=c++a) i e (by simp) (r.append t) ?_,2,q];rw[amG];ext
inductive Wh (x:V)(vs:Zb)(H:Hp)(Q:VK):ν
 |mk (l:Zs)(xs:Zb)(y:V):x=?l->vs=[]->H l\.Ε xs->xs[@xs - 1]?\y->Q y (υ H l (.Ε xs.dropLast))->Wh x vs H Q
theorem Ka:Rn X "list.pop" Wh:=by
 intro g s A H x t v B Q I o i h;let[l,w,y,Τ,Τ,f,k,q]:=h;ext o;let b:=i.zero;subst b;let[z,a,n,r,j,e]:=I.tQ f;let[u,m,p]:=r.get k
 let c:a.toArray[a.toArray.Γ - 1]?\u:=by
  show a.toArray[@a - 1]?\u
  rw[<-aoT,<-j];rwa[m]
 rwa[ap0 F.slot_list_pop {_,e,2} F.entry_list_pop (F.args_list_pop_1 _) (MeetsSeq.list_pop_last l a.toArray n u c (by rw[am4];omega)) {e,5}];rwa[y,_,I.Ia (Oh:=a.dropLast) f e ?_ r.dropLast ?_,p,q]
 .cbv
 .rw[θ.length_dropLast];ext
inductive Wi (x y:V)(H:Hp)(Q:VK):ν
 |mk (l b:Zs)(xs zs:Zb):x=?l->y=?b->H l\.Ε xs->H b\.Ε zs->@xs+ @zs<=sizeLine->(∀p,H p=ε->Q ?p (υ H p (.Ε (xs++zs))))->Wi x y H Q
def qE:il X (binaryOp .Add) Wi:=by
 intro d s D H x y v u Q I j k h;let[l,b,C,w,Τ,Τ,i,p,A,q]:=h;ext j;ext k;let[z,c,n,r,B,e]:=I.tQ i;let[z2,a,E,m,f,g]:=I.tQ p;rwa[PySem.P.add_list e g ?_ (by rw[am4,am4];omega)];let o:c.toArray++a.toArray=(c++a).toArray:=by simp
 rw[o];rwa[↑_,_,I.Wg (t':=s.toks) (r.append m) (by rw[amG];omega),2,q _ I.fresh]
inductive Wj (x y:V)(H:Hp)(Q:VK):ν
 |mk (l:Zs)(k:ο)(xs:Zb):x=?l->y=.τ k->H l\.Ε xs-> -(2 ^ 63)<=k->k<2 ^ 63->@xs* k.toNat<=sizeLine->(∀p,H p=ε->Q ?p (υ H p (.Ε (θ.replicate k.toNat xs).flatten)))->Wj x y H Q
def len_rep {a:Type}(xs:θ a)(k:η):(θ.replicate k xs).flatten.Ξ=k* @xs:=by
 induction k with
 |zero=>simp
 |succ k b=>cbv
theorem Wk:il X (binaryOp .Mult) Wj:=by
 intro p s O H x y v u Q I G J h;let[l,k,N,Τ,Τ,E,C,A,o,q]:=h;ext G;let[t,Τ]:=J;let[z,b,n,r,D,e]:=I.tQ E;let hlen:b.toArray.Γ* k.toNat<=sizeLine:=by rw[am4,<-D];rwa[o]
 let d:¬b.toArray.Γ* k.toNat > (2 ^ 63 - 1) / 8:=by
  have:(sizeLine:η)<=(2 ^ 63 - 1) / 8:=⋯
  ext
 let g:¬(!Builtin.θ.listFitsIndex k)=ρ:=by rw[fitsIndex_both C A];rwa[anz]
 let c:¬Builtin.θ.listTooLong (b.toArray.Γ* k.toNat)=ρ:=by rw[wR hlen];rwa[anz]
 let f:θ.foldl (λj i=>j++i) #[] (θ.replicate (if b.toArray.isEmpty=ρ then 0 else k.toNat) b.toArray)=(θ.replicate k.toNat b).flatten.toArray:=by
  let B:∀m:η,θ.foldl (λj i=>j++i) #[] (θ.replicate m b.toArray)=(θ.replicate m b).flatten.toArray:=λm=>by
   have:=foldl_rep b m []
   cbv
  rw[B]
  cases b with
  |nil=>simp
  |cons a L=>rw[amY (by simp)]
 refine wpAny_binaryOp_repeat_ref (T:=À) (U:=ϟ) ⋯ {_,e,2} (λw=>typeIs_int w k t) noFill_list_mul F.fills_int_mul F.slot_int_rmul repeat_list F.slot_int_index.lookup
  (ap0 F.slot_int_rmul (typeIs_int s k t) F.entry_int_rmul (F.args_int_rmul_2 β) (int___rmul___int_list k t l b.toArray n)
   {e,2,{_,e,2},ap0 F.slot_list_mul {_,e,2} F.entry_list_mul (F.args_list_mul_2 β) (AutoListH.list___mul___list_int_3 l b.toArray n k t g d c) {e,5}})
 rw[f];rwa[↑_,_,I.Wg (t':=s.toks) (r.rep k.toNat) ([len_rep,apu]▸o),2,q _ I.fresh]
end L2
namespace Att
open PySem PySem.W PySem.Calls PyProof.Rows
def yk {P:Params}:∀(ns:Zg)(c:Zk),WellAll P h c (ns.Α WData.τ)->IntsAre c ns:=by
 intro ns
 induction ns with
 |nil=>intro c w;ext w;rwa[.nil]
 |cons n ns d=>
  intro c w
  cases w with
  |cons a b=>ext a;rwa[.cons β (d _ b)]
def Kb {l:OpenLaw}(v:l.most\n){P:Params}{h:ċ}{b:θ WData}{c:Zk}(e:l.row.toRowW.claim.pre b=ρ)(i:WellAll P h c b):
 ∃a m ns,c=[Value.Η a]/\b=[WData.list (ns.Α WData.τ)]/\h.get? a\(À>>>.seq m.toArray)/\IntsAre m ns/\@ns<=n:=by
 let k:WShape.hasAll [] b [.list .τ]=ρ:=(pre_splitW e).1;let x:l.pre.holds [] { args:=b }=ρ:=(pre_splitW e).2;let[d,r,Τ,s,p]:=hasAllW_cons k;obtain rfl:=hasAllW_nil p;let[y,Τ,u]:=hasW_list s;let[ns,Τ]:=items_int u
 let hlen:@ns<=n:=by
  let g:(WTm.not (.lt (.lit (.τ (n:ο))) (.len (.arg 0)))).holds [] { args:=[.list (ns.Α .τ)] }=ρ:=by let g:=(holds_andW x).1;rw[v]at g;rwa[g]
  let j:=condW_of g (w_not (w_lt w_lit (w_len_list (w_arg Τ))));rwa[η.le_of_not_lt λq=>?_]
  first
   |(rw[anh z]at j;rwa[absurd j (by decide)])
   |(simp at j;omega)
 cases i with
 |cons o w=>
  ext w
  cases o with
  |list t f=>rwa[11,ns,22,t,yk ns _ f,hlen]
def Kc (l:OpenLaw)(a:θ WData):l.row.toRowW.claim.post a (.bool ρ) a=ρ:=
 postW_of (r:=l.row.toRowW) (X:=(ρ==ρ))
  (show WShape.has [] (.bool ρ) .bool=ρ by first|rfl|decide|simp[WShape.has,WShape.arms,WShape.armsAll])
  (show (WTm.eq .res (.lit (.bool ρ))).value [] { args:=a,res:=ι (.bool ρ),after:=a }=ι (.bool (ρ==ρ)) from w_eq_bool (w_res Τ) w_lit) rfl
def Fz {l:OpenLaw}{loose:Zp}{A:(Ι->Zl)->Heap->ν}{z:World->Heap->ν}{d:DefRec}(I:l.most\n)(q:d.params.defaults=[])(call:∀(w:Ĩ) (c b:Zu) (m s:Ι->Zl) (h:Zs) (o:Obj) (pm k doc:Zt) (a:Zs) (e:Zk) (ns:Zg),
  Ground P loose [] A w c m s b.ς->z w b.ς->
  b•h=ι o->o.data=.func (docDef d.name d.params d.body d.scope pm k doc)->b.ς.CodeRec k d.name->m d.name\?h->
  b•a=ι (À>>>.seq e.toArray)->IntsAre e ns->@ns<=n->b.gens=#[]->codeAny (model l.prog w) callerA (.call ?h {[?a],[]}) (λr j=>r=.ok (.ret (.bool ρ))/\OldK b.ς j.ς/\j.os=b.os/\AllBare j.gens) b):
 WalkO P loose A z l.row.toRowW d [] (λf e=>PySem.call f e):=by intro w c b m s G Y h o pm k doc M kV F hd u y t C v x as i hlay N p L;obtain rfl:M=.ε:=Dflts.ε y q;obtain rfl:kV=.ε:=Dflts.noKw y;let[a,e,ns,Τ,Τ,g,hints,hlen]:=Kb I i p;rwa[enter_call (apt (call w c b m s h o pm k doc a e ns G Y F (fd_plain hd) u t g hints hlen C) λr j D=>?_)];let[Τ,B,H,E]:=D;rwa[.ψ {.bool ρ,.bool ρ,[],2,λ_=>rfl,.bool ρ,Kc l _,λ_=>{θ.Pairwise.nil,λ_ J=>(nomatch J)}},B,H,E]
end Att
namespace L2
theorem A1:∀{a:Zk}{ns:Zg},IntsAre a ns->Vals ň a
 |_,_,.nil=>.nil
 |_,_,.cons n t h=>.cons {t,2} (A1 h)
def Only (H:Hp):ν:=∀b,H b=ε\/∃o a,H b\(.dz o (.Ε a))
def Oi {L:Ι->Zl}{CX:qC}{k:η}{fd:Ă}{U:Sp}{ns:Zg}(W:ĵ)(y:s.ς.Ns mainGlobals M)(p:s.ς.Ns builtinsNs L)(Q:∀x:Ι,x≠Ŵ->L x=bootBuiltins x)(A:s.ς.NoLimit)(hg:s.gens=#[])(T:s•b\(À>>>.seq N.toArray))(Z:IntsAre N ns)(Y:@ns<=sizeLine)(hr:dk k callerA)(F:∀base:Heap,K.In base->base.Ns mainGlobals M->eG P w K M base CX k a fd [x] U)(l:∀(f:Zu) (u:Zt),BindsTo f fd ⟨[u],[]⟩ [(x,u)])(S:∀H:Hp,Only H->az K H b ň->U [?b] H (λv _=>v=.bl ρ) λ_ _ _=>False)(O:∀H e i,CX [] H s (λ_ _ _=>False) e i->False):
 codeAny B0 callerA (.call ?a {[?b],[]}) (λr i=>r=.ok (.ret (.bool ρ))/\OldK s.ς i.ς/\i.os=s.os/\AllBare i.gens) s:=by
 let rv:=A1 Z;let B:=@Z
 let core:∀H:Hp,Only H->az K H b ň->eI P w H s.ς->(∀c,H c≠ε->c=b)->(H b≠ε->K.lookup b=ε)->
  codeAny B0 callerA (.call ?a {[?b],[]}) (λr i=>r=.ok (.ret (.bool ρ))/\OldK s.ς i.ς/\i.os=s.os/\AllBare i.gens) s:=by
  intro H X hS C hA hK;let g:∀{c:Zs}{o:Obj},s•c\o->H c=ε->(rH s.ς H).get? c\o:=λe n=>NZ e n
  let R:∀{c:Zs}{o:Obj}{E:Ŀ}{G:η},s•c\o->o.data=.dict E G->H c=ε:=λ{c o E G} e d=>by cbv
  let j:∀{c:Zs}{m:Ι->Zl},s.ς.Ns c m->(rH s.ς H).Ns c m:=λ{c m} ζ=>by let[o,E,G,e,d,r]:=ζ;rwa[o,E,G,g e (R e d),d,r]
  let D:K.In (rH s.ς H):=λc o e=>g (W c o e) (by cbv)
  let hM:Mod K M (rH s.ς H):={D,j y,{L,j p,Q},let ⟨mc,h1,h2⟩:=A;{mc,j h1,h2}};let e0:wQ P w K M (rH s.ς H) callerA [] s H:={2,hM,λc o e=>T7 e,apW (JH β),trivial,λc p=>absurd (show c∈([]:Zn) from p) (by simp),C,.of_eq hg};rwa[apt ((F _ D (j y)).run callerA [] s H {[?b],[]} [?b] [?b] β hr e0 (l s ?b) (.cons Τ .nil) (S H X hS)) λr i h=>?_]
  cases r with
  |error e=>exact(O H e i h).Κ
  |ok fl=>
   cases fl with
   |next=>exact False.Κ h
   |brk=>exact False.Κ h
   |cont=>exact False.Κ h
   |ret u=>
    let[v,H',os,bare,un,t,r',q]:=h;let q':v=.bl ρ:=q;subst q';obtain rfl:u=Value.bool ρ:=r';rwa[2,OldK.of_keep λc o e=>?_,os,bare]
    cases q:H c with
    |ε=>exact un.keep c o e q (by intro z;rwa[absurd (show c∈([]:Zn) from z) (by simp)]) (by simp)
    |ι u=>
     rcases X c with z|⟨ob,xs,z⟩
     .cbv
     .let z2:=un.j8 c ob _ z;let[e1,_]:=C c _ z;let[e2,_]:=t c _ z2
      cbv
 cases J:K.lookup b with
 |ι o=>let e:=W b o J;rw[T]at e;ext e;rwa[core (λ_=>ε) (λ_=>.ψ Τ) (.Ζ {_,N.toArray,_,J,222,[am4,B]▸Y,3}) (λc u z=>by cbv) (λc z=>absurd Τ z) λz=>absurd Τ z]
 |ε=>
  rwa[core (λc=>if c=b then ι (.dz (À>>>.seq N.toArray) (.Ε ň)) else ε) (λc=>?_) (.ψ (.Ζ {(À>>>.seq N.toArray),am1 Τ})) (λc u z=>?_) (λc z=>?_) λ_=>J]
  .cbv
  .cases p:c=b
   .let z':=(am1 p).Β.π z;ext z';subst p;rwa[T,[amE]▸Y,N,_,rv,T]
   cbv
  cbv
def Uh {l:PySem.W.OpenLaw}{k:η}{loose:Zp}{E:(Ι->Zl)->Heap->ν}{A:World->Heap->ν}{d:DefRec}{K:Params->Za1}{CX:World->qC}{sp:World->Sp}(N:l.most\n)(q:n<=sizeLine)(m:d.params.defaults=[])(M:dk k callerA)(L:∀(w:Ĩ) (h:ċ),A w h->(K w.params).In h)(F:∀(w:Ĩ) (b:Ι->Zl) (i:Zs) (h:ċ),(K w.params).In h->h.Ns mainGlobals b->b d.name\?i->
  ∃fd:FuncData,(∀(s:Zu) (u:Zt),BindsTo s fd ⟨[u],[]⟩ [(x,u)])/\∀base:Heap,(K w.params).In base->base.Ns mainGlobals b->eG l.prog w (K w.params) b base (CX w) k i fd [x] (sp w))(t:∀(w:Ĩ) (H:Hp) (a:Zs) (ns:Zg),@ns<=n->Only H->az (K w.params) H a ň->sp w [?a] H (λv _=>v=.bl ρ) λ_ _ _=>False)(p:∀(w:Ĩ) (H:Hp) (s:Zu) (e:Zt) (j:Zu),CX w [] H s (λ_ _ _=>False) e j->False):
 PySem.W.WalkO P loose E A l.row.toRowW d [] (λf B=>PySem.call f B):=by
 rwa[Att.Fz N m λw z g b R i o pm T doc a B ns G Y S hd Q r c hints hlen D=>?_]
 let y:=L w _ Y;let[fd,C,J]:=F w b i _ y G.T.g r;rwa[Oi y G.T.g G.T.b G.T.builtins G.T.nolimit D c hints (amM hlen q) M J C (λH I O=>t w H a ns hlen I O) λH e j=>p w H g e j]
def inClass (s:Ž)(j:η):Stmt:=match s with
 |.ClassDef _ _ _ body _ _ _ _ _ _ _=>body.Λ j (.Pass {(0),(0),(0),(0)})
 |_=>.Pass {(0),(0),(0),(0)}
def dY (s:Ž):Arguments:=match s with
 |.FunctionDef _ a _ _ _ _ _ _ _ _=>a
 |_=>{ posonlyargs:=[],args:=[],vararg:=ε,kwonlyargs:=[],kw_defaults:=[],kwarg:=ε,defaults:=[] }
def cX (s:Ž):θ Stmt:=match s with
 |.FunctionDef _ _ b _ _ _ _ _ _ _=>b
 |_=>[]
def aF (s:Ž):Scope:=match s with
 |.FunctionDef _ _ _ _ _ _ a _ _ _=>a
 |_=>{ kind:=.function,names:=[],isGenerator:=χ,isCoroutine:=χ }
structure yl (K:Za1)(x qual:Ι)(st:Ž)(f:Zs)(fd:Ă):ν where
 ex:∃(oc:Zt)(od:Zo)(kV doc pm:Zt)(an:Zo)(b9 ct:Zt)(CP:ī),fd=fnOf x qual ď õ Ù .ε kV doc pm an b9 ct/\K.lookup f\⟨oc,od,.func fd,CP⟩/\codeIn K b9 qual=ρ
 kp:keepIn K ?f=ρ
section
variable {K:Za1}
theorem yl.binds {qual:Ι}{st:Ž}{fd:Ă}{ps:Zp}(F:Ϛ)(h:∀(kV doc pm:Zt) (c:Zo) (b ct:Zt) (us:Zk),@us=@ps->bindArgs (fnOf x qual ď õ Ù .ε kV doc pm c b ct) ⟨us,[]⟩=pure G2):Binds K fd ps []:=by let[g,f,kV,doc,pm,c,b,ct,e,Τ,lk,d]:=F.ex;rwa[.all (h kV doc pm c b ct)]
def Kd {qual:Ι}{st:Ž}{f d:Zo}{b:ī}{kV doc pm e:Zt}(l:K.lookup a\{v,f,.func (fnOf x qual ď õ Ù .ε kV doc pm d u e),b})(c:codeIn K u qual=ρ)(k:keepIn K ?a=ρ):yl K x qual st a (fnOf x qual ď õ Ù .ε kV doc pm d u e):={{v,f,kV,doc,pm,d,u,e,b,2,l,c},k}
end
def iZ {k:η}(a:dk k A):A.units+ 1<cLine:=amS (η.add_le_add_left (by decide:1<=64) _) a.units
section
variable {X:Cx}
def pv (i:η){x:Ι}{pos:Pos}(b:X.N[i]?\x:=by rfl)(c:VF X.env.scope x:=by trivial)(hd:(x==(Ö:Ι))=χ:=by decide)(a:(x==("__classdict__":Ι))=χ:=by decide):PE X (.Name x pos) (CB i):=VH b c hd a
end
def dc {A B:ν}(h:B):if χ=ρ then A else B:=by cbv
def gC {A B:ν}(h:A):if ρ=ρ then A else B:=by cbv
def cw {c A B:ν} [Decidable c](b:c->A)(a:¬c->B):if c then A else B:=by cbv
def nM {c A B:ν} [Decidable c](a:c)(h:B):if (!decide c)=ρ then A else B:=by cbv
def au (H a:Hp):ν:=∀b o,H b\o->a b\o
def au.refl (H:Hp):au H H:=λ_ _ h=>h
def au.π (a:Đ)(b:au I J):au H J:=λc o h=>b c o (a c o h)
def au.free (e:Đ){l:Zs}(h:I l=Ο.ε):H l=Ο.ε:=by
 cases q:H l with
 |ε=>rfl
 |ι o=>rw[e l o q]at h;ext h
def au.seq (e:Đ)(h:az K H a L):az K I a L:=by
 rcases h with (h|⟨o,h⟩)|h
 .rwa[.ψ (.ψ (e^h))]
 .rwa[.ψ (.Ζ {o,e^h})]
 .rwa[.Ζ h]
def dQ (X:Cx)(a:Zp)(scope:Š)(cl:θ (Ι×Zs))(C:Zs)(s:Zu)(H:Hp)(ex:Zn):Cx where
 prog:=X.prog
 w:=X.w
 K:=X.K
 mg:=X.mg
 base:=X.base
 A:=X.A
 N:=a
 fG:=s
 wG:=H
 env:=compEnvC scope cl C X.env
 outer:=X.stack
 stack:=X.stack
 ex:=ex
 fn:=λ_=>χ
 calm:=X.calm
 pn:=[]
 xe:=λ_ _=>False
def qF (d:TE)(g:St)(Q:VK)(J:It)(f:Hp):ν:=∃W:η->η->Zb->Hp->ν,(∃m,W 0 m [] f)/\∀i m ys a,W i m ys a->
 (J.stop i a/\@ys<=sizeLine/\∀D,a D=ε->Q ?D (υ a D (.Ε ys)))\/
 (J.go i a/\@ys<sizeLine/\∀x c,J.sJ i a x c->d (ι x::g) c λy e=>∃b,b<m/\W (i+ 1) b (ys++[y]) e)
def Ro (b:TI)(d:St->St)(c:TE):TE:=λ a H Q=>b a H (qF c (d a) Q)
structure ip (X:Cx)(x:Ι)(fns:Zp)(ixs:Zh)(scope:Š)(cl:θ (Ι×Zs)):ν where
 aeF:closureFor scope X.env=pure cl
 sub:∀y c,cl.lookup y\c->X.env.cells.lookup y\c
 cell:∀y∈scope.names,y.2≠.cell
 kind:scope.kind=.function
 names:∀y∈scope.names,y.2=.local->scope.names.lookup y.1=ι .local
 own:scope.names.lookup x=ι .local
 has:∀y,((relabel scope X.env).names.lookup y=ι .cell\/(relabel scope X.env).names.lookup y=ι .free)->∃c,cl.lookup y\c
 nd:(x::fns).Nodup
 len:@ixs=@fns
 at_:∀(j:η)(y:Ι),fns[j]?\y->∃i:η,ixs[j]?\i/\X.N[i]?\y/\(X.env.kindOf y=ι .cell\/X.env.kindOf y=ι .free)/\∃c,cl.lookup y\c/\((relabel scope X.env).names.lookup y=ι .cell\/(relabel scope X.env).names.lookup y=ι .free)
def jQ (ixs:Zh):St->St:=λ a=>ixs.Α λi=>(a[i]?).join
section
variable {X:Cx}{x:Str}{scope:Scope}
def vT (a:scope.names.lookup x=ι .local):(relabel scope X.env).names.lookup x=ι .local:=lookup_relabel_local a
end
def iq {J:It}{j:TE}{Q:VK}(xs:Zb)(g:V->V)(h:∀i:η,i<@xs->J.go i H)(q:∀(i:η) (x:V) (c:Hp),i<@xs->J.sJ i H x c->c=H/\xs[i]?\x)(d:J.stop @xs H)(k:@xs<=sizeLine)(s:∀(i:η) (x:V),xs[i]?\x->∀R:VK,R (g x) H->j (ι x::D) H R)(o:∀a,H a=ε->Q ?a (υ H a (.Ε (xs.Α g)))):
 qF j D Q J H:=by
 erw[λi m ys n=>m=@xs - i/\i<=@xs/\ys=(xs.take i).Α g/\n=H,{@xs,by simp,ani _,by simp,2}];rintro i m ys n ⟨rfl,t,Τ,rfl⟩;cases b:i<@xs
 .rwa[.Ζ {h i b,by rw[amE,anc];ext,λx c f=>?_}];let[r,l]:=q i x c b f;subst r;rwa[s i x l _ {@xs - (i+ 1),32,b,52}];rw[anD,l];simp
 .let e:i=@xs:=∅
  subst e;rwa[.ψ {d,by rw[amE,anc];ext,λa p=>?_}];rw[anJ];rwa[o a p]
def CQ {xs:Zb}(h:ş):∀i,i<@xs->(JK K a).go i H:=λi b=>{xs,xs[i],h,amB b}
def zR {xs:Zb}(h:ş):∀i x b,i<@xs->(JK K a).sJ i H x b->b=H/\xs[i]?\x:=λi x b _ y=>{y.1,y.2 xs h}
def wU {xs:Zb}(h:ş):(JK K a).stop @xs H:={xs,h,2}
def iL {xs:Zb}(h:az K H a xs):∀i,i<@xs->(yd K a).go i H:=λi b=>{xs,xs[i],h,amB b}
def gb {xs:Zb}(h:az K H a xs):∀i x b,i<@xs->(yd K a).sJ i H x b->b=H/\xs[i]?\x:=λi x b _ y=>{y.1,y.2 xs h}
def fi {xs:Zb}(h:az K H a xs):(yd K a).stop @xs H:={xs,h,2}
inductive Wm (t:TS)(D:Ends)(σ:St)(H:Hp):ν
 |mk (G:St->Hp->ν):t { D with nx:=G } σ H->(∀ fH H',G fH H'->D.nx fH H')->Wm t D σ H
def bL {st:Ž}{t:TS}(h:PS X st t):PS X st (Wm t):=by
 intro a s j H D I ⟨G,e,d⟩;rwa[bx (h a s j H { D with nx:=G } I e) λf k q=>?_]
 cases f with
 |next=>let[b,c,i,g]:=q;rwa[b,c,i,d b c g]
 |_=>exact q
def vU {scope:Š}{env:Env}{k:NameKind}(h:(relabel scope env).names.lookup x\k)(g:k=.cell\/k=.free)(i:∀z∈scope.names,z.2≠.cell):(x,NameKind.free)∈scope.names:=by
 let f:=aoM h;unfold relabel at f;let[⟨n,c⟩,d,e]:=anm.mp f;dsimp only at e;cases hf:(c==NameKind.free && env.scope.kind==.function && env.kindOf n==ι .cell)=ρ
 .rw[am1 hf]at e;let a:n=x:=an7 Prod.fst e;rw[an6,an6]at hf;let b:c=.free:=eq_of_beq hf.1.1;rw[<-a,<-b];rwa[d]
 .rw[amY hf]at e;let a:n=x:=an7 Prod.fst e;let b:c=k:=an7 Prod.snd e;subst a b;rcases g with rfl|rfl
  .rwa[absurd Τ (i _ d)]
  .rwa[d]
theorem lF {env:Env}(a:env.scope.kind=.function){y:Ι}(b:env.kindOf y=ι .cell):∀{names:θ (Ι×NameKind)},names.lookup y=ι .free->
 (names.Α λ(n,k)=>if (k==NameKind.free && env.scope.kind==.function && env.kindOf n==ι .cell) then (n,NameKind.cell) else (n,k)).lookup y=ι .cell
 |[],h=>by simp at h
 |(n,k)::r,h=>by
  let c:=@@lF env a y b r
  cbv
def Ib (X:Cx)(scope:Š):Zp->Zh->θ (Ι×Zs)->ν
 |y::fs,i::is,p::cl=>p.1=y/\X.env.cells.lookup y\p.2/\X.N[i]?\y/\X.env.kindOf y=ι .cell/\scope.names.lookup y=ι .free/\Ib X scope fs is cl
 |[],[],[]=>True
 |_,_,_=>False
def Ib.get {scope:Š}{fns:Zp}{ixs:Zh}{cl:θ (Ι×Zs)}(h:Ib X scope fns ixs cl):@fns=@ixs/\(∀y c,cl.lookup y\c->X.env.cells.lookup y\c)/\∀(k:η)(y:Ι),fns[k]?\y->∃i c,ixs[k]?\i/\X.N[i]?\y/\X.env.kindOf y=ι .cell/\cl.lookup y\c/\scope.names.lookup y=ι .free:=by
 induction fns generalizing ixs cl with
 |nil=>
  cases ixs with
  |nil=>
   cases cl with
   |nil=>simp
   |cons=>exact h.Κ
  |cons=>exact h.Κ
 |cons y fs t=>
  cases ixs with
  |nil=>exact h.Κ
  |cons i is=>
   cases cl with
   |nil=>exact h.Κ
   |cons p cl=>
    let[j,m,s,o,r,h]:=h;let[a,b,g]:=t h;rwa[an7 _ a,λw d e=>?_,λk w e=>?_]
    .rw[aqo]at e
     cases q:w==p.1 with
     |ρ=>rw[q]at e;rw[eq_of_beq q,j,m];rwa[e]
     |χ=>rw[q]at e;rwa[b w d e]
    .cases k with
     |zero=>obtain rfl:y=w:=Za0 e;rwa[i,p.2,2,s,o,by rw[aqo,j,beq_self_eq_true],r]
     |succ k=>
      let[i,c,r1,r2,f,n,l]:=g k w e
      cases q:w==p.1 with
      |ρ=>rwa[i,p.2,r1,r2,f,by rw[aqo,q],l]
      |χ=>rwa[i,c,r1,r2,f,[aqo,q]▸n,l]
def b0 {fns:Zp}{ixs:Zh}{scope:Š}(cl:θ (Ι×Zs))(d:closureFor scope X.env=pure cl)(y:Ib X scope fns ixs cl)(j:X.env.scope.kind=.function)(f:(∀z∈scope.names,z.2≠.cell)/\(∀z∈scope.names,z.2=.local->scope.names.lookup z.1=ι .local)/\(∀z∈scope.names,z.2=.free->z.1∈fns)/\(x::fns).Nodup/\scope.names.lookup x=ι .local/\scope.kind=.function:=by decide):ip X x fns ixs scope cl:=by
 let[a,b,g]:=y.get;let[f,w,u,m,v,p]:=f
 exact{ aeF:=d,sub:=b,cell:=f,kind:=p,names:=w,own:=v,nd:=m,len:=a.Β
        has:=λz h=>by have:=u (z,.free) (h.Κ (λh=>vU h (.ψ Τ) f) λh=>vU h (.Ζ Τ) f) rfl;let[k,e]:=θ.mem_iff_getElem?.mp ω;let[_,c,_,_,_,r,_]:=g k z e;rwa[c,r]
        at_:=λk z h=>by let[i,c,s,o,n,q,t]:=g k z h;rwa[{i,s,o,.ψ n,c,q,.ψ (lF j n t)} ]}
namespace Rv
def CT:Manifest.owners.lookup (String.ofList ['d','e','s','r','e','v','e','r'].reverse)\Manifest.sig_reversed:=by kernel_rfl
def slot_next:Slot Ú ģ ŀ:=
 .of (owner:=Ú) (n:=ģ) (by rw[ap8,aoU];kernel_rfl) ⋯ ⋯ ⋯
  (by first|rwa[.ψ (by decide)]|rwa[.Ζ (by decide)]) (by rw[apN];kernel_rfl)
def entry_next:entryFor table ŀ=ι Builtin.«reversed.__next__»:=entryFor_of_tree (by kernel_rfl)
def args_next (a:Zt):argsOk ŀ {[a],[]}:=by unfold argsOk;rw[signature?_of (id:=ŀ) (n:=['_','_','t','x','e','n','_','_']) (o:=['d','e','s','r','e','v','e','r']) (by kernel_rfl) CT];kernel_rfl
def A2:Slot Ú "__iter__" Ł:=
 .of (owner:=Ú) (n:="__iter__") (by rw[ap8,aoU];kernel_rfl) ⋯ ⋯ ⋯
  (by first|rwa[.ψ (by decide)]|rwa[.Ζ (by decide)]) (by rw[apN];kernel_rfl)
def Ke (a:Zt):argsOk Ł {[a],[]}:=by unfold argsOk;rw[signature?_of (id:=Ł) (n:=['_','_','r','e','t','i','_','_']) (o:=['d','e','s','r','e','v','e','r']) (by kernel_rfl) CT];kernel_rfl
def Ic:entryFor table Ł=ι Builtin.«dict_keyiterator.__iter__»:=entryFor_alias (id':="dict_keyiterator.__iter__") (by kernel_rfl) (by first|rfl|decide|(unfold String.splitOn;simp +decide [String.splitOnAux])) ⋯ (by kernel_rfl)
def Kf:Slot Ú Ç Ó:=
 .of (owner:=ũ) (n:=Ç) (by rw[ap8,aoU];kernel_rfl) ⋯ ⋯ ⋯
  (by first|rwa[.ψ (by decide)]|rwa[.Ζ (by decide)]) (by rw[apN];kernel_rfl)
def called:TypeCalled Ú "reversed.__new__" Ó:={44,{11,PySem.F.mro_reversed},PySem.F.made_reversed,4,by rw[apN];kernel_rfl,Kf}
def CV:typeLookup (.type Ω) "__reversed__"=pure ε:=by rw[ap8,aoU];kernel_rfl
def Wn:isSubtype (.type Ω) (.type ç)=pure χ:=by rw[apN];kernel_rfl
def oF (h:ċ)(it t:Zs)(i:ο):ν:=∃o,h.get? it\o/\o.cls=.type Ú/\o.data=.fields #[?t,rawInt i]
def oF.typeIs {it:Zs}(x:oF s.ς it a z):s.TypeIs ?it Ú:=let ⟨o,b,hc,_⟩:=x;{o,b,hc}
def oF.at {it:Zs}(x:oF h it a z)(e:∀o,h.get? it\o->g.get? it\o):oF g it a z:=let ⟨o,b,r⟩:=x;{o,e _ b,r}
variable {prog:Program}{w:World}{A:Around}{E:Zt->Zu->Prop}{s:Zu}
def Wo {items:Zm}(b:(items.Γ:ο)<2 ^ 63):Meets (Builtin.«reversed.__new__» {[.type Ú,?a],[]}) (λ_ R s=>IsTup s.ς a items/\
 ∀c,R (.ok (.ret ↑↥s)) { s with ς:=s.ς.push (Ú>>>.fields #[?a,rawInt ((items.Γ:ο) - 1)]),toks:=c }):=
 .of_wp λprog w A R s h=>by
  let[e,h]:=h;let[f,g,d,c,os]:=s;let j:=e.typeIs;let l:=CV;let i:=anr.lookup;let m:=Wn;let k:=PySem.F.sub_reversed_self
  wp_walk using PyProof.Rows.len_tuple e b
  rwa[12,h _]
def Ui {items:Zm}(b:(items.Γ:ο)<2 ^ 63)(d:Œ)(h:∀c,Q ↑↥s { s with ς:=s.ς.push (Ú>>>.fields #[?a,rawInt ((items.Γ:ο) - 1)]),toks:=c }):(prog<|>w) A (call (.type Ú) [?a]) Q E s:=by rwa[callType_new called ⋯ (PySem.F.typeCall_reversed_1 _) (PySem.F.newCall_reversed_1 _) (λobj=>PySem.F.args_object_init_2 obj _) PySem.F.entry_reversed_new (Wo b) {d,λc=>?_}];rwa[{_,am0 _ Τ,2},h c]
def next_item {it:Zs}{items:Zm}{x:Zt}{Q:Zl->Zu->ν}(hit:oF s.ς it a (i:ο))(e:Œ)(f:items[i]?\x)(l:items.Γ<=sizeLine)(h:∀d g,oF d it a ((i:ο) - 1)->Heap.SameBut it s.ς d->Q (ι x) { s with ς:=d,toks:=g }):(prog<|>w) A (pyNext ?it) Q E s:=by
 let[o,c,k,hd]:=id hit;let m:=hit.typeIs;let n:i<items.Γ:=(aog.mp f).1;let p:=oB;unfold pyNext
 refine amC (ap9 (anL (name:=Ι.ofString ģ) hit.typeIs slot_next
  (anR slot_next hit.typeIs entry_next ?_ (args_next _))))
 unfold Builtin.«reversed.__next__»;rwa[amC (aps (a:=(Value.Η it,[])) Τ ?_)]
 try dsimp only
 rwa[amC (anB c hd (x:=?a) Τ ?_)];rwa[amC (anB c hd (x:=rawInt (i:ο)) Τ ?_)];show wpAny β (if (i:ο)<0 then _ else _) β s;rw[amY ∅];rwa[amC (wpAny_specialOf e.typeIs anr.lookup ?_)];rw[amY ⋯];rwa[amC (wpAny_mkInt ?_)];rwa[amC (ap9 (PyProof.Rows.getItem_tuple (j:=i) e ∅ ∅ ?_ f ?_))]
 .unfold seqIndex?;simp;ext
 dsimp only;rwa[amC (anB c hd (x:=rawInt (i:ο)) Τ ?_)];rwa[amC (aot c hd (by simp) ?_)];rwa[amL {x,2,amL (h β ?_ (anW ..))}]
 rwa[_,anx _ c Ű,(apC ..).π k,by rw[anT hd];simp]
theorem next_end {it:Zs}{Q:Zl->Zu->ν}(f:A.handled=ε)(hit:oF s.ς it a z)(i:z<0)(h:∀e,Heap.ExtBut it s.ς e->Q ε (s<*e)):(prog<|>w) A (pyNext ?it) Q E s:=by
 let[o,d,j,hd]:=id hit;unfold pyNext
 refine amC (ap9 (anL (name:=Ι.ofString ģ) hit.typeIs slot_next
  (anR slot_next hit.typeIs entry_next ?_ (args_next _))))
 unfold Builtin.«reversed.__next__»;rwa[amC (aps (a:=(Value.Η it,[])) Τ ?_)]
 try dsimp only
 rwa[amC (anB d hd (x:=?a) Τ ?_)];rwa[amC (anB d hd (x:=rawInt z) Τ ?_)];show wpAny β (if z<0 then _ else _) β s;rw[am1 i];rwa[amC (apV ?_)];rwa[amC (amC (aot d hd (by simp) ?_))];let g:=anx (Obj.mapFields (·.setIfInBounds 1 (rawInt (-1)))) d Ű;rwa[aot g (anT hd _) (by simp) ?_];rwa[amC ?_];show wpAny β (newExc (.type Ġ) [] >>=_) γ;rwa[amC ?_];simp only[newExc,newTuple];rwa[amC (anw ?_ (by size_fits))];rwa[amC (m:=firstArgMember β) (aps (a:=Value.ε) (by first|rfl|(simp only[firstArgMember];rfl)) ?_)];rwa[anw ?_ (by size_fits)];simp only[raiseNew];rwa[amC (wpAny_handled ?_)]
 first|rw[show A.in1.handled=ε from f]|rw[f]
 rwa[amC (amL (wpAny_throw ?_))];rwa[amC (wpAny_isInstance (T:=Ġ) (b:=ρ) {_,am0 _ Τ,2} isSubtype_stop ?_)];rwa[amL (h _ (((((anW ..).π (anW ..)).extBut).push _).push _))]
def A3 {it:Zs}(hit:oF s.ς it a z)(h:Q ?it s):(prog<|>w) A (pyIter ?it) Q E s:=by rwa[wpAny_pyIter_slot hit.typeIs A2 (anR A2 hit.typeIs Ic ?_ (Ke _))];show wpAny β (ret ?it) β s;rwa[amL {12,Ú,_,hit.typeIs,slot_next.lookup,h}]
end Rv
def Kg (K:Za1)(a:Zs)(n:η):It:={λi H=>i<n/\∃xs,bD K H a xs/\@xs=n,λi H x b=>b=H/\∀xs,bD K H a xs->xs.reverse[i]?\x,λi _=>n<=i}
def Oj (a it:Zs)(n:η):Turn P w K e (Kg K a n) [it] it (λi h=>Rv.oF h it a ((n:ο) - 1 - (i:ο))) where
 mem:=by simp
 obj:=λi h st b j=>by
  let f:b=it:=by simpa using j
  subst f;let[o,f,c,d]:=st;rwa[o,f,λv z=>by rw[d]at z;ext z]
 keep:=λi h r st k=>st.at λo f=>k it (by simp) o f
 item:=by
  intro X L F D S i g s R H E I t st y;subst L F D;let[hi,xs,O,hx]:=y;subst hx;generalize hn:@xs=n at hi st ⊢;let[W,Q,p,hz]:=I.tuple O;let hl:=@Q;obtain⟨x,m⟩:∃x,xs[n - 1 - i]?\x:={_,amB ∅}
  let N:xs.reverse[i]?\x:=by rw[θ.getElem?_reverse ∅,hn];rwa[m]
  let[u,hu,ru]:=Q.get m;let[A,B,f2,M,J,G]:=t it (by simp);let f:(n:ο) - 1 - (i:ο)=((n - 1 - i:η):ο):=∅
  let q:=st;rw[f]at q;rwa[Rv.next_item q p (x:=u) (by simpa using hu) (by rw[am4];omega) λr C l sb=>?_]
  let U:Inv X g R H { s with ς:=r,toks:=C }:=I.turned (t':=C) (λb o j f=>(sb.2 b j).π f) A B M J G;let Y:((n - 1 - i:η):ο) - 1=(n:ο) - 1 - ((i+ 1:η):ο):=∅
  rw[Y]at l;let[o,f,c,d]:=id l;rwa[u,2,HF (s:={ s with ς:=r,toks:=C }) f c d ⋯ {x,H,U,ru,{2,λys hy=>by rw[I.AV hy O];ext},l,λb j=>(t b j).1}]
 done:=by intro X L F D S i g s R H E I t st y;subst L F D;let V:n<=i:=y;let[A,B,f2,M,J,G]:=t it (by simp);rwa[Rv.next_end (I.ok.hd S) st ∅ λr Z=>{2,I.turned (t':=s.toks) (λb o j f=>Z b o j f) A B M J G}]
 self:=λ_ _ _ _ _ st h=>Rv.A3 st h
section
variable {X:Cx}{tg:Expr}
def aeG (K:Za1)(d:TA):TI:=λ e H R=>d e H λc b=>∃a xs,c=[?a]/\bD K b a xs/\R (Kg K a @xs) b
def Wq [i:e9 X K]{a:đ}{k:TA}{p pos:Pos}(v:Gl X Ú)(D:X.mg Ú=ε)(E:PA X [a] k)(C:starEach [a] X.env=[(χ,eval a X.env)]):PI X tg (.Call (.Name Ú p) [a] [] pos) (aeG K k):=by
 cases i.eq;intro c s m H R I h;rwa[Call_ (iI I v D boot_reversed (anP (bx (E pos c s m H _ I h) λN s1 ζ=>?_) C Τ))];let[J,l,g,n,x]:=ζ;let[t,xs,e,w,q]:=x;subst e;let[u,Τ,F]:=vals1 n;ext F;let[f,z,A,L]:=g.tuple w;let B:=@z;let M:=oB;rwa[Rv.Ui (by rw[am4];omega) A λj=>?_]
 let y:Inv X c m l { s1 with ς:=s1.ς.push (Ú>>>.fields #[?t,rawInt ((f.toArray.Γ:ο) - 1)]),toks:=j }:=g.kept (t':=j) λb o e=>amJ _ e
 let d:Rv.oF (s1.ς.push (Ú>>>.fields #[?t,rawInt ((f.toArray.Γ:ο) - 1)])) ↥s1 t ((@xs:ο) - 1 - ((0:η):ο)):={_,am0 _ Τ,2,by rw[am4,<-B];simp}
 rwa[Rv.A3 d {↥s1,[↥s1],11,l,2,y,Oj t _ @xs,d,λb r=>?_,q}];let e:b=↥s1:=by simpa using r
 subst e;rwa[g.zN Φ (g.a0.fresh Φ)]
end
def Wr {xs:Zb}(h:ş):∀i,i<@xs.reverse->(Kg K a @xs).go i H:=λi b=>{by rwa [aow]at b,xs,h,2}
def Uj {xs:Zb}(h:ş):∀i x b,i<@xs.reverse->(Kg K a @xs).sJ i H x b->b=H/\xs.reverse[i]?\x:=λi x b _ y=>{y.1,y.2 xs h}
def Ol {xs:Zb}(h:ş):(Kg K a @xs).stop @xs.reverse H:=by rw[aow];rwa[amK @xs]
def ao (ns:Zg):Zb:=ns.Α V.τ
def bT (h:l[i]?\z):(ao l)[i]?\(V.τ z):=by unfold ao;rw[amQ,h];rfl
def aD (ns:Zg):@(ao ns)=@ns:=amE ..
def bR {ns:Zg}(h:(ao ns)[i]?\q):∃z,q=V.τ z/\ns[i]?\z:=by
 unfold ao at h;rw[amQ]at h
 cases e:ns[i]? with
 |ε=>rw[e]at h;ext h
 |ι z=>rw[e]at h;rwa[z,(Za0 h).Β,2]
def ints_app (a b:Zg):ao (a++b)=ao a++ao b:=am8 ..
section
variable {X:Cx}
inductive Ws (K:Za1)(xs:Zb)(H:Hp)(Q:VK):ν
 |mk (x:V)(T:ţ)(t:Zt)(b:Μ):xs=[x,.ty T]->lJ K H x t->kitOne K t (.type T)\b->Q (.bl b) H->Ws K xs H Q
def jd [a:e9 X K]:iz X (.builtin "isinstance") (Ws K):=by cases a.eq;intro c s l H k m Q I r h;let[x,T,t,b,Τ,f,e,q]:=h;let[u,j,Τ,g,i]:=vals2 r;ext i;rwa[JZ I g f e λd=>{.bl b,H,I.tok d,2,q}]
def oH (K:Za1)(T:ţ):kitOne K (.type T) (.type T)\ρ:=by unfold kitOne;rw[am1 (beq_self_eq_true _)]
def CW (K:Za1):kitOne K (.type ϟ) (.type "bool")\χ:=by first|rfl|kernel_rfl|decide
end
def au.υ {o:HO}(h:H a=Ο.ε):au H ć:=λb u e=>by rw[aq (ax e h)];rwa[e]
variable {X:Cx}
def abr (i j:ο):ν:=0<j/\Builtin.divisionGoesByPylong i j=χ
def CY:il X (binaryOp .FloorDiv) (rI abr λi j=>.τ (i / j)):=JQ λi j _ _ _ _ _ a q=>by let b:(0:ο)<j:=a.1;rwa[floordiv_int ∅ ([ο.fdiv_eq_ediv_of_nonneg i ∅]▸q) (.ψ a.2)]
inductive Kh (x y:V)(H:Hp)(Q:VK):ν
 |mk (a b:Zs)(xs ys:Zb):x=?a->y=?b->H a\.Θ xs->H b\.Θ ys->@xs+ @ys<=sizeLine->(∀p H',au H H'->H' p\.Θ (xs++ys)->Q ?p H')->Kh x y H Q
def Om {ws:Zk}(l:IsTup s.ς a ([]:Zk).toArray)(m:IsTup s.ς b ws.toArray)(h:Q ?b s):(P<|>w) A (binaryOp .Add ?a ?b) Q E s:=by
 let[⟨cls,p,data,o⟩,j,k,n,hd]:=id l;let[⟨i,f,data2,g⟩,e,d,q,c]:=id m;simp only at k hd d c;subst k hd d c
 exact concat_meets {_,j,2} {_,e,2} noFill_tuple_add seq_tuple_add aqf ap7 (apZ β)
  (tuple_addW0 a b ([]:Zk).toArray ws.toArray n q p f o g Τ) {j,e,h}
def je:il X (binaryOp .Add) Kh:=by
 intro c s z H x y v u Q I j k h;let[a,b,i,ys,Τ,Τ,g,d,r,q]:=h;cases l:i=[]
 .subst l;ext j;ext k;let[f,o,w,_]:=I.tuple (bD.of g);let[m,A,n,_]:=I.tuple (bD.of d);let e:f=[]:=o.vb.mpr rfl;subst e;rwa[Om w n {?b,H,I,2,q b H (au.refl H) d}]
 .rwa[Ue c s z H ?a ?b v u Q I j k {a,b,i,ys,22,bD.of g,bD.of d,l,r,λe=>?_,λ_ p t=>q p _ (au.υ t) aj}];subst e;rwa[q a H (au.refl H) ([am9]▸g)]
inductive Rp (x:V)(lo hi:Zj)(H:Hp)(Q:VK):ν
 |mk (a:Zs)(xs:Zb):x=?a->H a\.Θ xs->(∀p H',au H H'->H' p\.Θ Ϡ->Q ?p H')->Rp x lo hi H Q
end L2
namespace HT
section
variable {prog:Program}{w:World}{A:Around}{E:Zt->Zu->Prop}{s:Zu}
def tD {items:Zm}{lo j:Zj}(c:Œ)(i:s.ς.IsSliceOf b v u .ε)(pl:IsPart v lo)(o:IsPart u j)(hw:cC items.Γ 0 lo=0/\cC items.Γ items.Γ j=items.Γ)(h:Q ?a s):(prog<|>w) A (getItem ?a ?b) Q E s:=by
 let[os,f,e,k]:=id i;let g:s.TypeIs ?b ϕ:={os,f,e};unfold getItem
 try with_reducible rwa[an9 ?_]
 first|rwa[amC (amL ?_)]|skip
 rwa[amC (wpAny_sequenceKey c.typeIs (by decide) ?_)]
 refine amC (anL (name:=Ι.ofString ĺ) c.typeIs anr
  (anR anr c.typeIs entry_tuple_getitem ?_ ů))
 show wpAny β (Builtin.Tuple.tupleItemsOf ?a >>=_) β s;rwa[amC (tupleItemsOf_ c ?_)];rwa[amC (ao9 g ?_)];rw[am1 ⋯];rwa[amC (oE i pl o ?_)];rw[hw.1,hw.2];let d:((((0:η):ο)==0 && (1:ο)==1 && (items.Γ - 0)==items.Γ)=ρ):=by simp
 show wpAny β (if (((0:η):ο)==0 && (1:ο)==1 && (items.Γ - 0)==items.Γ)=ρ then _ else _) β s;rw[am1 d];let[p,l,n,_]:=id c;rwa[amC (m:=Builtin.Tuple.tupleIsExact _) ?_];unfold Builtin.Tuple.tupleIsExact;rwa[amC (ao9 c.typeIs (amL ?_))];show wpAny β (if (Value.type Ω==Value.type Ω)=ρ then _ else _) β s;rw[am1 ⋯];rwa[amC (apV (amL {12,amL h}))]
def wV {t:Tok}{Q:ο×ο×η->Zu->ν}(g:s.ς.IsSliceOf a .ε .ε (.τ (-1) t))(h:Q ((n:ο) - 1,-1,n) s):(prog<|>w) A (Builtin.Slice.sliceApplied ?a (pure (n:ο))) Q E s:=by
 let[os,b,f,c]:=id g;unfold Builtin.Slice.sliceApplied Builtin.Slice.sliceFields;rwa[amC (amC (anB b c (x:=.ε) Τ (amC (anB b c (x:=.ε) Τ (amC (anB b c (x:=.τ (-1) t) Τ (amL ?_)))))))];rwa[amC (slicePart_int ?_)];show wpAny β (if ((-1:ο)==0)=ρ then _ else _) β s;rw[amY ⋯];rwa[amC (slicePart_none (amC (slicePart_none (amC (amL ?_)))))];show wpAny β (match Builtin.Slice.sliceAdjust ε ε (-1) (n:ο) with|(lo,i)=>pure (lo,(-1:ο),Builtin.Slice.slicePlaces lo i (-1))) _ _ s
 let d:Builtin.Slice.sliceAdjust ε ε (-1) (n:ο)=((n:ο) - 1,-1):=by unfold Builtin.Slice.sliceAdjust;simp
 rw[d];show wpAny β (pure ((n:ο) - 1,(-1:ο),Builtin.Slice.slicePlaces ((n:ο) - 1) (-1) (-1))) β s
 let e:Builtin.Slice.slicePlaces ((n:ο) - 1) (-1) (-1)=n:=by unfold Builtin.Slice.slicePlaces;simp;ext
 rw[e];rwa[amL h]
def Oo (xs:Zk):((θ.range @xs).filterMap λ(m:η)=>xs.toArray[((@xs:ο) - 1+ (m:ο)* (-1)).toNat]?).toArray=xs.reverse.toArray:=by
 congr 1
 rwa[aox λi=>?_]
 let e:(θ.range @xs).filterMap (λ(m:η)=>xs.toArray[((@xs:ο) - 1+ (m:ο)* (-1)).toNat]?)=(θ.range @xs).Α λm=>xs.Λ (@xs - 1 - m) .ε:=by
  have:∀l:Zh,(∀m∈l,m<@xs)->l.filterMap (λ(m:η)=>xs.toArray[((@xs:ο) - 1+ (m:ο)* (-1)).toNat]?)=l.Α λm=>xs.Λ (@xs - 1 - m) .ε:=by
   intro l
   induction l with
   |nil=>intro _;rfl
   |cons m l g=>
    intro b;let a:=b m (amR ..);let f:((@xs:ο) - 1+ (m:ο)* (-1)).toNat=@xs - 1 - m:=∅
    let h:xs.toArray[((@xs:ο) - 1+ (m:ο)* (-1)).toNat]?\(xs.Λ (@xs - 1 - m) .ε):=by rw[f,θ.getElem?_toArray,amH,amB ∅];rfl
    rw[θ.filterMap_cons,h,an0,g λk d=>b k (amZ _ d)]
  rwa[ω _ λm a=>anj.mp a]
 rw[e,amQ];cases c:i<@xs
 .rw[θ.getElem?_reverse c,an3 c,amB ∅];simp[amH,amB (show @xs - 1 - i<@xs by omega)]
 .rw[ana (by simp;omega),ana (by simp;omega)];rfl
def vA {n:Tok}(d:IsTup s.ς a N.toArray)(l:s.ς.IsSliceOf b .ε .ε (.τ (-1) n))(h:Q ↑↥s { s with ς:=s.ς.push (Ω>>>.seq N.reverse.toArray) })(k:@N<=sizeLine):(prog<|>w) A (getItem ?a ?b) Q E s:=by
 let c:sizeOk (.seq N.reverse.toArray):=by show N.reverse.toArray.Γ<=sizeLine;rw[am4,aow];rwa[k]
 let[os,g,j,o]:=id l;let i:s.TypeIs ?b ϕ:={os,g,j};unfold getItem
 try with_reducible rwa[an9 ?_]
 first|rwa[amC (amL ?_)]|skip
 rwa[amC (wpAny_sequenceKey d.typeIs (by decide) ?_)]
 refine amC (anL (name:=Ι.ofString ĺ) d.typeIs anr
  (anR anr d.typeIs entry_tuple_getitem ?_ ů))
 show wpAny β (Builtin.Tuple.tupleItemsOf ?a >>=_) β s;rwa[amC (tupleItemsOf_ d ?_)];rwa[amC (ao9 i ?_)];rw[am1 ⋯];rwa[amC (wV l ?_)]
 let f:¬((((N.toArray.Γ:ο) - 1)==0 && (-1:ο)==1 && N.toArray.Γ==N.toArray.Γ)=ρ):=by intro q;rw[an6,an6]at q;rwa[absurd q.1.2 ⋯]
 show wpAny β (if (((N.toArray.Γ:ο) - 1)==0 && (-1:ο)==1 && N.toArray.Γ==N.toArray.Γ)=ρ then _ else _) β s;rw[amY f];let e:=Oo N;rw[show @N=N.toArray.Γ from rfl]at e;rw[e]
 first
  |rwa[amC (m:=Builtin.Tuple.tupleExact _) (anw (amL {_,Τ,amL h}) c)]
  |rwa[amC (m:=Builtin.Tuple.tupleExact _) (anw (amC (amL (amL {_,Τ,amL h}))) c)]
  |rwa[amC (amC (m:=Builtin.Tuple.tupleExact _) (anw (amL (amL {_,Τ,amL h})) c))]
  |rwa[amC (amC (m:=Builtin.Tuple.tupleExact _) (anw (amL {_,Τ,amL h}) c))]
end
def wW:fillsNumberSlot (.type Ω) "mul"=pure χ:=PySem.fillsNumberSlot_seq (id:="tuple.__mul__") (r:=ι (.builtin "tuple.__rmul__")) PySem.F.slot_tuple_mul.lookup (by decide) PySem.F.slot_tuple_rmul.lookup (by decide)
def CZ:seqRepeat? (.type Ω)=pure (ι (.builtin "tuple.__mul__")):=by unfold seqRepeat?;rw[PySem.seqSlot_of (T:=Ω) (name:="__mul__") (id:="tuple.__mul__") PySem.F.slot_tuple_mul.lookup ⋯,PySem.seqSlot_of (T:=Ω) (name:="__rmul__") (id:="tuple.__rmul__") PySem.F.slot_tuple_rmul.lookup ⋯];rfl
def zS (a:ο)(t:Tok)(l:Zs)(items:Zm)(n:η)(e:Zo)(c:ī):
 Meets (Builtin.«int.__rmul__» {[.τ a t,?l],[]}) (λ_ R s=>s•l\{ cls:=.type Ω,dict:=e,data:=.seq items n,slots:=c }/\R (.ok (.ret Value.notImplemented)) s):=.of_wp λb w A R s h=>by let[f,g,d,i,os]:=s;let[j,h]:=h;wp_walk;rwa[12,h]
def zT (l:Zs)(items:Zm)(n:η)(j:Zo)(c:ī)(x:ο)(u:Tok)(b:¬(decide (x < -(2 ^ 63)) || decide (x>=2 ^ 63))=ρ)(m:(items.isEmpty || x==1)=ρ):
 Meets (Builtin.«tuple.__mul__» {[?l,.τ x u],[]}) (λ_ R s=>s•l\{ cls:=.type Ω,dict:=j,data:=.seq items n,slots:=c }/\R (.ok (.ret ?l)) s):=
 .of_wp λa w A R s h=>by
  let[f,g,d,e,os]:=s;let[i,h]:=h;let k:(⟨f,g,d,e,os⟩:Zu).TypeIs ?l Ω:={_,i,2}
  wp_walk
  rwa[wpAny_ite_false (anG b) ?_]
  wp_walk
  rwa[12,h]
def zU (l:Zs)(items:Zm)(n:η)(j:Zo)(c:ī)(x:ο)(u:Tok)(b:¬(decide (x < -(2 ^ 63)) || decide (x>=2 ^ 63))=ρ)(o:¬(items.isEmpty || x==1)=ρ)(m:(decide (x<=0) || items.isEmpty)=ρ):
 Meets (Builtin.«tuple.__mul__» {[?l,.τ x u],[]}) (λ_ R s=>s•l\{ cls:=.type Ω,dict:=j,data:=.seq items n,slots:=c }/\R (.ok (.ret ↑↥s)) { s with ς:=s.ς.push (Ω>>>.seq #[]) }):=
 .of_wp λa w A R s h=>by
  let[f,g,d,e,os]:=s;let[i,h]:=h;let k:(⟨f,g,d,e,os⟩:Zu).TypeIs ?l Ω:={_,i,2}
  wp_walk
  rwa[wpAny_ite_false (anG b) ?_]
  wp_walk
  rwa[12,h]
def zV (l:Zs)(items:Zm)(n:η)(o:Zo)(f:ī)(x:ο)(u:Tok)(e:¬(decide (x < -(2 ^ 63)) || decide (x>=2 ^ 63))=ρ)(t:¬(items.isEmpty || x==1)=ρ)(r:¬(decide (x<=0) || items.isEmpty)=ρ)(j:¬((items.Γ:ο)* x > (2 ^ 63 - 1) / 8))(p:¬(Builtin.Tuple.tupleTooMany ((items.Γ:ο)* x))=ρ)(hz:(θ.foldl (λb a=>b++a) #[] (θ.replicate x.toNat items)).Γ<=sizeLine):
 Meets (Builtin.«tuple.__mul__» {[?l,.τ x u],[]}) (λ_ R s=>s•l\{ cls:=.type Ω,dict:=o,data:=.seq items n,slots:=f }/\R (.ok (.ret ↑↥s)) { s with ς:=s.ς.push (Ω>>>.seq (θ.foldl (λb a=>b++a) #[] (θ.replicate x.toNat items))) }):=
 .of_wp λc w A R s h=>by
  let[k,g,d,i,os]:=s;let[m,h]:=h;let q:(⟨k,g,d,i,os⟩:Zu).TypeIs ?l Ω:={_,m,2}
  wp_walk
  rwa[wpAny_ite_false (anG e) ?_]
  wp_walk
  rwa[wpAny_ite_false (anG j) ?_]
  wp_walk
  rwa[12,h]
open AutoSeq1 in
def ym (l:Zs)(items:Zm)(n:η)(b:Zs)(a:Zm)(q:η)(p:Zo)(o:ī)(m:¬(!items.isEmpty && Builtin.θ.listTooLong (items.Γ+ a.Γ))=ρ)(c:items.Γ<=sizeLine)(e:items.Γ+ a.Γ<=sizeLine+ 1):
 Meets (Builtin.«list.extend» {[?l,?b],[]}) (λ_ R s=>s•l\{ cls:=.type À,dict:=ε,data:=.seq items n,slots:=#[] }/\s•b\{ cls:=.type Ω,dict:=p,data:=.seq a q,slots:=o }/\R (.ok (.ret Value.ε)) { s with ς:=s.ς.update l (Obj.mapSeq λx=>x++a),toks:=s.toks }):=
 .of_wp λj w A R s h=>by
  let[v,g,d,r,os]:=s;let[i,k,h]:=h;let t:=AutoSeq1.idx_int;let z:=AutoSeq1.sub_tuple_tuple;let C:=AutoSeq1.sub_list_list;let B:=AutoSeq1.sub_tuple_list;let y:=AutoSeq1.sub_list_tuple;let f:(items++a).Γ<=sizeLine+ 1:=by rw[Array.size_append];rwa[e]
  wp_walk using (ao3 i Τ (hz:=c) (_hz':=f)),apv i,apv k;rwa[12,h]
end HT
namespace L2
section
variable {X:Cx}{e:Expr}{te:TE}{lo hi:Option Expr}{st:Expr}{tl th ts:TO}{pos p2:Pos}
def rK:Rj X Rp:=by
 intro b s o H x v n k lo hi l Q I i j pl g h;let[a,xs,Τ,d,q]:=h;cases hw:HT.cC @xs 0 lo=0/\HT.cC @xs @xs hi=@xs
 .ext i;let[c,r,f,t]:=I.tuple (bD.of d);let hlen:c.toArray.Γ=@xs:=by rw[am4];rwa[r.Ξ.Β]
  erw[Ω,_,anr.lookup,f.typeIs];rwa[HT.tD f j pl g ([hlen]▸hw) {?a,H,I,2,q a H (au.refl H) ?_}];unfold gY;rw[hw.1,hw.2,θ.drop_zero,η.sub_zero,anJ];rwa[d]
 .rwa[V8 b s o H ?a v n k lo hi l Q I i j pl g {a,xs,2,bD.of d,hw,λp m=>q p _ (au.υ m) aj}]
def Wt (X:Cx)(r:V->Zj->Zj->Zj->Hp->VK->ν):ν:=
 ∀(a:θ (Zs×Obj))(s:Zu)(g:St)(H:Hp)(x:V)(v f d c:Zt)(lo hi st:Zj)(b:Zs)(Q:VK),Inv X a g H s->RelV x v->s.ς.IsSliceOf b f d c->IsPart f lo->IsPart d hi->IsPart c st->r x lo hi st H Q->∃T id,typeLookup (.type T) ĺ=pure (ι (.builtin id))/\s.TypeIs v T/\X⁻¹ X.A (getItem v ?b) (EP X a g Q) X.xe s
def aeH (r:V->Zj->Zj->Zj->Hp->VK->ν)(te:TE)(tl th ts:TO):TE:=λ a H Q=>te a H λx d=>tl a d λl b=>th a b λu f=>ts a f λk c=>r x l u k c Q
def Ki {r:V->Zj->Zj->Zj->Hp->VK->ν}(L:Wt X r)(S:Ŏ)(J:PO X lo tl)(N:PO X hi th)(i:PO X (ι st) ts):PE X (.Subscript e (.Slice lo hi (ι st) p2) pos) (aeH r te tl th ts):=by
 intro a s c H Q I h;rwa[Subscript_ (bx (S a s c H _ I h) λv O ζ=>?_)];let[x,G,p,m,C]:=ζ;rwa[wpAny_Slice (bx (J a O c G _ p C) λg z ζ=>?_)];let[l,P,E,pl,W]:=ζ;rwa[bx (N a z c P _ E W) λd R ζ=>?_];let[u,w,y,M,D]:=ζ;rwa[bx (i a R c w _ y D) λf s4 ζ=>?_];let[k,j,n,U,F]:=ζ;let A:Inv X a c j { s4 with ς:=s4.ς.push (ϕ>>>.fields #[g,d,f]) }:=n.kept (t':=s4.toks) λb Z q=>amJ _ q
 let[T,id,B,o,t]:=L a { s4 with ς:=s4.ς.push (ϕ>>>.fields #[g,d,f]) } c j x v g d f l u k ↥s4 Q A m (Heap.IsSliceOf.new ..) pl M U F;show X⁻¹ X.A (subscriptTail e (.Slice lo hi (ι st) p2) v ↑↥s4) (EP X a c Q) X.xe { s4 with ς:=s4.ς.push (ϕ>>>.fields #[g,d,f]) };rwa[tail_any (ops:=[v,↑↥s4]) o B t (by with_unfolding_all rfl)]
def abt:V->Zj->Zj->Zj->Hp->VK->ν:=λx lo hi st H Q=>∃a xs,x=?a/\H a\.Θ xs/\lo=ε/\hi=ε/\st\(-1)/\∀p,H p=ε->Q ?p (υ H p (.Θ xs.reverse))
def Uk:Wt X abt:=by
 intro f s D H x v C w g lo hi st z Q I m n pl l u h;let[a,xs,Τ,p,Τ,Τ,Τ,q]:=h;ext m;ext pl;ext l;obtain⟨d,rfl⟩:∃d,g=.τ (-1) d:=by cases u with|τ i t=>exact{t,Τ}
 let[j,r,c,k]:=I.tuple (bD.of p);let B:=@r;erw[Ω,_,anr.lookup,c.typeIs];rwa[HT.vA c n ?_ ∅];rwa[↑↥s,_,I.laid (t':=s.toks) (o:=.Θ xs.reverse) (λb A q=>amJ _ q) Φ ?_,2,q _ Ï];rwa[[aow]▸k,_,r.reverse,IsTup.new β]
inductive Rq (x y:V)(H:Hp)(Q:VK):ν
 |mk (a:Zs)(k:ο)(xs:Zb):x=?a->y=.τ k->H a\.Θ xs-> -(2 ^ 63)<=k->k<2 ^ 63->@xs* k.toNat<=sizeLine->(∀p H',au H H'->H' p\.Θ (θ.replicate k.toNat xs).flatten->Q ?p H')->Rq x y H Q
theorem g9:il X (binaryOp .Mult) Rq:=by
 intro d s J H x y v u Q I P W h;let[l,k,xs,Τ,Τ,G,h1,Z,E,q]:=h;ext P;let[t,Τ]:=W;let[a,r,O,V]:=I.tuple (bD.of G);let B:=@r;let[⟨cls,z,data,g⟩,j,hc,n,hd]:=id O;simp only at hc hd;subst hc hd
 let A:¬(decide (k < -(2 ^ 63)) || decide (k>=2 ^ 63))=ρ:=by rw[aqa,anU,anU];ext
 let go:∀{S:PySem.Spec},Meets (Builtin.«tuple.__mul__» ⟨[?l,.τ k t],[]⟩) (λN R c=>c•l\{ cls:=.type Ω,dict:=z,data:=.seq a.toArray n,slots:=g }/\S N R c)->
  S X.A (wants (EP X d J Q) X.xe) s->X⁻¹ X.A (binaryOp .Mult ?l (.τ k t)) (EP X d J Q) X.xe s:=λ{S} m Y=>
  wpAny_binaryOp_repeat_ref (T:=Ω) (U:=ϟ) ⋯ {_,j,2} (λc=>typeIs_int c k t) HT.wW F.fills_int_mul F.slot_int_rmul HT.CZ F.slot_int_index.lookup
   (ap0 F.slot_int_rmul (typeIs_int s k t) F.entry_int_rmul (F.args_int_rmul_2 β) (HT.zS k t l a.toArray n z g)
    {j,2,{_,j,2},ap0 F.slot_tuple_mul {_,j,2} F.entry_tuple_mul (F.args_tuple_mul_2 β) m {j,Y}})
 cases hc:(a.toArray.isEmpty || k==1)=ρ
 .rwa[go (S:=λ_ R c=>R (.ok (.ret ?l)) c) (HT.zT l a.toArray n z g k t A hc) {?l,H,I,2,q l H (au.refl H) ?_}]
  let e:(θ.replicate k.toNat xs).flatten=xs:=by
   rw[aqa]at hc;rcases hc with hc|hc
   .have:a=[]:=by simpa using hc
    have:xs=[]:=by let w:=B;rw[ω]at w;rwa[aoF w]
    subst ω;simp
   .have:k=1:=by simpa using hc
    subst ω;simp
  rw[e];rwa[G]
 .cases f:(decide (k<=0) || a.toArray.isEmpty)=ρ
  .rwa[go (S:=λ_ R c=>R (.ok (.ret ↑↥c)) { c with ς:=c.ς.push (Ω>>>.seq #[]) }) (HT.zU l a.toArray n z g k t A hc f) ?_];rwa[↑↥s,_,I.laid (t':=s.toks) (o:=.Θ []) (λb M q=>amJ _ q) Φ ?_,2,q β (au.υ Ï) ?_]
   .rwa[ani _,[],.nil,IsTup.new β]
   .let e:k.toNat=0:=by
     rw[aqa,anU]at f;rcases f with f|f
     .ext
     .rwa[absurd (by rw[aqa];rwa[.ψ f]) hc]
    rw[e,aj];rfl
  .let hk:0<k:=by rw[aqa,anU]at f;ext
   let p:θ.foldl (λD C=>D++C) #[] ϵ=(θ.replicate k.toNat a).flatten.toArray:=by have:=foldl_rep a k.toNat [];rw[ao4]at ω;rwa[ω]
   let hlen:(θ.replicate k.toNat a).flatten.Ξ<=sizeLine:=by rw[len_rep,apu,<-B];rwa[E]
   let i:((a.toArray.Γ:ο)* k)=((@xs* k.toNat:η):ο):=by rw[am4,<-B,ο.natCast_mul,ο.toNat_of_nonneg ∅]
   let hline:(sizeLine:η)<=(2 ^ 63 - 1) / 8:=⋯
   refine go (S:=λ_ R c=>R (.ok (.ret ↑↥c)) { c with ς:=c.ς.push (Ω>>>.seq (θ.foldl (λD C=>D++C) #[] ϵ)) })
    (HT.zV l a.toArray n z g k t A hc f (by rw[i];omega) (by unfold Builtin.Tuple.tupleTooMany;rw[anU,i];omega) ([p,am4]▸hlen)) ?_
   rw[p];rwa[↑↥s,_,I.laid (t':=s.toks) (o:=.Θ (θ.replicate k.toNat xs).flatten) (λb M q=>amJ _ q) Φ ?_,2,q β (au.υ Ï) aj];rwa[[len_rep,apu]▸E,_,r.rep k.toNat,IsTup.new β]
def Oq:V->Zb->Hp->VK->ν:=λx a H Q=>∃l b xs zs,x=?l/\a=[?b]/\H l\.Ε xs/\H b\.Θ zs/\@xs+ @zs<=sizeLine/\Q .non (υ H l (.Ε (xs++zs)))
theorem Ie:Rn X "list.extend" Oq:=by
 intro j s N H x G v O Q I y t h;let[l,b,M,E,Τ,Τ,i,C,J,q]:=h;ext y;let[u,Τ,B]:=t.one;ext B;let[z,c,n,r,L,e]:=I.tQ i;let[a,k,p2,_]:=I.tuple (bD.of C);let o:=@k;let[⟨cls,A,data,p⟩,w,m,D,hd]:=id p2;simp only at m hd;subst m hd;let f:c.toArray.Γ+ a.toArray.Γ<=sizeLine:=by rw[am4,am4];ext
 let d:¬(!c.toArray.isEmpty && Builtin.θ.listTooLong (c.toArray.Γ+ a.toArray.Γ))=ρ:=by rw[wR f,Μ.and_false];rwa[anz]
 refine ap0 F.slot_list_extend {_,e,2} F.entry_list_extend (F.args_list_extend_2 β)
  (HT.ym l c.toArray n b a.toArray D A p d (by rw[am4];omega) ∅) {e,w,5}
 rwa[.non,_,I.Ia (Oh:=c++a) i e (by simp) (r.append k) ?_,2,q];rw[amG];ext
end
def tx (l:Zh):Ι:={l.toArray}
def Kj (l:Zh):@(tx l)=@l:=by show l.toArray.Γ=@l;simp
def Gv (h:x.cps.toList=f.cps.toList):x=f:=by let⟨a⟩:=x;let⟨b⟩:=f;have:a=b:=Array.toList_inj.mp h;rw[ω]
def abu (x:Ι):x=tx x.cps.toList:=Gv rfl
def Kk (a b:Zh):tx a++tx b=tx (a++b):=by rwa[Gv ?_];show ((tx a).cps++(tx b).cps).toList=(a++b);rw[Array.toList_append];rfl
section
variable {X:Cx}{pos:Pos}
def fD {l:Zh}{j}(h:x=tx l):PE X (.Constant (.str x) j pos) (tC (.str (tx l))):=by rw[<-h];rwa[VJ]
def C0 (n:ο):Zh:=(toString n:Ι).cps.toList
def Kl (h:n<10000000000):n.log2<1920:=by
 rcases η.eq_zero_or_pos n with e|e
 .subst e;decide
 .let a:HPow.hPow 2 n.log2<=n:=η.log2_self_le ∅;let b:(10000000000:η)<2 ^ 1920:=⋯
  rwa[(η.pow_lt_pow_iff_right (by decide:1<2)).mp (amS a (ap1 h b))]
def rL {n:ο}(a:0<=n)(h:n<10000000000):@(C0 n)<=10:=by have:=toString_length_le (v:=n) a (k:=10) ⋯ h;rwa[ω]
end
structure Def (K:Za1)(mg:Ι->Zl)(x:Ι)(st:Ž)(ps:Zp)(f:Zs)(fd:Ă):ν where
 F:yl K x x st f fd
 m:mg x\?f
 b:Binds K fd ps []
section
variable {X:Cx}
inductive Rt (t:TE)(σ:St)(H:Hp)(Q:VK):ν
 |mk (G:V->Hp->ν):t σ H G->(∀v H',G v H'->Q v H')->Rt t σ H Q
def Wu {t:TE}(h:PE X e t):PE X e (Rt t):=by
 intro a s i H Q I ⟨G,d,c⟩;rwa[bx (h a s i H G I d) λv j ζ=>?_];let[x,b,f,r,g]:=ζ
 rwa[x,b,f,r,c x b g]
end
def C1 (ns:Zg)(lo a:Zj):gY (ao ns) lo a=ao ((ns.drop (HT.cC @ns 0 lo)).take (HT.cC @ns @ns a - HT.cC @ns 0 lo)):=by unfold gY ao;rw[amE,aqr,aqs]
section
variable {κ:Type} [DecidableEq κ]
def bG (a:θ (κ×V))(k:κ):Zc:=(a.find? λb=>decide (b.1=k)).Α (·.2)
def putK (a:θ (κ×V))(k:κ)(v:V):θ (κ×V):=if (a.any λb=>decide (b.1=k))=ρ then a.Α (λb=>if b.1=k then (b.1,v) else b) else a++[(k,v)]
def fP (a:θ (κ×V))(k:κ):θ (κ×V):=a.filter λb=>decide (b.1≠k)
def cV {p:κ×V}{r:θ (κ×V)}{k:κ}(e:p.1=k):bG (p::r) k\p.2:=by simp[bG,apw,e]
def cR {p:κ×V}{r:θ (κ×V)}{k:κ}(e:¬p.1=k):bG (p::r) k=bG r k:=by simp[bG,apw,e]
theorem oJ (k:κ):∀a:θ (κ×V),(a.any λb=>decide (b.1=k))=(bG a k).isSome
 |[]=>rfl
 |p::r=>by
  rw[θ.any_cons];cases e:p.1=k
  .simp only[cV e,anh e,Μ.true_or,Ο.isSome_some]
  .rw[cR e,anG e,Μ.false_or];rwa[oJ k r]
theorem C2 (k j:κ)(y:V):∀a:θ (κ×V),bG (a.Α λb=>if b.1=k then (b.1,y) else b) j=(bG a j).Α λx=>if j=k then y else x
 |[]=>rfl
 |p::r=>by
  let c:=C2 k j y r;rw[an0];cases h:p.1=k
  .rw[am1 h];cases e:p.1=j
   .rw[cV (p:=(p.1,y)) e,cV e,Ο.map_some,am1 (e.Β.π h)]
   .rw[cR (p:=(p.1,y)) e,cR e,c]
  .rw[amY h];cases e:p.1=j
   .rw[cV (p:=p) e,cV e,Ο.map_some,amY (λz=>h (e.π z))]
   .rw[cR (p:=p) e,cR e,c]
theorem A4 (k j:κ)(y:V):∀a:θ (κ×V),bG a k=ε->bG (a++[(k,y)]) j=if j=k then ι y else bG a j
 |[],_=>by
  cases e:k=j
  .rw[am1 e.Β];rwa[cV (p:=(k,y)) e]
  .rw[amY (λz=>e z.Β)];rwa[cR (p:=(k,y)) e]
 |p::r,b=>by
  rw[apc];let c:¬p.1=k:=λz=>by rw[cV z]at b;ext b
  rw[cR c]at b;let d:=A4 k j y r b;cases e:p.1=j
  .rw[cV e,cV e,amY (λz=>c (e.π z))]
  .rw[cR e,cR e,d]
def fJ (b:θ (κ×V))(k j:κ)(y:V):bG (putK b k y) j=if j=k then ι y else bG b j:=by
 unfold putK;cases a:(b.any λc=>decide (c.1=k))=ρ
 .rw[am1 a,C2];rw[oJ]at a;cases e:j=k
  .let[x,d]:=apY.mp a
   cbv
  .rw[amY e]
   cases bG b j with
   |ε=>rfl
   |ι x=>cbv
 .rw[amY a];rwa[A4 k j y b ?_];rw[oJ]at a
  cases q:bG b k with
  |ε=>rfl
  |ι x=>rw[q]at a;rwa[(a Τ).Κ]
def gE (a:θ (κ×V))(k:κ)(v:V):@(putK a k v)<=@a+ 1:=by
 unfold putK;split
 .rw[amE];ext
 .rw[amG,amT,ank];ext
def lK {a:θ (κ×V)}{k:κ}(v:V)(h:bG a k=ε):putK a k v=a++[(k,v)]:=by unfold putK;rw[oJ,h];rwa[amY ⋯]
def fF.tR {o:Zc}{u:Zl}(r:fF o u):o.isSome=u.isSome:=by
 cases o with
 |ε=>cases u with
  |ε=>rfl
  |ι _=>exact(show False from r).Κ
 |ι _=>cases u with
  |ε=>exact(show False from r).Κ
  |ι _=>rfl
def fF.Λ {o:Zc}{u:Zl}(r:fF o u)(rd:RelV q v):RelV (o.Λ q) (u.Λ v):=by
 cases o with
 |ε=>cases u with
  |ε=>exact rd
  |ι _=>exact(show False from r).Κ
 |ι _=>cases u with
  |ε=>exact(show False from r).Κ
  |ι _=>exact r
def KV.val {a:θ (κ×V)}{f:θ (κ×Zt)}(r:KV a f)(k:κ):fF (bG a k) (valueAt f k):=by
 induction r with
 |nil=>exact True.intro
 | @cons p q l c h t i=>
   let[g,j]:=h;cases e:p.1=k
   .let d:q.1=k:=g.Β.π e;let b:valueAt (q::c) k\q.2:=by simp[valueAt,apw,d]
    rw[cV e,b];rwa[j]
   .let d:¬q.1=k:=λz=>e (g.π z)
    let b:valueAt (q::c) k=valueAt c k:=by simp[valueAt,apw,d]
    rw[cR e,b];rwa[i]
def KV.any {a:θ (κ×V)}{b:θ (κ×Zt)}(r:KV a b)(k:κ):(a.any λkv=>decide (kv.1=k))=b.any λkv=>decide (kv.1=k):=by
 induction r with
 |nil=>rfl
 |cons h t c=>rw[θ.any_cons,θ.any_cons,c,h.1]
def KV.repl {a:θ (κ×V)}{b:θ (κ×Zt)}(r:KV a b)(k:κ){y:V}{u:Zt}(f:Ľ):
 KV (a.Α λkv=>if kv.1=k then (kv.1,y) else kv) (b.Α λkv=>if kv.1=k then (kv.1,u) else kv):=by
 induction r with
 |nil=>exact .nil
 | @cons p q d e h t c=>
   rw[an0,an0];rwa[.cons ?_ c]
   cbv
def KV.put {a:θ (κ×V)}{b:θ (κ×Zt)}(r:KV a b)(k:κ){y:V}{u:Zt}(c:Ľ):KV (putK a k y) (stored b k u):=by
 unfold putK stored;rw[r.any k];cases e:(b.any λkv=>decide (kv.1=k))=ρ
 .rw[am1 e,am1 e];rwa[r.repl k c]
 .rw[amY e,amY e];rwa[Paired.snoc r {2,c}]
def KV.drop {c:θ (κ×V)}{d:θ (κ×Zt)}(r:KV c d)(k:κ):KV (fP c k) (without d k):=by
 unfold fP without
 induction r with
 |nil=>exact .nil
 | @cons p q l m h t g=>
   let[f,i]:=h;rw[aod,aod];cases e:p.1=k
   .cbv
   .let j:¬q.1=k:=λz=>e (f.π z)
    let a:decide (p.1≠k)=ρ:=by simp[e]
    let b:decide (q.1≠k)=ρ:=by simp[j]
    rw[am1 a,am1 b];rwa[.cons {f,i} g]
def KV.Ξ {a:θ (κ×V)}{b:θ (κ×Zt)}(r:KV a b):@a=@b:=Paired.Ξ r
def Ot (a:θ (κ×V))(k:κ):@(fP a k)<=@a:=anN β
end
def kS {k:Key}(r:RelV (kV k) u):(cf P w).is k u=ρ:=by
 cases k with
 |ψ i=>let[t,e]:=(show ∃t,u=Value.τ i t from r);subst e;rwa[Fx P w i t]
 |Ζ x=>let[t,e]:=(show ∃t,u=Value.str x t from r);subst e;rwa[Fy P w x t]
theorem A5:∀{a:Zd}{b:Zk},Vals (a.Α kV) b->ItemsAre (cf P w) a b
 |[],_,r=>by ext r;rwa[.nil]
 |k::a,_,r=>by
  cases r with
  |cons h t=>exact .cons (kS h) (A5 t)
abbrev KT (H:Hp):List (Zd×V)->List (Zd×Zs×Zt)->Prop:=Paired λp q=>p.1=q.1/\H q.2.1\.tup (p.1.map kV)/\RelV p.2 q.2.2
def KT.val {a:θ (Zd×V)}{g:θ (Zd×Zs×Zt)}(r:KT H a g)(k:Zd):fF (bG a k) ((atKey g k).Α (·.2)):=by
 induction r with
 |nil=>exact True.intro
 | @cons p q l c h t i=>
   let[f,_,j]:=h;cases e:p.1=k
   .let d:q.1=k:=f.Β.π e;let b:atKey (q::c) k\q.2:=by simp[atKey,apw,d]
    rw[cV e,b];rwa[j]
   .let d:¬q.1=k:=λz=>e (f.π z)
    let b:atKey (q::c) k=atKey c k:=by simp[atKey,apw,d]
    rw[cR e,b];rwa[i]
def KT.repl {a:θ (Zd×V)}{xs:θ (Zd×Zs×Zt)}(r:KT H a xs)(k:Zd){y:V}{u:Zt}(i:Ľ):
 KT H (a.Α λkv=>if kv.1=k then (kv.1,y) else kv) (xs.Α (putAt k u)):=by
 induction r with
 |nil=>exact .nil
 | @cons p q c d h t b=>
   rw[an0,an0];rwa[.cons ?_ b];let[f,e,g]:=h;unfold putAt
   cbv
def KT.put {a:θ (Zd×V)}{c:θ (Zd×Zs×Zt)}(r:KT H a c)(k:Zd){b:Zs}{y:V}{u:Zt}(f:H b\.Θ (k.Α kV))(d:Ľ):
 KT H (putK a k y) (storedH c k b u):=by
 let e:(a.any λkv=>decide (kv.1=k))=(atKey c k).isSome:=by rw[oJ,(r.val k).tR,Ο.isSome_map]
 unfold putK storedH;rw[e];cases q:(atKey c k).isSome=ρ
 .rw[am1 q,am1 q];rwa[r.repl k d]
 .rw[amY q,amY q];rwa[Paired.snoc r {2,f,d}]
def KT.keeps {a:θ (Zd×V)}{c:θ (Zd×Zs×Zt)}(r:KT H a c)(d:∀b ys,H b\.Θ ys->I b\.Θ ys):KT I a c:=Paired.NX r λ_ _ z=>{z.1,d^z.2.1,z.2.2}
section
variable {P:Program}{w:World}{H:Hp}{h:Heap}{a:Zs}
def Ru {u:HO}(ok:ê)(e:Rd H a u):cu P w H h a u:=e.ok ok
def rM {b:θ (Key×V)}(ok:ê)(e:Rd H a (.dK b)):@b<=sizeLine/\(a==sysModules)=χ/\∃c,KV b c/\h.DictOf (cf P w) a c:=show cu P w H h a (.dK b) from Ru ok e
def vd {b:θ (Key×V)}(ok:ê)(e:H a\.dK b):@b<=sizeLine/\(a==sysModules)=χ/\∃c,KV b c/\h.DictOf (cf P w) a c:=rM ok (.ψ e)
def oK {c:Zd}(ok:ê)(e:H a\.Θ (c.Α kV)):(tupleKind (cf P w)).is h c a:=by let[_,b,r,o,f,d,n,g]:=(show cu P w H h a (.Θ (c.Α kV)) from ok a _ e);rwa[o,b.toArray,n,f,d,g,by simpa using A5 r]
def rN {b:θ (Zd×V)}(ok:ê)(e:Rd H a (.dT b)):@b<=sizeLine/\(a==sysModules)=χ/\
 ∃d,KT H b d/\h.DictOfH (tupleKind (cf P w)) a d:=by
 let[z,y,d,r,o,n,u,j,g,s,i,k]:=(show cu P w H h a (.dT b) from Ru ok e);rwa[z,y,d,r,o,n,u,j,g,s,i,λx c=>?_,k]
 let all:∀{l:θ (Zd×V)}{m:θ (Zd×Zs×Zt)},KT H l m->∀x∈m,(tupleKind (cf P w)).is h x.1 x.2.1:=by
  intro l m q
  induction q with
  |nil=>intro x c;rwa[nomatch c]
  | @cons p q A B f t v=>
    intro x c;rcases amW.mp c with e|c
    .subst e;rwa[oK ok (by rw[<-f.1];rwa[f.2.1])]
    .rwa[v x c]
 rwa[all r x c]
def Rw {b:θ (Zd×V)}(ok:ê)(e:H a\.dT b):@b<=sizeLine/\(a==sysModules)=χ/\∃c,KT H b c/\h.DictOfH (tupleKind (cf P w)) a c:=rN ok (.ψ e)
end
def dB (H:Hp)(a:Zs)(y:V)(r:Zc):ν:=(∃c k,Rd H a (.dK c)/\y=kV k/\r=bG c k)\/∃c k b,Rd H a (.dT c)/\y=?b/\H b\.Θ (k.Α kV)/\r=bG c k
def lL (H:Hp)(a:Zs)(y v:V)(d:Hp):ν:=
 (∃c k,H a\.dK c/\y=kV k/\@c<sizeLine/\d=υ H a (.dK (putK c k v)))\/
 ∃c k b,H a\.dT c/\y=?b/\H b\.Θ (k.Α kV)/\@c<sizeLine/\d=υ H a (.dT (putK c k v))
def dB.k {b:θ (Key×V)}{k:Key}(e:H a\.dK b):dB H a (kV k) (bG b k):=.ψ {b,k,.ψ e,22}
def lL.k {b:θ (Key×V)}{k:Key}(e:H a\.dK b)(c:@b<sizeLine):lL H a (kV k) q (υ H a (.dK (putK b k q))):=.ψ {b,k,e,2,c,2}
section
variable {X:Cx}{pins:List (Zs×Obj)}{σ:St}{H:Hp}{s:Zu}{a:Zs}{y v:V}{u r:Zt}{o:Zc}{A:Around}{E:Zt->Zu->Prop}
def Inv.big (I:Υ):sysModules<↥s:=by let h:mainGlobals<↥s:=(I.mod.glob.keeps I.bk).lt;rwa[ap1 ⋯ h]
def Km (D:A.units+ 1<cLine)(I:Υ)(g:dB H a y (ι v))(t:Ľ)(h:∀d q,Inv X pins σ H q->RelV v d->Q d q):
 X⁻¹ A (getItem ?a u) Q E s:=by
 rcases g with ⟨f,k,e,n,l⟩|⟨f,k,b,e,n,x,l⟩
 .subst n;let[z,hd,w,rel,m]:=rM I.a0 e;let[d,j,c]:=fF.some_of (v:=v) (o:=valueAt w k) ([l]▸rel.val k);rwa[wpAny_getItem_of (kS t) m.mapOf j (h d _ Ě c)]
 .subst n;cases (show u=Value.Η b from t);let[z,hd,C,rel,m]:=rN I.a0 e;let[d,j,c]:=fF.some_of (v:=v) (o:=(atKey C k).Α (·.2)) ([l]▸rel.val k);let[p,B,i]:=an8.mp j;rwa[wpAny_getItem_heap (aoV D) (oK I.a0 x) m B ?_];rw[i];rwa[h d _ Ě c]
def Ul (m:A.units+ 1<cLine)(I:Υ)(g:dB H a y o)(j:Ľ)(h:∀i,Inv X pins σ H i->Q (.bool (!o.isSome)) i):
 X⁻¹ A (compareOp .NotIn u ?a) Q E s:=by
 rcases g with ⟨c,k,e,d,l⟩|⟨c,k,b,e,d,n,l⟩
 .subst d;let[z,hd,p,rel,f]:=rM I.a0 e;rwa[wpAny_notIn_of (kS j) hd f.mapOf ?_];rw[<-(rel.val k).tR,<-l];rwa[h _ Ě]
 .subst d;cases (show u=Value.Η b from j);let[z,hd,t,rel,f]:=rN I.a0 e;rwa[wpAny_notIn_heap (aoV m) (oK I.a0 n) hd f ?_];let q:=(rel.val k).tR;rw[Ο.isSome_map]at q;rw[<-q,<-l];rwa[h _ Ě]
def lM {t':η}{c:HO}(I:Υ)(mu:vP (H a))(g:Heap.SameBut a s.ς h)(d:∃q,h.get? a\q)(new:cu X.prog X.w (υ H a c) h a c):
 Inv X pins σ (υ H a c) { s with ς:=h,toks:=t' }:=I.write (x:=a) (e:=a) mu (.ψ Τ) (λb q f z=>(g.2 b f).π z) d new
def tS {b:θ (Key×V)}{c:θ (Key×Zt)}(z:@b<=sizeLine)(hd:(a==sysModules)=χ)(rel:KV b c)(d:h.DictOf (cf P w) a c):
 cu P w I h a (.dK b):={z,hd,c,rel,d}
theorem Kn (R:A.units+ 1<cLine)(d:Υ)(g:lL H a y v I)(L:Ľ)(J:RelV v r)(h:∀C,Inv X pins σ I C->U () C):
 X⁻¹ A (setItem ?a u r) U E s:=by
 rcases g with ⟨f,k,e,B,l,m⟩|⟨f,k,b,e,B,G,l,m⟩
 .subst B m;let[z,hd,N,rel,x]:=vd d.a0 e;let n:@N<=sizeLine:=by rw[<-@rel];rwa[z]
  let t:@(putK f k v)<=sizeLine:=by have:=gE f k v;ext
  rwa[wpAny_setItem_pairs (hsz:=n) (kS L) x λF i w=>h _ ?_]
  let W:∃q,F.get? a\q:=let ⟨q,_,_,j,_⟩:=i;{q,j}
  rwa[lM d ([e]▸True.intro) w W (tS t hd (rel.put k J) i)]
 .subst B m;cases (show u=Value.Η b from L);let[z,hd,xs,rel,x]:=Rw d.a0 e;let n:@xs<=sizeLine:=by rw[<-Paired.Ξ rel];rwa[z]
  let t:@(putK f k v)<=sizeLine:=by have:=gE f k v;ext
  rwa[wpAny_setItem_heap (hsz:=n) (aoV R) (oK d.a0 G) x λF i w=>h _ ?_]
  let[q,Q,T,j,M,S,O,_,P]:=i;rwa[lM d ([e]▸True.intro) w ⟨q,j⟩ ⟨t,hd,_,(rel.put k G J).keeps λc ys D=>?_,q,Q,T,j,M,S,O,P⟩];rw[aq (bF D e (λz=>nomatch z))];rwa[D]
end
section
variable {X:Cx}{pins:List (Zs×Obj)}{σ:St}{H:Hp}{s:Zu}{a:Zs}{kvs:List (Key×V)}{k:Key}{u:Zt}{A:Around}{E:Zt->Zu->Prop}
def Rx {more:Zk}(I:Υ)(e:H a\.dK kvs)(g:RelV (kV k) u)(l:bG kvs k\q)(p:more=[]\/∃x,more=[x])(h:∀c j,Inv X pins σ (υ H a (.dK (fP kvs k))) j->RelV q c->Q c j):X⁻¹ A (call (.builtin "dict.pop") (?a::u::more)) Q E s:=by
 let[z,hd,m,rel,n]:=vd I.a0 e;let[c,w,f]:=fF.some_of (v:=q) (o:=valueAt m k) (by rw[<-l];rwa[rel.val k])
 let y:(keyPart u).isSome=ρ:=by
  cases k with
  |ψ i=>let[t,b]:=(show ∃t,u=Value.τ i t from g);subst b;rfl
  |Ζ x=>let[t,b]:=(show ∃t,u=Value.str x t from g);subst b;rfl
 let C:argsOk "dict.pop" ⟨?a::u::more,[]⟩:=by
  rcases p with b|⟨x,b⟩
  .subst b;rwa[PySem.F.args_dict_pop_2 β]
  .subst b;rwa[PySem.F.args_dict_pop_3^_]
 refine apa apx n.typeIs PySem.F.entry_dict_pop C (meets_dict_pop_there û a (kS g) more p y)
  {m,c,n,by rw[<-@rel];rwa[z],w,λr d B=>h c _ ?_ f}
 let D:∃b,r.get? a\b:=let ⟨b,_,_,v,_⟩:=d;{b,v}
 rwa[lM I ([e]▸True.intro) B D (tS (amM (Ot kvs k) z) hd (rel.drop k) d)]
def Wv {r:Zt}(I:Υ)(e:H a\.dK kvs)(b:RelV (kV k) u)(l:bG kvs k=ε)(h:∀c,Inv X pins σ H c->Q r c):
 X⁻¹ A (call (.builtin "dict.pop") [?a,u,r]) Q E s:=by
 let[z,hd,d,rel,f]:=vd I.a0 e;let j:valueAt d k=ε:=fF.none_of (by rw[<-l];rwa[rel.val k])
 let g:(keyPart u).isSome=ρ:=by
  cases k with
  |ψ i=>let[t,q]:=(show ∃t,u=Value.τ i t from b);subst q;rfl
  |Ζ x=>let[t,q]:=(show ∃t,u=Value.str x t from b);subst q;rfl
 rwa[apa apx f.typeIs PySem.F.entry_dict_pop (PySem.F.args_dict_pop_3^_) (meets_dict_pop_default û a (kS b) hd g r) {d,f,j,h _ Ě}]
end
def Ww (i:đ):ν:=∀b a,subscripted i χ b a=operate [b,a] (getItem b a)
def Um {env:Env}{value slice:đ}{pos:Pos}{T id:ţ}(j:typeLookup (.type T) ĺ=pure (ι (.builtin id)))(k:Ww slice)(h:(P<|>w) A (eval value env) (λo d=>(P<|>w) A (eval slice env) (λi a=>a.TypeIs o T/\(P<|>w) A (getItem o i) Q E a) E d) E s):
 (P<|>w) A (eval (.Subscript value slice pos) env) Q E s:=by
 rwa[Subscript_ (aok h (λo d e=>aok e (λi a b=>?_) λ_ _ x=>x) λ_ _ x=>x)];let[g,b]:=b;rwa[amC ?_];rwa[amC (wpAny_specialOf g j ?_)]
 let fin:(P<|>w) A (subscripted slice χ o i) (λr c=>(P<|>w) A (letTemporaryGo value o r >>=λ_=>pure r) Q E c) E a:=by rw[k o i];rwa[wpAny_operating (aok b (λr c f=>amC (wpAny_letTemporaryGo (amL f))) λ_ _ x=>x)]
 first
  |rwa[amL (amC fin)]
  |rwa[amC (amL (amC fin))]
  |rwa[amC fin]
def FC {c:Zc}(I:Ì)(g:dB H a q c):s.TypeIs ?a ç:=by
 rcases g with ⟨d,k,e,_,_⟩|⟨d,k,b,e,_,_,_⟩
 .let[_,_,h,_,f]:=rM I.a0 e;rwa[f.typeIs]
 .let[_,_,i,_,f]:=rN I.a0 e;rwa[f.typeIs]
inductive Wx (x y:V)(H:Hp)(Q:VK):ν
 |mk (a:Zs)(v:V):x=?a->dB H a y (ι v)->Q v H->Wx x y H Q
def abv (td d:TE):TE:=λ a H Q=>td a H λx c=>d a c λy b=>Wx x y b Q
def Uo (e td:TE):TE:=λ c H Q=>e c H λy d=>td c d λx b=>∃a o,x=?a/\dB b a y o/\Q (.bl (!o.isSome)) b
inductive Wy (x y v:V)(H:Hp)(N:Hp->ν):ν
 |mk (a:Zs)(H4:Hp):x=?a->lL H a y v H4->N H4->Wy x y v H N
def abw (td e b:TE):TS:=λD a H=>b a H λv d=>td a d λx c=>e a c λy f=>Wy x y v f (D.nx a)
section
variable {X:Cx}{o i value:Expr}{pos pos':Pos}{td ty tv:TE}
def lO (p:X.A.units+ 1<cLine)(m:ĳ)(z:PE X i ty)(t:Ww i):PE X (.Subscript o i pos) (abv td ty):=by intro b s f H Q I h;rwa[Um PySem.F.slot_dict_getitem.lookup t (bx (m b s f H _ I h) λu q ζ=>?_)];let[x,n,j,r,l]:=ζ;rwa[bx (z b q f n _ j l) λF D ζ=>?_];let[y,A,d,w,a,v,ex,g,B]:=ζ;subst ex;obtain rfl:u=Value.Η a:=r;rwa[FC d g,Km p d g w λC E k c=>{v,A,k,c,B}]
def mJ (n:X.A.units+ 1<cLine)(v:PE X i ty)(l:ĳ):PC X .NotIn i o (Uo ty td):=by
 intro b s c H Q I h;rwa[bx (v b s c H _ I h) λC p ζ=>?_];let[y,m,d,t,j]:=ζ;rwa[bx (l b p c m _ d j) λu A ζ=>?_];let[x,w,k,q,a,r,ex,g,z]:=ζ
 subst ex;obtain rfl:u=Value.Η a:=q;rwa[Ul n k g t λB f=>{.bl (!r.isSome),w,f,2,z}]
def jx (z:X.A.units+ 1<cLine)(t:ĳ)(F:PE X i ty)(J:PE X value tv)(C:swapsWith value (ι (.Subscript o i pos')) pos.line X.env=pure χ):
 PS X (.Assign [.Subscript o i pos'] value pos) (abw td ty tv):=by intro b s c H D I h;rwa[wpAny_Assign_Subscript (bx (J b s c H _ I h) λr A ζ=>?_) C];let[v,w,f,q,m]:=ζ;rwa[bx (t b A c w _ f m) λu l ζ=>?_];let[x,G,p,B,L]:=ζ;rwa[bx (F b l c G _ p L) λP O ζ=>?_];let[y,N,j,E,a,k,ex,g,n]:=ζ;subst ex;obtain rfl:u=Value.Η a:=B;rwa[Kn z j g E q λM d=>{c,k,d,n}]
end
def C3 (h:ċ)(a:sysModules<h.Ν.Γ):cu P w H (h.push (ç>>>.dict #[])) h.Ν.Γ (.dK []):={ani _,anf.mpr (an5 (anl a)),[],.nil,Heap.DictOf.new h}
def Ou (h:ċ)(a:sysModules<h.Ν.Γ):cu P w H (h.push (ç>>>.dict #[])) h.Ν.Γ (.dT []):={ani _,anf.mpr (an5 (anl a)),[],.nil,_,#[],(0),am0 _ Τ,{222},22,aoA}
def Wz:TE:=λ_ H Q=>∀p,H p=ε->Q ?p (υ H p (.dK []))
def WC:TE:=λ_ H Q=>∀p,H p=ε->Q ?p (υ H p (.dT []))
section
variable {X:Cx}{pos:Pos}
def eK:PE X (.Dict [] [] pos) Wz:=λb s d H Q I h=>wpAny_Dict_empty {↑↥s,_,I.laid (a:=↥s) (o:=.dK []) (t':=s.toks) (λ_ _ q=>amJ _ q) Φ (C3 s.ς I.big),2,h _ Ï}
def Ov:PE X (.Dict [] [] pos) WC:=λb s d H Q I h=>wpAny_Dict_empty {↑↥s,_,I.laid (a:=↥s) (o:=.dT []) (t':=s.toks) (λ_ _ q=>amJ _ q) Φ (Ou s.ς I.big),2,h _ Ï}
end
def C4:θ (TE×TE)->St->Hp->(θ (V×V)->Hp->ν)->ν
 |[],_,H,Q=>Q [] H
 |(e,b)::r,a,H,Q=>e a H λx f=>b a f λy c=>C4 r a c λd g=>Q ((x,y)::d) g
abbrev VV:List (V×V)->List (Zt×Zt)->Prop:=Paired λp q=>RelV p.1 q.1/\RelV p.2 q.2
def Rz (X:Cx)(pos:Pos)(keys:θ (Ο Expr))(values:Zr)(b:θ (TE×TE)):ν:=
 ∀(a:θ (Zs×Obj))(s:Zu)(c:St)(H:Hp)(Q:θ (V×V)->Hp->ν),Inv X a c H s->C4 b c H Q->X⁻¹ X.A (evalPairs (pairTrees keys values X.env pos)) (λg f=>∃d e,Inv X a c e f/\VV d g/\Q d e) X.xe s
def zW {pos:Pos}:Rz X pos [] [] []:=λa s b H Q I h=>pairTrees_nil_walk {[],H,I,.nil,h}
def wX {pos:Pos}{k:đ}{d:θ (Ο Expr)}{g f:TE}{b:θ (TE×TE)}(l:PE X k g)(D:PE X e f)(v:Rz X pos d C b):
 Rz X pos (ι k::d) (e::C) ((g,f)::b):=λa s c H Q I h=>
 pairTrees_cons_walk (bx (l a s c H _ I h) λu w ⟨x,t,i,z,p⟩=>bx (D a w c t _ i p) λJ n ⟨y,B,r,A,E⟩=>bx (v a n c B _ r E) λF G ζ=>by let[m,j,o,rel,q]:=ζ;rwa[(x,y)::m,j,o,.cons {z,A} rel,q])
def jT (a more:θ (Key×V)):θ (Key×V):=more.foldl (λacc b=>putK acc b.1 b.2) a
def KV.merge:∀{more:θ (Key×V)}{rs:θ (Key×Zt)}{a:θ (Key×V)}{b:θ (Key×Zt)},KV more rs->KV a b->KV (jT a more) (merged b rs):=by
 intro more rs a b r
 induction r generalizing a b with
 |nil=>intro q;rwa[q]
 | @cons p q f g h t c=>
   intro d
   let e:KV (putK a p.1 p.2) (stored b q.1 q.2):=by have:=d.put p.1 h.2;rw[<-h.1];rwa[ω]
   rwa[c e]
theorem mZ:∀(more a:θ (Key×V)),@(jT a more)<=@a+ @more
 |[],a=>by show @a<=@a+ 0;ext
 |p::r,a=>by let b:=mZ r (putK a p.1 p.2);let c:=gE a p.1 p.2;show @(jT (putK a p.1 p.2) r)<=_;rw[amT];ext
theorem yn {P:ĩ}{w:Ĩ}:∀{d:θ (Key×V)}{g:θ (Zt×Zt)},VV (d.Α λf=>(kV f.1,f.2)) g->∃e,Carries (cf P w) g e/\KV d e
 |[],_,r=>by ext r;rwa[[],True.intro,.nil]
 |p::d,_,r=>by
  cases r with
  | @cons a b as bs h t=>let[e,c,q]:=yn (P:=P) (w:=w) t;let[j,i]:=b;rwa[(p.1,i)::e,{kS h.1,2,c},.cons {2,h.2} q]
def abx (b:θ (TE×TE)):TE:=λ f H Q=>∀p,H p=ε->C4 b f (υ H p (.dK [])) λe c=>c p\.dK []/\∃a:θ (Key×V),e=a.Α (λd=>(kV d.1,d.2))/\@a<=15/\Q ?p (υ c p (.dK (jT [] a)))
def zX {pos:Pos}{keys:θ (Ο Expr)}{values:Zr}{d:θ (TE×TE)}(h:Rz X pos keys values d)(g:keys.all (·.isSome)=ρ)(A:@keys=@values)(m:keys≠[])(j:@keys<=15):PE X (.Dict keys values pos) (abx d):=by
 intro f s C H Q I q;let D:=I.a0.fresh (amK ↥s);let n:=I.laid (a:=↥s) (o:=.dK []) (h':=s.ς.push (ç>>>.dict #[])) (t':=s.toks) (λ_ _ q=>amJ _ q) Φ (C3 s.ς I.big);rwa[wpAny_Dict_walk (knd:=cf X.prog X.w) g A m j (bx (h f _ C β n (q _ D)) λR O ζ=>?_)];let[N,S,l,rel,e,b,F,lk,L]:=ζ;subst F;let[y,c,v]:=yn (P:=X.prog) (w:=X.w) rel;let[z,hd,G,t,E]:=vd l.a0 e;ext t;rwa[y,c,E,λk i B=>{↑↥s,152,L}]
 let x:@(jT [] b)<=sizeLine:=by let u:=mZ b [];rw[ank]at u;rw[sizeLine_eq];ext
 let J:∃q,k.get? ↥s\q:=let ⟨q,_,_,r,_⟩:=i;{q,r}
 rwa[lM l ([e]▸True.intro) B J (tS x hd (v.merge .nil) i)]
structure M1 (X:Cx)(o:đ)(m:Ι)(apos:Pos)(e:đ)(cQ:Pos):ν where
 base:attributeBase o m X.env ϐ=eval o X.env
 few:((backTo cQ (starEach [e] X.env)).all (λx=>!x.1) && (backToKw cQ (keywordEach [] X.env)).all (λx=>x.1.isSome)
  && decide (@([e]:Zr)+ @([]:θ Keyword)+ (if ([]:θ Keyword).isEmpty then 0 else 1)<30))=ρ
 line:(apos.endLine==cQ.line)=ρ
 trees:backTo cQ (starEach [e] X.env)=[(χ,eval e X.env)]
structure M2 (X:Cx)(o:đ)(m:Ι)(apos:Pos)(e f:đ)(cQ:Pos):ν where
 base:attributeBase o m X.env ϐ=eval o X.env
 few:((backTo cQ (starEach [e,f] X.env)).all (λx=>!x.1) && (backToKw cQ (keywordEach [] X.env)).all (λx=>x.1.isSome)
  && decide (@([e,f]:Zr)+ @([]:θ Keyword)+ (if ([]:θ Keyword).isEmpty then 0 else 1)<30))=ρ
 line:(apos.endLine==cQ.line)=ρ
 trees:backTo cQ (starEach [e,f] X.env)=[(χ,eval e X.env),(χ,eval f X.env)]
def Gw (H:Hp)(a:Zs):ν:=(∃b,Rd H a (.dK b))\/∃b,Rd H a (.dT b)
def oM (I:Ì)(d:Gw H a):
 s.TypeIs ?a ç/\(∀b,Value.Η a=?b->∃c,s•b\c/\c.dict=ε)/\(a==sysModules)=χ:=by
 rcases d with ⟨g,e⟩|⟨g,e⟩
 .let[_,hd,j,_,f]:=rM I.a0 e;rwa[f.typeIs,λb q=>?_,hd];ext q;let[c,_,_,i,h,_]:=f;rwa[c,i,h.2.1]
 .let[_,hd,k,_,f]:=rN I.a0 e;rwa[f.typeIs,λb q=>?_,hd];ext q;let[c,_,_,i,h,_]:=f;rwa[c,i,h.2.1]
section
variable {X:Cx}{pins:List (Zs×Obj)}{σ:St}{H:Hp}{s:Zu}{a:Zs}{y d:V}{u r:Zt}{o:Zc}{A:Around}{E:Zt->Zu->Prop}
def WD (q:A.units+ 1<cLine)(I:Υ)(g:dB H a y o)(n:Ľ)(h:∀m j,Inv X pins σ H j->RelV (o.Λ .non) m->Q m j):
 X⁻¹ A (call (.builtin "dict.get") [?a,u]) Q E s:=by
 rcases g with ⟨f,k,e,i,l⟩|⟨f,k,b,e,i,t,l⟩
 .subst i;let[z,hd,v,rel,c]:=rM I.a0 e;rwa[apa aoD c.typeIs apk (PySem.F.args_dict_get_2 β) (meets_dict_get û a (kS n) hd) {_,c.mapOf,h β Ě ?_}];rw[l];rwa[(rel.val k).Λ Τ]
 .subst i;cases (show u=Value.Η b from n);let[z,hd,p,rel,c]:=rN I.a0 e;rwa[apa aoD c.typeIs apk (PySem.F.args_dict_get_2 β) (meetsH_dict_get (tupleKind û) a b hd) {aoV q,k,p,oK I.a0 t,c,h β Ě ?_}];rw[l];rwa[(rel.val k).Λ Τ]
def WG (q:A.units+ 1<cLine)(I:Υ)(g:dB H a y o)(n:Ľ)(rd:RelV d r)(h:∀m j,Inv X pins σ H j->RelV (o.Λ d) m->Q m j):
 X⁻¹ A (call (.builtin "dict.get") [?a,u,r]) Q E s:=by
 rcases g with ⟨f,k,e,i,l⟩|⟨f,k,b,e,i,t,l⟩
 .subst i;let[z,hd,v,rel,c]:=rM I.a0 e;rwa[apa aoD c.typeIs apk (PySem.F.args_dict_get_3^_) (meets_dict_get_default û a (kS n) hd r) {_,c.mapOf,h β Ě ?_}];rw[l];rwa[(rel.val k).Λ rd]
 .subst i;cases (show u=Value.Η b from n);let[z,hd,p,rel,c]:=rN I.a0 e;rwa[apa aoD c.typeIs apk (PySem.F.args_dict_get_3^_) (meetsH_dict_get_default (tupleKind û) a b hd r) {aoV q,k,p,oK I.a0 t,c,h β Ě ?_}];rw[l];rwa[(rel.val k).Λ rd]
end
inductive Gx (x:V)(H:Hp)(G:Zs->ν):ν
 |mk (a:Zs):x=?a->Gw H a->G a->Gx x H G
def WH (td e:TE):TE:=λ d H Q=>td d H λx c=>Gx x c λa=>e d c λy b=>∃o,dB b a y o/\Q (o.Λ .non) b
inductive WK (ty tx:TE)(σ:St)(x:V)(H1:Hp)(Q:VK):ν
 |mk (a:Zs):x=?a->Gw H1 a->(ty σ H1 λy H2=>tx σ H2 λz H3=>∃o,dB H3 a y o/\Q (o.Λ z) H3)->WK ty tx σ x H1 Q
def WL (td c tx:TE):TE:=λ a H Q=>td a H λx b=>WK c tx a x b Q
inductive WM (a:Zs)(y:V)(H:Hp)(Q:VK):ν
 |mk (kvs:θ (Key×V))(k:Key)(v:V):H a\.dK kvs->y=kV k->bG kvs k\v->Q v (υ H a (.dK (fP kvs k)))->WM a y H Q
def WN (td e:TE):TE:=λ c H Q=>td c H λx b=>Gx x b λa=>e c b λy d=>WM a y d Q
inductive Ow (a:Zs)(y z:V)(H:Hp)(Q:VK):ν
 |mk (kvs:θ (Key×V))(k:Key):H a\.dK kvs->y=kV k->(∀v,bG kvs k\v->Q v (υ H a (.dK (fP kvs k))))->(bG kvs k=ε->Q z H)->Ow a y z H Q
def WO (td e tx:TE):TE:=λ b H Q=>td b H λx c=>Gx x c λa=>e b c λy d=>tx b d λz f=>Ow a y z f Q
section
variable {X:Cx}{o e f:Expr}{apos cQ:Pos}{td ty tx:TE}
def Ox (v:X.A.units+ 1<cLine)(q:ĳ)(C:ϒ)(m:M1 X o "get" apos e cQ):PE X (.Call (.Attribute o "get" apos) [e] [] cQ) (WH td ty):=by intro b s j H Q I h;rwa[ao5 m.base m.few m.line aoe aoD PySem.F.type_dict_get (bx (q b s j H _ I h) λu w ζ=>?_)];let[x,t,i,z,a,ex,d,n]:=ζ;subst ex;obtain rfl:u=Value.Η a:=z;let[r,k,_]:=oM i d;erw[r,k];rw[m.trees];rwa[anZ Τ (aoh (anO (bx (C b w j t _ i n) λL F ζ=>?_)))];let[y,B,p,A,G,g,D]:=ζ;rwa[aoq ?_];rwa[WD v p g A λE J l c=>{_,B,l,c,D}]
def oN (D:X.A.units+ 1<cLine)(A:ĳ)(M:ϒ)(w:PE X f tx)(m:M2 X o "get" apos e f cQ):PE X (.Call (.Attribute o "get" apos) [e,f] [] cQ) (WL td ty tx):=by
 intro b s i H Q I h;rwa[ao5 m.base m.few m.line aoe aoD PySem.F.type_dict_get (bx (A b s i H _ I h) λu E ζ=>?_)];let[x,C,j,F,a,ex,d,r]:=ζ;subst ex;obtain rfl:u=Value.Η a:=F;let[B,k,_]:=oM j d;erw[B,k];rw[m.trees]
 rwa[anZ Τ (aoh (anO (bx (M b E i C _ j r) λT q ζ=>?_)))];let[y,L,v,G,N]:=ζ;rwa[ anO (bx (w b q i L _ v N) λU S ζ=>?_)];let[z,n,p,J,R,g,t]:=ζ;rwa[aoq ?_]
 rwa[WG D p g G J λP O l c=>{_,n,l,c,t}]
def Oy (t:ĳ)(D:ϒ)(m:M1 X o "pop" apos e cQ):PE X (.Call (.Attribute o "pop" apos) [e] [] cQ) (WN td ty):=by intro b s i H Q I h;rwa[ao5 m.base m.few m.line aoe apx PySem.F.type_dict_pop (bx (t b s i H _ I h) λu A ζ=>?_)];let[x,z,g,B,a,ex,d,q]:=ζ;subst ex;obtain rfl:u=Value.Η a:=B;let[w,j,_]:=oM g d;erw[w,j];rw[m.trees];rwa[anZ Τ (aoh (anO (bx (D b A i z _ g q) λO L ζ=>?_)))];let[y,M,r,C,n,k,v,F,E,l,G]:=ζ;rwa[aoq ?_];subst E;rwa[Rx r F C l (.ψ Τ) λJ N p c=>{v,_,p,c,G}]
def wY (G:ĳ)(S:ϒ)(F:PE X f tx)(m:M2 X o "pop" apos e f cQ):PE X (.Call (.Attribute o "pop" apos) [e,f] [] cQ) (WO td ty tx):=by
 intro b s j H Q I h;rwa[ao5 m.base m.few m.line aoe apx PySem.F.type_dict_pop (bx (G b s j H _ I h) λu N ζ=>?_)];let[x,L,n,O,a,ex,d,C]:=ζ;subst ex;obtain rfl:u=Value.Η a:=O;let[J,t,_]:=oM n d;erw[J,t];rw[m.trees]
 rwa[anZ Τ (aoh (anO (bx (S b N j L _ n C) λZ B ζ=>?_)))];let[y,R,E,q,V]:=ζ;rwa[ anO (bx (F b B j R _ E V) λU Y ζ=>?_)];let[z,A,p,P,c,k,r,T,D,M]:=ζ;rwa[aoq ?_]
 subst T
 cases l:bG c k with
 |ι v=>exact Rx p r q l (.Ζ {U,2}) λW w g i=>{v,_,g,i,D v l}
 |ε=>exact Wv p r q l λw g=>{z,A,g,P,M l}
end
section
variable {X:Cx}{pins:List (Zs×Obj)}{σ:St}{H:Hp}{s:Zu}{h':Heap}
def Inv.wZ {fp:Zn}{o:HO}{t':η}(I:Υ)(k:∀b u,b∉fp->s•b\u->h'.get? b\u)(f:∀b∈fp,rJ X pins H b)(h:↥s<=a)(new:cu X.prog X.w ć h' a o):Inv X pins σ ć { s with ς:=h',toks:=t' }:=by
 let g:=I.a0.fresh h;let i:∀b u,H b\u->b∉fp:=λb u e z=>by rw[(f b z).1]at e;ext e
 refine I.step (g':=s.gens) (d':=s.drawn) (ch:=fp) (λb d=>{(f b d).2.2.2.1,(f b d).2.1,(f b d).2.2.2.2.1,(f b d).2.2.2.2.2}) (λb o _ _ hc e _=>k b o hc e) (λb o _ _ hc e _=>{o.slots,k b o hc e})
  (λb o _ e n=>[aq (anl (ano ĉ h))]▸n) (λb o hc e=>{o,k b o hc e}) (λb l e=>[aq (ax e g)]▸e)
  (λb o u e=>[aq (ax e g)]▸e) (λb y e=>{#[],by rw[aq (ax e g),e];simp}) (λm t=>?_) (λb u e=>?_) I.bare
 .let[o,p,w,j,r]:=t;rwa[o,p,w,k _ o (λz=>(f _ z).2.1 Τ) j,r]
 .cases d:b=a
  .subst d;rw[aj]at e;ext e;rwa[new]
  .rw[aq d]at e;refine(I.a0 b u e).iV (λc v hc q=>k c v ?_ q) (λc q=>[aq (ax q g)]▸q) λc l q=>by rw[aq (ax q g)];rwa[q]
   rcases hc with z|z
   .rw[z];rwa[i b u e]
   .rwa[i c _ z]
end
namespace En
variable {prog:Program}{w:World}{A:Around}{E:Zt->Zu->Prop}{s:Zu}
theorem Ko {it:Zs}{fp:Zn}{P:η->Zt->ν}{St:η->Heap->ν}{old:Zt}{Q:Zl->Zu->ν}(D:Draws prog w A.in1 it fp n P St)(he:IsEnum s.ς a it z old)(WQ:St i s.ς)(vV:i<n)(yo:a≠it)(hef:a∉fp)(hQ:∀x h' H,P i x->IsEnumOut h' a it (z+ 1) x ↥s->St (i+ 1) h'->h'.get? ↥s\(Ω>>>.seq #[.τ z H,x])->(∀b o,b≠a->b≠it->s•b\o->h'.get? b\o)->Q (ι ↑↥s) { s with ς:=h',toks:=H+ 1 }):
 (prog<|>w) A (pyNext ?a) Q E s:=by
 let hT:s.TypeIs ?a Ã:={_,he,2};unfold pyNext;rwa[amC (ap9 (anL (name:=Ι.ofString ģ) hT F.slot_enumerate_next (anR F.slot_enumerate_next hT F.entry_enumerate_next ?_ (F.args_enumerate_next_1 _))))];let[T,g,d,ak3,os]:=s;show wpAny β (field ?a 2 >>=_) γ;rwa[amC (anB he Τ (x:=?it) Τ (amC (D.item i γ vV WQ λx j H hPx M h=>?_)))];replace h:Heap.SameBut it T j:=h;let r:IsEnum j a it z old:=(h.2 a yo).π he;show wpAny β (field ?a 3 >>=_) β {j,g,d,H,os};rwa[amC (anB r Τ (x:=rawInt z) Τ ?_)];show wpAny β (field ?a 4 >>=_) β {j,g,d,H,os};rwa[amC (anB r Τ (x:=.ε) Τ ?_)];show wpAny β (mkInt z >>=_) β {j,g,d,H,os};rwa[amC (wpAny_mkInt ?_)];show wpAny β (setField ?a 3 (rawInt (z+ 1)) >>=_) β {j,g,d,H+ 1,os};rwa[amC (aob r (by simp) λG t f=>?_)];replace f:Heap.SameBut a j G:=f;replace t:IsEnum G a it (z+ 1) old:=t;show wpAny β (setField ?a 4 .ε >>=_) β {G,g,d,H+ 1,os};rwa[amC (aob t (by simp) λl u e=>?_)];replace e:Heap.SameBut a G l:=e;replace u:IsEnum l a it (z+ 1) old:=u;show wpAny β (newTuple [.τ z H,x] >>=_) β {l,g,d,H+ 1,os};rwa[amC (wpAny_newTuple ?_)];let v:IsEnum (l.push (Ω>>>.seq #[.τ z H,x])) a it (z+ 1) old:=amJ _ u;generalize B:l.push (Ω>>>.seq #[.τ z H,x])=C at v;let Y:l.Ν.Γ=T.Ν.Γ:=by rw[e.1,f.1,h.1]
 let W:a<T.Ν.Γ:=am6 he;let Z:C.get? T.Ν.Γ\(Ω>>>.seq #[.τ z H,x]):=by rw[<-B,<-Y];rwa[am0 _ Τ]
 let U:∀b o,b≠a->b≠it->T.get? b\o->C.get? b\o:=λb o c X V=>by rw[<-B];rwa[amJ _ (e.extBut b o c (f.extBut b o c (h.extBut b o X V)))]
 let S:St (i+ 1) C:=D.frame γ M λb V o y=>by
  let c:b≠a:=λq=>hef (q ▸ V)
  rw[<-B];rwa[amJ _ (e.extBut b o c (f.extBut b o c y))]
 show wpAny β (Builtin.SmallTypes.ownedTupleIsFree ?a >>=_) β {C,g,d,H+ 1,os};rw[Y];clear B u e t f r h M Y l G j;rwa[amC ?_];unfold Builtin.SmallTypes.ownedTupleIsFree;rwa[amC (anB v Τ (x:=.ε) Τ (amL ?_))];simp only[aqi];rwa[amC (apV (amC (anB v Τ (x:=old) Τ (amC (aob v (by simp) λN L m=>?_)))))];replace m:Heap.SameBut a C N:=m;replace L:IsEnum N a it (z+ 1) x:=L;show wpAny β (Builtin.SmallTypes.ownedTupleHandOut ?a ?T.Ν.Γ >>=_) β {N,g,d,H+ 1,os};rwa[amC ?_];unfold Builtin.SmallTypes.ownedTupleHandOut;rwa[amC (aob L (by simp) λO J p=>?_)];replace p:Heap.SameBut a N O:=p;replace J:IsEnumOut O a it (z+ 1) x T.Ν.Γ:=J;rwa[aob J (by simp) λR I k=>?_]
 replace k:Heap.SameBut a O R:=k;replace I:IsEnumOut R a it (z+ 1) x T.Ν.Γ:=I;rwa[amC (aqk (amL {12,amL (hQ x R H hPx I ?_ ?_ ?_)}))]
 .exact D.frame γ S λb V o y=>by
   let c:b≠a:=λq=>hef (q ▸ V)
   rwa[k.extBut b o c (p.extBut b o c (m.extBut b o c y))]
 .rwa[k.extBut β (aoC W) (p.extBut β (aoC W) (m.extBut β (aoC W) Z))]
 .rwa[λb o c X V=>k.extBut b o c (p.extBut b o c (m.extBut b o c (U b o c X V)))]
def Up {T newId:ţ}{self a:Zt}{kw:θ (Ι×Zt)}(f:typeLookup (.type T) Ç=pure (ι (.builtin Ó)))(e:Bind.madeBy (.type T)=pure (ι newId))(c:(ι newId !=ι "object.__new__")=ρ):
 Meets (Builtin.«object.__init__» {[self,a],kw}) (λ_ R s=>s.TypeIs self T/\R (.ok (.ret .ε)) s):=by
 rwa[Meets.of_wp λprog w A R s d=>?_]
 let[g,b]:=d
 repeat (any_goals (first|assumption|wp_step))
 rwa[12,b]
def aby (a b:Zt):checkTypeCall Ã {[a],[(æ,b)]}=pure ():=by kernel_rfl
def abz (a b:Zt):checkBuiltinCall "enumerate.__new__" {[.type Ã,a],[(æ,b)]}=pure ():=by kernel_rfl
theorem abA (a b c:Zt):argsOk Ó {[a,b],[(æ,c)]}:=by
 unfold argsOk;rw[signature?_of (id:=Ó) (n:=['_','_','t','i','n','i','_','_']) (o:=['t','c','e','j','b','o']) (by kernel_rfl) F.owner_object]
 kernel_rfl
end En
section
variable {X:Cx}{pos:Pos}
abbrev TJ:=St->Hp->Zh->VK->Prop
def PJ (X:Cx)(c:Zr)(t:TJ):ν:=∀(a:θ (Zs×Obj))(s:Zu)(b:St)(H:Hp)(acc:Zh)(Q:VK),Inv X a b H s->t b H acc Q->X⁻¹ X.A (joinParts (tx acc) (evalEach c X.env)) ō X.xe s
def Kp:PJ X [] (λ b H acc Q=>@acc<=1000000/\Q (.str (tx acc)) H):=λa s b H acc Q I h=>joinParts_nil {.str (tx acc),H,I.tok _,{12},h.2} ([Kj]▸amM h.1 ⋯)
def jy {d:TE}{t:TJ}(n:PE X e d)(i:PJ X C t)(k:evalEach (e::C) X.env=eval e X.env::evalEach C X.env:=by rfl):
 PJ X (e::C) (λ b H acc Q=>d b H λv c=>∃l,v=.str (tx l)/\@acc+ @l<=1000000/\t b c (acc++l) Q):=by
 intro a s b H acc Q I h;rw[k];rwa[joinParts_cons (bx (n a s b H _ I h) λv j ζ=>?_)];let[x,c,f,r,l,m,g,q]:=ζ;subst m;let[o,Τ]:=r;erw[5]
 .rw[Kk,Kj,amG];rwa[amM g ⋯]
 .rw[Kk];rwa[i a j b c (acc++l) Q f q]
def A6 {b:đ}{t:TJ}(h:PJ X (e::b::C) t)(d:evalEach (e::b::C) X.env=eval e X.env::eval b X.env::evalEach C X.env:=by rfl):PE X (.JoinedStr (e::b::C) pos) (λ c H Q=>t c H [] Q):=by intro a s c H Q I q;rwa[JoinedStr_many ?_];have:=h a s c H [] Q I q;rw[d]at ω;rwa[ω]
def ve {d:TE}(j:PE X e d):PE X (.FormattedValue e (-1) ε pos) (λ c H Q=>d c H λv b=>∃n:ο,v=.τ n/\n.natAbs<10000000000/\Q (.str (tx (C0 n))) b):=by intro a s c H Q I h;rwa[FormattedValue_plain (bx (j a s c H _ I h) λv l ζ=>?_)];let[x,b,f,r,n,i,g,q]:=ζ;subst i;let[k,Τ]:=r;rwa[formatField_int_small (Kl g) ?_];rwa[.str (tx (C0 n)),b,f.tok _,{_,by rw[abu (toString n:Ι)];rfl},q]
abbrev tT:Zk:=[.type "ValueError",.type "Exception",.type "BaseException",.type "object"]
abbrev Oz (K:Za1) (C:Zs):Prop:=excIn K C tT "ValueError.__new__"=true
def Uq (XK:K.In h)(q:Oz K a):∃n N nm o bs k sn sub r col s C z E B D v,
 h.get? a=ι Ļ/\h.Ns N v/\v Ç=ε/\OwnTail h tT n:=by
 let g:excIn K a tT ä=ρ:=q;unfold excIn at g;split at g
 .rename_i s cls m j;split at g
  .rename_i F n w x y t nid u e b;simp only[an6,aqt,Μ.not_eq_true']at g;let[⟨⟨⟨⟨rfl,rfl⟩,d⟩,f⟩,i⟩,c]:=g;let[nm,bs,mro,A,o,hd,sn,sub,r,col,del]:=cls;dsimp only at e d i c;subst e d
   let p:m=#[w,x,y,t,ι (.builtin ä),u]:=by let⟨l⟩:=m;simp only at b;rw[b]
   subst p;rwa[n,A,nm,o,bs,hd,sn,sub,r,col,s,w,x,y,t,u,_,XK^j,.of_isNs ϸ,PySem.W.nsMap_none_of_in XK i c,PySem.W.tail_of_in XK f]
  .ext g
 .ext g
def Kq (C:Zs)(E:XK)(a:TE):TS:=λ_ c H=>a c H λ_ b=>E ?C ε b
theorem OB {E:XK}{G:TE}{g:Pos}(hc:X.calm=ρ)(T:œ)(hm:X.mg x\?a)(R:Oz X.K a)(he:PE X e G)(hx:∀(d:θ (Zs×Obj)) (k:St) (H:Hp) (s:Zu) (j:ċ) (c:Zs) (U:Zk),Inv X d k H s->Heap.MadeExcOf s.ς j c ?a U->E ?a ε H->X.xe ?c (s<*j))(M:starEach [e] X.env=[(χ,eval e X.env)]:=by rfl)(l:(x==(Ö:Ι))=χ:=by decide):
 PS X (.Raise (ι (.Call (.Name x p) [e] [] g)) ε pos) (Kq a E G):=by
 intro d s k H D I h;let[L,N,nm,S,bs,f,sn,sub,B,col,P,z,t,Q,w,A,C,W,V,Y,O]:=Uq I.ok.mod.pP R;let kp:∀{n H' u},Inv X d n H' u->∀b o,X.base.get? b\o->u•b\o:=λJ b o q=>(J.bs b o q).1
 refine wpAny_Raise_call_subT (C:=a) (nm:=nm) (q:=S) (N:=N) (bs:=bs) (bm:=L) (hdct:=f) (sn:=sn) (sub:=sub) (ab:=B) (col:=col) (dd:=P) (k0:=z) (k1:=t) (k2:=Q) (k3:=w) (k5:=A)
  F.excBase_ValueError (mN:=C) (O.hasType ⋯) (I.ok.hd hc) (by rw[M];rfl) Y (jv I T hm {25} l)
 rw[M];rwa[aoh (anO (bx (he d s k H _ I h) λv s1 ζ=>?_))];let[y,Z,i,r,q]:=ζ;rwa[aoq ?_];rwa[2,Za4 1,kp i β W,V.keeps (kp i),O.keeps (kp i),λj c m=>hx d k Z s1 j c _ i m q]
end
def cu.get {o:HO}(x:cu P w H h a o):∃u,h.get? a\u:=by
 cases o with
 |Ε c=>let[_,_,_,_,e]:=x;rwa[_,e]
 |Θ c=>let[_,_,_,ob,e,_]:=x;rwa[_,e]
 |dK b=>let[_,_,_,_,o,_,_,e,_]:=x;rwa[_,e]
 |dT b=>let[_,_,_,_,o,_,_,e,_]:=x;rwa[_,e]
 |set S n=>let[o,_,_,_,e,_]:=x;rwa[_,e]
 |ins C dx fs=>let[_,_,_,e,_]:=x;rwa[_,e]
 |own y=>exact x
 |xd fs=>let[_,⟨_,_,_,e,_⟩,_]:=x;rwa[_,e]
 |mF lo i=>let[_,_,_,e]:=x;rwa[_,e]
 |dz ob u=>let[e,_]:=x;rwa[_,e]
 |sI d=>rwa[_,show h.get? a=ι _ from x]
 |met f y=>rwa[_,show h.get? a=ι _ from x]
 |ext g=>let[_,e,_]:=x;rwa[e]
def OD (x C:Zs)(h:ċ):ν:=∃a b,h.get? x\a/\a.cls=?C/\a.data=.fields b
section
variable {X:Cx}{pins:List (Zs×Obj)}{σ:St}{x:Zs}{s:Zu}
def Inv.abB {s1:Zu}(I:Inv X pins σ H s1){b:Zs}(c:b∈bZ X.stack):∃o,s1•b\o/\∀a,o.data≠.fields a:=by let[_,o,e,n]:=I.stack.mem c;rwa[o,e,n]
abbrev Cx.C5 (X:Cx) (x:Zs):Cx:={ X with A:=X.A.mark (some ↑x),calm:=false,xe:=λ_ _=>False }
def Inv.C5 (I:Υ)(x:Zs):Inv (X.C5 x) pins σ H s:={{I.ok.mod,I.ok.kind,I.ok.glob,I.ok.blt,I.ok.above,I.ok.inj,I.ok.has,I.ok.Cw,(λz=>by ext z),I.ok.frames,I.ok.Gd,I.ok.Q0,I.ok.bs,I.ok.vQ,I.ok.wH,I.ok.zK,I.ok.kO,I.ok.yc},I.os,I.bare,I.base,I.loc,I.cell,I.free,I.iX,I.pin,I.a0,I.len}
def Inv.Cq (ok:X.Ok)(I:Inv (X.C5 x) pins σ H s):Inv X pins σ H s:={ok,I.os,I.bare,I.base,I.loc,I.cell,I.free,I.iX,I.pin,I.a0,I.len}
end
abbrev TH:=Ends->Zs->St->Hp->Prop
def OD.abC {M:Model}{x:Zs}(p:OD x a h):PySem.W.Looks M h (typeOf ?x) ?a:=by let[o,_,c,b,_]:=p;rwa[b ▸ (PySem.W.Looks.ld c).andThen .now]
section
variable {P:Program}{w:World}{K:Za1}{mg:Str->Zl}{base:Heap}
theorem yl.okN {h:qC}{qual:Ι}{st:Ž}{fd:Ă}{e:Zp}{k:η}{sp:Sp}(F:Ϛ)(S:aP Z e Ù)(len:∀c H Q E,sp c H Q E->@c=@e)(d:∀(b:Zt) (A:Ģ) (outer:Zq) (s:Zu) (H:Hp) (c:Zb) (Q:VK) (E:XK),dk k (A.deeper (envOfC qual Ù ↥s a b))->sp c H Q E->
  ∃t,iY (dP h P w K mg base Z qual Ù a b A outer s H E).CD õ t/\t { nx:=λ_ m=>Q .non m,rt:=Q } (start Z c) H):eG P w K mg base h (k+ 1) a fd e sp:=by
 let[o,q,kV,doc,pm,p,b,ct,n,Τ,lk,g]:=F.ex;rwa[HV lk g S len λA outer s H c Q E l f=>?_]
 let[t,j,i]:=d b A outer s H c Q E l f;rwa[t,j.CD,i]
end
def w6 (k:TT)(g:TE)(e:St)(Q:VK)(J:It)(h:Hp):ν:=∃W:η->η->Zb->Hp->ν,(∃m,W 0 m [] h)/\∀i m ys a,W i m ys a->
 (J.stop i a/\@ys<=sizeLine/\∀D,a D=ε->Q ?D (υ a D (.Ε ys)))\/
 (J.go i a/\@ys<sizeLine/\∀x f,J.sJ i a x f->k (ι x::e) f λb d=>match b with
  |ρ=>g (ι x::e) d λy j=>∃c,c<m/\W (i+ 1) c (ys++[y]) j
  |χ=>∃c,c<m/\W (i+ 1) c ys d)
def qG (b:TI)(e:St->St)(d:TT)(c:TE):TE:=λ a H Q=>b a H (w6 d c (e a) Q)
def mF (lo:ο)(n:η):Zg:=(~~~n).Α λi:η=>lo+ (i:ο)
def zY (lo:ο)(n:η):@(mF lo n)=n:=by unfold mF;cbv
def WR {lo:ο}(h:i<n):(mF lo n)[i]?\(lo+ (i:ο)):=by unfold mF;rw[amQ,an3 h];rfl
theorem C6:∀(zs:Zg)(us:Zk),@us=@zs->(∀(i:η)(z:ο)(u:Zt),zs[i]?\z->us[i]?\u->∃t,u=.τ z t)->Vals (ao zs) us
 |[],[],_,_=>.nil
 |z::zs,u::us,a,h=>.cons (h 0 z u Τ Τ) (C6 zs us (by simpa using a) λi z u c b=>h (i+ 1) z u c b)
 |[],_::_,a,_=>by simp at a
 |_::_,[],a,_=>by simp at a
def Ih {lo:ο}{acc:Zm}(h:ItemsOf (λi v=>∃t,v=Value.τ (lo + (i:ο)* 1) t) acc n):Vals (ao (mF lo n)) acc.toList:=by
 rwa[C6 β ?_ λi z u a b=>?_]
 .rw[zY,aoK];rwa[h.1]
 .let c:i<n:=by have:=(amF.mp a).1;rw[zY]at ω;rwa[ω]
  rw[WR c]at a;let[t,e]:=h.2 i u (by rw[<-aoT];rwa[b]);rwa[t,by rw[e,<-Za0 a,ο.mul_one]]
section
variable {X:Cx}{a:Expr}{ta:TA}{p p2 pos Ii:Pos}
def aeI (ta:TA):TE:=λ e H Q=>ta e H λd c=>∃j:η,d=[.τ j]/\j<=10000/\∀l,c l=ε->Q ?l (υ c l (.Ε (ao (mF 0 j))))
def list_range {Q:VK}{lo:ο}{t u v:Tok}(k:X.calm=ρ)(I:Ì)(A:0<=lo)(m:lo<=10000)(B:0<=z)(y:z<=10000)(q:∀l,H l=ε->Q ?l (υ H l (.Ε (ao (mF lo (z - lo).toNat))))):X⁻¹ X.A (call (.type À) [↑↥s]) (EP X o D Q) X.xe { s with ς:=s.ς.push (ą>>>.fields #[.τ lo t,.τ z u,.τ 1 v]),toks:=n }:=by
 let i:Inv X o D H { s with ς:=s.ς.push (ą>>>.fields #[.τ lo t,.τ z u,.τ 1 v]),toks:=n }:=I.kept λb c e=>amJ _ e
 let g:Builtin.Range.rangeSize lo z 1=(((z - lo).toNat:η):ο):=by rw[rangeSize_one];split <;> ext
 rwa[call_list_range (n:=(z - lo).toNat) (I.ok.hd k) (IsRange.new ..) (small_one ∅ ∅ ∅ ∅) g ∅ λx h f j kp w hit=>?_]
 rwa[↑_,_,i.laid (t':=h) (o:=.Ε (ao (mF lo (z - lo).toNat))) kp Φ {5,f.toList,j,Ih hit,5},2,q _ (i.a0.fresh Φ)]
 .rw[aD,zY];rwa[amM (show (z - lo).toNat<=10000 by omega) ⋯]
 ext
def BU (x:X.calm=ρ)(g:Gl X À)(f:X.mg À=ε)(k:Gl X ą)(v:X.mg ą=ε)(w:PA X [a] ta)(o:starEach [a] X.env=[(χ,eval a X.env)])(d:starEach [.Call (.Name ą p) [a] [] pos] X.env=[(χ,eval (.Call (.Name ą p) [a] [] pos) X.env)]):PE X (.Call (.Name À p2) [.Call (.Name ą p) [a] [] pos] [] Ii) (aeI ta):=by
 intro c s u H Q I h;rwa[aoa (iI I g f boot_list ?_)];rwa[anP ?_ d Τ];rw[d];show wpAny β (spliced ((χ,eval (.Call (.Name ą p) [a] [] pos) X.env)::backTo Ii [])) β s;rwa[anO ?_];rwa[Call_ (iI I k v boot_range (anP (bx (w pos c s u H _ I h) λB A ζ=>?_) o Τ))];let[y,z,l,i,m]:=ζ;let[j,e,C,q]:=m;subst e
 cases i with
 |cons r n=>ext n;let[t,Τ]:=r;rwa[call_range_1 (aoq ?_)];rwa[list_range x l ∅ ∅ ∅ ∅ (by simpa using q)]
end
def cJ (H:Hp)(rs:Zn)(rows:Za3):ν:=@rs=@rows/\∀(i:η)(r:Zs)(a:Zg),rs[i]?\r->rows[i]?\a->H r\(.Ε (ao a))
def TabAt (H:Hp)(a:Zs)(rows:Za3):ν:=∃rs:Zn,H a\.Ε Ĉ/\cJ H rs rows
def cJ.Δ {rs:Zn}{rows:Za3}(h:cJ H rs rows)(s:Đ):cJ I rs rows:={h.1,λi r ns b a=>s^h.2 i r ns b a}
def TabAt.Δ {rows:Za3}(h:TabAt H a rows)(s:Đ):TabAt I a rows:=by let[rs,c,b]:=h;rwa[rs,s^c,b.Δ s]
def Kr {rs:Zn}:∀{a:Zk},Vals Ĉ a->a=rs.Α Value.Η:=by
 induction rs with
 |nil=>intro a r;ext r;rfl
 |cons c rs b=>
  intro a r
  cases r with
  |cons e d=>ext e;rw[b d];rfl
section
variable {X:Cx}
inductive RB (xs:Zb)(H:Hp)(Q:VK):ν
 |mk (b:Μ):xs=[.bl b]->Q (.τ (if b=ρ then 1 else 0)) H->RB xs H Q
def Ks:iz X (.type ϟ) RB:=by intro a s f H e d Q I r h;let[b,Τ,q]:=h;let[u,Τ,c]:=vals1 r;ext c;rwa[call_int_bool {.τ _,H,I.tok _,{12},q}]
def j9 (h:X.K=K):Rl X (Og K):=by subst h;rwa[a9]
def sL (h:X.K=K):iz X (.builtin "len") (HZ K):=by subst h;rwa[aV]
end
def bO (H:Hp)(a:Zn)(ws:Za3):ν:=@a=@ws/\∀(i:η)(p:Zs)(w:Zg),a[i]?\p->ws[i]?\w->H p\(.Θ (ao w))
def bz (H:Hp)(a:Zs)(c:Za3):ν:=∃b:Zn,H a\.Ε (b.Α V.Η)/\bO H b c
def bO.keep {ws:Za3}(h:bO H F ws)(s:∀p a,H p\.Θ a->I p\.Θ a):bO I F ws:={h.1,λi p w c b=>s^h.2 i p w c b}
def bO.Δ {ws:Za3}(h:bO H F ws)(s:Đ):bO I F ws:=h.keep λp a e=>s^e
def bz.Δ {ws:Za3}(h:bz H a ws)(s:Đ):bz I a ws:=by let[b,d,c]:=h;rwa[b,s^d,c.Δ s]
def bO.snoc {ps:Zn}{ws:Za3}(h:bO H ps ws)(e:H a\.Θ (ao l)):bO H (ps++[a]) (ws++[l]):=by
 rwa[by rw[amG,amG,h.1];rfl,λi q u c b=>?_];cases d:i<@ps
 .rw[amP d]at c;rw[amP (by rw[<-h.1];rwa[d])]at b;rwa[h.2 i q u c b]
 .rw[amU ∅]at c;rw[amU (by rw[<-h.1];omega)]at b;rw[amI.mp (amD c),amI.mp ϙ];rwa[e]
def Kt (Q:Hp->Zb->ν)(f:η->ο):It:={(Gi Q).go,λi H x a=>∃p v,H p=ε/\(∀ys,Q H ys->ys[i]?\v)/\x=?p/\a=υ H p (.Θ [.τ (f i),v]),(Gi Q).stop}
abbrev aeJ (K:Za1) (a:Zs):It:=Kt (λH=>az K H a) Nat.cast
theorem Ur {elts:Zr}{x1:η}{tp:Pos}{Q:Hp->Zb->ν}{f:η->ο}{it:Zs}{tn:η->Heap->ν}(S:JL K Q b it tn)(hei:a≠it)(Y:∀i,f (i+ 1)=f i+ 1):
 Turn P w K (.Tuple elts x1 tp) (Kt Q f) [a,it] a (λi h=>(∃old,IsEnum h a it (f i) old)/\tn i h) where
 mem:=by simp
 obj:=λi h st c e=>by
  let[⟨old,g⟩,st]:=st;let[o,n,vs,_,_,_,_]:=S.ob i h st
  cbv
 keep:=λi h J st k=>by let[⟨old,g⟩,hl]:=st;rwa[{old,k a (by simp) _ g},S.kp γ hl λo a=>k it (by simp) o a]
 item:=by
  intro X Z U N hc i p s σ H E I r st C;subst Z U;let[⟨old,g⟩,j]:=st;let[xs,x,L,t]:=C;let[inj,l,oa,St,R,ha,B,D,_,O,h2]:=S.dr N hc I L j;let[u,hu,ru]:=R.get t;let hea:a≠b:=iJ g ha (an5 B);let M:a<↥s:=am6 g;let vW:i<@l:=(amF.mp hu).1;rwa[En.Ko D g O (by simp;omega) hei (by cbv) λy J tk W ho v m hk=>?_]
  obtain rfl:u=y:=by
   simp at W
   cbv
  rwa[12,wpAny_letOwnedTupleGo_enum ho λG T d=>?_]
  rwa[↑↥s,_,I.wZ (fp:=[a,it]) (a:=↥s) (o:=.Θ [.τ (f i),x]) (h':=G) (t':=tk+ 1) (λc ob e q=>?_) r Φ {Za4 2,[.τ (f i) tk,u],.cons {12} (.cons ru .nil),_,(d.2 _ (aoC M)).π m,212},2,{_,x,I.a0.fresh Φ,λys hy=>[inj ys hy]▸t,22},{{u,[Y]▸T},h2^(D.frame γ v λc e o q=>(d.2 c (by cbv)).π q)},λc e=>?_]
  .simp at e;rwa[(d.2 c e.1).π (hk c ob e.1 e.2 q)]
  .let[o2,_,_,h3,_]:=S.ob^j;have:=am6 h3;rw[aq (by cbv)];rwa[(r c e).1]
 done:=by intro X Z U N hc i p s σ H E I r st C;subst Z U;let[⟨old,g⟩,j]:=st;let[xs,L,t]:=C;let[_,l,_,_,R,_,_,D,_,O,_]:=S.dr N hc I L j;rwa[wpAny_pyNext_enum_endD D g (by rw[am4,<-@R,t];rwa[O]) λJ eb=>{2,I.lI (fp:=[a,it]) (t':=s.toks) (λc o e q=>eb c o (λz=>e (by simp[z])) q) r}]
 self:=λA i s Q E st h=>by let[⟨old,g⟩,_]:=st;let m:s.TypeIs ?a Ã:={_,g,2};rwa[wpAny_pyIter_slot m F.slot_enumerate_iter (anR F.slot_enumerate_iter m F.entry_enumerate_iter (amL {12,Ã,_,m,F.slot_enumerate_next.lookup,h}) (F.args_enumerate_iter_1 _))]
section
variable {X:Cx}
def Gy {R:It->Hp->ν}{elts:Zr}{Q:Hp->Zb->ν}{f:η->ο}{e:η->Heap->ν}{old:Zt}(I:Ì)(S:JL X.K Q a ↥s e)(k:∀i,f (i+ 1)=f i+ 1)(g:IsEnum h (↥s+ 1) ↥s (f 0) old)(d:e 0 h)(j:∀b c,s•b\c->h.get? b\c)(q:R (Kt Q f) H):X⁻¹ X.A (pyIter ↑(↥s+ 1)) (Q9 X o D (.Tuple elts n p) R) X.xe (s<*h):=by
 let T:=Ur (P:=X.prog) (w:=X.w) (elts:=elts) (x1:=n) (tp:=p) S (η.succ_ne_self _) k;rwa[T.self _ 0 γ {{_,g},d} {1111,H,2,I.kept (t':=s.toks) j,T,{{_,g},d},λb m=>?_,q}];have:↥s<=b:=by cbv
 rwa[I.zN ω (I.a0.fresh ω)]
def WT (K:Za1)(e:TA):TI:=λ f H R=>e f H λc b=>∃a,c=[?a]/\(∃d,az K b a d)/\R (aeJ K a) b
def xa [d:e9 X K]{a:đ}{g:TE}{elts:Zr}{z:η}{t p pos:Pos}(k:Gl X Ã)(w:X.mg Ã=ε)(x:PE X a g)(i:starEach [a] X.env=[(χ,eval a X.env)]:=by rfl):
 PI X (.Tuple elts z t) (.Call (.Name Ã p) [a] [] pos) (WT K (u0 g tO)):=by cases d.eq;intro b s v H R I h;rwa[Call_ (iI I k w boot_enumerate (anP (bx ((ae x ah i) pos b s v H _ I h) λJ G ζ=>?_) i Τ))];let[B,E,f,j,l,e,⟨F,n⟩,q]:=ζ;subst e;let[u,Τ,y]:=vals1 j;ext y;let[o,C,pl,D]:=f.list n;rwa[call_enumerate_list pl.isList λA c hit r m=>Gy f (wM l _) (λ_=>rfl) c hit m q]
end
def yq {g:TG}{e:TS}{Q:Hp->Zb->ν}{f:η->ο}{xs:Zb}(a:η->St->Hp->ν)(h:a 0 D H)(b:∀i D H,i<=@xs->a i D H->Q H xs)(k:∀i v D H p,xs[i]?\v->H p=ε->a i D H->g ?p D (υ H p (.Θ [.τ (f i),v])) λ d l=>e { G with nx:=a (i+ 1),ct:=a (i+ 1),bk:=G.nx } d l)(hd:∀ D H,a @xs D H->G.nx D H):tN (Kt Q f) g e G D H:=uY h (λi D H c p=>{{xs,xs[i],b i D H (aoI c) p,amB c},λx n y=>by let[r,v,j,m,Τ,Τ]:=y;rwa[k i v D H r (m xs (b i D _ (aoI c) p)) j p]}) λ D H p=>{{xs,b _ D H Φ p,2},hd D H p}
section
variable {X:Cx}
def OG {bs:θ Μ}(r:Vals (bs.Α V.bl) N):TruthOf P w A (λi v=>N.toArray[i]?\v) (λi=>bs.Λ i χ):=by
 intro i v s Q E g d;let a:N[i]?\v:=by simpa using g
 let j:i<@N:=(amF.mp a).1;let f:=@r;rw[amE]at f;let b:bs[i]?=ι bs[i]:=amB ∅
 let[u,c,h]:=r.get (i:=i) (x:=V.bl bs[i]) (by rw[amQ,b];rfl);rw[a]at c;ext c;ext h;let e:bs.Λ i χ=bs[i]:=by rw[amH,b];rfl
 rwa[ao0 (by rw[<-e];rwa[d])]
def OI (bs:θ Μ):(θ.range @bs).all (λi=>bs.Λ i χ)=bs.all id:=by
 conv=>rhs;rw[<-range_getD bs χ]
 rw[θ.all_map];rfl
def aeK (K:Za1):Zb->Hp->VK->ν:=λa H Q=>∃(p:Zs)(bs:θ Μ),a=[?p]/\az K H p (bs.Α V.bl)/\Q (.bl (bs.all id)) H
def OJ [g:e9 X K](y:X.calm=ρ):iz X (.builtin "all") (aeK K):=by
 cases g.eq;intro a s x H E F Q I r h;let[p,bs,Τ,v,q]:=h;let[u,Τ,w]:=vals1 r;ext w;let[f,j,pl,D]:=I.list v;let hlen:=@j;rw[amE]at hlen;let[G,d,l,B]:=id pl.isList;rwa[call_all_walk ?_];rwa[aoJ pl.isList ?_];let c:p≠↥s:=anl (am6 d);rwa[↥s,11111,λi=>bs.Λ i χ,2,Walks.list (A:=X.A.in1) (I.ok.hd y) ↥s p c f.toArray,{{_,am0 _ Τ,22},pl.isList.push _},OG j,λt k n=>?_]
 let m:Inv X a x H { s with ς:=t,toks:=k }:=I.kept (t':=k) λb o e=>n b o (λz=>by have:=amI.mp z;subst ω;rwa[absurd ĉ (aou _)]) ű
 rwa[.bl (bs.all id),H,m,5,q];show Value.bool _=Value.bool _;rw[am4,<-hlen,OI]
end
def Ku (K:Za1)(a b:Zs):It:={λi H=>∃xs x ys y,az K H a xs/\xs[i]?\x/\az K H b ys/\ys[i]?\y,λi H x c=>∃p v u,H p=ε/\(∀ys,az K H a ys->ys[i]?\v)/\(∀ys,az K H b ys->ys[i]?\u)/\x=?p/\c=υ H p (.Θ [v,u]),λi H=>∃xs ys,az K H a xs/\az K H b ys/\(@xs<=i\/@ys<=i)}
def Ij (z TI TO c d e f:Zs)(i:η)(h:ċ):ν:=IsZip h z TI TO .ε/\IsPair h TI ?c ?d/\(∃a b,IsPair h TO a b)/\h.IsListIter c e i/\h.IsListIter d f i
def A7 {o m:Obj}(j:h.get? b\o)(s:o.cls=.type À)(g:h.get? c\m)(r:m.cls=.type À)(st:Ij (a+ 4) (a+ 2) (a+ 3) a (a+ 1) b c i h):ZipApart (a+ 4) (a+ 2) (a+ 3) a (a+ 1) b c:=by
 let[n,q,⟨d,e,k⟩,⟨v,p,t,_⟩,⟨u,l,w,_⟩]:=st
 rwa[(λf=>by cbv),(λf=>by cbv),(λf=>by cbv),(λf=>by cbv),(λf=>by cbv),(λf=>by cbv),(λf=>by cbv),(λf=>by cbv),(λf=>by cbv),(λf=>by cbv),iJ j n (by cbv),iJ j k (by cbv),iJ j p (by cbv),iJ j l (by cbv),iJ g n (by cbv),iJ g k (by cbv),iJ g p (by cbv),iJ g l (by cbv)]
def OL {elts:Zr}{x1:η}{tp:Pos}(n a b:Zs):
 Turn P w K (.Tuple elts x1 tp) (Ku K a b) [n+ 4,n+ 2,n+ 3,n,n+ 1] (n+ 4) (Ij (n+ 4) (n+ 2) (n+ 3) n (n+ 1) a b) where
 mem:=by simp
 obj:=λi h st c L=>by
  let[r,f,⟨V,W,g⟩,⟨p1,g1,k1,d1⟩,⟨G,g2,k2,d2⟩]:=st
  cbv
 keep:=λi h h' st k=>by let[r,f,⟨V,W,g⟩,R,O]:=st;rwa[k _ (by simp) _ r,k _ (by simp) _ f,{V,W,k _ (by simp) _ g},R.at λo e=>k _ (by simp) o e,O.at λo e=>k _ (by simp) o e]
 item:=by
  intro X hP hw hK L i S s σ H E I Y st hg;subst hP hw hK;let[xs,x,ys,y,hq,hx,l,Z]:=hg;let[its,rv,p,hz1]:=I.list hq;let[u,hu,ru]:=rv.get hx;let[T,t,G,hz2]:=I.list l;let[u2,qH,ru2]:=t.get Z;let[o1,B,F,Kv]:=id p.isList;let[o2,z,v,hd2]:=id G.isList;let D:=A7 B F z v st;let[r,f,⟨V,W,g⟩,R,O]:=st;rwa[wpAny_pyNext_zip_item D r f g R O p.isList G.isList (x:=u) (y:=u2) (by simpa using hu) (by simpa using qH) λh' hz' M RC C7 hT' hsz hk=>?_]
  erw[12];rwa[wpAny_letOwnedTupleGo_zip hz' λj N d=>?_]
  let hnz:n+ 4<↥s:=am6 r;let WU:j.get? ↥s\(Ω>>>.seq #[u,u2]):=(d.2 _ (aoC hnz)).π hT'
  let hkk:∀b U,b∉[n+ 4,n+ 2,n+ 3,n,n+ 1]->s•b\U->j.get? b\U:=λb U m q=>by simp only[amW,anK,apb,not_or]at m;rwa[(d.2 b m.1).π (hk b U m.1 m.2.2.1 m.2.2.2.1 m.2.2.2.2 q)]
  let Kw:=I.a0.fresh (amK ↥s);let J:j.get? (n+ 2)\(Ω>>>.seq #[?n,↑(n+ 1)]):=(d.2 _ (λC=>by cbv)).π (hk β (λC=>by cbv) (λC=>by cbv) (λC=>by cbv) (λC=>by cbv) f);rwa[↑↥s,_,I.wZ (fp:=[n+ 4,n+ 2,n+ 3,n,n+ 1]) (a:=↥s) (o:=.Θ [x,y]) (h':=j) (t':=s.toks) hkk Y Φ ?_,2,{_,x,y,Kw,λys Z=>[I.wJ Z hq]▸hx,λzs RD=>[I.wJ RD l]▸Z,22},{N,J,{11,(d.2 _ (λC=>by cbv)).π M},RC.at λo e=>(d.2 _ (λC=>by cbv)).π e,C7.at λo e=>(d.2 _ (λC=>by cbv)).π e},λc L=>?_]
  .rwa[Za4 2,[u,u2],.cons ru (.cons ru2 .nil),_,WU,212]
  .rw[aq]
   .rwa[(Y c L).1]
   cbv
 done:=by
  intro X hP hw hK L i S s σ H E I Y st hg;subst hP hw hK;let[xs,ys,hq,l,ala]:=hg;let[its,rv,p,hz1]:=I.list hq;let[T,t,G,hz2]:=I.list l;let[o1,B,F,Kv]:=id p.isList;let[o2,z,v,hd2]:=id G.isList;let D:=A7 B F z v st;let[r,f,⟨V,W,g⟩,R,O]:=st;let RG:=@rv;let A8:=@t;rwa[wpAny_pyNext_zip_end (I.ok.hd L) D r f g R O p.isList G.isList ?_ λh' hk=>{2,I.lI (fp:=[n+ 4,n+ 2,n+ 3,n,n+ 1]) (t':=s.toks) (λb o m q=>?_) Y}]
  .cbv
  cbv
 self:=λA i s Q E st h=>wpAny_pyIter_zip st.1 h
section
variable {X:Cx}
def aeL (K:Za1)(f:TA):TI:=λ g H R=>f g H λe c=>∃a b,e=[?a,?b]/\(∃d,az K c a d)/\(∃d,az K c b d)/\R (Ku K a b) c
def WV {B:Za1}[o:e9 X B]{a b:đ}{A:TA}{elts:Zr}{y:η}{u p pos:Pos}(N:Gl X "zip")(hm:X.mg "zip"=ε)(ha:PA X [a,b] A)(hs:starEach [a,b] X.env=(χ,eval a X.env)::starEach [b] X.env)(v:((backTo pos (starEach [b] X.env)).any (·.1))=χ):PI X (.Tuple elts y u) (.Call (.Name "zip" p) [a,b] [] pos) (aeL B A):=by
 cases o.eq;intro d s D H R I h;rwa[Call_ (iI I N hm boot_zip (anP (bx (ha pos d s D H _ I h) λus s1 ζ=>?_) hs v))];let[vs,C,f,M,V]:=ζ;let[E,F,e,⟨xs,S⟩,⟨ys,z⟩,q]:=V;subst e
 cases M with
 |cons r n=>
  cases n with
  |cons L n=>
   ext n;ext r;ext L;let[U,rv,pl,hz]:=f.list S;let[G,Z,j,W]:=f.list z;rwa[call_zip_2 pl.isList j.isList λl x k t i m Y O=>?_]
   let Q:Inv X d D C (s1<*l):=f.kept (t':=s1.toks) O;let T:=OL (P:=X.prog) (w:=X.w) (K:=X.K) (elts:=elts) (x1:=y) (tp:=u) ↥s1 E F;let st:Ij (↥s1+ 4) (↥s1+ 2) (↥s1+ 3) ↥s1 (↥s1+ 1) E F 0 l:={x,k,{11,t},i,m};rwa[T.self _ 0 (s1<*l) β st {1111,C,2,Q,T,st,λc J=>?_,q}];simp only[amW,anK,apb]at J;let g:↥s1<=c:=by rcases J with rfl|rfl|rfl|rfl|rfl <;> first|rwa[η.le_add_right β]|rwa[amK _]
   rwa[f.zN g (f.a0.fresh g)]
end
def Us {xs ys:Zb}{g:TG}{n:TS}(c:η->St->Hp->ν)(t:@xs=@ys)(s:c 0 D H)(w:∀i D H,i<=@xs->c i D H->az K H a xs/\az K H b ys)(B:∀i v u D H p,xs[i]?\v->ys[i]?\u->H p=ε->c i D H->g ?p D (υ H p (.Θ [v,u])) λ f k=>n { G with nx:=c (i+ 1),ct:=c (i+ 1),bk:=G.nx } f k)(hd:∀ D H,c @xs D H->G.nx D H):
 ∃W:η->η->St->Hp->ν,(∃m,W 0 m D H)/\∀i m D H,W i m D H->
  ((Ku K a b).stop i H/\G.nx D H)\/((Ku K a b).go i H/\∃N:St->Hp->ν,(∀ d h,N d h->∃o,o<m/\W (i+ 1) o d h)/\∀x h,(Ku K a b).sJ i H x h->g x D h λ f k=>n { G with nx:=N,ct:=N,bk:=G.nx } f k):=by
 rwa[λi m D H=>m=@xs - i/\i<=@xs/\c i D H,{@xs,by simp,ani _,s},?_];rintro i m D H ⟨rfl,C,p⟩;let[q,l]:=w i D H C p;cases j:i<@xs
 .rwa[.Ζ {{xs,_,ys,_,q,amB j,l,amB (show i<@ys by omega)},c (i+ 1),λ d h F=>{@xs - (i+ 1),32,j,F},λx h y=>?_}];let[r,v,u,z,E,A,Τ,Τ]:=y;rwa[B i v u D H r (E xs q) (A ys l) z p]
 .let e:i=@xs:=∅
  subst e;rwa[.ψ {{xs,ys,q,l,.ψ Φ},hd D H p}]
namespace En
open AutoSeq1 (wpAny_loadPart')
def Ik (l:Zs)(items:Zm)(n:η)(dct:Zo)(m:ī)(k:ο)(u:Tok)(q:0<=k)(j:k<1000):
 Meets (Builtin.«enumerate.__new__» {[.type Ã,?l],[(æ,.τ k u)]}) (λ_ R s=>s•l\{ cls:=.type À,dict:=dct,data:=.seq items n,slots:=m }/\
  R (.ok (.ret (↑(s.ς.push (ñ>>>.fields #[?l,.τ 0 0])).Ν.Γ)))
    { s with ς:=(s.ς.push (ñ>>>.fields #[?l,.τ 0 0])).push (Ã>>>.fields #[.ε,.bool χ,↑↥s,rawInt k,.ε,.ε]) }):=
 .of_wp λf w A R s h=>by
  let[p,g,d,o,os]:=s;let[a,h]:=h;let i:=sub_enumerate;let r:=AutoSeq1.idx_int;let b:Heap.IsList (Shared.ς ⟨p,g,d,o,os⟩) l items:={_,a,2,n,2}
  let e:(!Builtin.SmallTypes.fitsIndex k)=χ:=by unfold Builtin.SmallTypes.fitsIndex;simp;ext
  wp_walk using apv a
  rwa[wpAny_stack_any λst=>amL ?_]
  split
  .rename_i c _ _ _ _ _;cases (c==Value.type Ã)
   .wp_walk using apv a,aoJ b
    rwa[12,h]
   .wp_walk using apv a,aoJ b
    rwa[12,h]
  .wp_walk using apv a,aoJ b
   rwa[12,h]
variable {prog:Program}{w:World}{A:Around}{E:Zt->Zu->Prop}{s:Zu}
theorem FD {items:Zm}{k:ο}{u:Tok}(S:s.ς.IsList a items)(M:0<=k)(t:k<1000)(h:∀p,IsEnum p (↥s+ 1) ↥s k .ε->p.IsListIter ↥s a 0->(∀b o,s•b\o->p.get? b\o)->Q ↑(↥s+ 1) (s<*p)):
 (prog<|>w) A (call (.type Ã) [?a] [(æ,.τ k u)]) Q E s:=by
 let[⟨Y,dct,U,N⟩,V,j,n,hd]:=S;replace j:Y=.type À:=j;replace hd:U=.seq items n:=hd;subst j hd;let ft:=F.called_enumerate;let[c,tl,L]:=ft.mro;let x:=ft.made;let I:=ft.sub;let P:=aby ?a (.τ k u);let v:=abz ?a (.τ k u);rwa[apX (codeAny_of_tree ?_)];show wpAny β (callAny (.type Ã) _) γ;rwa[amL {Code.quiet_builtin _ ⋯,aqb F.entry_type_call ?_}];rw[Around.under_plain (weight_type_call_type Ã [?a] [(æ,.τ k u)]) (units_type_call_type Ã [?a] [(æ,.τ k u)])];let h1:=ft.notType;let h2:=ft.canCreate
 repeat (any_goals (first|assumption|wp_step))
 rwa[apt (aoG ft.plain F.entry_enumerate_new (aps v (Ik a items n dct N k u M t prog w A.in1 (wants (λobj f=>f.TypeIs obj Ã/\Q obj f) E) s {V,5}))) λr f B=>?_]
 .let H:(s.ς.push (ñ>>>.fields #[?a,.τ 0 0])).Ν.Γ=↥s+ 1:=apj ..;show _/\_;rw[H]
  let J:IsEnum ((s.ς.push (ñ>>>.fields #[?a,.τ 0 0])).push (Ã>>>.fields #[.ε,.bool χ,↑↥s,rawInt k,.ε,.ε])) (↥s+ 1) ↥s k .ε:=by let q:=am0 (s.ς.push (ñ>>>.fields #[?a,.τ 0 0])) (o:=(Ã>>>.fields #[.ε,.bool χ,↑↥s,rawInt k,.ε,.ε])) rfl;rw[H]at q;rwa[q]
  rwa[{_,J,2},h _ J {_,amJ _ (am0 _ Τ),22} λb o y=>amJ _ (amJ _ y)]
 cases r with
 |error e=>exact B
 |ok W=>
  cases W with
  |ret obj=>
   let[G,D]:=B;let X:=ft.init.lookup;let O:=ft.init.bind obj;let C:=abA obj ?a (.τ k u);let z:(λ(_:Ģ)(R:Result->Zu->ν)(s:Zu)=>s.TypeIs obj Ã/\R (.ok (.ret .ε)) s) A.in1 (wants (λr i=>r=.ε/\Q obj i) E) f:={G,2,D};let Z:=Up (T:=Ã) (self:=obj) (a:=?a) (kw:=[(æ,.τ k u)]) ft.init.lookup ft.made ⋯
   repeat (any_goals (first|assumption|wp_step))
   rwa[apt (aoG ft.init.plain F.entry_object_init (ft.init.check δ _ _ _ _ G C (Z prog w A.in1 _ f z))) λm i g=>?_]
   cases m with
   |error e=>exact g
   |ok l=>
    cases l with
    |ret r=>
     let[Τ,D]:=g
     repeat (any_goals (first|assumption|wp_step))
    |_=>exact g.Κ
  |_=>exact B.Κ
end En
abbrev RH (K:Za1) (a:Zs) (n:Int):It:=Kt (λH=>az K H a) λi=>n+ i
def fj (h:ċ)(d:Zs)(b:Ŀ)(a:η):ν:=∃o,h.get? d\o/\o.ExactDict/\o.data=.dict b a
namespace Dk
variable {prog:Program}{w:World}{A:Around}{E:Zt->Zu->Prop}{s:Zu}{d:Zs}{es:Array DictEntry}{ep:Nat}
def typ (b:ð):s.TypeIs ?d ç:=let ⟨o,a,c,_⟩:=b;{o,a,c.1}
theorem iter (hd:(d==sysModules)=χ)(c:ð)(f:Q ↑↥s { s with ς:=s.ς.push (à>>>.fields #[?d,.τ 0 0,.τ es.Γ 0,.τ ep 0]) }):(prog<|>w) A (pyIter ?d) Q E s:=by let b:=typ c;let[o,e,g,a]:=c;rwa[wpAny_pyIter_slot b F.slot_dict_iter (anR F.slot_dict_iter b F.entry_dict_iter ?_ (F.args_dict_iter_1 _))];unfold Builtin.«dict.__iter__»;rwa[amC ?_];unfold Builtin.Dict.dictSlotNone;rwa[amC (apy b ?_)];show wpAny β (pure (Value.Η d)) β s;rwa[amL ?_];show wpAny β (Builtin.Dict.showsAll d >>=_) β s;unfold Builtin.Dict.showsAll;rw[amY ([hd]▸anz)];rwa[amC (amL (amC (apE e a (amC (wpAny_dictEpoch e a ?_)))))];rwa[amC (anw (amL {12,à,_,{_,am0 _ Τ,2},apn.lookup,by simpa [rawInt] using f}))]
theorem next {it:Zs}{Q:Zl->Zu->ν}(l:A.handled=ε)(hit:s.ς.IsKeyIter it d i es.Γ ep)(n:ð)(k:∀en g,es[i]?\en->g.IsKeyIter it d (i+ 1) es.Γ ep->Heap.SameBut it s.ς g->Q (ι en.key) (s<*g))(q:∀g,es[i]?=ε->Heap.ExtBut it s.ς g->Q ε (s<*g)):(prog<|>w) A (pyNext ?it) Q E s:=by
 let[o,f,r,hd]:=id hit;let[t,e,p,c]:=id n;unfold pyNext;rwa[amC (ap9 (anL (name:=Ι.ofString ģ) hit.typeIs apn (anR apn hit.typeIs F.entry_dict_keyiterator_next ?_ (F.args_dict_keyiterator_next_1 _))))];rwa[amC (amL (amC (amC ?_)))]
 first|rwa[amC (wpAny_typeNameOfWhole_keyiter hit.typeIs (amL ?_))]|rwa[amC (wpAny_typeNameOf_keyiter hit.typeIs (amL ?_))]
 rwa[amC (wpAny_fieldsOf f hd ?_)];let own:Builtin.Dict_items.ownsTuple à=χ:=⋯
 simp only[own,Μ.false_eq_true,aqq];show wpAny β (if (Value.Η d==Value.ε)=ρ then _ else _) β s;rw[amY (show ¬((Value.Η d==Value.ε)=ρ) from anz)];rwa[amC (amL (amC (apE e c ?_)))];rw[amY (by simp)];rwa[amC (amL (amC (wpAny_dictEpoch e c ?_)))];rw[amY (by simp)];rwa[amL ?_];rcases h:es[i]? with _|en <;> simp only[show ¬((i:ο)<0) from by ext,aqq,anb,h]
 all_goals
  rwa[amC ?_]
  first|rwa[amC (wpAny_typeNameOfWhole_keyiter hit.typeIs (amL ?_))]|rwa[amC (wpAny_typeNameOf_keyiter hit.typeIs (amL ?_))]
 .show wpAny β (setField ?it 0 .ε >>=_) β s;rwa[amC (aot f hd (by simp) ?_)];show wpAny β (newExc (.type Ġ) [] >>=_) γ;rwa[amC ?_];simp only[newExc,newTuple];rwa[amC (anw ?_ (by size_fits))];rwa[amC (m:=firstArgMember β) (aps (a:=Value.ε) (by first|rfl|(simp only[firstArgMember];rfl)) ?_)];rwa[anw ?_ (by size_fits)];simp only[raiseNew];rwa[amC (wpAny_handled ?_)];rw[show A.in1.handled=ε from l];rwa[amC (amL (wpAny_throw ?_))];rwa[amC (wpAny_isInstance (T:=Ġ) (b:=ρ) {_,am0 _ Τ,2} isSubtype_stop ?_)];rwa[amL (q _ h (((anW ..).extBut.push _).push _))]
 .rwa[amC (wpAny_isOneOf_keyiter hit.typeIs ?_)];show wpAny β (setField ?it 1 (rawInt ((i:ο)+ 1)) >>=_) β s;rwa[amC (aot f hd (by simp) ?_)]
  let j:(s.ς.update it (Obj.mapFields (·.setIfInBounds 1 (rawInt ((i:ο)+ 1))))).IsKeyIter it d (i+ 1) es.Γ ep:={_,anx _ f Ű,(apC ..).π r,by rw[anT hd];simp[rawInt]}
  rwa[amC (an9 ?_)];rwa[amC (wpAny_isOneOf_keyiter (s:={ s with ς:=s.ς.update it (Obj.mapFields (·.setIfInBounds 1 (rawInt ((i:ο)+ 1)))) }) j.typeIs ?_)];show wpAny β (pure (DictEntry.key _)) γ;rwa[amL (amL {12,amL (k β h j (anW ..))})]
def fj.at (x:fj h d es ep)(e:∀o,h.get? d\o->g.get? d\o):fj g d es ep:=let ⟨o,a,r⟩:=x;{o,e _ a,r}
def walks (m:A.handled=ε)(I:Zs)(k:d≠I):Walks prog w A I [I,d] [I] es.Γ (λi v=>∃c,es[i]?\c/\v=c.key) (λi h=>h.IsKeyIter I d i es.Γ ep/\fj h d es ep) where
 sub:=λb j=>by cbv
 frame:=λ_ _ _ st l=>{st.1.at λo e=>l I (by simp) o e,fj.at st.2 λo e=>l d (by simp) o e}
 item:=λi s Q E q st a=>next m st.1 st.2 (λc g e n f=>a _ g s.toks {c,e,2} {n,fj.at st.2 λo e=>f.extBut β k e} λb o j e=>f.extBut b o (λh=>j (by simp[h])) e) λg e=>by simp[q]at e
 done:=λs Q E st a=>next m st.1 st.2 (λc g e=>by simp at e) λp _ f=>a p s.toks λb o j e=>f b o (λh=>j (by simp[h])) e
 self:=λ_ _ _ _ st a=>wpAny_pyIter_keyiter st.1 a
theorem hint {Q:Μ->Zu->ν}(e:ð)(h:Q χ s):(prog<|>w) A (Builtin.θ.listLengthHint ?d) Q E s:=by
 unfold Builtin.θ.listLengthHint;rwa[amC (wpAny_specialOf (typ e) F.slot_dict_len.lookup ?_)];generalize c:("dict.__len__":String)=f
 wp_delta
 rw[show splitId f=ι (ç,"__len__") from by subst c;decide];subst c;rwa[amC (wpAny_isInstance (T:=ç) (b:=ρ) (typ e) (by rw[apN];kernel_rfl) ?_)];rwa[wpAny_ite_split (λa=>absurd a ⋯) (λ_=>?_)];rwa[wpAny_ite_split (λ_=>?_) (λa=>absurd ⋯ a)];rwa[amC (ao9 (T:=ç) (typ e) (amL h))]
theorem extend {R:Result->Zu->ν}(V:A.handled=ε)(hd:(d==sysModules)=χ)(y:ð)(hlen:es.Γ<=sizeLine)(S:Zs)(res:Zt)(n:η)(N:s•S\(À>>>.seq #[] n))(Y:∀g1 P c m,(∀b o,b≠S->s•b\o->g1.get? b\o)->g1.get? S\{ cls:=.type À,dict:=ε,data:=.seq c m,slots:=#[] }->ItemsOf (λi v=>∃M,es[i]?\M/\v=M.key) c es.Γ->R (.ok (.ret res)) { s with ς:=g1,toks:=P }):
 (prog<|>w) A.in1 (Builtin.θ.listExtendWith ?S ?d res)
  (λfin g=>match fin with|.done f=>R (.ok f) g|.again m=>m.quiet=ρ/\codeAny Ñ A m R g) (λe g=>R (.error e) g) s:=by
 let l:S≠d:=λe=>by
  let[o,L,hc,J]:=y
  cbv
 let H:d<↥s:=by let[o,L,_]:=y;rwa[am6 L]
 let z:S≠↥s:=anl (am6 N);let I:d≠↥s:=anl H;unfold Builtin.θ.listExtendWith;rwa[amC (ao9 (T:=ç) (typ y) ?_)];let Q:Builtin.θ.listSameRef ?S ?d=χ:=by simp[Builtin.θ.listSameRef,l]
 let O:(Value.type ç==Value.type À)=χ:=⋯
 let X:(Value.type ç==Value.type Ω)=χ:=⋯
 simp only[Q,O,X,Μ.or_false,Μ.false_eq_true,aqq];rwa[amC (iter hd y ?_)];let j:fj (s.ς.push (à>>>.fields #[?d,.τ 0 0,.τ es.Γ 0,.τ ep 0])) d es ep:=fj.at y λo e=>amJ _ e
 rwa[amC (an9 (hint (s:={ s with ς:=s.ς.push (à>>>.fields #[?d,.τ 0 0,.τ es.Γ 0,.τ ep 0]) }) j ?_))];let k:=amJ (à>>>.fields #[?d,.τ 0 0,.τ es.Γ 0,.τ ep 0]) N;let r:(s.ς.push (à>>>.fields #[?d,.τ 0 0,.τ es.Γ 0,.τ ep 0])).IsKeyIter ↥s d 0 es.Γ ep:={_,am0 _ Τ,22};let kp:∀b o,s•b\o->(s.ς.push (à>>>.fields #[?d,.τ 0 0,.τ es.Γ 0,.τ ep 0])).get? b\o:=λb o e=>amJ _ e
 change s.ς.push (à>>>.fields #[?d,.τ 0 0,.τ es.Γ 0,.τ ep 0])=x at k r kp j ⊢;rwa[wpAny_ite_split (λ_=>?_) (λB=>absurd ⋯ B)];rwa[amC (apV ?_)];rwa[amC ?_];show wpAny β (updateSeq S (·.push .ε) >>=λ_=>updateSeq S (·.pop)) _ _ _;rwa[amC (ao3 k Τ ?_)];let t:=anx (Obj.mapSeq (·.push Value.ε)) k rfl;rwa[ao3 (hz:=by seq_fits) t Τ ?_];let G:=anx (Obj.mapSeq (·.pop)) t rfl;let h:∀b o,b≠S->x.get? b\o->((x.update S (Obj.mapSeq (·.push Value.ε))).update S (Obj.mapSeq (·.pop))).get? b\o:=λb o p e=>(anH^an5 p).π ((anH^an5 p).π e)
 let W:=(walks (prog:=prog) (w:=w) (A:=A.in1) (d:=d) (es:=es) (ep:=ep) V ↥s I).toS
 let C:S∉[↥s,d]:=λa=>by
  rcases amW.mp a with e|a
  .rwa[z e]
  .rwa[l (amI.mp a)]
 rwa[amL {apF F.plain_extend_loop _,?_}];rwa[codeAny_extend_loopS W hlen S C res es.Γ 0 _ #[] _ Τ (ani _) {r.at λo e=>h _ o (an5 z) e,fj.at j λo e=>h _ o (an5 l) e} G (ItemsOf.nil _) λg c m q D u=>?_]
 rw[Moved.eq_with q];rwa[Y g.ς g.toks c m (λb o p e=>q.ς b o (λa=>?_) (h b o p (kp b o e))) D u];rcases amW.mp a with U|a
 .rwa[p U]
 .rwa[absurd ĉ (by rw[amI.mp a];rwa[aou _])]
def Kx {Q:Fin->Zu->ν}(g:s•a\(À>>>.seq #[]))(h:∀f c,f.get? a\(À>>>.seq #[] c)->(∀b o,b≠a->s•b\o->f.get? b\o)->(prog<|>w) A (Builtin.θ.listExtendWith ?a v .ε) Q E (s<*f)):(prog<|>w) A (Builtin.«list.__init__» ⟨[?a,v],[]⟩) Q E s:=by show wpAny β (do let old <-Builtin.θ.listItems ?a;Builtin.θ.listUpdate ?a (λ_=>#[]);letGo old.toList.reverse;Builtin.θ.listExtendWith ?a v .ε) _ _ s;rwa[amC ?_];unfold Builtin.θ.listItems;rwa[amC (apM g Τ (amL ?_))];show wpAny β (updateSeq a (λ_=>#[]) >>=λ_=>letGo (#[]:Zm).toList.reverse >>=λ_=>Builtin.θ.listExtendWith ?a v .ε) _ _ s;rwa[amC (ao3 g Τ (amC (aqk (h β (anx (Obj.mapSeq (λ_=>(#[]:Zm))) g Τ) λb o i e=>(anH^an5 i).π e))))]
def init {R:Result->Zu->ν}(z:A.handled=ε)(hd:(d==sysModules)=χ)(u:ð)(hlen:es.Γ<=sizeLine)(S:Zs)(B:s•S\(À>>>.seq #[]))(C:∀g1 l a g,(∀b o,b≠S->s•b\o->g1.get? b\o)->g1.get? S\{ cls:=.type À,dict:=ε,data:=.seq a g,slots:=#[] }->ItemsOf (λi v=>∃t,es[i]?\t/\v=t.key) a es.Γ->R (.ok (.ret .ε)) { s with ς:=g1,toks:=l }):
 (prog<|>w) A.in1 (Builtin.«list.__init__» ⟨[?S,?d],[]⟩)
  (λfin k=>match fin with|.done f=>R (.ok f) k|.again g=>g.quiet=ρ/\codeAny Ñ A g R k) (λe k=>R (.error e) k) s:=by
 let p:d≠S:=λe=>by
  let[o,D,F,q]:=u
  cbv
 rwa[Kx B λy c m h=>extend (s:=(s<*y)) z hd (fj.at u λo e=>h _ o p e) hlen S .ε _ m λg1 l a g x n j=>C g1 l a g (λb o r e=>x b o r (h b o r e)) n j]
theorem Ky (r:A.handled=ε)(hd:(d==sysModules)=χ)(t:ð)(hlen:es.Γ<=sizeLine)(p:∀g1 j a h,(∀b o,s•b\o->g1.get? b\o)->g1.get? ↥s\{ cls:=.type À,dict:=ε,data:=.seq a h,slots:=#[] }->ItemsOf (λi v=>∃l,es[i]?\l/\v=l.key) a es.Γ->Q ↑↥s { s with ς:=g1,toks:=j }):
 (prog<|>w) A (call (.type À) [?d]) Q E s:=by
 rwa[callType_codes (Q₁:=λobj c=>obj=↑↥s/\c={ s with ς:=s.ς.push (À>>>.seq #[]) }) F.called_list (F.typeCall_list_1 _) F.entry_list_init (code_list_new _ {22}) λobj c f=>?_]
 let[Τ,Τ]:=f;let n:(s.ς.push (À>>>.seq #[])).get? ↥s\(À>>>.seq #[]):=am0 _ rfl;rwa[{_,n,2},F.args_list_init_2 β,init (A:=A.in1) (s:={ s with ς:=s.ς.push (À>>>.seq #[]) }) r hd (fj.at t λo e=>amJ _ e) hlen _ n λg1 j a h q k g=>?_];rwa[2,p g1 j a h (λb o e=>q b o (anl ĉ) ű) k g]
end Dk
structure MDef (K:Za1)(C:Zs)(x q:Ι)(st:Ž)(ps:Zp)(f:Zs)(fd:Ă):ν where
 F:yl K x q st f fd
 m:Meth K C x f
 b:Binds K fd ps []
def tU:Zg->ο
 |[]=>0
 |z::r=>r.foldl (λm x=>if x > m then x else m) z
def C8 (h:l≠[]):tU (l++[z])=if z > tU l then z else tU l:=by
 cases l with
 |nil=>exact absurd Τ h
 |cons y r=>show (r++[z]).foldl (λm x=>if x > m then x else m) y=_;rw[ao6];rfl
section
variable {prog:Program}{w:World}{A:Around}{E:Zt->Zu->Prop}
theorem Kz {R:Result->Zu->ν}{it:Zs}{ns:Zg}(hh:A.in1.handled=ε)(hv:Vals (ao ns) N)(X:a≠it)(U:b≠it)(n2:b≠a):
 ∀(k i:η)(s:Zu)(old:Zm)(c:η),@N - i=k->i<=@N->s.ς.IsListIter it a i->s.ς.IsList a N.toArray->s•b\{ cls:=.type À,dict:=ε,data:=.seq old c,slots:=#[] }->
 ((i=0/\old=#[])\/(0<i/\∃t,old=#[.τ (tU (ns.take i)) t,.τ (tU (ns.take i)) t]))->
 (∀f C T,(ns=[]/\f=v\/ns≠[]/\∃t,f=.τ (tU ns) t)->(∀h o,h≠b->h≠it->s•h\o->C.get? h\o)->R (.ok (.ret f)) { s with ς:=C,toks:=T })->
 codeAny Ñ A (.builtin "max.loop" {[?it,.ε,?b],[(Ę,v)]}) R s:=by
 let O:@ns=@N:=by have:=@hv;rw[aD]at ω;rwa[ω]
 let W:=Walks.list (prog:=prog) (w:=w) (A:=A.in1) hh it a X N.toArray;let nm:(toString ό++toString ".loop":String)="max.loop":=⋯
 let l:∀h:Zs,h≠it->h∉[it]:=λh y z=>y (amI.mp z)
 intro k
 induction k with
 |zero=>
  intro i s old c hk m hit Z y hold J;let ei:i=@N:=∅
  rwa[aqb F.entry_max_loop ?_];rw[apK apd _];show wpAny _ A.in1 (seqItems? ?b >>=_) β s;rwa[amC (apM y Τ ?_)];show wpAny _ A.in1 (tryCatch (pyNext ?it) _ >>=_) β s;rwa[amC (wpAny_tryCatch (W.done s β {by cbv,Z} λC T kp=>?_))];let j:=kp b _ (l _ U) y;rcases hold with ⟨S,rfl⟩|⟨S,t,rfl⟩
  .let I:ns=[]:=aoF (by omega);show wpAny _ A.in1 (rule _ >>=_) γ;rwa[amC (apV ?_)];rwa[amL (J v C T (.ψ {I,2}) λh o _ m e=>kp h o (l _ m) e)]
  .let I:ns≠[]:=λz=>by rw[z]at O;simp at O;ext
   show wpAny _ A.in1 (updateSeq b (λ_=>#[]) >>=_) _ _ _;rwa[amC (ao3 j Τ (amC (aqk (amL ?_))))];rw[anE ∅];rwa[J γ (.Ζ {I,t,2}) λh o d m e=>(anH^an5 d).π ř]
 |succ k ih=>
  intro i s old c hk m hit Z y hold J;let vV:i<@N:=∅
  rwa[aqb F.entry_max_loop ?_];rw[apK apd _];show wpAny _ A.in1 (seqItems? ?b >>=_) β s;rwa[amC (apM y Τ ?_)];show wpAny _ A.in1 (tryCatch (pyNext ?it) _ >>=_) β s;rwa[amC (wpAny_tryCatch (W.item i s β ∅ {hit,Z} λf C T hP Y kp=>?_))];let[p,B]:=Y;let j:=kp b _ (l _ U) y;let G:ns[i]?\(ns[i]'∅):=amB ∅
  change ns[i]'∅=z at G;let[u,hu,ru]:=hv.get (i:=i) (x:=V.τ z) (bT G);let P:N[i]?\f:=by simpa using hP
  rw[hu]at P;let euv:u=f:=Za0 P;subst euv;let[r,Τ]:=ru;let D:ns.take (i+ 1)=ns.take i++[z]:=by rw[anD,G];rfl
  let H:∀(g:Zm->Zm)(h:Zs)(o:Obj),h≠b->C.get? h\o->(C.update b (Obj.mapSeq g)).get? h\o:=λg h o d e=>(anH^an5 d).π e
  rcases hold with ⟨S,rfl⟩|⟨S,t,rfl⟩
  .subst S;show wpAny _ A.in1 (updateSeq b (λ_=>#[.τ z r,.τ z r]) >>=_) _ _ _;rwa[amC (ao3 j Τ ?_)];rw[nm];rwa[amL {apF apd _,ih 1 γ ∅ ∅ (p.at λo e=>H γ (an5 U) e) (B.at λo e=>H γ (an5 n2) e) (anx _ j Τ) (.Ζ {4,r,5}) λf L n Q q=>J f L n Q λh o d m e=>q h o d m (H γ d ř)}];rw[D];rfl
  .let I:ns.take i≠[]:=λz=>by have:=an7 θ.Ξ z;rw[anc,ank]at ω;ext
   generalize hM:tU (ns.take i)=M at y;show wpAny _ A.in1 (tryCatch (holding [.τ z r,.τ z r] (richCompare .Gt (.τ z r) (.τ _ t) >>=_)) _ >>=_) γ;rwa[amC (wpAny_tryCatch (an9 (amC (richCompare_gives (op:=.Gt) (typeIs_int^r) (typeIs_int^t) F.slot_int_gt F.entry_int_gt (F.args_int_gt_2 β) (gives_int_gt β r t) (λx=>nomatch x) ?_))))];rwa[amC (an9 (ao0 ?_))];rwa[amC (aqk (amL ?_))]
   cases hc:decide (z > M) with
   |ρ=>simp only[aqi];rwa[amC (ao3 j Τ (amC (aqk ?_)))];rw[nm];rwa[amL {apF apd _,ih (i+ 1) γ ∅ ∅ (p.at λo e=>H γ (an5 U) e) (B.at λo e=>H γ (an5 n2) e) (anx _ j Τ) (.Ζ {3,r,5}) λf L n Q q=>J f L n Q λh o d m e=>q h o d m (H γ d ř)}];rw[D,C8 I,hM,am1 (ane hc)]
   |χ=>simp only[Μ.false_eq_true,aqq];rwa[amC (aqk ?_)];rw[nm];rwa[amL {apF apd _,ih (i+ 1) γ ∅ ∅ p B j (.Ζ {3,t,5}) λf L n Q q=>J f L n Q λh o d m e=>q h o d m ř}];rw[D,C8 I,hM,amY (of_decide_eq_false hc)]
def OO (a d:Zt):checkBuiltinCall ό {[a],[(Ę,d)]}=pure ():=by kernel_rfl
theorem KC (q:A.handled=ε)(r:Vals (ao l) N)(k:s.ς.IsList a N.toArray)(n:∀c d h,(l=[]/\c=v\/l≠[]/\∃t,c=.τ (tU l) t)->(∀b o,s•b\o->d.get? b\o)->Q c { s with ς:=d,toks:=h }):
 (prog<|>w) A (call (.builtin ό) [?a] [(Ę,v)]) Q E s:=by
 let nm:(toString ό++toString ".loop":String)="max.loop":=⋯
 rwa[apX (aoG F.plain_max F.entry_max (aps (OO β) ?_))];show wpAny _ A.in1 (Builtin.Builtins.bindParams ό ["key",Ę] 0 {[],[(Ę,v)]} >>=_) β s;rwa[amC (aps (show Builtin.Builtins.bindParams ό ["key",Ę] 0 {[],[(Ę,v)]}=pure [ε,ι v] from rfl) ?_)];rwa[amC (amL (amC (aoJ k ?_)))];let[x,g,m,u]:=id k;rwa[amC (anw ?_)];let f:=am6 g;let j:(s.ς.push (ñ>>>.fields #[?a,.τ 0 0])).Ν.Γ=↥s+ 1:=apj ..;let i:∀(b:Zs)(o:Obj),s•b\o->((s.ς.push (ñ>>>.fields #[?a,.τ 0 0])).push (À>>>.seq ([]:Zk).toArray)).get? b\o:=λb o e=>amJ _ ű
 rw[nm];rwa[amL {apF apd _,Kz (A:=A) q r (anl f) (by cbv) (by cbv) _ 0 _ #[] 0 Τ (ani _) {_,amJ _ (am0 _ Τ),22} ((k.push _).push _) (am0 _ Τ) (.ψ {22}) λc d h p kp=>?_}];rwa[n c d h p λb o e=>kp b o (anl (by show b<(s.ς.push (ñ>>>.fields #[?a,.τ 0 0])).Ν.Γ;rw[j];rwa[aof ĉ])) (anl ĉ) (i b o e)]
end
section
variable {X:Cx}
def abD (K:Za1)(d:TA):TE:=λ e H Q=>d e H λc a=>∃(l:Zs)(b:Zg),c=[?l]/\az K a l (ao b)/\Q (.τ (tU b)) a
def Ut [e:e9 X K]{a:đ}{k:TE}{p pos kp g:Pos}{j:η}(S:X.calm=ρ)(y:Gl X ό)(M:X.mg ό=ε)(O:PE X a k)(n:starEach [a] X.env=(χ,eval a X.env)::starEach [] X.env)(c:((backTo pos (starEach [a] X.env)).any (·.1) || (backToKw pos (keywordEach [⟨ι Ę,.Constant (.τ 0) j g,kp⟩] X.env)).any (·.1.isNone))=χ):
 PE X (.Call (.Name ό p) [a] [{ι Ę,.Constant (.τ 0) j g,kp}] pos) (abD K (u0 k tO)):=by
 cases e.eq;intro b s o H Q I h;rwa[aoa (iI I y M PyProof.Rows.boot_max ?_)];rwa[PySem.W.callWith_of (P:=λ_=>True) c (λ_ _=>{.machine,.Ζ (.ψ Τ),λ_ _ _ _ _ q=>amL q}) (evalArgs_kw2 Τ (bx ((ae O ah n) pos b s o H _ I h) λus J ζ=>?_) n)];let[V,m,z,r,q]:=ζ;rwa[bx ((Gp ak J0:PK X [{ι Ę,.Constant (.τ 0) j g,kp}] _) pos b J o m (λi f=>i=[.τ 0]/\f=m) z {22}) λY C ζ=>?_];let[i,f,d,L,N,E]:=ζ;rwa[True.intro,5]
 subst N E;let[l,x,Τ,B,q]:=q;let[u,Τ,R]:=vals1 r;ext R;let[W,Τ,w,Τ]:=vals1 L;let[D,F,pl,Z]:=d.list B;show wpAny β (call (.builtin ό) [?l] [(Ę,.τ 0 w)]) β C;rwa[KC (d.ok.hd S) F pl.isList λv U A G kp=>{.τ (tU x),f,d.kept (t':=A) kp,5,q}]
 rcases G with ⟨rfl,rfl⟩|⟨_,t,rfl⟩
 .rwa[_,Τ]
 .rwa[_,Τ]
end
theorem yr:∀{ns:Zg}{a:Zk},Vals (ao ns) a->∃b:θ (ο×Tok),a=b.Α (λp=>Value.τ p.1 p.2)/\b.Α (·.1)=ns
 |[],_,r=>by ext r;rwa[[],22]
 |z::ns,_,r=>by
  cases r with
  |cons r c=>let[t,Τ]:=r;let[b,Τ,e]:=yr (ns:=ns) c;rwa[(z,t)::b,2,by cbv]
def KD:typeLookup (.type À) "keys"=pure ε:=by rw[ap8,aoU];kernel_rfl
theorem OQ {m:Zm}{k:η}{Q:Zl->Zu->ν}(n:s•a\(À>>>.seq m k))(p:A.handled=ε)(h:∀i j,(∀b o,s•b\o->i.get? b\o)->Q ε { s with ς:=i,toks:=j }):
 (P<|>w) A (getAttr? ?a "keys") Q E s:=by
 let[q,g,d,j,os]:=s;let l:∀f,(⟨q,g,d,f,os⟩:Zu).TypeIs ?a À:=λ_=>{_,n,2}
 let t:=sub_AttributeError;let z:=F.slot_list_getattribute.lookup;let x:=F.slot_list_getattribute.bind ?a;let v:=am_list_getattr_none;unfold getAttr? getAttrBy? getAttrBy
 repeat (any_goals (first|assumption|rwa[l _]|((with_reducible show wpAny β (call (Value.builtin "list.__getattribute__") β) γ);rwa[ap0 F.slot_list_getattribute (l _) am_entry_list_getattribute (F.args_list_getattribute_2 β) (meets_getattribute_miss_list a m k #[] "keys" _ KD (by decide) (by decide)) {n,p,λi f e c=>?_}])|wp_step))
 let[r,u,y]:=c.there;show wpAny β (getattributeRaised δ _ _ _) γ;unfold getattributeRaised
 repeat (any_goals (first|assumption|wp_step))
 rwa[h^c.keeps]
def qI:entryFor table Ϥ=ι Builtin.«dict.update.loop»:=entryFor_of_fast (by kernel_rfl)
def jz:plainId Ϥ=ρ:=⋯
section
variable {prog:Program} {w:World} {K:Type} [DecidableEq K] {knd:KeyKind prog w K} {A:Around} {E:Zt->Zu->Prop}
def Il {R:Result->Zu->ν}{it l:Zs}{its:Zk}{rs:θ (K×Zt)}(hh:A.in1.handled=ε)(M:l≠it)(t:d≠it)(N:d≠l)(hlen:@its=@rs)(hsz:@rs<=sizeLine):
 ∀(k i:η)(s:Zu),@its - i=k->i<=@its->s.ς.IsListIter it l i->s.ς.IsList l its.toArray->s.ς.DictOf knd d (merged [] G1)->
 (∀(j:η)(u:Zt)(m:K×Zt),its[j]?\u->rs[j]?\m->∃p a,u=?p/\p≠d/\p≠it/\knd.is m.1 a=ρ/\IsTup s.ς p #[a,m.2])->
 (∀h I,h.DictOf knd d (merged [] rs)->(∀b o,b≠d->b≠it->s•b\o->h.get? b\o)->R (.ok (.ret .ε)) { s with ς:=h,toks:=I })->
 codeAny Ñ A (.builtin Ϥ {[?d,?it,rawInt (i:ο),.ε],[]}) R s:=by
 let W:=Walks.list (prog:=prog) (w:=w) (A:=A.in1) hh it l M its.toArray;let c:∀b:Zs,b≠it->b∉[it]:=λb f z=>f (amI.mp z)
 intro k
 induction k with
 |zero=>
  intro i s hk J hit Z hd X hR;let ei:i=@its:=∅
  rwa[aqb qI ?_];rw[apK jz _];show wpAny _ A.in1 (pyNext ?it >>=_) β s;rwa[amC (W.done s β {by cbv,Z} λh I kp=>?_)];show wpAny _ A.in1 (Builtin.Dict.addKeywords d [] >>=_) γ;rwa[amC (amL (amL ?_))];rw[anE ∅]at hd;let[od,x1,x2,D,q]:=id hd;rwa[hR h I {od,x1,x2,kp β (c _ t) D,q} λb o _ f e=>kp b o (c _ f) e]
 |succ k ih=>
  intro i s hk J hit Z hd X hR;let vV:i<@its:=∅
  rwa[aqb qI ?_];rw[apK jz _];show wpAny _ A.in1 (pyNext ?it >>=_) β s;rwa[amC (W.item i s β ∅ {hit,Z} λv h I hP O kp=>?_)];let[B,P]:=O;let Y:its[i]?\v:=by simpa using hP
  let x:rs[i]?\(rs[i]'∅):=amB ∅
  change rs[i]'∅=m at x;let[p,a,Τ,pd,pi,C,o,ho,hc,n,y]:=X i v m Y x;let F:=kp β (c _ pi) ho;let U:rs.take (i+ 1)=rs.take i++[m]:=by rw[anD,x];rfl
  let L:h.DictOf knd d (merged [] G1):=by let[od,x1,x2,D,q]:=id hd;rwa[od,x1,x2,kp β (c _ t) D,q]
  let hml:=merged_length_le ([]:θ (K×Zt)) G1
  let G:@(merged [] G1)<=sizeLine:=by rw[anc,ank]at hml;ext
  show wpAny _ A.in1 (holding [Value.Η p] _ >>=_) γ;rwa[amC (an9 ?_)];rwa[amC (wpAny_tryCatch ?_)];show wpAny _ A.in1 (typeOf (Value.Η p) >>=_) γ;rwa[amC (ao9 (T:=Ω) {o,F,hc} ?_)];rw[am1 ⋯];rwa[amC (apM F y ?_)];rwa[amL ?_];show wpAny _ A.in1 (holding [a,m.2] (dictSet d a m.2)) γ;rwa[an9 (wpAny_dictSet_pairs C L (λg Q sb=>?_) G)];let H:∀b o,b≠d->h.get? b\o->g.get? b\o:=λb o f e=>(sb.2 b f).π e
  rwa[amL {apF jz _,5}];let r:rawInt ((i:ο)+ 1)=rawInt (((i+ 1:η)):ο):=rfl;rw[r];rwa[ih (i+ 1) _ ∅ ∅ (B.at λo e=>H β (an5 t) e) (P.at λo e=>H β (an5 N) e) ?_ ?_ ?_]
  .rw[U,merged,ao6];rwa[Q]
  .intro j u kv2 D q;let[p,a,Τ,a1,a2,a3,o,b1,b2]:=X j u kv2 D q;rwa[p,a,2,a1,a2,a3,o,H β a1 (kp β (c _ a2) b1),b2]
  .intro q S KG V;rwa[hR q S KG λb o f J e=>V b o f J (H β f (kp β (c _ J) e))]
theorem zZ {rs:θ (K×Zt)}(J:A.handled=ε)(hlen:@N=@rs)(B:@rs<=sizeLine)(I:s•a\(À>>>.seq N.toArray n))(S:∀(j:η) (u:Zt) (r:K×Zt),N[j]?\u->rs[j]?\r->∃p d,u=?p/\knd.is r.1 d=ρ/\IsTup s.ς p #[d,r.2])(P:∀m H,m.DictOf knd ↥s (merged [] rs)->(∀b o,s•b\o->m.get? b\o)->Q ↑↥s { s with ς:=m,toks:=H }):
 (prog<|>w) A (call (.type ç) [?a]) Q E s:=by
 rwa[callType_codes (Q₁:=λobj f=>obj=↑↥s/\f={ s with ς:=s.ς.push (ç>>>.dict #[]) }) F.kt_called_dict (F.kt_typeCall_dict_1 _) F.entry_dict_init (kt_code_dict_new _ {22}) ?_];rintro obj f ⟨rfl,rfl⟩;let c:(s.ς.push (ç>>>.dict #[])).DictOf knd ↥s []:=Heap.DictOf.new s.ς;let h:(s.ς.push (ç>>>.dict #[])).get? a\(À>>>.seq N.toArray n):=amJ _ I;let t:=am6 I;erw[c.typeIs,F.args_dict_init_2 β];unfold Builtin.«dict.__init__»;rwa[amC ?_];unfold Builtin.Dict.selfAndRest;rwa[amC (apy c.typeIs ?_)];show wpAny β (pure (↥s,[Value.Η a])) γ;rwa[amL ?_];show wpAny β (Builtin.Dict.updateFrom "dict.__init__" ↥s ?a [] .ε) γ;unfold Builtin.Dict.updateFrom;rwa[amC (ao9 (T:=À) {_,h,2} ?_)];rw[am1 ⋯];rwa[amC (OQ h J λg H kp=>?_)];rw[am1 ⋯];rwa[amC (apV ?_)];let i:=kp^h;rwa[amC (aoJ (items:=N.toArray) {_,i,2,n,2} ?_)]
 let k:↥s<g.Ν.Γ:=by let[O,_,_,q,_]:=id c;rwa[am6 (kp^q)]
 let z:=am6 i;let M:∀b o,s•b\o->(g.push (ñ>>>.fields #[?a,.τ 0 0])).get? b\o:=λb o e=>amJ _ (kp^amJ _ e)
 rwa[amL {apF jz _,Il (knd:=knd) (A:=A.in1) (rs:=rs) (its:=N) (l:=a) (it:=g.Ν.Γ) J (anl z) (anl k) (aoC t) hlen B @N 0 _ Τ (ani _) ?_ {_,amJ _ i,2,n,2} ?_ ?_ ?_}]
 .rwa[_,am0 _ Τ,22]
 .let[O,W,V,q,v]:=id c;rwa[O,W,V,amJ _ (kp^q),v]
 .intro j u r q v;let[p,d,Τ,R,o,D,U]:=S j u r q v;let l:=am6 D;rwa[p,d,2,anl l,anl (ap1 l k),R,o,M^D,U]
 .intro m x C y;rwa[2,P m x C λb o e=>?_];let G:=am6 e;rwa[y b o (anl G) (anl (ap1 G k)) (M^e)]
end
section
variable {X:Cx}
inductive KH (xs:Zb)(H:Hp)(Q:VK):ν
 |mk (l:Zs)(ps:Zn)(kvs:θ (Key×V)):xs=[?l]->H l\.Ε (ps.Α V.Η)->@ps=@kvs->(∀(i:η)(p:Zs)(kv:Key×V),ps[i]?\p->kvs[i]?\kv->H p\.Θ [kV kv.1,kv.2])->(∀d,H d=ε->Q ?d (υ H d (.dK (jT [] kvs))))->KH xs H Q
def OS (ok:ê):∀(c:Zn)(a:θ (Key×V)),@c=@a->(∀(i:η)(p:Zs)(b:Key×V),c[i]?\p->a[i]?\b->H p\.Θ [kV b.1,b.2])->
 ∃k:θ (Key×Zt),KV a k/\∀(j:η)(p:Zs)(b:Key×Zt),c[j]?\p->k[j]?\b->∃e,(cf P w).is b.1 e=ρ/\IsTup h p #[e,b.2]:=by
 intro c
 induction c with
 |nil=>exact λa l _=>by cases a with|nil=>exact{[],.nil,λj p b d=>by simp at d}|cons=>ext l
 |cons p c y=>
  intro a l n
  cases a with
  |nil=>ext l
  |cons b a=>
   let[k,o,x]:=y a (by simpa using l) λi q b d g=>n (i+ 1) q b (by simpa using d) (by simpa using g)
   obtain⟨-,s,t,r⟩:=ok p _ (n 0 p b Τ Τ);let[u,v,Τ,z,m]:=vals2 t;rwa[(b.1,v)::k,.cons {2,m} o,λj q f d g=>?_]
   cases j with
   |zero=>
    obtain rfl:p=q:=by simpa using d
    obtain rfl:(b.1,v)=f:=by simpa using g
    rwa[u,kS z,r]
   |succ j=>exact x j q f (by simpa using d) (by simpa using g)
def yt (M:X.calm=ρ):iz X (.type ç) KH:=by
 intro m s P H O R Q I r h;let[l,k,a,Τ,C,hlen,B,q]:=h;let[u,Τ,D]:=vals1 r;ext D;let[A,y,c,z,v]:=I.a0 l _ C;obtain rfl:=Kr z;let[rs,i,G]:=OS I.a0 k a hlen B;let t:@a=@rs:=@i;rw[amE]at A;rwa[zZ (knd:=cf X.prog X.w) (rs:=rs) (I.ok.hd M) (by cbv) ∅ v (λj u E b o=>?_) λg w F kp=>?_]
 .rw[amQ]at b
  cases e:k[j]? with
  |ε=>rw[e]at b;ext b
  |ι p=>rw[e]at b;let[d,n,J]:=G j p E e o;rwa[p,d,(Za0 b).Β,n,J]
 .let L:KV (jT [] a) (merged [] rs):=KV.merge i .nil;let f:=mZ a [];rw[ank]at f;rwa[↑↥s,_,I.laid (t':=w) kp Φ (tS ∅ (anf.mpr (an5 (anl I.big))) L F),2,q _ Ï]
end
section
variable {X:Cx}{pins:List (Zs×Obj)}{σ:St}{H:Hp}{s:Zu}{d:Zs}{u:HO}{o:Obj}
def Inv.freeze (I:Υ)(e:H d\u)(mu:vP (ι u))(g:s•d\o):Inv X pins σ (υ H d (.dz o u)) s:=by
 let a:vP (H d):=by rw[e];rwa[mu]
 let b:∀c y,H c\.own y->c≠d:=λc y r z=>by subst z;rw[r]at a;rwa[a]
 let j7:∀c f,H c\.Θ f->c≠d:=λc f r z=>by subst z;rw[r]at a;rwa[a]
 let new:cu X.prog X.w (υ H d (.dz o u)) s.ς d u:=(I.a0 d u e).iV (λc v _ r=>r) (λc r=>[aq (b^r)]▸r) λc f r=>by rw[aq (j7^r)];rwa[r]
 rwa[lM (t':=s.toks) I a (Heap.SameBut.refl β) {o,g} {g,new}]
def Inv.Io (I:Υ)(e:H d\.dz o u)(mu:vP (ι u))(k:∀o u,X.wG d≠ι (.dz o u)):Inv X pins σ (υ H d u) s:=by
 let i:∀b,H b=ε->b≠d:=λb n z=>by cbv
 let g:∀c y,H c\.own y->c≠d:=λc y r z=>by cbv
 let j7:∀c h,H c\.Θ h->c≠d:=λc h r z=>by cbv
 rwa[I.ok,I.os,I.bare,{I.base.keep,I.base.slot,λb ob q n w=>?_,I.base.there,λb h q=>?_,λb ob v q=>?_,λb l q=>?_},I.loc,I.cell,5,λx c q=>?_,λp t=>?_,λb v q=>?_,I.len]
 .let f:=I.base.free b ob q n w;rw[aq (i b f)];rwa[f]
 .let f:=I.base.lG b h q;rw[aq (j7^f)];rwa[f]
 .let f:=I.base.j8 b ob v q;rw[aq (λz=>k ob v (by rw[<-z];rwa[q]))];rwa[f]
 .let[m,f]:=I.base.mY b l q;erw[m];rw[aq (λz=>by cbv)];rwa[f]
 .rw[aq (i _ I.free)];rwa[I.free]
 .let f:=I.iX x c q;rw[aq (i _ f)];rwa[f]
 .let[a,b,c]:=I.pin p t;rwa[a,5,c];rw[aq (i _ b)];rwa[b]
 .let st:∀b v,cu X.prog X.w H s.ς b v->cu X.prog X.w (υ H d u) s.ς b v:=λb v q=>q.iV (λc v _ r=>r) (λc r=>[aq (g^r)]▸r) λc h r=>by rw[aq (j7^r)];rwa[r]
  cases j:b=d
  .subst j;rw[aj]at q;obtain rfl:=Za0 q;rwa[st^(I.a0^e).2]
  .rw[aq j]at q;rwa[st^I.a0 b v q]
def Inv.OU (I:Υ)(e:H d\u)(mu:vP (ι u)):∀o u,X.wG d≠ι (.dz o u):=λo v q=>by rw[I.base.j8 d o v q]at e;ext e;rwa[mu]
def abE (t:TS):TS:=λD σ H=>∃(d:Zs)(u:HO),H d\u/\vP (ι u)/\
 t { nx:=λ b a=>∃o,a d\.dz o u/\D.nx b (υ a d u),rt:=λv a=>∃o,a d\.dz o u/\D.rt v (υ a d u),bk:=λ b a=>∃o,a d\.dz o u/\D.bk b (υ a d u),ct:=λ b a=>∃o,a d\.dz o u/\D.ct b (υ a d u) } σ H
def Gz {st:Ž}{t:TS}(h:PS X st t):PS X st (abE t):=by
 intro pins s σ H D I q;let[d,u,e,mu,q]:=q;let i:=I.OU e mu;rwa[bx (h pins s σ H _ I q) λf l p=>?_]
 cases f with
 |next=>let[a,j,b,o,c,g]:=p;rwa[a,_,b.Io c mu i,g]
 |brk=>let[a,j,b,o,c,g]:=p;rwa[a,_,b.Io c mu i,g]
 |cont=>let[a,j,b,o,c,g]:=p;rwa[a,_,b.Io c mu i,g]
 |ret v=>let[k,a,j,b,r,o,c,g]:=p;rwa[k,a,_,b.Io c mu i,r,g]
end
def RJ (d:Zs)(o:Obj)(u:HO)(n:η)(Y:η->Hp->V->Hp->ν):It:={λi H=>i<n/\H d\.dz o u,Y,λi H=>i=n/\H d\.dz o u}
abbrev WW (d:Zs) (o:Obj) (kvs:List (Key×V)):It:=RJ d o (.dK kvs) ⇑kvs λi H x H'=>H'=H/\∃kv,kvs[i]?\kv/\x=kV kv.1
theorem A9 {c b:Type}{R:c->b->ν}:∀{e:θ c}{ys:θ b},Paired R e ys->∀{i:η}{x:c}{y:b},e[i]?\x->ys[i]?\y->R x y
 |[],_,h,i,x,y,a,_=>by simp at a
 |k::f,_,h,i,x,y,a,d=>by
  cases h with
  |cons g j=>
   cases i with
   |zero=>rw[<-Za0 a,<-Za0 d];rwa[g]
   |succ i=>exact A9 j a d
def WX {it:Zs}{o:Obj}{u:HO}{b:Ŀ}{Y:η->Hp->V->Hp->ν}(A:∀(X:Cx) (H:Hp) (h:ċ),eI X.prog X.w H h->H d\.dz o u->fj h d b m/\b.Γ=n/\∀i f,b[i]?\f->∃x,RelV x f.key/\Y i H x H):Turn P w K e (RJ d o u n Y) [it] it (λi h=>h.IsKeyIter it d i b.Γ m):=
 JM (λi h ζ=>by let[o,a,c,d]:=ζ;rwa[o,11,a,c,d,4]) (λi h D st k=>st.at k) (λX l J H s i E C I st q=>by
  let[r,Τ,y]:=A X H s.ς I.a0 (q.Κ (·.2) (·.2));let[G,j,t,_]:=id r;let[F,p,z,_]:=id st
  rwa[1111,Dk.walks (I.ok.hd C) it (iJ j p (by rw[t.1,z];decide)),{st,r},λ_ _ h=>h.1,λg=>{g.1,λv B=>by let[f,j,Τ]:=B;rwa[y i f j]},λg=>g.1]) λ_ _ _ _ _ st h=>wpAny_pyIter_keyiter st h
def KJ {o:Obj}{a:θ (Zd×V)}{b:Ŀ}(I:ê)(hd:H d\.dz o (.dT a))(q:o.data=.dict b n):
 fj h d b n/\b.Γ=@a/\∀(i:η)(f:DictEntry),b[i]?\f->∃g p v,a[i]?\g/\f.key=?p/\H p\.Θ (g.1.Α kV)/\f.val=v/\RelV g.2 v:=by
 obtain⟨c,-,B,ys,j,F,D,A,m,u,s,l,E⟩:=I d _ hd;rw[c]at m;obtain rfl:=Za0 m;rw[q]at s;injection s with C x
 subst C x;let z:@a=@ys:=Paired.Ξ j;let y:b.Γ=@ys:=size_of_entries l;rwa[{_,c,u,q},y.π z.Β,λi f e=>?_];let t:i<@a:=by cbv
 let r:ys[i]?\(ys[i]'∅):=amB ∅
 rw[entry_at l,r]at e;obtain rfl:=Za0 e;let k:=A9 j (amB t) r;rwa[111,amB t,2,k.2.1,2,k.2.2]
def Uu {k:Key}(h:(cf P w).is k v=ρ):RelV (kV k) v:=by
 cases k with
 |ψ i=>
  let a:Value.isInt i v=ρ:=h
  cases v with
  |τ j t=>simp[Value.isInt]at a;subst a;rwa[12]
  |_=>simp[Value.isInt]at a
 |Ζ x=>
  let a:Value.isStrOf x v=ρ:=h
  cases v with
  |str j t=>simp[Value.isStrOf]at a;subst a;rwa[12]
  |_=>simp[Value.isStrOf]at a
section
variable {g:TG}{tb:TS}{D:Ends}{σ:St}{H:Hp}{d:Zs}{o:Obj}
def RK {u:HO}{Y:η->Hp->V->Hp->ν}{a:η->St->Hp->ν}(j:a 0 σ H)(e:∀i σ H,i<=n->a i σ H->H d\.dz o u)(k:∀i σ H x b,a i σ H->Y i H x b->g x σ b λ c h=>tb { D with nx:=a (i+ 1),ct:=a (i+ 1),bk:=D.nx } c h)(hd:∀ σ H,a n σ H->D.nx σ H):tN (RJ d o u n Y) g tb D σ H:=uY j (λi σ H f p=>{{f,e i σ H (aoI f) p},λx b=>k i σ H x b p}) λ σ H p=>{{2,e n σ H Φ p},hd σ H p}
end
inductive Dt where
 |i (n:ο)|s (l:Zh)|n|b (k:Μ)|t (xs:ſ)|l (xs:ſ)
inductive cy (H:Hp):η->V->Dt->ν where
 |i {k:η} {n:ο}:cy H k (.τ n) (.i n)
 |s {k:η} {l:Zh}:cy H k (.str (tx l)) (.s l)
 |n {k:η}:cy H k .non .n
 |b {k:η} {c:Μ}:cy H k (.bl c) (.b c)
 |t {k:η} {a:Zs} {vs:Zb} {ds:ſ}:H a\.Θ vs->@vs=@ds->(∀(j:η)(v:V)(d:Dt),vs[j]?\v->ds[j]?\d->cy H k v d)->cy H (k+ 1) ?a (.t ds)
 |l {k:η} {a:Zs} {vs:Zb} {ds:ſ}:H a\.Ε vs->@vs=@ds->(∀(j:η)(v:V)(d:Dt),vs[j]?\v->ds[j]?\d->cy H k v d)->cy H (k+ 1) ?a (.l ds)
def cy.keep (j:∀a e,H a\.Θ e->I a\.Θ e)(g:∀a e,H a\.Ε e->I a\.Ε e){k:η}{v:V}{d:Dt}(h:cy H k v d):cy I k v d:=by
 induction h with
 |i=>exact .i
 |s=>exact .s
 |n=>exact .n
 |b=>exact .b
 |t a b c f=>exact .t (j^a) b f
 |l a b c f=>exact .l (g^a) b f
def cy.Δ (s:Đ){k:η}{v:V}{d:Dt}(h:cy H k v d):cy I k v d:=h.keep (λ_ _ e=>s^e) (λ_ _ e=>s^e)
def cy.up {k:η}{d:Dt}(h:cy H k q d):cy H (k+ 1) q d:=by
 induction h with
 |i=>exact .i
 |s=>exact .s
 |n=>exact .n
 |b=>exact .b
 |t a b c e=>exact .t a b e
 |l a b c e=>exact .l a b e
def cy.le {k:η}{d:Dt}(h:cy H k q d)(a:k<=m):cy H m q d:=by
 let[j,Τ]:=η.exists_eq_add_of_le a;clear a
 induction j with
 |zero=>exact h
 |succ j b=>exact b.up
def nI (l:Zh):Zg:=l.Α λn:η=>(n:ο)
def cK (l:Zh):@(nI l)=@l:=amE ..
def kT (h:B[i]?\n):(nI B)[i]?\(n:ο):=by unfold nI;rw[amQ,h];rfl
def jU (a b:Zh):nI (a++b)=nI a++nI b:=am8 ..
def WY (l:Zh)(i n:η):(nI l).set i (n:ο)=nI (l.set i n):=by unfold nI;rw[ap2]
structure RS where
 L:η
 q:η
 rows:θ Dt
 ways:θ (θ (ο×η))
 gaps:Za3
 bj:Zh
 called:θ Zh
 bq:Zh
def wK (l:θ (ο×η)):θ (Key×V):=l.Α λp=>(Sum.ψ p.1,V.τ p.2)
def gK (l:Zg):θ (Key×V):=l.Α λs=>(Sum.ψ s,V.bl ρ)
def fW (l:θ (ο×η))(s:ο):Zi:=(l.find? λp=>decide (p.1=s)).Α (·.2)
def kX (l:θ (ο×η))(s:ο)(r:η):θ (ο×η):=if (l.any λp=>decide (p.1=s))=ρ then l.Α λp=>if p.1=s then (p.1,r) else p else l++[(s,r)]
def C9 (l:θ (ο×η)):@(wK l)=@l:=amE ..
def WZ (l:Zg):@(gK l)=@l:=amE ..
def W6 (a b:ο):decide ((Sum.ψ a:Key)=Sum.ψ b)=decide (a=b):=by rw[aoL,anU,anU];rwa[Sum.ψ.inj,an7 Sum.ψ]
theorem mK (s:ο):∀l:θ (ο×η),bG (wK l) Ò=(fW l s).Α λr:η=>V.τ (r:ο)
 |[]=>rfl
 |p::l=>by
  let b:=mK s l;cases h:p.1=s
  .let e:bG (wK (p::l)) Ò\(V.τ p.2):=cV (p:=(Sum.ψ p.1,V.τ p.2)) (by rw[h]);let a:fW (p::l) s\p.2:=by unfold fW;rw[aqg (by cbv)];rfl
   rw[e,a];rfl
  .let e:bG (wK (p::l)) Ò=bG (wK l) Ò:=cR (p:=(Sum.ψ p.1,V.τ p.2)) (λz=>h ŝ);let a:fW (p::l) s=fW l s:=by unfold fW;rw[apl (by simpa using h)]
   rw[e,a,b]
def Dc (l:θ (ο×η))(s:ο)(r:η):putK (wK l) Ò (.τ r)=wK (kX l s r):=by
 unfold putK kX
 let a:((wK l).any λb=>decide (b.1=Sum.ψ s))=l.any λp=>decide (p.1=s):=by
  unfold wK;rw[θ.any_map]
  congr 1
  funext p
  rwa[W6 β]
 rw[a];split
 .unfold wK;rw[anu,anu];rwa[an4 λp _=>?_]
  cbv
 .unfold wK;rw[am8];rfl
def OV (l:θ (ο×η))(s t:ο)(r:η):fW (kX l s r) t=if t=s then ι r else fW l t:=by
 let c:=mK t (kX l s r);rw[<-Dc,fJ,mK]at c
 let inj:∀a b:Zi,(a.Α λr:η=>V.τ (r:ο))=(b.Α λr:η=>V.τ (r:ο))->a=b:=λa b h=>by
  cases a <;> cases b <;> simp at h ⊢
  ext
 apply inj;rw[<-c];cases e:t=s
 .rw[am1 e,am1 (by rw[e])];rfl
 .rw[amY e,amY (λz=>e ŝ)]
def OW (l:θ (ο×η))(s:ο)(r:η):@(kX l s r)<=@l+ 1:=by
 unfold kX;split
 .rw[amE];ext
 .rw[amG];rwa[amK _]
def Uv (l:Zg)(s:ο):fP (gK l) Ò=gK (l.filter λx=>decide (x≠s)):=by
 unfold fP gK;rw[θ.filter_map]
 congr 1
 rwa[apG λx _=>?_]
 cbv
theorem KL (s:ο):∀l:Zg,bG (gK l) Ò=if s∈l then ι (V.bl ρ) else ε
 |[]=>rfl
 |x::l=>by
  cases h:x=s
  .rw[am1 (by cbv)];rwa[cV (p:=(Sum.ψ x,V.bl ρ)) (by rw[h])]
  .let e:bG (gK (x::l)) Ò=bG (gK l) Ò:=cR (p:=(Sum.ψ x,V.bl ρ)) (λz=>h ŝ);rw[e,KL s l]
   cbv
theorem Ba:∀(more acc:θ (Key×V)),((acc++more).Α (·.1)).Nodup->jT acc more=acc++more
 |[],acc,_=>(am9 _).Β
 |p::more,acc,h=>by
  let b:bG acc p.1=ε:=by unfold bG;rw[θ.find?_eq_none.mpr ?_];rfl;intro q a;rw[anU];intro e;rw[am8,anC]at h;rwa[h.2.2 q.1 (aoP a) p.1 (aoP amR) e]
  show jT (putK acc p.1 p.2) more=_;rw[lK _ b,Ba more (acc++[(p.1,p.2)]) ([ans]▸h),ans];rfl
structure RA where
 dx:Zs
 aR:Zs
 aW:Zs
 aG:Zs
 aE:Zs
 aC:Zs
 aN:Zs
 rs:Zn
 ws:Zn
 gs:Zn
 cs:Zn
def gG (L made:ο)(a:RA):θ (Ι×V):=[(É,.τ L),(Ć,.τ made),(ķ,?a.aR),(Ķ,?a.aW),("gaps",?a.aG),(ύ,?a.aE),(ώ,?a.aC),("went",?a.aN)]
def KN (L m n:ο)(a:RA):bJ Ć (.τ n) (gG L m a)=gG L n a:=by
 let h:¬((É:Ι)=Ć):=⋯
 unfold gG;simp only[bJ,amY h,aqi]
def yu (L m:ο)(a:RA):(gG L m a).lookup (É:Ι)\(.τ L):=by kernel_rfl
def vf (L m:ο)(a:RA):(gG L m a).lookup (Ć:Ι)\(.τ m):=by kernel_rfl
def vg (L m:ο)(a:RA):(gG L m a).lookup (ķ:Ι)\?a.aR:=by kernel_rfl
def jA (L m:ο)(a:RA):(gG L m a).lookup (Ķ:Ι)\?a.aW:=by kernel_rfl
def vh (L m:ο)(a:RA):(gG L m a).lookup ("gaps":Ι)\?a.aG:=by kernel_rfl
def km (L m:ο)(a:RA):(gG L m a).lookup (ύ:Ι)\?a.aE:=by kernel_rfl
def pT (L m:ο)(a:RA):(gG L m a).lookup (ώ:Ι)\?a.aC:=by kernel_rfl
def vi (L m:ο)(a:RA):(gG L m a).lookup ("went":Ι)\?a.aN:=by kernel_rfl
def cY (L m:ο)(a:RA){x:Ι}(h:x∉([É,Ć,ķ,Ķ,"gaps",ύ,ώ,"went"]:Zp)):(gG L m a).lookup x=ε:=by simp only[amW,anK,apb,not_or]at h;let[f,d,i,e,g,b,j,c]:=h;unfold gG;simp only[θ.lookup,anf.mpr f,anf.mpr d,anf.mpr i,anf.mpr e,anf.mpr g,anf.mpr b,anf.mpr j,anf.mpr c]
theorem eM:∀{fs:θ (Ι×V)},fs.lookup f=ε->bJ f q fs=fs++[(f,q)]
 |[],_=>rfl
 |(g,x)::r,h=>by
  cases e:g=f
  .cbv
  .let a:(f==g)=χ:=anf.mpr (an5 e);simp only[θ.lookup,a]at h;show (if g=f then _ else _)=_;rw[amY e,eM h];rfl
inductive oO:Dt->ν where
 |i {n:ο}:oO (.i n)
 |s {l:Zh}:oO (.s l)
 |t {ds:ſ}:@ds<=100000->(∀d∈ds,oO d)->oO (.t ds)
def cy.jB (q:∀a g,H a\.Θ g->I a\.Θ g){k:η}{v:V}{d:Dt}(h:cy H k v d)(m:oO d):cy I k v d:=by
 induction h with
 |i=>exact .i
 |s=>exact .s
 |n=>exact .n
 |b=>exact .b
 |t a b c e=>
  cases m with
  |t _ o=>exact .t (q^a) b λj v d p f=>e j v d p f (o d ŷ)
 |l a b c e=>ext m
def Each {a:Type}(R:Zs->a->ν)(b:Zn)(xs:θ a):ν:=@b=@xs/\∀(i:η)(p:Zs)(x:a),b[i]?\p->xs[i]?\x->R p x
def Each.Ρ {e:Type}{R c:Zs->e->ν}{a:θ e}(h:Each R F a)(f:∀p x,p∈F->x∈a->R p x->c p x):Each c F a:={h.1,λi p x d b=>f p x (amD d) ϙ (h.2 i p x d b)}
def Each.snoc {d:Type}{R:Zs->d->ν}{ps:Zn}{xs:θ d}{x:d}(h:Each R ps xs)(f:R a x):Each R (ps++[a]) (xs++[x]):=by
 rwa[by rw[amG,amG,h.1];rfl,λi q y c b=>?_];cases e:i<@ps
 .rw[amP e]at c;rw[amP (by rw[<-h.1];rwa[e])]at b;rwa[h.2 i q y c b]
 .rw[amU ∅]at c;rw[amU (by rw[<-h.1];omega)]at b;rw[amI.mp (amD c),amI.mp ϙ];rwa[f]
def Each.at {a:Type}{R:Zs->a->ν}{b:θ a}(h:Each R F b){i:η}{x:a}(d:b[i]?\x):∃p,F[i]?\p/\R p x:=by
 let c:i<@F:=by rw[h.1];rwa[(amF.mp d).1]
 rwa[_,amB c,h.2 i _ x (amB c) d]
def Each.mem {b:Type}{R:Zs->b->ν}{xs:θ b}(h:Each R F xs){p:Zs}(d:p∈F):∃x,x∈xs/\R p x:=by
 let[i,c]:=ant d;let a:i<@xs:=by rw[<-h.1];rwa[(amF.mp c).1]
 rwa[_,amD (amB a),h.2 i p _ c (amB a)]
theorem Each.set {g:Type}{R k:Zs->g->ν}{xs:θ g}{x:g}(h:Each R F xs)(d:F[i]?\a)(m:k a x)(n:F.Nodup)(f:∀q y,q∈F->q≠a->R q y->k q y):Each k F (xs.set i x):=by
 rwa[[am7]▸h.1,λj q y b c=>?_];cases e:i=j
 .subst e;rw[d]at b;obtain rfl:=Za0 b;let l:i<@xs:=by rw[<-h.1];rwa[(amF.mp d).1]
  rw[anv l]at c;obtain rfl:=Za0 c;rwa[m]
 .rw[anQ e]at c;rwa[f q y ϙ (λz=>?_) (h.2 j q y b c)];subst z;rwa[e ((apH (amF.mp d).1 n).mp (d.π b.Β))]
def RA.lists (a:RA):Zn:=a.aR::a.aW::a.aG::a.aE::a.aC::a.aN::a.cs
def RA.fy (a:RA):Zn:=a.ws++a.gs
def RA.own (a:RA)(r b:Zs):ν:=b=r\/b∈a.lists\/b∈a.fy
structure aB (C:Zs)(H:Hp)(r:Zs)(S:RS)(a:RA):ν where
 ins:H r\(.ins C a.dx (gG S.L S.q a))
 hR:H a.aR\(.Ε (a.rs.Α V.Η))
 hW:H a.aW\(.Ε (a.ws.Α V.Η))
 hG:H a.aG\(.Ε (a.gs.Α V.Η))
 hE:H a.aE\(.Ε (ao (nI S.bj)))
 hC:H a.aC\(.Ε (a.cs.Α V.Η))
 hN:H a.aN\(.Ε (ao Ŭ))
 rR:Each (λp d=>cy H 4 ?p d) a.rs S.rows
 rW:Each (λp l=>H p\.dK (wK l)) a.ws S.ways
 rG:Each (λp l=>H p\.dK (gK l)) a.gs S.gaps
 rC:Each (λp l=>H p\.Ε ϑ) a.cs S.called
 flat:∀d∈S.rows,oO d
 jN:a.lists.Nodup
 oP:a.fy.Nodup
variable {C:Zs}{H H':Hp}{r:Zs}{S:RS}{a:RA}
def aB.keep (h:Á)(k:∀b o,a.own r b->H b\o->H' b\o)(i:∀b f,H b\.Θ f->H' b\.Θ f):aB C H' r S a:=by
 let kl:∀b o,b∈a.lists->H b\o->H' b\o:=λb o d=>k b o (.Ζ (.ψ d))
 let g:∀b o,b∈a.fy->H b\o->H' b\o:=λb o d=>k b o (.Ζ (.Ζ d))
 rwa[k β (.ψ Τ) h.ins,kl β (by simp[RA.lists]) h.hR,kl β (by simp[RA.lists]) h.hW,kl β (by simp[RA.lists]) h.hG,kl β (by simp[RA.lists]) h.hE,kl β (by simp[RA.lists]) h.hC,kl β (by simp[RA.lists]) h.hN,h.rR.Ρ λp x _ j e=>e.jB i (h.flat x j),h.rW.Ρ λp x c _ e=>g β (amV _ c) e,h.rG.Ρ λp x c _ e=>g β (amN _ c) e,h.rC.Ρ λp x c _ e=>kl β (by simp[RA.lists,c]) e,h.flat,h.jN,h.oP]
def aB.Δ (h:Á)(s:au H H'):aB C H' r S a:=h.keep (λ_ _ _ e=>s^e) (λ_ _ e=>s^e)
def aB.there (h:Á){b:Zs}(c:a.own r b):∃o,H b\o:=by
 rcases c with rfl|c|c
 .rwa[_,h.ins]
 .unfold RA.lists at c;simp only[amW]at c;rcases c with rfl|rfl|rfl|rfl|rfl|rfl|c
  .rwa[_,h.hR]
  .rwa[_,h.hW]
  .rwa[_,h.hG]
  .rwa[_,h.hE]
  .rwa[_,h.hC]
  .rwa[_,h.hN]
  .let[x,_,e]:=h.rC.mem c;rwa[_,e]
 .rcases amO.mp c with c|c
  .let[x,_,e]:=h.rW.mem c;rwa[_,e]
  .let[x,_,e]:=h.rG.mem c;rwa[_,e]
def aB.vj (h:Á){b:Zs}{f:Zb}(e:H b\.Θ f):¬a.own r b:=λc=>by
 rcases c with rfl|c|c
 .rw[h.ins]at e;ext e
 .unfold RA.lists at c;simp only[amW]at c;rcases c with rfl|rfl|rfl|rfl|rfl|rfl|c
  .rw[h.hR]at e;ext e
  .rw[h.hW]at e;ext e
  .rw[h.hG]at e;ext e
  .rw[h.hE]at e;ext e
  .rw[h.hC]at e;ext e
  .rw[h.hN]at e;ext e
  .let[x,_,d]:=h.rC.mem c;cbv
 .rcases amO.mp c with c|c
  .let[x,_,d]:=h.rW.mem c;cbv
  .let[x,_,d]:=h.rG.mem c;cbv
end L2
variable {S T:L2.RS}{O:L2.RA}
namespace L2
section
variable {C:Zs}{H:Hp}{r:Zs}{S:RS}{a:RA}
def gP:a.aR∈a.lists:=by simp[RA.lists]
def gQ:a.aW∈a.lists:=by simp[RA.lists]
def j4:a.aG∈a.lists:=by simp[RA.lists]
def iB:a.aE∈a.lists:=by simp[RA.lists]
def jC:a.aC∈a.lists:=by simp[RA.lists]
def i3:a.aN∈a.lists:=by simp[RA.lists]
def hH (h:b∈a.cs):b∈a.lists:=by simp[RA.lists,h]
def dR (h:b∈a.ws):b∈a.fy:=amV _ h
def hJ (h:b∈a.gs):b∈a.fy:=amN _ h
def aB.RL (h:Á){b:Zs}(c:b∈a.lists):∃d,H b\(.Ε d):=by
 unfold RA.lists at c;simp only[amW]at c;rcases c with rfl|rfl|rfl|rfl|rfl|rfl|c
 .rwa[_,h.hR]
 .rwa[_,h.hW]
 .rwa[_,h.hG]
 .rwa[_,h.hE]
 .rwa[_,h.hC]
 .rwa[_,h.hN]
 .let[x,_,e]:=h.rC.mem c;rwa[_,e]
def aB.sM (h:Á){b:Zs}(c:b∈a.fy):∃d,H b\(.dK d):=by
 rcases amO.mp c with c|c
 .let[x,_,e]:=h.rW.mem c;rwa[_,e]
 .let[x,_,e]:=h.rG.mem c;rwa[_,e]
def aB.rl (h:Á){b:Zs}(c:b∈a.lists):r≠b:=by let[d,e]:=h.RL c;rwa[bF h.ins e (by cbv)]
def aB.rd (h:Á){b:Zs}(c:b∈a.fy):r≠b:=by let[d,e]:=h.sM c;rwa[bF h.ins e (by cbv)]
def aB.ld (h:Á){b c:Zs}(d:b∈a.lists)(hc:c∈a.fy):b≠c:=by
 let[f,e]:=h.RL d;let[ys,g]:=h.sM hc
 cbv
def aB.tl (h:Á){b c:Zs}{d:Zb}(e:H b\.Θ d)(hc:c∈a.lists):b≠c:=λz=>h.vj e (.Ζ (.ψ ([z]▸hc)))
def aB.td (h:Á){b c:Zs}{d:Zb}(e:H b\.Θ d)(hc:c∈a.fy):b≠c:=λz=>h.vj e (.Ζ (.Ζ ([z]▸hc)))
def aB.tr (h:Á){b:Zs}{c:Zb}(d:H b\.Θ c):b≠r:=λz=>h.vj d (.ψ z)
def aB.Uw (h:Á)(n:η):aB C (υ H r (.ins C a.dx (gG S.L n a))) r { S with q:=n } a:=by
 let kl:∀b o,b∈a.lists->H b\o->υ H r (.ins C a.dx (gG S.L n a)) b\o:=λb o d e=>by rw[aq (h.rl d).Β];rwa[e]
 let f:∀b o,b∈a.fy->H b\o->υ H r (.ins C a.dx (gG S.L n a)) b\o:=λb o d e=>by rw[aq (h.rd d).Β];rwa[e]
 rwa[aj,kl β gP h.hR,kl β gQ h.hW,kl β j4 h.hG,kl β iB h.hE,kl β jC h.hC,kl β i3 h.hN,h.rR.Ρ λp x _ i e=>e.jB (λb j g=>[aq (h.tr g)]▸g) (h.flat x i),h.rW.Ρ λp x c _ e=>f β (dR c) e,h.rG.Ρ λp x c _ e=>f β (hJ c) e,h.rC.Ρ λp x c _ e=>kl β (hH c) e,h.flat,h.jN,h.oP]
def aB.ko (h:Á){q:Zs}{o:HO}(c:q∈a.lists):υ H q o r\.ins C a.dx (gG S.L S.q a)/\(∀b x,b∈a.lists->b≠q->H b\x->υ H q o b\x)/\(∀b x,b∈a.fy->H b\x->υ H q o b\x)/\∀b d,H b\.Θ d->υ H q o b\(.Θ d):={[aq (h.rl c)]▸h.ins,λb x _ n e=>[aq n]▸e,λb x f e=>[aq (h.ld c f).Β]▸e,λb d e=>[aq (h.tl e c)]▸e}
def yw (b:a.lists.Nodup):(a.aR≠a.aW/\a.aR≠a.aG/\a.aR≠a.aE/\a.aR≠a.aC/\a.aR≠a.aN)/\(a.aW≠a.aG/\a.aW≠a.aE/\a.aW≠a.aC/\a.aW≠a.aN)/\(a.aG≠a.aE/\a.aG≠a.aC/\a.aG≠a.aN)/\(a.aE≠a.aC/\a.aE≠a.aN)/\a.aC≠a.aN/\∀p∈a.cs,p≠a.aR/\p≠a.aW/\p≠a.aG/\p≠a.aE/\p≠a.aC/\p≠a.aN:=by
 unfold RA.lists at b
 cbv
def aB.Dd (h:Á){p:Zs}{d:Dt}(i:cy H 4 ?p d)(hd:oO d):aB C (υ H a.aR (.Ε (a.rs.Α V.Η++[?p]))) r { S with rows:=S.rows++[d] } { a with rs:=a.rs++[p] }:=by
 let[l,kl,g,f]:=h.ko (o:=.Ε (a.rs.Α V.Η++[?p])) (gP (a:=a));obtain⟨⟨n1,n2,m,n,j⟩,-,-,-,-,k⟩:=yw h.jN
 rwa[l,5,kl β gQ n1.Β h.hW,kl β j4 n2.Β h.hG,kl β iB m.Β h.hE,kl β jC n.Β h.hC,kl β i3 j.Β h.hN,(h.rR.Ρ λq x _ c e=>e.jB f (h.flat x c)).snoc (i.jB f hd),h.rW.Ρ λq x b _ e=>g β (dR b) e,h.rG.Ρ λq x b _ e=>g β (hJ b) e,h.rC.Ρ λq x b _ e=>kl β (hH b) (k q b).1 e,λx c=>?_,h.jN,h.oP]
 .rw[aj,am8];rfl
 .rcases amO.mp c with c|c
  .rwa[h.flat x c]
  cbv
def aB.W7 (h:Á){p:Zs}{l:θ (ο×η)}(f:H p\.dK (wK l))(s:p∉a.fy):aB C (υ H a.aW (.Ε (a.ws.Α V.Η++[?p]))) r { S with ways:=S.ways++[l] } { a with ws:=a.ws++[p] }:=by
 let[i,kl,d,m]:=h.ko (o:=.Ε (a.ws.Α V.Η++[?p])) (gQ (a:=a));obtain⟨⟨n1,-⟩,⟨n2,j,k,g⟩,-,-,-,t⟩:=yw h.jN;let c:υ H a.aW (.Ε (a.ws.Α V.Η++[?p])) p\(.dK (wK l)):=by rw[aq (bF f h.hW f!"")];rwa[f]
 erw[i,kl β gP n1 h.hR,5,kl β j4 n2.Β h.hG,kl β iB j.Β h.hE,kl β jC k.Β h.hC,kl β i3 g.Β h.hN,h.rR.Ρ λq x _ n e=>e.jB m (h.flat x n),(h.rW.Ρ λq x b _ e=>d β (dR b) e).snoc c,h.rG.Ρ λq x b _ e=>d β (hJ b) e,h.rC.Ρ λq x b _ e=>kl β (hH b) (t q b).2.1 e,h.flat,h.jN]
 .show υ H a.aW _ a.aW\.Ε ((a.ws++[p]).Α V.Η);rw[aj,am8];rfl
 .show (a.ws++[p]++a.gs).Nodup;rw[ans];rwa[(θ.perm_middle.nodup_iff).mpr (anq.mpr {s,h.oP})]
def aB.W8 (h:Á){p:Zs}{l:Zg}(g:H p\.dK (gK l))(t:p∉a.fy):aB C (υ H a.aG (.Ε (a.gs.Α V.Η++[?p]))) r { S with gaps:=S.gaps++[l] } { a with gs:=a.gs++[p] }:=by
 let[j,kl,f,n]:=h.ko (o:=.Ε (a.gs.Α V.Η++[?p])) (j4 (a:=a));obtain⟨⟨-,n1,-⟩,⟨n2,-⟩,⟨k,m,i⟩,-,-,u⟩:=yw h.jN;let c:υ H a.aG (.Ε (a.gs.Α V.Η++[?p])) p\(.dK (gK l)):=by rw[aq (bF g h.hG (by cbv))];rwa[g]
 erw[j,kl β gP n1 h.hR,kl β gQ n2 h.hW,5,kl β iB k.Β h.hE,kl β jC m.Β h.hC,kl β i3 i.Β h.hN,h.rR.Ρ λq x _ d e=>e.jB n (h.flat x d),h.rW.Ρ λq x b _ e=>f β (dR b) e,(h.rG.Ρ λq x b _ e=>f β (hJ b) e).snoc c,h.rC.Ρ λq x b _ e=>kl β (hH b) (u q b).2.2.1 e,h.flat,h.jN]
 .rw[aj,am8];rfl
 .show (a.ws++(a.gs++[p])).Nodup;rw[<-ans];rwa[anC.mpr {h.oP,by simp,λx d y s z=>?_}];rw[amI.mp s]at z;rwa[t (z ▸ d)]
def aB.Bb (h:Á)(c:Zh):aB C (υ H a.aE (.Ε (ao (nI c)))) r { S with bj:=c } a:=by
 let[j,kl,d,f]:=h.ko (o:=.Ε (ao (nI c))) (iB (a:=a));obtain⟨⟨-,-,n1,-⟩,⟨-,n2,-⟩,⟨k,-⟩,⟨m,g⟩,-,i⟩:=yw h.jN
 rwa[j,kl β gP n1 h.hR,kl β gQ n2 h.hW,kl β j4 k h.hG,aj,kl β jC m.Β h.hC,kl β i3 g.Β h.hN,h.rR.Ρ λq x _ l e=>e.jB f (h.flat x l),h.rW.Ρ λq x b _ e=>d β (dR b) e,h.rG.Ρ λq x b _ e=>d β (hJ b) e,h.rC.Ρ λq x b _ e=>kl β (hH b) (i q b).2.2.2.1 e,h.flat,h.jN,h.oP]
def aB.Ux (h:Á)(c:Zh):aB C (υ H a.aN (.Ε (ao (nI c)))) r { S with bq:=c } a:=by
 let[j,kl,d,f]:=h.ko (o:=.Ε (ao (nI c))) (i3 (a:=a));obtain⟨⟨-,-,-,-,n1⟩,⟨-,-,-,n2⟩,⟨-,-,k⟩,⟨-,m⟩,g,i⟩:=yw h.jN
 rwa[j,kl β gP n1 h.hR,kl β gQ n2 h.hW,kl β j4 k h.hG,kl β iB m h.hE,kl β jC g h.hC,aj,h.rR.Ρ λq x _ l e=>e.jB f (h.flat x l),h.rW.Ρ λq x b _ e=>d β (dR b) e,h.rG.Ρ λq x b _ e=>d β (hJ b) e,h.rC.Ρ λq x b _ e=>kl β (hH b) (i q b).2.2.2.2.2 e,h.flat,h.jN,h.oP]
def aB.KP (h:Á){p:Zs}{l:Zh}(t:H p\.Ε ϑ)(i:p∉a.lists):aB C (υ H a.aC (.Ε (a.cs.Α V.Η++[?p]))) r { S with called:=S.called++[l] } { a with cs:=a.cs++[p] }:=by
 let[k,kl,g,s]:=h.ko (o:=.Ε (a.cs.Α V.Η++[?p])) (jC (a:=a));obtain⟨⟨-,-,-,n1,-⟩,⟨-,-,n2,-⟩,⟨-,m,-⟩,⟨n,-⟩,j,v⟩:=yw h.jN;let d:p≠a.aC:=λz=>i ([z]▸jC)
 let c:υ H a.aC (.Ε (a.cs.Α V.Η++[?p])) p\(.Ε ϑ):=by rw[aq d];rwa[t]
 rwa[k,kl β gP n1 h.hR,kl β gQ n2 h.hW,kl β j4 m h.hG,kl β iB n h.hE,5,kl β i3 j.Β h.hN,h.rR.Ρ λq x _ f e=>e.jB s (h.flat x f),h.rW.Ρ λq x b _ e=>g β (dR b) e,h.rG.Ρ λq x b _ e=>g β (hJ b) e,(h.rC.Ρ λq x b _ e=>kl β (hH b) (v q b).2.2.2.2.1 e).snoc c,h.flat,5,h.oP]
 .show υ H a.aC _ a.aC\.Ε ((a.cs++[p]).Α V.Η);rw[aj,am8];rfl
 .show (a.lists++[p]).Nodup;rwa[anC.mpr {h.jN,by simp,λx f y u z=>?_}];rw[amI.mp u]at z;rwa[i (z ▸ f)]
def aB.KQ (h:Á){i:η}{p:Zs}(f:a.cs[i]?\p)(l:Zh):aB C (υ H p (.Ε ϑ)) r { S with called:=S.called.set i l } a:=by
 let g:=amD f;let[k,kl,d,t]:=h.ko (o:=.Ε ϑ) (hH g);obtain⟨-,-,-,-,-,v⟩:=yw h.jN;let[n1,n2,m,s,j,n6]:=v p g
 let c:a.cs.Nodup:=by have:=h.jN;unfold RA.lists at ω;simp only[anq]at ω;rwa[ω.2.2.2.2.2.2]
 rwa[k,kl β gP n1.Β h.hR,kl β gQ n2.Β h.hW,kl β j4 m.Β h.hG,kl β iB s.Β h.hE,kl β jC j.Β h.hC,kl β i3 n6.Β h.hN,h.rR.Ρ λq x _ u e=>e.jB t (h.flat x u),h.rW.Ρ λq x b _ e=>d β (dR b) e,h.rG.Ρ λq x b _ e=>d β (hJ b) e,h.rC.set f aj c λq y b n e=>kl β (hH b) n e,h.flat,h.jN,h.oP]
def aB.GA (h:Á){q:Zs}{o:HO}(c:q∈a.fy):υ H q o r\.ins C a.dx (gG S.L S.q a)/\(∀b x,b∈a.fy->b≠q->H b\x->υ H q o b\x)/\(∀b x,b∈a.lists->H b\x->υ H q o b\x)/\∀b d,H b\.Θ d->υ H q o b\(.Θ d):={[aq (h.rd c)]▸h.ins,λb x _ n e=>[aq n]▸e,λb x f e=>[aq (h.ld f c)]▸e,λb d e=>[aq (h.td e c)]▸e}
def aB.De (h:Á){i:η}{p:Zs}(c:a.ws[i]?\p)(l:θ (ο×η)):aB C (υ H p (.dK (wK l))) r { S with ways:=S.ways.set i l } a:=by
 let d:=amD c;let[j,f,kl,g]:=h.GA (o:=.dK (wK l)) (dR d);let nd:=anC.mp h.oP
 rwa[j,kl β gP h.hR,kl β gQ h.hW,kl β j4 h.hG,kl β iB h.hE,kl β jC h.hC,kl β i3 h.hN,h.rR.Ρ λq x _ k e=>e.jB g (h.flat x k),h.rW.set c aj nd.1 λq y b n e=>f β (dR b) n e,h.rG.Ρ λq x b _ e=>f β (hJ b) (λz=>nd.2.2 p d q b z.Β) e,h.rC.Ρ λq x b _ e=>kl β (hH b) e,h.flat,h.jN,h.oP]
def aB.W9 (h:Á){i:η}{p:Zs}(c:a.gs[i]?\p)(l:Zg):aB C (υ H p (.dK (gK l))) r { S with gaps:=S.gaps.set i l } a:=by
 let d:=amD c;let[j,f,kl,g]:=h.GA (o:=.dK (gK l)) (hJ d);let nd:=anC.mp h.oP
 rwa[j,kl β gP h.hR,kl β gQ h.hW,kl β j4 h.hG,kl β iB h.hE,kl β jC h.hC,kl β i3 h.hN,h.rR.Ρ λq x _ k e=>e.jB g (h.flat x k),h.rW.Ρ λq x b _ e=>f β (dR b) (λz=>nd.2.2 q b p d z) e,h.rG.set c aj nd.2.1 λq y b n e=>f β (hJ b) n e,h.rC.Ρ λq x b _ e=>kl β (hH b) e,h.flat,h.jN,h.oP]
end
def RS.lP (S:RS)(i:η)(l:θ (ο×η)):RS:={ S with ways:=S.ways.set i l }
def RS.setG (S:RS)(i:η)(l:Zg):RS:={ S with gaps:=S.gaps.set i l }
def RS.way (S:RS)(c:η):θ (ο×η):=S.ways.Λ c []
def RS.gap (S:RS)(c:η):Zg:=S.gaps.Λ c []
def RS.by (S:RS)(c:η)(z:ο):Zi:=fW á z
def RS.cL (S:RS)(c:η)(z:ο)(d:η):RS:=S.lP c i0
def RS.nP (S:RS)(c:η)(z:ο):RS:=S.setG c ((S.gap c).filter λx=>decide (x≠z))
def RS.keep (S:RS)(c:η)(z:ο)(d:η):RS:=(((S.cL c z d).cL d (-z) c).nP c z).nP d (-z)
def tV (c:η)(z:ο)(n:η):Dt:=.t [.s [110,101,119],.i c,.i z,.i n]
def RS.grown (S:RS)(c:η)(z:ο)(gaps:Zg):RS:={ S with q:=S.q+ 1,rows:=S.rows++[tV c z S.q],ways:=S.ways++[[]],gaps:=S.gaps++[gaps],bj:=S.bj++[S.q],called:=S.called++[[S.q]] }
def RS.make (S:RS)(c:η)(z:ο)(gaps:Zg):RS:=(S.grown c z gaps).keep c z S.q
def RS.new (L:η)(gaps:Zg):RS:={L,(1),[],[[]],[gaps],[0],[[0]],[]}
structure RS.Wf (S:RS):ν where
 w:@S.ways=S.q
 g:@S.gaps=S.q
 e:@S.bj=S.q
 c:@S.called=S.q
section
variable {X:Cx}{e:Expr}{f:Str}{ta:TE}{pos:Pos}
def Uy (a:X.K=K)(b:PE X e ta)(c:attributeBase e f X.env ē=eval e X.env):PE X (.Attribute e f pos) (V1 K ta f):=by subst a;rwa[aJ b c]
end
def jf {J:It}{p:TE}{Q:VK}(n:η)(u:η->V)(R:Hp->V->η->ν)(G:∀r b v i,au r b->R r v i->R b v i)(q:n<=sizeLine)(l:∀(i:η) b,au H b->i<n->J.go i b)(C:∀(i:η) (x:V) (b d:Hp),au H b->i<n->J.sJ i b x d->d=b/\x=u i)(g:∀b,au H b->J.stop n b)(E:∀(i:η) (b:Hp) (y:VK),i<n->au H b->(∀v d,au b d->R d v i->y v d)->p (ι (u i)::D) b y)(z:∀a b ys,au H b->b a=ε->@ys=n->(∀(i:η) (v:V),ys[i]?\v->R b v i)->Q ?a (υ b a (.Ε ys))):qF p D Q J H:=by
 erw[λi m ys b=>m=n - i/\i<=n/\@ys=i/\au H b/\∀(j:η)(v:V),ys[j]?\v->R b v j,⟨n,by simp,ani _,2,λ_ _ e=>e,λj v h=>by simp at h⟩];rintro i m ys b ⟨rfl,M,s,s2,t⟩;cases c:i<n
 .rwa[.Ζ {l i b s2 c,3,λx d k=>?_}];let[Τ,Τ]:=C i x b d s2 c k;rwa[E i β c s2 λv L o F=>{n - (i+ 1),32,c,by rw[amG,s];rfl,s2.π o,λj w f=>?_}]
  cases I:j<@ys
  .rw[amP I]at f;rwa[G δ o (t j w f)]
  .rw[amU ∅]at f
   let B:j - @ys=0:=by have:=(amF.mp f).1;rw[aoc]at ω;ext
   rw[B]at f;have:j=i:=∅
   subst ω;rw[<-Za0 f];rwa[F]
 .let e:i=n:=∅
  subst e;rwa[.ψ {g b s2,3,λa A=>z a b ys s2 A s t}]
theorem z0 {P:η->Zs->ν}:∀(ys:Zb)(k:η),(∀(i:η)(v:V),ys[i]?\v->∃p,v=?p/\P (k+ i) p)->∃a:Zn,ys=a.Α V.Η/\∀(i:η)(p:Zs),a[i]?\p->P (k+ i) p
 |[],_,_=>{[],2,λi p h=>by simp at h}
 |v::ys,k,h=>by
  let[p,Τ,f]:=h 0 v rfl
  let[a,Τ,b]:=z0 (P:=P) ys (k+ 1) λi w c=>by
   let[q,e,d]:=h (i+ 1) w (by simpa using c)
   cbv
  rwa[p::a,2,λi q d=>?_]
  cases i with
  |zero=>cbv
  |succ i=>cbv
theorem kr {f:Ι}{v:V}{n:η}:∀{fs:θ (Ι×V)},@fs<=n->@(bJ f v fs)<=n+ 1
 |[],h=>by show 1<=n+ 1;ext
 |(g,x)::r,h=>by
  show @(if g=f then (g,v)::r else (g,x)::bJ f v r)<=n+ 1;rw[amT]at h;split
  .rw[amT];ext
  .have:=kr (f:=f) (v:=v) (n:=n - 1) (fs:=r) ∅;rw[amT];ext
def BV (K:Za1):kitOne K (.type ϟ) (.type Ω)\χ:=by first|rfl|kernel_rfl
def Df (K:Za1):kitOne K (.type ϟ) (.type À)\χ:=by first|rfl|kernel_rfl
def Dg (K:Za1):kitOne K (.type ϟ) (.type ç)\χ:=by first|rfl|kernel_rfl
def BW (K:Za1):kitOne K (.type "str") (.type Ω)\χ:=by first|rfl|kernel_rfl
def Dh (K:Za1):kitOne K (.type "str") (.type À)\χ:=by first|rfl|kernel_rfl
def Dj (K:Za1):kitOne K (.type "str") (.type ç)\χ:=by first|rfl|kernel_rfl
theorem tW:∀{d:θ DictEntry}{f:θ (Key×Zt)}{c:θ (Key×V)},Pairs (cf P w) d f->KV c f->Vals (c.Α λi=>kV i.1) (d.Α (·.key))
 |[],_,_,.nil,r=>by ext r;rwa[.nil]
 |e::d,_,_,.cons g j h,r=>by
  cases r with
  |cons a b=>rw[an0,an0];rwa[.cons ?_ (tW h b)];rw[a.1];rwa[Uu g]
theorem pairs_len:∀{b:θ DictEntry}{a:θ (Key×Zt)},Pairs (cf P w) b a->@b=@a
 |_,_,.nil=>rfl
 |_,_,.cons β h=>by rw[amT,amT,pairs_len h]
section
variable {X:Cx}
inductive KR (xs:Zb)(H:Hp)(Q:VK):ν
 |mk (d:Zs)(kvs:θ (Key×V)):xs=[?d]->H d\.dK kvs->(∀l,H l=ε->Q ?l (υ H l (.Ε (kvs.Α λkv=>kV kv.1))))->KR xs H Q
def kY (N:X.calm=ρ):iz X (.type À) KR:=by
 intro w s T H R W Q I r h;let[d,c,Τ,hd,q]:=h;let[u,Τ,F]:=vals1 r;ext F;let[B,n,z,rel,o,g,V,D,k,e,P,t,U]:=vd I.a0 hd;let hlen:@c=@z:=@rel;let m:=pairs_len t;let C:g.Γ=@c:=by rw[<-aoK,m,hlen]
 rwa[Dk.Ky (I.ok.hd N) n {o,D,k,e} ∅ λE y a x l f b=>?_]
 let M:a.toList=g.toList.Α (·.key):=by
  rwa[aox λi=>?_]
  rw[aoT,amQ,aoT]
  cases j:a[i]? with
  |ε=>
   let J:g.Γ<=i:=by let p:a.Γ<=i:=Array.getElem?_eq_none_iff.mp j;rw[b.1]at p;rwa[p]
   rw[Array.getElem?_eq_none J];rfl
  |ι v=>let[S,L,Τ]:=b.2 i v j;rw[L];rfl
 let A:a=(g.toList.Α (·.key)).toArray:=by rw[<-M]
 rw[A]at f;let j:=tW t rel;rwa[↑↥s,_,I.laid (t':=y) l Φ (show cu X.prog X.w _ E _ (.Ε (c.Α λG=>kV G.1)) from {[amE]▸B,_,x,j,f}),2,q _ Ï]
end
section
variable {C:Zs}{H:Hp}{r:Zs}{S:RS}{a:RA}
def aB.Xa (h:Á){i:η}(u:i<@a.ws){q:Zs}{l:θ (ο×η)}(d:H q\.dK (wK l))(v:q∉a.fy):aB C (υ H a.aW (.Ε ((a.ws.Α V.Η).set i ?q))) r { S with ways:=S.ways.set i l } { a with ws:=a.ws.set i q }:=by
 let[B,kl,m,F]:=h.ko (o:=.Ε ((a.ws.Α V.Η).set i ?q)) (gQ (a:=a));obtain⟨⟨n1,-⟩,⟨n2,D,E,A⟩,-,-,-,P⟩:=yw h.jN;let g:υ H a.aW (.Ε ((a.ws.Α V.Η).set i ?q)) q\(.dK (wK l)):=by rw[aq (bF d h.hW f!"")];rwa[d]
 let nd:=anC.mp h.oP
 erw[B,kl β gP n1 h.hR,5,kl β j4 n2.Β h.hG,kl β iB D.Β h.hE,kl β jC E.Β h.hC,kl β i3 A.Β h.hN,h.rR.Ρ λq x _ f e=>e.jB F (h.flat x f),5,h.rG.Ρ λq x d _ e=>m β (hJ d) e,h.rC.Ρ λq x d _ e=>kl β (hH d) (P q d).2.1 e,h.flat,h.jN]
 .show υ H a.aW _ a.aW\.Ε ((a.ws.set i q).Α V.Η);rw[aj,ap2]
 .rwa[by show @(a.ws.set i q)=@(S.ways.set i l);rw[am7,am7];rwa[h.rW.1],λj p x N J=>?_];let b:(a.ws.set i q)[j]?\p:=N
  let c:(S.ways.set i l)[j]?\x:=J
  cases z:i=j
  .subst z;rw[anv u]at b;rw[anv (by rw[<-h.rW.1];rwa[u])]at c;obtain rfl:=Za0 b;obtain rfl:=Za0 c;rwa[g]
  .rw[anQ z]at b c;rwa[m β (dR ϙ) (h.rW.2 j p x b c)]
 .show (a.ws.set i q++a.gs).Nodup;let L:q∉a.ws:=λz=>v (amV _ z)
  let n:q∉a.gs:=λz=>v (amN _ z)
  rwa[anC.mpr {5,nd.2.1,λx f y t z=>?_}]
  .have:∀(l:Zn)(i:η),l.Nodup->q∉l->(l.set i q).Nodup:=by
    intro l
    induction l with
    |nil=>intro i _ _;simp
    |cons x l O=>
     intro i G k;let[M,s]:=anq.mp G;let I:q≠x:=λz=>k ([z]▸amR)
     let w:q∉l:=λz=>k (amZ _ z)
     cases i with
     |zero=>exact anq.mpr {w,s}
     |succ i=>
      rwa[anq.mpr {λz=>?_,O i s w}];rcases aoX z with z|z
      .rwa[M z]
      .rwa[I z.Β]
   rwa[ω a.ws i nd.1 L]
  .rcases aoX f with f|f
   .rwa[nd.2.2 x f y t z]
   .rw[<-f,z]at n;rwa[n t]
end
def Uz (l:θ (ο×η))(s:ο):fP (wK l) Ò=wK (l.filter λp=>decide (p.1≠s)):=by
 unfold fP wK;rw[θ.filter_map]
 congr 1
 rwa[apG λx _=>?_]
 cbv
def KS (l:θ (ο×η))(s t:ο):fW (l.filter λp=>decide (p.1≠s)) t=if t=s then ε else fW l t:=by
 induction l with
 |nil=>split <;> rfl
 |cons p l a=>
  let b:∀(q:ο×η)(m:θ (ο×η)),fW (q::m) t=if q.1=t then ι q.2 else fW m t:=λq m=>by
   unfold fW
   cbv
  cbv
abbrev Way:=Nat×Int×Nat
abbrev Ze:=List Way
def RS.ay (S:RS)(c:η):η:=S.bj.Λ c 0
def RS.cM (S:RS)(c:η):Zh:=S.called.Λ c []
def iO (c:η)(z:ο)(x y:η):Dt:=.t [.s [109,101,101,116],.i c,.i z,.i x,.i y]
def RS.joined (S:RS)(c:η)(z:ο)(x y:η):RS:={ S with rows:=S.rows++[iO c z x y],bq:=S.bq++[y],bj:=(S.cM y).foldl (λa n=>a.set n x) S.bj,called:=S.called.set x (S.cM x++S.cM y) }
def RS.qJ (S:RS)(c:η)(z:ο):RS:=S.lP c ((S.way c).filter λp=>decide (p.1≠z))
def ku (c:η)(st:RS×Ze)(p:ο×η):RS×Ze:=(if p.2≠c then st.1.qJ p.2 (-p.1) else st.1,st.2++[(c,p.1,p.2)])
def RS.qK (S:RS)(c:η)(a:Ze):RS×Ze:=(S.way c).foldl (ku c) (S.lP c [],a)
def RS.meet (S:RS)(c:η)(z:ο)(x y:η)(a:Ze):RS×Ze:=(S.joined c z Ô Ψ).qK Ψ a
def RS.takeIn (S:RS)(a:Ze)(w:Way):RS×Ze:=
 if (S.by (S.ay w.1) w.2.1).Λ (S.ay w.2.2)≠S.ay w.2.2 then S.meet (S.ay w.1) w.2.1 ((S.by (S.ay w.1) w.2.1).Λ (S.ay w.2.2)) (S.ay w.2.2) a
 else if (S.by (S.ay w.2.2) (-w.2.1)).Λ (S.ay w.1)≠S.ay w.1 then S.meet (S.ay w.2.2) (-w.2.1) ((S.by (S.ay w.2.2) (-w.2.1)).Λ (S.ay w.1)) (S.ay w.1) a
 else (S.keep (S.ay w.1) w.2.1 (S.ay w.2.2),a)
structure Ip (S:RS)(c:η):ν where
 nd:((S.way c).Α (·.1)).Nodup
 lt:∀q∈S.way c,q.2<S.q
 bk:∀q∈S.way c,q.2≠c->(S.by q.2 (-q.1)).isSome=ρ
def ka {l:θ (ο×η)}(a:n<@S.ways):(S.lP n l).way m=if m=n then l else S.way m:=by
 unfold RS.lP RS.way;show (S.ways.set n l).Λ m []=_;rw[amH,amH];cases h:n=m
 .subst h;rw[anv a,am1 Τ];rfl
 .rw[anQ h,amY (an5 h)]
def kx (a:n<@S.ways):(S.cL n z i).by m y=if m=n/\y=z then ι i else S.by m y:=by
 unfold RS.cL RS.by;rw[ka a];cases h:m=n
 .subst h;rw[am1 Τ,OV]
  cbv
 cbv
def Iq (a:n<@S.ways):(S.qJ n z).by m y=if m=n/\y=z then ε else S.by m y:=by
 unfold RS.qJ RS.by;rw[ka a];cases h:m=n
 .subst h;rw[am1 Τ,KS]
  cbv
 .rw[amY h,amY (λq=>h q.1)]
def UA {l:θ (ο×η)}(a:n<@S.ways):(S.lP n l).by m z=if m=n then fW l z else S.by m z:=by unfold RS.by;rw[ka a];split <;> rfl
def dh (c:η)(S:RS)(a:Ze)(b:θ (ο×η)):RS×Ze:=b.foldl (ku c) (S.lP c [],a)
def jg (c:η)(S:RS)(a:Ze)(b:θ (ο×η))(p:ο×η):dh c S a (b++[p])=ku c (dh c S a b) p:=by unfold dh;cbv
def snoc_ind {b:Type}{P:θ b->ν}(f:P [])(d:∀l x,P l->P (l++[x])):∀l,P l:=λl=>by
 have:∀n (l:θ b),@l=n->P l:=by
  intro n
  induction n with
  |zero=>cbv
  |succ n c=>
   intro l e;let a:l≠[]:=λz=>by rw[z]at e;ext e
   rw[<-aos a];rwa[d^(c _ (by rw[θ.length_dropLast];omega))]
 rwa[ω _ l Τ]
def Bc (c:η)(S:RS)(a:Ze):∀b:θ (ο×η),(dh c S a b).2=a++b.Α λp=>(c,p.1,p.2):=by
 rwa[snoc_ind (by simp[dh]) λb p d=>?_]
 rw[jg];show (dh c S a b).2++_=_
 cbv
def iu (c:η)(S:RS)(a:Ze):∀b:θ (ο×η),(dh c S a b).1.ways.Ξ=@S.ways/\(dh c S a b).1={ S with ways:=(dh c S a b).1.ways }:=by
 rwa[snoc_ind {by simp[dh,RS.lP],2} λb p d=>?_]
 rw[jg];unfold ku;cases h:p.2≠c
 .simp only[h,aqi,ao7,ne_eq];erw[5]
  .show @(θ.set^_)=_;rw[am7];rwa[d.1]
  .unfold RS.qJ RS.lP;rw[d.2]
 .simp only[h,aqq];rwa[d]
def Aa {c:Ze}(m:n<@S.ways):∀f:θ (ο×η),(∀q∈f,q.2<@S.ways)->∀d z,(dh n S c f).1.by d z=if d=n\/∃q∈f,q.2=d/\z= -q.1 then ε else S.by d z:=by
 rwa[snoc_ind (λ_ d z=>?_) λf p l i d z=>?_]
 .show (S.lP n []).by d z=_;rw[UA m];cases h:d=n
  .rw[am1 h,am1 (.ψ h)];rfl
  .rw[amY h,amY (by rintro (q|⟨q,a,_⟩);rwa[h q];ext a)]
 .let g:=l (λq a=>i q (amV _ a)) d z;let j:=i p ħ;rw[jg];unfold ku;cases h:p.2≠n
  .simp only[h,aqi,ao7,ne_eq];rw[Iq ([(iu n S c f).1]▸j),g];cases e:d=p.2/\z= -p.1
   .rw[am1 e,am1 (.Ζ {p,amN _ amR,e.1.Β,e.2})]
   .rw[amY e];cases b:d=n\/∃q∈f,q.2=d/\z= -q.1
    .rw[am1 b,am1 (b.Ρ id λζ=>by let[q,a,r]:=ζ;rwa[q,amV _ a,r])]
    .rw[amY b,amY];rintro (q|⟨q,a,r⟩)
     .rwa[b (.ψ q)]
     .rcases amO.mp a with a|a
      .rwa[b (.Ζ {q,a,r})]
      .rw[amI.mp a]at r;rwa[e {r.1.Β,r.2}]
  .simp only[h,aqq];rw[g];let k:p.2=n:=apI.mp h;cases b:d=n\/∃q∈f,q.2=d/\z= -q.1
   .rw[am1 b,am1 (b.Ρ id λζ=>by let[q,a,r]:=ζ;rwa[q,amV _ a,r])]
   .rw[amY b,amY];rintro (q|⟨q,a,r⟩)
    .rwa[b (.ψ q)]
    .rcases amO.mp a with a|a
     .rwa[b (.Ζ {q,a,r})]
     .rw[amI.mp a]at r;rwa[b (.ψ (r.1.Β.π k))]
inductive Cg (R:Za2):η->η->ν where
 |refl (a:η):Cg R a a
 |Β {a b:η}:Cg R a b->Cg R b a
 |π {a b c:η}:Cg R a b->Cg R b c->Cg R a c
 |step {a a' b b':η} {z:ο}:R a z b->R a' z b'->Cg R a a'->Cg R b b'
def Cg.mono {e:Za2}(h:∀a z b,R a z b->e a z b){a b:η}(c:Cg R a b):Cg e a b:=by
 induction c with
 |refl=>exact .refl _
 |Β _ d=>exact .Β d
 |π _ _ f g=>exact .π f g
 |step r1 r2 _ d=>exact .step (h γ r1) (h γ r2) d
def Im (S:RS)(R:Za2)(c:η)(z:ο)(d:η):ν:=∃a b,R a z b/\S.ay a=c/\S.ay b=d
def Bd (S:RS)(a:Ze)(c:η)(z:ο)(d:η):ν:=S.by c z=ι d\/∃w∈a,(S.ay w.1=c/\w.2.1=z/\S.ay w.2.2=d)\/(S.ay w.1=d/\w.2.1= -z/\S.ay w.2.2=c)
structure Good (S:RS)(pend:Ze)(R:Za2):ν where
 wf:S.Wf
 el:∀c,c<S.q->S.ay c<=c/\S.ay ľ=S.ay c
 ca:∀e,e<S.q->S.ay e=e->∀c,c∈S.cM e↔c<S.q/\S.ay c=e
 cb:∀e c,c∈S.cM e->c<S.q
 cn:∀e,(S.cM e).Nodup
 kn:∀c,((S.way c).Α (·.1)).Nodup
 st:∀c z d,S.by c z=ι d->c<S.q/\d<S.q/\S.ay c=c/\S.ay d=d
 sy:∀c z d,S.by c z=ι d->S.by d (-z)=ι c
 pl:∀w∈pend,w.1<S.q/\w.2.2<S.q
 rl:∀c z d,R c z d->c<S.q/\d<S.q/\R d (-z) c
 cv:∀c z d,R c z d->Bd S pend ľ z (S.ay d)
 so:∀c z d,S.by c z=ι d->Im S R c z d
 sp:∀w∈pend,Im S R (S.ay w.1) w.2.1 (S.ay w.2.2)
 cg:∀c,c<S.q->Cg R c ľ
section
variable {S:RS}{pend:Ze}{R:Za2}
def Good.lt (h:ö){c:η}(hc:c<S.q):S.ay c<S.q:=amS (h.el c hc).1 hc
def Im.back (h:ö){c d:η}{z:ο}(i:Im S R c z d):Im S R d (-z) c:=by let[b,e,r,a,f]:=i;rwa[e,b,(h.rl γ r).2.2,f,a]
def Good.must (h:ö){c x y:η}{z:ο}(i:Im S R c z x)(j:Im S R c z y):Cg R x y:=by let[p,n,r1,e,l]:=i;let[m,o,r2,f1,d]:=j;let[g,l2,_]:=h.rl γ r1;let[k,f,_]:=h.rl γ r2;let a1:=h.cg _ g;let a2:=h.cg _ l2;let a:=h.cg _ k;let b:=h.cg _ f;rw[e]at a1;rw[l]at a2;rw[f1]at a;rw[d]at b;rwa[a2.Β.π ((Cg.step r1 r2 (a1.π a.Β)).π b)]
def Good.keep (h:ö){c d:η}{z:ο}(hc:c<S.q)(hd:d<S.q)(B:S.ay c=c)(ed:S.ay d=d)(i:Im S R c z d)(I:S.by c z=ε\/S.by c z=ι d)(G:S.by d (-z)=ε\/S.by d (-z)=ι c){f:Ze}(v:∀w∈f,w∈pend)(A:∀w∈pend,w∉f->S.ay w.1=c/\w.2.1=z/\S.ay w.2.2=d):Good (S.keep c z d) f R:=by
 let o:c<@S.ways:=by rw[h.wf.w];rwa[hc]
 let n:d<@S.ways:=by rw[h.wf.w];rwa[hd]
 let k:∀a s,(S.keep c z d).by a s=if a=d/\s= -z then ι c else if a=c/\s=z then ι d else S.by a s:=λa s=>by show ((S.cL c z d).cL d (-z) c).by a s=_;rw[kx (by show d<@(S.ways.set c _);rw[am7];rwa[n]),kx o]
 let old:∀a s b,S.by a s=ι b->(S.keep c z d).by a s=ι b:=λa s b e=>by
  rw[k];cases g:a=d/\s= -z
  .rw[am1 g];let[Τ,Τ]:=g;rcases G with q|q <;> rw[q]at e <;> ext e
   rfl
  .rw[amY g];cases j:a=c/\s=z
   .rw[am1 j];let[Τ,Τ]:=j;rcases I with q|q <;> rw[q]at e <;> ext e
    rfl
   .rw[amY j];rwa[e]
 let el:∀a,(S.keep c z d).ay a=S.ay a:=λa=>rfl
 let new:∀a s b,(S.keep c z d).by a s=ι b->(a=d/\s= -z/\b=c)\/(a=c/\s=z/\b=d)\/S.by a s=ι b:=λa s b e=>by
  rw[k]at e;cases g:a=d/\s= -z
  .rw[am1 g]at e;rwa[.ψ {g.1,g.2,(Za0 e).Β}]
  .rw[amY g]at e;cases j:a=c/\s=z
   .rw[am1 j]at e;rwa[.Ζ (.ψ {j.1,j.2,(Za0 e).Β})]
   .rw[amY j]at e;rwa[.Ζ (.Ζ e)]
 let m:(S.keep c z d).by d (-z)=ι c:=by rw[k,am1 {22}]
 let put2:(S.keep c z d).by c z=ι d:=by
  rw[k];cases g:c=d/\z= -z
  .rw[am1 g,g.1]
  .rw[amY g,am1 {22}]
 let t:∀(l:θ (ο×η))(s:ο)(r:η),(l.Α (·.1)).Nodup->((kX l s r).Α (·.1)).Nodup:=λl s r C=>by
  unfold kX;split
  .rw[anu]
   have:((λx:ο×η=>x.1) ∘ λp:ο×η=>if p.1=s then (p.1,r) else p)=λx=>x.1:=by
    funext p
    show (if p.1=s then (p.1,r) else p).1=p.1;split <;> rfl
   rw[ω];rwa[C]
  .rename_i q;rw[am8];rwa[anC.mpr {C,by simp,λa L b H e=>q ?_}];let[p,v,Τ]:=anm.mp L;have:b=s:=by simpa using H
   rwa[θ.any_eq_true.mpr {p,v,anh (e.π ω)}]
 rwa[{55,h.wf.e,h.wf.c},h.el,h.ca,h.cb,h.cn,λa=>?_,λa s b e=>?_,λa s b e=>?_,λw u=>h.pl w (v w u),h.rl,λa s b r=>?_,λa s b e=>?_,λw u=>h.sp w (v w u),h.cg]
 .show @((θ.set^_).set β)=S.q;rw[am7,am7];rwa[h.wf.w]
 .show @((θ.set^_).set β)=S.q;rw[am7,am7];rwa[h.wf.g]
 .show ((((S.cL c z d).cL d (-z) c).way a).Α (·.1)).Nodup;unfold RS.cL;rw[ka (by show d<@(S.ways.set c _);rw[am7];rwa[n])]
  let k1:∀a,(((S.lP c i0).way a).Α (·.1)).Nodup:=λa=>by
   rw[ka o];split
   .rwa[t γ (h.kn c)]
   .rwa[h.kn a]
  split
  .rwa[t γ (k1 d)]
  .rwa[k1 a]
 .rcases new a s b e with ⟨rfl,Τ,rfl⟩|⟨rfl,Τ,rfl⟩|e
  .rwa[hd,hc,ed,B]
  .rwa[hc,hd,B,ed]
  .rwa[h.st a s b e]
 .rcases new a s b e with ⟨rfl,Τ,rfl⟩|⟨rfl,Τ,rfl⟩|e
  .rw[aov];rwa[put2]
  .rwa[m]
  .rwa[old γ (h.sy γ e)]
 .rcases h.cv a s b r with q|⟨w,u,q⟩
  .rwa[.ψ (old γ q)]
  .cases E:w∈f
   .rwa[.Ζ {w,E,q}]
   .let[f1,D,F]:=A w u E;rwa[.ψ ?_];show (S.keep c z d).by (S.ay a) s=ι (S.ay b);rcases q with ⟨g,j,y⟩|⟨g,j,y⟩
    .rw[<-g,<-j,<-y,f1,D,F];rwa[put2]
    .let J:s= -z:=by rw[<-D,j,aov]
     rw[<-g,<-y,f1,F,J];rwa[m]
 .rcases new a s b e with ⟨rfl,Τ,rfl⟩|⟨rfl,Τ,rfl⟩|e
  .rwa[Im.back h i]
  .rwa[i]
  .rwa[h.so a s b e]
end
theorem Dl (x:η):∀(l b:Zh)(a:η),(∀n∈l,n<@b)->(l.foldl (λb n=>b.set n x) b).Λ a 0=if a∈l then x else b.Λ a 0
 |[],b,a,_=>by simp
 |n::l,b,a,h=>by
  rw[aoO,Dl x l (b.set n x) a (λm c=>[am7]▸h m (amZ _ c))]
  cbv
theorem Be (x:η):∀(l a:Zh),@(l.foldl (λa n=>a.set n x) a)=@a
 |[],_=>rfl
 |n::l,a=>by rw[aoO,Be x l,am7]
def tX {l:θ (ο×η)}{r:η}(h:fW l z\r):(z,r)∈l:=by
 let[q,a,Τ]:=an8.mp h
 cbv
def ky {l:θ (ο×η)}(a:(l.Α (·.1)).Nodup){q:ο×η}(h:q∈l):fW l q.1\q.2:=by
 induction l with
 |nil=>ext h
 |cons p l b=>
  unfold fW;rw[an0,anq]at a;cases e:p.1=q.1
  .rw[aqg (by rwa[anh e])];rcases amW.mp h with rfl|h
   .rfl
   .rwa[absurd (by rw[e];rwa[aoP h]) a.1]
  .rw[apl (by simpa using e)];rcases amW.mp h with rfl|h
   .rwa[absurd Τ e]
   .rwa[b a.2 h]
theorem nS:∀(n:η)(l:Zh),l.Nodup->(∀x∈l,x<n)->@l<=n
 |0,[],_,_=>amK _
 |0,a::l,_,h=>absurd (h a (amR ..)) ∅
 |n+ 1,l,b,h=>by
  cases c:n∈l
  .have:=nS n (l.erase n) (b.erase n) (λx d=>by cbv)
   rw[aoE c]at ω;ext
  .have:=nS n l b (λx d=>by cbv)
   ext
theorem tY:∀(k l:Zg),l.Nodup->(∀x∈l,x∈k)->@l<=@k
 |[],[],_,_=>amK _
 |[],a::l,_,h=>by have:=h a amR;cbv
 |y::k,l,b,h=>by
  cases c:y∈l
  .have:=tY k (l.erase y) (b.erase y) (λx d=>by cbv)
   rw[aoE c]at ω;rw[amT];ext
  .have:=tY k l b (λx d=>by cbv)
   rw[amT];ext
def UB {pend:Ze}(i:n<@S.ways)(e:∀a,((S.way a).Α (·.1)).Nodup):∀c:θ (ο×η),(∀q∈c,q.2<@S.ways)->∀a,(((dh n S pend c).1.way a).Α (·.1)).Nodup:=by
 rwa[snoc_ind (λ_ a=>?_) λc p g d a=>?_]
 .show (((S.lP n []).way a).Α (·.1)).Nodup;rw[ka i];split
  .rwa[aoA]
  .rwa[e a]
 .let b:=g (λq f=>d q Z5);rw[jg];unfold ku;cases h:p.2≠n
  .simp only[h,aqi,ao7,ne_eq];unfold RS.qJ;rw[ka ([(iu n S pend c).1]▸d p ħ)];split
   .rwa[θ.Nodup.sublist (θ.Sublist.Α _ aoQ) (b p.2)]
   .rwa[b a]
  .simp only[h,aqq];rwa[b a]
section
variable {S:RS}{pend:Ze}{R:Za2}
def Bd.back (h:ö){b:RS}{a:Ze}(sy:∀c z d,b.by c z=ι d->b.by d (-z)=ι c){c d:η}{z:ο}(i:Bd b a c z d):Bd b a d (-z) c:=by
 rcases i with q|⟨w,j,q⟩
 .rwa[.ψ (sy γ q)]
 .rwa[.Ζ {w,j,?_}];rcases q with ⟨e,g,f⟩|⟨e,g,f⟩
  .rwa[.Ζ {e,by rw[g,aov],f}]
  .rwa[.ψ {e,g,f}]
def Good.meet (h:ö){c x y:η}{z:ο}(Y:S.by c z=ι x)(hy:y<S.q)(ey:S.ay y=y)(hxy:x≠y)(iy:Im S R c z y){d:Ze}(hp:∀w∈d,w∈pend)(hcv:∀w∈pend,w∉d->(S.ay w.1=c/\w.2.1=z/\S.ay w.2.2=y)\/(S.ay w.1=y/\w.2.1= -z/\S.ay w.2.2=c)):
 Good (S.meet c z x y d).1 (S.meet c z x y d).2 R/\(∀a,(S.meet c z x y d).1.ay a=if S.ay a=max x y then min x y else S.ay a)/\(S.meet c z x y d).2=d++(S.way Ψ).Α (λp=>(max x y,p.1,p.2)):=by
 let[hc,hxm,ec,ex]:=h.st γ Y;let A:Cg R x y:=h.must (h.so γ Y) iy;let Q:min x y<S.q:=∅
 let F:max x y<S.q:=∅
 let J:min x y<max x y:=∅
 let T:S.ay Ô=min x y:=by rcases apz x y with q|q;rw[aom ∅];rwa[ex];rw[ape ∅];rwa[ey]
 let N:S.ay Ψ=max x y:=by rcases apz x y with q|q;rw[apP ∅];rwa[ey];rw[aqc ∅];rwa[ex]
 let L:x=min x y\/x=max x y:=∅
 let H:y=min x y\/y=max x y:=∅
 let j:Cg R Ψ Ô:=by
  rcases apz x y with q|q
  .rw[apP (by omega),aom (by omega)];rwa[A.Β]
  .rw[aqc ∅,ape ∅];rwa[A]
 unfold RS.meet;change max x y=v at F J N L H j ⊢;change min x y=u at Q J T L H j ⊢;let I:v<@S.ways:=by rw[h.wf.w];rwa[F]
 let O:∀q∈S.way v,q.2<@S.ways:=λq E=>by rw[h.wf.w];rwa[(h.st v q.1 q.2 (ky (h.kn v) E)).2.1]
 let hP:((S.joined c z u v).qK v d)=dh v Ë d Ď:=rfl;rw[hP];let rest:=iu v Ë d Ď;let byJ:∀a s,(S.joined c z u v).by a s=S.by a s:=λa s=>rfl
 let KW:∀a s,(dh v Ë d Ď).1.by a s=if a=v\/S.by a s=ι v then ε else S.by a s:=λa s=>by
  rw[Aa (S:=S.joined c z u v) I _ O,byJ]
  have:(a=v\/∃q∈S.way v,q.2=a/\s= -q.1)↔(a=v\/S.by a s=ι v):=by
   rwa[or_congr Iff.rfl {5,λe=>?_}]
   .rintro ⟨q,E,Τ,rfl⟩;rwa[h.sy γ (ky (h.kn v) E)]
   .have:=tX (h.sy γ e);rwa[_,ω,2,(aov s).Β]
  simp only[ω]
 let o:(dh v Ë d Ď).2=d++(S.way v).Α λp=>(v,p.1,p.2):=Bc δ
 let G:=UB (S:=S.joined c z u v) (pend:=d) I h.kn Ď O
 let heq:∀a,(dh v Ë d Ď).1.ay a=if S.ay a=v then u else S.ay a:=λa=>by
  rw[rest.2];show ((S.cM v).foldl (λD n=>D.set n u) S.bj).Λ a 0=_;rw[Dl u γ (λn hn=>[h.wf.e]▸h.cb v n hn)];cases i:a<S.q
  .have:=h.ca v F N a;cases e:S.ay a=v
   .cbv
   .rw[amY (λq=>e (ω.mp q).2),amY e];rfl
  .let P:S.ay a=0:=by unfold RS.ay;rw[amH,ana (by rw[h.wf.e];omega)];rfl
   rw[amY (λq=>i (h.cb v a q)),amY ∅];rfl
 let k:∀e,(dh v Ë d Ď).1.cM e=if e=u then S.cM u++S.cM v else S.cM e:=λe=>by
  rw[rest.2];show (S.called.set u (S.cM u++S.cM v)).Λ e []=_;rw[amH];cases q:e=u
  .subst q;rw[anv ([h.wf.c]▸Q),am1 Τ];rfl
  .rw[anQ (an5 q),amY q];unfold RS.cM;cbv
 let f:(dh v Ë d Ď).1.q=S.q:=by rw[rest.2];rfl
 let M:(dh v Ë d Ď).1.Wf:=by
  erw[[rest.1,f]▸h.wf.w,55]
  .rw[rest.2];rwa[h.wf.g]
  .rw[rest.2];show @((S.cM v).foldl (λD n=>D.set n u) S.bj)=S.q;rw[Be];rwa[h.wf.e]
  .rw[rest.2];show @(S.called.set u (S.cM u++S.cM v))=S.q;rw[am7];rwa[h.wf.c]
 change (dh v Ë d Ď).2=P2 at o ⊢;change (dh v Ë d Ď).1=g at rest KW G heq k f M ⊢;rwa[5,heq,o]
 let bo:∀a s b,g.by a s=ι b↔S.by a s=ι b/\a≠v/\b≠v:=λa s b=>by cbv
 let nv2:∀a,g.ay (S.ay a)=g.ay a:=λa=>by
  rw[heq,heq];cases i:a<S.q
  .rw[(h.el a i).2]
  .let P:∀a,¬a<S.q->S.ay a=0:=λa i=>by unfold RS.ay;rw[amH,ana (by rw[h.wf.e];omega)];rfl
   rw[P a i];have:S.ay 0=0:=by have:=(h.el 0 ∅).1;ext
   rw[ω]
 let l:∀{a b},S.ay a=S.ay b->g.ay a=g.ay b:=λ{a b} e=>by cbv
 let C:∀a s b,g.by a s=ι b->g.by b (-s)=ι a:=λa s b e=>by rw[bo]at e ⊢;rwa[h.sy γ e.1,e.2.2,e.2.1]
 let std:∀{a},S.ay a=a->g.ay a=if a=v then u else a:=λ{a} e=>by rw[heq,e]
 let kept:∀p s q,S.by p s=ι q->Bd g P2 (g.ay p) s (g.ay q):=λp s q e=>by
  let[lp,lq,ep,eq]:=h.st γ e;cases h1:p=v
  .rwa[.Ζ {(v,s,q),5,.ψ {by rw[h1],22}}];rw[o];rw[h1]at e;rwa[amN _ (anm.mpr {(s,q),tX e,2})]
  .cases h2:q=v
   .rwa[.Ζ {(v,-s,p),5,.Ζ {by rw[h2],22}}];rw[o];let e':=h.sy γ e;rw[h2]at e';rwa[amN _ (anm.mpr {(-s,p),tX e',2})]
   .rwa[.ψ ?_]
    cbv
 let eu2:g.ay u=u:=by rw[std T,amY ∅]
 let V:g.ay v=u:=by rw[std N,am1 Τ]
 let exy:g.ay x=g.ay y:=by
  let t:g.ay x=u:=by cbv
  let m:g.ay y=u:=by cbv
  rw[t,m]
 let imq:∀{a b s},Im S R (S.ay a) s (S.ay b)->Im g R (g.ay a) s (g.ay b):=λ{a b s} ζ=>by let[a',b',r,e1,e2]:=ζ;rwa[a',b',r,l e1,l e2]
 rwa[M,λa i=>?_,λe he ee a=>?_,λe a i=>?_,λe=>?_,G,λa s b e=>?_,C,λw hw=>?_,λa s b r=>?_,λa s b r=>?_,λa s b e=>?_,λw hw=>?_,λa i=>?_]
 .rw[f]at i;let[U,l2]:=h.el a i;rw[heq]
  cbv
 .rw[f]at he ⊢;rw[k];let nev:e≠v:=λz=>by rw[z,V]at ee;ext
  cases q:e=u
  .subst q;rw[am1 Τ,amO,h.ca _ Q T,h.ca v F N,heq]
   cbv
  .rw[amY q]
   let P:S.ay e=e:=by
    rw[heq]at ee;cases B:S.ay e=v
    .cbv
    .cbv
   rw[h.ca e he P,heq]
   cbv
 .rw[f];rw[k]at i;split at i
  .rcases amO.mp i with i|i
   .rwa[h.cb^i]
   .rwa[h.cb^i]
  .rwa[h.cb^i]
 .rw[k];split
  .rwa[anC.mpr {h.cn _,h.cn _,λa i b hb e=>?_}];let t:=((h.ca _ Q T a).mp i).2;let m:=((h.ca v F N b).mp hb).2;rw[e,m]at t;ext
  .rwa[h.cn _]
 .rw[bo]at e;let[U,l2,W,X]:=h.st γ e.1;rwa[[f]▸U,[f]▸l2,by rw[std W,amY e.2.1],by rw[std X,amY e.2.2]]
 .rw[f];rw[o]at hw;rcases amO.mp hw with hw|hw
  .rwa[h.pl w (hp w hw)]
  .let[q,E,Τ]:=anm.mp hw;rwa[F,(h.st v q.1 q.2 (ky (h.kn v) E)).2.1]
 .rw[f];rwa[h.rl a s b r]
 .rcases h.cv a s b r with q|⟨w,hw,q⟩
  .cbv
  .cases hm:w∈d
   .rwa[.Ζ {w,by cbv,?_}];rcases q with ⟨t,m,B⟩|⟨t,m,B⟩
    .rwa[.ψ {l t,m,l B}]
    .rwa[.Ζ {l t,m,l B}]
   .let base:Bd g P2 (g.ay c) z (g.ay y):=by rw[<-exy];rwa[kept γ Y]
    let one:∀{p q:η},S.ay p=c->S.ay q=y->g.ay p=g.ay c/\g.ay q=g.ay y:=λ{p q} e1 e2=>{by cbv,by cbv}
    rcases hcv w hw hm with ⟨f1,Z,f3⟩|⟨f1,Z,f3⟩
    .rcases q with ⟨t,m,B⟩|⟨t,m,B⟩
     .cbv
     .let[g1,g2]:=one (t.Β.π f1) (B.Β.π f3);let D:s= -z:=by rw[<-Z,m,aov]
      rw[g1,g2,D];rwa[Bd.back h C base]
    .rcases q with ⟨t,m,B⟩|⟨t,m,B⟩
     .let[g1,g2]:=one (B.Β.π f3) (t.Β.π f1);let D:s= -z:=by rw[<-m,Z]
      rw[g1,g2,D];rwa[Bd.back h C base]
     cbv
 .rw[bo]at e;let[U,l2,W,X]:=h.st γ e.1;have:=h.so γ e.1
  cbv
 .rw[o]at hw;rcases amO.mp hw with hw|hw
  .rwa[imq (h.sp w (hp w hw))]
  .let[q,E,Τ]:=anm.mp hw;let e:=ky (h.kn v) E;let[U,l2,W,X]:=h.st v q.1 q.2 e;have:=h.so γ e
   cbv
 .rw[f]at i;rw[heq];split
  .rename_i q;have:=h.cg a i;rw[q]at ω;rwa[ω.π j]
  .rwa[h.cg a i]
end
def RS.stand (S:RS):η:=(~~~S.q).countP λc=>decide (S.ay c=c)
theorem nT {p p':η->Μ}{v:η}(h:∀a,p' a=(p a && decide (a≠v)))(b:p v=ρ):∀n,(~~~n).countP p'+ (if v<n then 1 else 0)=(~~~n).countP p
 |0=>rfl
 |n+ 1=>by
  let c:=nT h b n;rw[aon,θ.countP_append,θ.countP_append,<-c];rw[θ.countP_singleton,θ.countP_singleton,h n];cases e:n=v
  .subst e;rw[b,amY (aou n),am1 (aoo n)];simp
  .have:decide (n≠v)=ρ:=anh e;rw[ω,Μ.and_true];let d:(v<n+ 1)=(v<n):=propext {λ_=>∅,λ_=>∅};simp only[d];ext
def mu (k:η)(S:RS)(pend:Ze):η:=S.stand* (k+ 1)+ @pend
section
variable {S:RS}{pend:Ze}{R:Za2}{w:Way}{ks:Zg}
def Good.KY (h:ö)(e:∀c z d,R c z d->z∈ks)(c:η):@(S.way c)<=@ks:=by
 have:=tY ks ((S.way c).Α (·.1)) (h.kn c) (λx g=>by let[q,f,Τ]:=anm.mp g;let[a,b,r,_]:=h.so c q.1 q.2 (ky (h.kn c) f);rwa[e γ r])
 rw[amE]at ω;rwa[ω]
def Good.Xb (h:ö)(c:η):@(S.cM c)<=S.q:=nS β (h.cn c) λx a=>h.cb c x a
def Good.take (h:Good S (pend++[w]) R)(M:∀c z d,R c z d->z∈ks):Good (S.takeIn pend w).1 (S.takeIn pend w).2 R/\mu @ks (S.takeIn pend w).1 (S.takeIn pend w).2<mu @ks S (pend++[w])/\(S.takeIn pend w).1.q=S.q/\(S.takeIn pend w).1.L=S.L/\
 ((S.takeIn pend w).1.stand=S.stand/\(S.takeIn pend w).1.rows=S.rows/\(S.takeIn pend w).1.bq=S.bq\/(S.takeIn pend w).1.stand+ 1=S.stand/\∃c z x y,S.by c z=ι x/\Im S R c z y/\y<S.q/\S.ay y=y/\x≠y/\(S.takeIn pend w).1.rows=S.rows++[iO c z Ô Ψ]/\(S.takeIn pend w).1.bq=S.bq++[max x y]/\∀a,(S.takeIn pend w).1.ay a=if S.ay a=max x y then min x y else S.ay a):=by
 let hw:=h.pl w ħ;let l:=h.sp w ħ;let hc:=h.lt hw.1;let hd:=h.lt hw.2;let m:=(h.el _ hw.1).2;let ed:=(h.el _ hw.2).2;let G:∀x∈pend,x∈pend++[w]:=λx j=>amV _ j
 let last:∀x∈pend++[w],x∉pend->x=w:=λx j nx=>by cbv
 let met:∀{c x y:η}{z:ο},S.by c z=ι x->y<S.q->S.ay y=y->x≠y->Im S R c z y->((S.ay w.1=c/\w.2.1=z/\S.ay w.2.2=y)\/(S.ay w.1=y/\w.2.1= -z/\S.ay w.2.2=c))->
  Good (S.meet c z x y pend).1 (S.meet c z x y pend).2 R/\mu @ks (S.meet c z x y pend).1 (S.meet c z x y pend).2<mu @ks S (pend++[w])/\(S.meet c z x y pend).1.q=S.q/\(S.meet c z x y pend).1.L=S.L/\(S.meet c z x y pend).1.stand+ 1=S.stand/\(S.meet c z x y pend).1.rows=S.rows++[iO c z Ô Ψ]/\(S.meet c z x y pend).1.bq=S.bq++[max x y]/\∀a,(S.meet c z x y pend).1.ay a=if S.ay a=max x y then min x y else S.ay a:=by
  intro c x y z j P E t Q C;let[g,H,N]:=h.meet j P E t Q G (λx j nx=>[last x j nx]▸C);let[hc,V,m,ex]:=h.st γ j;let b:=(iu Ψ ĝ pend ((S.joined c z Ô Ψ).way Ψ)).2
  let L:(S.meet c z x y pend).1.q=S.q:=by show (dh Ψ ĝ pend ((S.joined c z Ô Ψ).way Ψ)).1.q=_;rw[b];rfl
  let O:(S.meet c z x y pend).1.L=S.L:=by show (dh Ψ ĝ pend ((S.joined c z Ô Ψ).way Ψ)).1.L=_;rw[b];rfl
  let T:(S.meet c z x y pend).1.rows=S.rows++[iO c z Ô Ψ]:=by show (dh Ψ ĝ pend ((S.joined c z Ô Ψ).way Ψ)).1.rows=_;rw[b];rfl
  let U:(S.meet c z x y pend).1.bq=S.bq++[max x y]:=by show (dh Ψ ĝ pend ((S.joined c z Ô Ψ).way Ψ)).1.bq=_;rw[b];rfl
  let F:S.ay Ψ=max x y:=by rcases apz x y with q|q;rw[apP ∅];rwa[E];rw[aqc ∅];rwa[ex]
  let J:(S.meet c z x y pend).1.stand+ 1=S.stand:=by
   unfold RS.stand;rw[L]
   have:=nT (p:=λc=>decide (S.ay c=c)) (p':=λa=>decide ((S.meet c z x y pend).1.ay a=a)) (v:=max x y) (λa=>by
    rw[H,aoL,an6,anU,anU,anU];cases q:S.ay a=max x y
    .rw[am1 q];constructor
     .intro e;let k:S.ay Ô=min x y:=by rcases apz x y with q|q;rw[aom ∅];rwa[ex];rw[ape ∅];rwa[E]
      rw[e]at k;ext
     .rintro ⟨W,k⟩;rwa[absurd (W.Β.π q) k]
    .rw[amY q];rwa[λe=>{e,λk=>q ([k]▸F)},λe=>e.1]) (anh F) S.q
   rw[am1 ∅]at ω;rwa[ω]
  let X:=h.KY M Ψ;rwa[g,5,L,O,J,T,U,H];unfold mu;rw[N,<-J,amG,amG,amE,apA,η.one_mul];ext
 unfold RS.takeIn;cases i:(S.by (S.ay w.1) w.2.1).Λ (S.ay w.2.2)≠S.ay w.2.2
 .rw[am1 i]
  cases e:S.by (S.ay w.1) w.2.1 with
  |ε=>rw[e]at i;rwa[absurd Τ i]
  |ι x=>rw[e]at i;let[B,D,r,u,s,A,o,n]:=met e hd ed i l (.ψ {222});rwa[B,D,r,u,.Ζ {s,11,x,_,e,l,hd,ed,i,A,o,n}]
 .rw[amY i];cases f:(S.by (S.ay w.2.2) (-w.2.1)).Λ (S.ay w.1)≠S.ay w.1
  .rw[am1 f]
   cases e:S.by (S.ay w.2.2) (-w.2.1) with
   |ε=>rw[e]at f;rwa[absurd Τ f]
   |ι x=>rw[e]at f;let I:=Im.back h l;let[B,D,r,u,s,A,o,n]:=met e hc m f I (.Ζ {2,(aov _).Β,2});rwa[B,D,r,u,.Ζ {s,11,x,_,e,I,hc,m,f,A,o,n}]
  .rw[amY f]
   let k1:S.by (S.ay w.1) w.2.1=ε\/S.by (S.ay w.1) w.2.1=ι (S.ay w.2.2):=by
    cases e:S.by (S.ay w.1) w.2.1 with
    |ε=>exact .ψ rfl
    |ι x=>rw[e]at i;rwa[.Ζ (an7 ι (apI.mp i))]
   let k2:S.by (S.ay w.2.2) (-w.2.1)=ε\/S.by (S.ay w.2.2) (-w.2.1)=ι (S.ay w.1):=by
    cases e:S.by (S.ay w.2.2) (-w.2.1) with
    |ε=>exact .ψ rfl
    |ι x=>rw[e]at f;rwa[.Ζ (an7 ι (apI.mp f))]
   rwa[h.keep hc hd m ed l k1 k2 G (λx j nx=>[last x j nx]▸{222}),522,.ψ {222}];show S.stand* _+ @pend<S.stand* _+ @(pend++[w]);rw[amG];have:@([w]:Ze)=1:=rfl;ext
def Good.fin (h:Good S [] R){a b:η}(i:a<S.q)(k:b<S.q):S.ay a=S.ay b↔Cg R a b:=by
 let det:∀{a d b g:η}{z:ο},R a z b->R d z g->S.ay a=S.ay d->S.ay b=S.ay g:=λ{a d b g z} r1 r2 e=>by
  rcases h.cv _ _ _ r1 with p|⟨w,m,_⟩
  .rcases h.cv _ _ _ r2 with q|⟨w,m,_⟩
   .cbv
   cbv
  cbv
 constructor
 .intro e;let j:=h.cg a i;let n:=h.cg b k;rw[e]at j;rwa[j.π n.Β]
 .intro c;clear i k
  induction c with
  |refl=>rfl
  |Β _ f=>exact f.Β
  |π _ _ l o=>exact l.π o
  |step r1 r2 _ f=>exact det r1 r2 f
def Good.tZ (h:Good S [] R){c d:η}{z:ο}:S.by c z=ι d↔Im S R c z d:=by
 constructor
 .rwa[h.so c z d]
 .rintro ⟨b,e,r,Τ,rfl⟩;rcases h.cv _ _ _ r with q|⟨w,a,_⟩
  .rwa[q]
  cbv
end
theorem Dm (val:η->ο):∀n,argBest (λi j=>decide (val i > val j)) n<=n/\∀i,i<=n->val i<=val (argBest (λi j=>decide (val i > val j)) n)
 |0=>{amK _,λi d=>[show i=0 by ext]▸ο.le_refl _}
 |n+ 1=>by
  let[a,b]:=Dm val n;cases c:val (n+ 1) > val (argBest (λi j=>decide (val i > val j)) n)
  .let e:argBest (λi j=>decide (val i > val j)) (n+ 1)=n+ 1:=am1 (anh c);rw[e];rwa[amK _,λi d=>?_];cases z:i=n+ 1
   .rw[z];rwa[ο.le_refl _]
   .have:=b i ∅;ext
  .let e:argBest (λi j=>decide (val i > val j)) (n+ 1)=argBest (λi j=>decide (val i > val j)) n:=amY (λz=>c (ane z));rw[e];rwa[3,λi d=>?_];cases z:i=n+ 1
   .rw[z];ext
   .rwa[b i ∅]
variable {X:Cx}
def KZ [j:e9 X K](J:X.calm=ρ):iz X (.builtin ό) (λn H Q=>∃(p:Zs)(ns:Zg),n=[?p]/\az K H p (ao ns)/\ns≠[]/\∀z,z∈ns->(∀y∈ns,y<=z)->Q (.τ z) H):=by
 cases j.eq;intro o s P H n R Q I r h;let[p,ns,Τ,A,c,q]:=h;let[u,Τ,F]:=vals1 r;ext F;let[B,x,pl,O]:=I.list A;let[a,Τ,e]:=yr x
 let w:s.ς.IsList p (intItems a.toArray):=by
  have:=pl.isList;let C:(a.Α λp=>Value.τ p.1 p.2).toArray=intItems a.toArray:=by simp[intItems]
  rw[C]at ω;rwa[ω]
 let d:@a=@ns:=by rw[<-e,amE]
 let m:0<@ns:=θ.length_pos_iff.mpr c
 let at_:∀i,i<@ns->ns[i]?\(numAt a.toArray i):=λi w=>by
  let g:a[i]?\(a[i]'∅):=amB ∅
  unfold numAt
  cbv
 rwa[max_intList (I.ok.hd J) w (by simp;omega) λv M N G k=>?_]
 let[t,Τ]:=intItems_at G;let f:a.toArray.Γ - 1=@ns - 1:=by simp[d]
 rw[f];let[L,E]:=Dm (numAt a.toArray) (@ns - 1);rwa[.τ _,H,I.kept k,{t,2},q _ ?_ λy D=>?_]
 .rwa[amD (at_ _ ∅)]
 .let[i,b]:=ant D;let l:=(amF.mp b).1;rw[at_ i l]at b;rw[<-Za0 b];rwa[E i ∅]
def fX (R:Za2)(c:η)(z:ο)(d:η):Za2:=λa s b=>R a s b\/(a=c/\s=z/\b=d)\/(a=d/\s= -z/\b=c)
def jh:∀a s b,R a s b->fX R n z m a s b:=λ_ _ _ r=>.ψ r
def lQ:fX R n z m n z m:=.Ζ (.ψ {222})
def rO (L:η)(g:Zg):Good (RS.new L g) [] (λ_ _ _=>False) where
 wf:={2222}
 el:=λc a=>by
  have:c=0:=by have:c<1:=a;ext
  subst ω;rwa[amK _,2]
 ca:=λe f _ c=>by
  have:e=0:=by have:e<1:=f;ext
  subst ω;show c∈[0]↔c<1/\(RS.new L g).ay c=0
  cbv
 cb:=λe c a=>by
  have:(RS.new L g).cM e=[0]\/(RS.new L g).cM e=[]:=by
   rcases e with _|e
   .rwa[.ψ Τ]
   .rwa[.Ζ Τ]
  show c<1
  cbv
 cn:=λe=>by
  rcases e with _|e
  .show [0].Nodup;simp
  .rwa[aoA]
 kn:=λc=>by rcases c with _|c <;> rwa[aoA]
 st:=λc z d h=>by
  have:(RS.new L g).by c z=ε:=by rcases c with _|c <;> rfl
  cbv
 sy:=λc z d h=>by
  have:(RS.new L g).by c z=ε:=by rcases c with _|c <;> rfl
  cbv
 pl:=λw b=>by ext b
 rl:=λ_ _ _ h=>h.Κ
 cv:=λ_ _ _ h=>h.Κ
 so:=λc z d h=>by
  have:(RS.new L g).by c z=ε:=by rcases c with _|c <;> rfl
  cbv
 sp:=λw b=>by ext b
 cg:=λc a=>by
  have:c=0:=by have:c<1:=a;ext
  subst ω;rwa[.refl _]
variable {S:RS}{R:Za2}
def Good.lay (h:Good S [] R){c d:η}(z:ο)(hc:c<S.q)(hd:d<S.q)(rows:ſ):Good { S with rows:=rows } [(c,z,d)] (fX R c z d) where
 wf:={h.wf.w,h.wf.g,h.wf.e,h.wf.c}
 el:=h.el
 ca:=h.ca
 cb:=h.cb
 cn:=h.cn
 kn:=h.kn
 st:=h.st
 sy:=h.sy
 pl:=λw f=>by rw[amI.mp f];rwa[hc,hd]
 rl:=by
  rintro a s b (r|⟨rfl,Τ,rfl⟩|⟨rfl,Τ,rfl⟩)
  .let[i,o,j]:=h.rl γ r;rwa[i,o,.ψ j]
  .rwa[hc,hd,.Ζ (.Ζ {222})]
  .rwa[hd,hc,.Ζ (.ψ {2,aov _,2})]
 cv:=by
  rintro a s b (r|⟨rfl,Τ,rfl⟩|⟨rfl,Τ,rfl⟩)
  .rcases h.cv _ _ _ r with q|⟨w,f,_⟩
   .rwa[.ψ q]
   .ext f
  .rwa[.Ζ {_,amR,.ψ {Τ,Τ,Τ}}]
  .rwa[.Ζ {_,amR,.Ζ {Τ,(aov _).Β,Τ}}]
 so:=λa s b e=>by let[g,l,r,m,k]:=h.so a s b e;rwa[g,l,.ψ r,m,k]
 sp:=λw f=>by rw[amI.mp f];rwa[c,d,lQ,22]
 cg:=λa n=>(h.cg a n).mono jh
def gk (hw:S.Wf)(c:η)(z:ο)(g:Zg)(a:η):(S.grown c z g).ay a=if a=S.q then S.q else S.ay a:=by
 unfold RS.ay;show (S.bj++[S.q]).Λ a 0=_;rw[amH];cases e:a=S.q
 .rw[am1 e,e,amU ([hw.e]▸amK _),hw.e,aoi];rfl
 .rw[amY e,amH];cases q:a<S.q
  .rw[amP ([hw.e]▸q)]
  .rw[ana (by rw[amG,hw.e];show S.q+ 1<=a;omega),ana (by rw[hw.e];omega)]
def t9 (hw:S.Wf)(c:η)(z:ο)(g:Zg)(a:η):(S.grown c z g).cM a=if a=S.q then [S.q] else S.cM a:=by
 unfold RS.cM;show (S.called++[[S.q]]).Λ a []=_;rw[amH];cases e:a=S.q
 .rw[am1 e,e,amU ([hw.c]▸amK _),hw.c,aoi];rfl
 .rw[amY e,amH];cases q:a<S.q
  .rw[amP ([hw.c]▸q)]
  .rw[ana (by rw[amG,hw.c];show S.q+ 1<=a;omega),ana (by rw[hw.c];omega)]
def pU (d:S.Wf)(c:η)(z:ο)(g:Zg)(a:η):(S.grown c z g).way a=S.way a:=by
 unfold RS.way;show (S.ways++[[]]).Λ a []=_;rw[amH,amH];cases q:a<@S.ways
 .rw[amP q]
 .rw[amU ∅,ana (l:=S.ways) ∅];cases b:a - @S.ways=0
  .rw[b];rfl
  .cbv
def Good.make (h:Good S [] R){c:η}{z:ο}(hc:c<S.q)(x:S.ay c=c)(C:S.by c z=ε)(g:Zg):Good (S.make c z g) [] Ϗ:=by
 let hw:=h.wf;let d:∀a,a<S.q->(S.grown c z g).ay a=S.ay a:=λa m=>by rw[gk hw,amY ∅]
 let f:(S.grown c z g).ay S.q=S.q:=by rw[gk hw,am1 Τ]
 let j:∀a s,(S.grown c z g).by a s=S.by a s:=λa s=>by unfold RS.by;rw[pU hw]
 let G:Good (S.grown c z g) [(c,z,S.q)] Ϗ:=by
  rwa[{5555},λa m=>?_,λe D ee a=>?_,λe a m=>?_,λe=>?_,λa=>?_,λa s b e=>?_,λa s b e=>?_,λw hw=>?_,55,λa s b e=>?_,λw hw=>?_,λa m=>?_]
  .show @(S.ways++[[]])=S.q+ 1;rw[amG,hw.w];rfl
  .show @(S.gaps++[_])=S.q+ 1;rw[amG,hw.g];rfl
  .show @(S.bj++[_])=S.q+ 1;rw[amG,hw.e];rfl
  .show @(S.called++[_])=S.q+ 1;rw[amG,hw.c];rfl
  .let t:a<S.q+ 1:=m;cases e:a=S.q
   .rw[e,f];rwa[amK _,f]
   .let o:a<S.q:=∅
    rw[d a o];let[l,k]:=h.el a o;rwa[l,[d _ ∅]▸k]
  .let A:e<S.q+ 1:=D;show _↔a<S.q+ 1/\_;rw[t9 hw,gk hw];cases q:e=S.q
   .subst q;rw[am1 Τ,amI];constructor
    .rintro rfl;rwa[3,by cbv]
    .rintro ⟨l,k⟩;cases n:a=S.q
     .rwa[n]
     .rw[amY n]at k;have:=(h.el a ∅).1;ext
   .let o:e<S.q:=∅
    rw[d e o]at ee;rw[amY q,h.ca e o ee a]
    cbv
  .show a<S.q+ 1;rw[t9 hw]at m;split at m
   .rw[amI.mp m];ext
   .rwa[aof (h.cb e a m)]
  .rw[t9 hw];split
   .simp
   .rwa[h.cn e]
  .rw[pU hw];rwa[h.kn a]
  .rw[j]at e;let[l,k,n,B]:=h.st a s b e;rwa[aof l,aof k,[d a l]▸n,[d b k]▸B]
  .rw[j]at e ⊢;rwa[h.sy a s b e]
  .rw[amI.mp hw];rwa[aof hc,aoo _]
  .rintro a s b (r|⟨rfl,Τ,rfl⟩|⟨rfl,Τ,rfl⟩)
   .let[l,k,n]:=h.rl γ r;rwa[aof l,aof k,.ψ n]
   .rwa[aof hc,aoo _,.Ζ (.Ζ {222})]
   .rwa[aoo _,aof hc,.Ζ (.ψ {2,aov _,2})]
  .rintro a s b (r|⟨rfl,Τ,rfl⟩|⟨rfl,Τ,rfl⟩)
   .let[l,k,_]:=h.rl γ r;rcases h.cv _ _ _ r with q|⟨w,hw,_⟩
    .rwa[.ψ (by rw[d a l,d b k,j];rwa[q])]
    .ext hw
   .rwa[.Ζ {_,amR,.ψ {Τ,Τ,Τ}}]
   .rwa[.Ζ {_,amR,.Ζ {Τ,(aov _).Β,Τ}}]
  .rw[j]at e;let[u,v,r,p,y]:=h.so a s b e;let[l,k,_]:=h.rl γ r;rwa[u,v,.ψ r,[d u l]▸p,[d v k]▸y]
  .rw[amI.mp hw];rwa[c,S.q,lQ,22]
  .let t:a<S.q+ 1:=m;cases e:a=S.q
   .rw[e,f];rwa[.refl _]
   .rw[d a ∅];rwa[(h.cg a ∅).mono jh]
 let p:(S.grown c z g).ay c=c:=by rw[d c hc];rwa[x]
 let i:=G.sp _ amR;rw[show (c,z,S.q).1=c from rfl,show (c,z,S.q).2.2=S.q from rfl,p,f]at i;rwa[G.keep (aof hc) (aoo _) p f i (.ψ ([j]▸C)) (.ψ ?_) (λw hw=>by ext hw) (λw hw _=>[amI.mp hw]▸{p,2,f})];rw[j]
 cases e:S.by S.q (-z) with
 |ε=>rfl
 |ι b=>have:=(h.st γ e).1;ext
def aeM (n:η)(s:ο):Za2:=λa z b=>(z=s/\b=a+ 1/\b<n)\/(z= -s/\a=b+ 1/\a<n)
end L2
namespace L2
def bu {p:ν}(h:let q:ν:=p;q):p:=h
def lS {a z:TS}(h:let b:TS:=z;aM a b G D H):Q1 G D H:=h
def kb {a z:TS}(h:let b:Ends:=G;let c:TS:=z;aM a c b D H):Q1 G D H:=h
def cF {a b z:TS}(h:let c:TS:=z;let d:TS:=aM b c;aM a d G D H):(aM a (aM b z)) G D H:=h
def Dn {a b z:TS}(h:let c:Ends:=G;let d:TS:=z;let e:TS:=aM b d;aM a e c D H):(aM a (aM b z)) G D H:=h
def gH {a b c z:TS}(h:let f:TS:=z;let e:TS:=aM c f;let d:TS:=aM b e;aM a d G D H):Ź G D H:=h
def OX {a b c z:TS}(h:let e:Ends:=G;let g:TS:=z;let f:TS:=aM c g;let d:TS:=aM b f;aM a d e D H):Ź G D H:=h
def xc {b c d a z:TS}(h:let g:TS:=z;let i:TS:=aM a g;let f:TS:=aM d i;let e:TS:=aM c f;aM b e G D H):(aM b (aM c (aM d Q1))) G D H:=h
def xg {b c d a e z:TS}(h:let g:TS:=z;let j:TS:=aM e g;let k:TS:=aM a j;let i:TS:=aM d k;let f:TS:=aM c i;aM b f G D H):(aM b (aM c (aM d (aM a (aM e z))))) G D H:=h
def xh {b c d a e f z:TS}(h:let m:TS:=z;let i:TS:=aM f m;let l:TS:=aM e i;let j:TS:=aM a l;let k:TS:=aM d j;let g:TS:=aM c k;aM b g G D H):(aM b (aM c (aM d (aM a (aM e (aM f z)))))) G D H:=h
def xi {f g b d c e a z:TS}(h:let i:TS:=z;let o:TS:=aM a i;let l:TS:=aM e o;let k:TS:=aM c l;let n:TS:=aM d k;let j:TS:=aM b n;let m:TS:=aM g j;aM f m G D H):(aM f (aM g (aM b (aM d (aM c (aM e Q1)))))) G D H:=h
def OY {g i c e d f b a z:TS}(h:let q:TS:=z;let j:TS:=aM a q;let p:TS:=aM b j;let m:TS:=aM f p;let l:TS:=aM d m;let n:TS:=aM e l;let k:TS:=aM c n;let o:TS:=aM i k;aM g o G D H):(aM g (aM i (aM c (aM e (aM d (aM f (aM b Q1))))))) G D H:=h
def Dq {i j c e d g b a f z:TS}(h:let q:TS:=z;let s:TS:=aM f q;let k:TS:=aM a s;let r:TS:=aM b k;let n:TS:=aM g r;let m:TS:=aM d n;let o:TS:=aM e m;let l:TS:=aM c o;let p:TS:=aM j l;aM i p G D H):(aM i (aM j (aM c (aM e (aM d (aM g (aM b (aM a (aM f z))))))))) G D H:=h
def K0 {k l e g f j d c i a z:TS}(h:let b:TS:=z;let s:TS:=aM a b;let u:TS:=aM i s;let m:TS:=aM c u;let t:TS:=aM d m;let p:TS:=aM j t;let o:TS:=aM f p;let q:TS:=aM g o;let n:TS:=aM e q;let r:TS:=aM l n;aM k r G D H):(aM k (aM l (aM e (aM g (aM f (aM j (aM d (aM c (aM i Q1))))))))) G D H:=h
def La {o p j l k n i g m a b c z:TS}(h:let f:TS:=z;let d:TS:=aM c f;let e:TS:=aM b d;let w:TS:=aM a e;let y:TS:=aM m w;let q:TS:=aM g y;let x:TS:=aM i q;let t:TS:=aM n x;let s:TS:=aM k t;let u:TS:=aM l s;let r:TS:=aM j u;let v:TS:=aM p r;aM o v G D H):(aM o (aM p (aM j (aM l (aM k (aM n (aM i (aM g (aM m Ź))))))))) G D H:=h
def bV {z:TS}(h:let a:Ends:=G;z a D H):z G D H:=h
theorem args_is1 {b:Type}:∀{us:θ b},@us=1->∃a,us=[a]
 |[a],_=>{a,2}
theorem args_is2 {c:Type}:∀{us:θ c},@us=2->∃a b,us=[a,b]
 |[a,b],_=>{a,b,2}
theorem args_is3 {d:Type}:∀{us:θ d},@us=3->∃a c b,us=[a,c,b]
 |[a,c,b],_=>{a,c,b,2}
theorem args_is4 {e:Type}:∀{us:θ e},@us=4->∃a b d c,us=[a,b,d,c]
 |[a,b,d,c],_=>{a,b,d,c,2}
theorem args_is5 {f:Type}:∀{us:θ f},@us=5->∃a c e d b,us=[a,c,e,d,b]
 |[a,c,e,d,b],_=>{a,c,e,d,b,2}
theorem args_is6 {g:Type}:∀{us:θ g},@us=6->∃a c e d b f,us=[a,c,e,d,b,f]
 |[a,c,e,d,b,f],_=>{a,c,e,d,b,f,2}
structure fz (S:RS)(R:Za2)(ks:Zg):ν where
 sub:∀c,c<S.q->(S.gap c).Sublist ks
 im:∀c,c<S.q->S.ay c=c->∀z∈ks,z∉S.gap c->∃d,Im S R c z d
 by_:∀c z d,S.by c z=ι d->z∉S.gap c
section
variable {S:RS}{pend:Ze}{R:Za2}{ks:Zg}
def kz {x:η}(a:n<@S.gaps):(S.nP n z).gap x=if x=n then (S.gap n).filter (λy=>decide (y≠z)) else S.gap x:=by
 unfold RS.nP RS.setG RS.gap;show (S.gaps.set n _).Λ x []=_;rw[amH];cases h:x=n
 .subst h;rw[am1 Τ,anv a];rfl
 .rw[amY h,anQ (λe=>h e.Β),amH]
def Bf:(S.nP n z).gaps.Ξ=@S.gaps:=by rwa[am7 ..]
def rP {x:η}(b:n<@S.gaps)(hd:m<@S.gaps):y∈(S.keep n z m).gap x↔y∈S.gap x/\¬(x=n/\y=z)/\¬(x=m/\y= -z):=by
 unfold RS.keep;let a:∀x,((S.cL n z m).cL m (-z) n).gap x=S.gap x:=λx=>rfl
 rw[kz ([Bf]▸hd),kz (by rwa[b]),kz (by rwa[b]),a,a,a]
 cbv
def ua {x:η}(d:n<@S.gaps)(hd:m<@S.gaps):((S.keep n z m).gap x).Sublist (S.gap x):=by
 unfold RS.keep;let b:∀x,((S.cL n z m).cL m (-z) n).gap x=S.gap x:=λx=>rfl
 rw[kz ([Bf]▸hd),kz (by rwa[d]),kz (by rwa[d]),b,b,b];cases c:x=m
 .subst c;rw[am1 Τ];cases a:x=n
  .subst a;rw[am1 Τ];rwa[θ.Sublist.π aoQ aoQ]
  .rw[amY a];rwa[aoQ]
 .rw[amY c];cases a:x=n
  .subst a;rw[am1 Τ];rwa[aoQ]
  .rw[amY a];rwa[θ.Sublist.refl _]
def GB {x:η}(a:n<@S.ways)(hd:m<@S.ways):(S.keep n z m).by x y=if x=m/\y= -z then ι n else if x=n/\y=z then ι m else S.by x y:=by show (((S.cL n z m).cL m (-z) n)).by x y=_;rw[kx (by unfold RS.cL RS.lP;rw[am7];rwa[hd]),kx a]
def fz.keep (h:Ŧ)(g:ö){c d:η}{z:ο}(hc:c<S.q)(hd:d<S.q)(i:Im S R c z d):fz (S.keep c z d) R ks:=by
 let j:c<@S.gaps:=by rw[g.wf.g];rwa[hc]
 let b:d<@S.gaps:=by rw[g.wf.g];rwa[hd]
 rwa[λx k=>(ua j b).π (h.sub x k),λx k ex y o m=>?_,λx y e l=>?_]
 .rw[rP j b]at m;cases f:x=c/\y=z
  .rw[f.1,f.2];rwa[d,i]
  .cases a:x=d/\y= -z
   .rw[a.1,a.2];rwa[c,i.back g]
   .rwa[h.im x k ex y o λq=>m {q,f,a}]
 .rw[GB ([g.wf.w]▸hc) ([g.wf.w]▸hd)]at l;rw[rP j b];rintro ⟨q,n,p⟩;rw[amY p,amY n]at l;rwa[h.by_ x y e l q]
def OZ {x:η}:(S.meet n z x m pend).1.gaps=S.gaps:=by have:=(iu č (S.joined n z ϗ č) pend ((S.joined n z ϗ č).way č)).2;have:=an7 RS.gaps ω;rwa[ω]
def fz.meet (h:Ŧ)(g:ö){c x y:η}{z:ο}(C:S.by c z=ι x)(H:y<S.q)(I:S.ay y=y)(m:x≠y){d:Ze}(made:(S.meet c z x y d).1.q=S.q)(ay:∀a,(S.meet c z x y d).1.ay a=if S.ay a=max x y then min x y else S.ay a):fz (S.meet c z x y d).1 R ks:=by
 let k:∀a,(S.meet c z x y d).1.gap a=S.gap a:=λa=>by unfold RS.gap;rw[OZ]
 let[_,D,_,ex]:=g.st γ C;let l:max x y<S.q:=by rcases aql x y with q|q <;> ext
 let t:min x y<max x y:=by rcases η.lt_or_gt_of_ne m with q|q <;> ext
 let iV:∀a,a<S.q->(S.meet c z x y d).1.ay a=a->S.ay a=a/\a≠max x y:=λa i e=>by
  rw[ay]at e;let F:=(g.el a i).1;cases q:S.ay a=max x y
  .rw[am1 q]at e;ext
  .rw[amY q]at e;rwa[e,λz=>q (by rw[e,z])]
 rwa[λa i=>[k]▸h.sub a (by rw[<-made];rwa[i]),λa i G s B o=>?_,λa s b u=>?_]
 .rw[k]at o;let[E,w]:=iV a (by rw[<-made];rwa[i]) G;let[b,p,A,r,n,J]:=h.im a (by rw[<-made];rwa[i]) E s B o;rwa[_,p,A,r,[ay,amY ([n]▸w)]▸n,2]
 .rw[k]
  let j:∀q∈(S.joined c z Ô Ψ).way Ψ,q.2<(S.joined c z Ô Ψ).ways.Ξ:=λq v=>by show q.2<@S.ways;rw[g.wf.w];rwa[(g.st γ (ky (g.kn Ψ) v)).2.1]
  let f:(dh Ψ ĝ d ((S.joined c z Ô Ψ).way Ψ)).1.by a s=ι b:=u;rw[Aa (by show max x y<@S.ways;rw[g.wf.w];rwa[l]) _ j]at f;split at f
  .ext f
  .rwa[h.by_ a s b f]
def Bg {x:η}:(S.meet n z x m pend).1.q=S.q:=by have:=(iu č (S.joined n z ϗ č) pend ((S.joined n z ϗ č).way č)).2;have:=an7 RS.q ω;rwa[ω]
def fz.take {w:Way}(hG:Ŧ)(h:Good S (pend++[w]) R):fz (S.takeIn pend w).1 R ks:=by
 let hw:=h.pl w ħ;let d:=h.sp w ħ;let hc:=h.lt hw.1;let hd:=h.lt hw.2;let i:=(h.el _ hw.1).2;let ed:=(h.el _ hw.2).2;let g:∀x∈pend,x∈pend++[w]:=λx b=>amV _ b
 let last:∀x∈pend++[w],x∉pend->x=w:=λx b nx=>by cbv
 unfold RS.takeIn;cases c:(S.by (S.ay w.1) w.2.1).Λ (S.ay w.2.2)≠S.ay w.2.2
 .rw[am1 c]
  cases e:S.by (S.ay w.1) w.2.1 with
  |ε=>cbv
  |ι x=>rw[e]at c;let[_,f,_]:=h.meet e hd ed c d g (λx b nx=>[last x b nx]▸.ψ {222});rwa[hG.meet h e hd ed c Bg f]
 .rw[amY c];cases a:(S.by (S.ay w.2.2) (-w.2.1)).Λ (S.ay w.1)≠S.ay w.1
  .rw[am1 a]
   cases e:S.by (S.ay w.2.2) (-w.2.1) with
   |ε=>rw[e]at a;rwa[absurd Τ a]
   |ι x=>rw[e]at a;let[_,f,_]:=h.meet e hc i a (d.back h) g (λx b nx=>[last x b nx]▸.Ζ {2,(aov _).Β,2});rwa[hG.meet h e hc i a Bg f]
  .rw[amY a];rwa[hG.keep h hc hd d]
def fz.more {e:Za2}(h:Ŧ)(g:∀a z b,R a z b->e a z b):fz S e ks:={h.sub,λc hc i z hz m=>by let[d,j,k,r,f,l]:=h.im c hc i z hz m;rwa[d,j,k,g γ r,f,l],h.by_}
def fz.rows (h:Ŧ)(rows:ſ):fz { S with rows:=rows } R ks:={h.sub,h.im,h.by_}
def UC (L:η)(g:Zg):fz (RS.new L g) (λ_ _ _=>False) g:=by
 rwa[λc a=>?_,λc a _ z f b=>?_,λc z d e=>?_]
 .let a:c<1:=a;rw[show c=0 by ext];rwa[θ.Sublist.refl _]
 .let a:c<1:=a;rw[show c=0 by ext]at b;rwa[absurd f b]
 .have:(RS.new L g).by c z=ε:=by rcases c with _|c <;> rfl
  cbv
def fz.make (h:Ŧ)(g:Good S [] R){c:η}{z:ο}(hc:c<S.q)(B:S.ay c=c)(L:S.by c z=ε):fz (S.make c z ks) Ϗ ks:=by
 let u:∀x,(S.grown c z ks).gap x=if x=S.q then ks else S.gap x:=λx=>by
  unfold RS.gap;show (S.gaps++[ks]).Λ x []=_;rw[amH,amH];cases i:x=S.q
  .subst i;rw[am1 Τ,amU ([g.wf.g]▸amK _),g.wf.g,aoi];rfl
  .rw[amY i];cases F:x<@S.gaps
   .rw[amP F]
   .have:=g.wf.g;rw[amU ∅,ana (by rw[aoc];omega),ana ∅]
 let E:∀x y,(S.grown c z ks).by x y=S.by x y:=λx y=>by unfold RS.by;rw[pU g.wf]
 let j:c<(S.grown c z ks).gaps.Ξ:=by show c<@(S.gaps++[ks]);rw[amG,g.wf.g];ext
 let l:S.q<(S.grown c z ks).gaps.Ξ:=by show S.q<@(S.gaps++[ks]);rw[amG,g.wf.g,aoc];ext
 let p:c<(S.grown c z ks).ways.Ξ:=by show c<@(S.ways++[[]]);rw[amG,g.wf.w];ext
 let v:S.q<(S.grown c z ks).ways.Ξ:=by show S.q<@(S.ways++[[]]);rw[amG,g.wf.w,aoc];ext
 let ee:∀x,(S.make c z ks).ay x=if x=S.q then S.q else S.ay x:=λx=>gk g.wf c z ks x
 let m:∀a s b,S.by a s=ι b->a≠S.q:=λa s b e q=>by have:=(g.st γ e).1;ext
 rwa[λx i=>?_,λx i ex y w f=>?_,λx y e n=>?_]
 .rwa[(ua j l).π ?_];rw[u];cases q:x=S.q
  .cbv
  .rw[amY q];let i:x<S.q+ 1:=i;rwa[h.sub x ∅]
 .let f:y∉((S.grown c z ks).keep c z S.q).gap x:=f;rw[rP j l,u]at f;cases t:x=c/\y=z
  .erw[S.q,c,S.q,[t.2]▸lQ,5]
   .cbv
   cbv
  .cases o:x=S.q/\y= -z
   .erw[c,S.q,c,[o.2]▸.Ζ (.Ζ {222}),5]
    .rw[ee,am1 Τ,o.1]
    .rw[ee,amY ∅];rwa[B]
   .cases q:x=S.q
    .rw[am1 q]at f;rwa[absurd {w,t,o} f]
    .rw[amY q]at f;let i:x<S.q+ 1:=i;rw[ee,amY q]at ex;let[d,A,G,r,H,D]:=h.im x ∅ ex y w λk=>f {k,t,o}
     let J:=g.rl γ r;rwa[d,A,G,.ψ r,[ee,amY ∅]▸H,[ee,amY ∅]▸D]
 .let n:((S.grown c z ks).keep c z S.q).by x y=ι e:=n;rw[GB p v,E]at n;show y∉((S.grown c z ks).keep c z S.q).gap x;rw[rP j l,u];rintro ⟨q,C,I⟩;rw[amY I,amY C]at n;rw[amY (m γ n)]at q;rwa[h.by_ x y e n q]
def fz.fin (h:Ŧ)(g:Good S [] R)(nd:ks.Nodup){c:η}(hc:c<S.q)(f:S.ay c=c):S.gap c=ks.filter λz=>(S.by c z).isNone:=by
 let sl:∀{l k:Zg},l.Sublist k->k.Nodup->l=k.filter λz=>decide (z∈l):=λ{l k} s=>by
  induction s with
  |slnil=>intro _;rfl
  |cons a s b=>cbv
  |cons_cons a s b=>
   intro m;let j:=anq.mp m;rw[aqd (by simp)]
   congr 1
   conv=>lhs;rw[b j.2]
   rwa[apG λz hz=>?_]
   cbv
 rw[sl (h.sub c hc) nd];rwa[apG λz hz=>?_]
 cases e:S.by c z with
 |ι d=>have:=h.by_ c z d e;simp[ω]
 |ε=>
  cases q:z∈S.gap c
  .simp[q]
  .let[d,i]:=h.im c hc f z hz q;have:=g.tZ.mpr i
   cbv
end
section
variable {X:Cx}{tg:Expr}
def iDK (tl:TE):TI:=λ c H R=>tl c H λx b=>∃d a,x=?d/\b d\.dK a/\∀o,R (WW d o a) (υ b d (.dz o (.dK a)))
def abF {tl:TE}(B:PE X e tl):PI X tg e (iDK tl):=by
 intro f s F H R I h;rwa[bx (B f s F H _ I h) λu Q ζ=>?_];let[x,P,v,E,d,b,ex,hd,q]:=ζ
 subst ex;ext E;obtain⟨-,g,w,rel,o,D,T,c,m,t,y,p,J⟩:=v.a0 d _ hd;rwa[Dk.iter g {o,c,m,t} (CH (v.freeze hd True.intro c) (WX λX H h I a=>?_) {_,am0 _ Τ,22} (q o))];obtain⟨j,-,g,w,rel,O,M,C,c,m,k,y,p,J⟩:=I d _ a;rw[j]at c;obtain rfl:=Za0 c;rw[t]at k;injection k with L A
 subst L A;let n:@b=@w:=KV.Ξ rel;let r:D.Γ=@b:=by rw[<-aoK,pairs_len p,n]
 rwa[{_,j,m,t},r,λi S a=>?_];let G:i<@b:=by cbv
 let[N,l,z]:=(tW p rel).get (i:=i) (x:=kV b[i].1) (by cbv);rw[amQ,aoT,a]at l;obtain rfl:=Za0 l;rwa[_,z,21,amB G,2]
end
def Xc {g:TG}{e:TS}{o:Obj}{kvs:θ (Key×V)}(a:η->St->Hp->ν)(f:a 0 D H)(j:∀i D H,i<=@kvs->a i D H->H d\.dz o (.dK kvs))(k:∀i b D H,kvs[i]?\b->a i D H->g (kV b.1) D H λ c l=>e { G with nx:=a (i+ 1),ct:=a (i+ 1),bk:=G.nx } c l)(hd:∀ D H,a @kvs D H->G.nx D H):tN (WW d o kvs) g e G D H:=RK f j (λi D H x m p y=>by let[Τ,b,h,Τ]:=y;rwa[k i b D _ h p]) hd
inductive RDS (a:Zs)(y z:V)(H:Hp)(Q:VK):ν
 |mk (kvs:θ (Key×V))(k:Key):H a\.dK kvs->y=kV k->@kvs<sizeLine->(∀v,bG kvs k\v->Q v H)->(bG kvs k=ε->Q z (υ H a (.dK (putK kvs k z))))->RDS a y z H Q
def abG (td e tx:TE):TE:=λ b H Q=>td b H λx c=>Gx x c λa=>e b c λy d=>tx b d λz f=>RDS a y z f Q
section
variable {X:Cx}{o e f:Expr}{apos cQ:Pos}{td ty tx:TE}
def pV (S:ĳ)(t:ϒ)(R:PE X f tx)(m:M2 X o ϰ apos e f cQ):PE X (.Call (.Attribute o ϰ apos) [e,f] [] cQ) (abG td ty tx):=by
 intro c s p H Q I h;rwa[ao5 m.base m.few m.line aoe aoH PySem.F.type_dict_setdefault (bx (S c s p H _ I h) λu Y ζ=>?_)];let[x,U,w,Z,a,ex,d,M]:=ζ;subst ex;obtain rfl:u=Value.Η a:=Z;let[T,E,_]:=oM w d;erw[T,E];rw[m.trees]
 rwa[anZ Τ (aoh (anO (bx (t c Y p U _ w M) λiv L ζ=>?_)))];let[y,H2,O,ry,q2]:=ζ;rwa[ anO (bx (R c L p H2 _ O q2) λfv s3 ζ=>?_)];let[z,G,n,B,g,k,D,ey,F,N,V]:=ζ;rwa[aoq ?_]
 subst ey;let[P,hd,A,rel,C]:=vd n.a0 D;let b:=rel.val k;let j:@A<=sizeLine:=by rw[<-@rel];rwa[P]
 rwa[apa aoH C.typeIs PySem.F.entry_dict_setdefault (PySem.F.args_dict_setdefault_3^_) (kt_meets_setdefault û a (kS ry) hd fv) {A,C,j,λv hv=>?_,λhn g1 i sb=>?_}]
 .rw[hv]at b
  cases l:bG g k with
  |ε=>rw[l]at b;rwa[b.Κ]
  |ι r=>rw[l]at b;rwa[r,G,n.tok _,b,N r l]
 .rw[hn]at b
  cases l:bG g k with
  |ι r=>rw[l]at b;rwa[b.Κ]
  |ε=>
   let W:@(putK g k z)<=sizeLine:=by have:=gE g k z;ext
   let t:∃q,g1.get? a\q:=let ⟨q,_,_,J,_⟩:=i;{q,J}
   rwa[z,_,lM n ([D]▸True.intro) sb t (tS W hd (rel.put k B) i),B,V l]
end
namespace Di
variable {prog:Program}{w:World}{A:Around}{E:Zt->Zu->Prop}{s:Zu}{d:Zs}{es:Array DictEntry}{ep:Nat}
def meets (d:Zs)(hd:(d==sysModules)=χ):MeetsIn prog w (Builtin.«dict.items» {[?d],[]}) (λ_ R s=>(∃es ep,fj s.ς d es ep)/\R (.ok (.ret ↑↥s)) { s with ς:=s.ς.push (ĭ>>>.fields #[?d]) }):=
 .of_wp λA R s ζ=>by
  let[⟨es,ep,a⟩,h]:=ζ
  rwa[amC ?_];rwa[amC (apy (Dk.typ a) ?_)];rwa[amL ?_];unfold Builtin.Dict.showsAll;rw[amY (by rw[hd];decide)];rwa[amC (amL (amC (anw (amL {12,h}))))]
theorem iter (c:s.ς.IsItemsView a d)(h:ð)(j:Q ↑↥s { s with ς:=s.ς.push (ò>>>.fields #[.ε,.bool χ,?d,.τ 0 0,.τ es.Γ 0,.τ ep 0,.ε,.ε]) }):(prog<|>w) A (pyIter ?a) Q E s:=by
 let[k,f,i,e]:=id c;let[o,g,l,b]:=id h;rwa[wpAny_pyIter_slot c.typeIs F.slot_dict_items_iter (anR F.slot_dict_items_iter c.typeIs F.entry_dict_items_iter ?_ (F.args_dict_items_iter_1 _))];rwa[amC (amL (amC ?_))];rwa[amC (anB f e (x:=?d) Τ (amL (amC ?_)))];rwa[amC (apE g b (amC (wpAny_dictEpoch g b ?_)))];let own:Builtin.Dict_items.ownsTuple ò=ρ:=⋯
 simp only[own,aqi];rwa[anw (amL {12,ò,_,{_,am0 _ Τ,2},apf.lookup,5}) (by simp only[sizeOk,Builtin.Dict_items.ownedTupleFields,am4,amG,amT,ank,sizeLine_eq];omega)];simpa [rawInt,Builtin.Dict_items.ownedTupleFields] using j
theorem next {it:Zs}{ok:Zt}{Q:Zl->Zu->ν}(L:A.handled=ε)(hit:IsItemIter s.ς it d i es.Γ ep ok v)(M:ð)(I:∀en g,es[i]?\en->IsItemIterOut g it d (i+ 1) es.Γ ep en.key en.val ↥s->g.get? ↥s\(Ω>>>.seq #[en.key,en.val])->
  (∀b o,b≠it->s•b\o->g.get? b\o)->Q (ι ↑↥s) (s<*g))(S:∀g,es[i]?=ε->Heap.ExtBut it s.ς g->Q ε (s<*g)):(prog<|>w) A (pyNext ?it) Q E s:=by
 let[h,t,r,q,os]:=s;let[W,p,P,j]:=id M;let f:Shared.TypeIs ⟨h,t,r,q,os⟩ ?it ò:={_,hit,2};rwa[amC (ap9 (anL (name:=Ι.ofString ģ) f apf (anR apf f F.entry_dict_itemiterator_next ?_ (F.args_dict_itemiterator_next_1 _))))];rwa[amC (amL (amC (amC ?_)))]
 first|(rwa[amC (wpAny_typeNameOfWhole_itemiter f (amL ?_))];skip)|(rwa[amC (wpAny_typeNameOf_itemiter f (amL ?_))];skip)
 rwa[amC (wpAny_fieldsOf hit Τ ?_)];let own:Builtin.Dict_items.ownsTuple ò=ρ:=⋯
 show wpAny β (if (Value.Η d==Value.ε)=ρ then _ else _) γ;rw[amY (show ¬((Value.Η d==Value.ε)=ρ) by cbv)];rwa[amC (amL (amC (apE p j ?_)))];rw[amY (by simp)];rwa[amC (amL (amC (wpAny_dictEpoch p j ?_)))];rw[amY (by simp)];rwa[amL ?_];rcases u:es[i]? with _|en <;> simp only[show ¬((i:ο)<0) by ext,aqq,anb,u]
 all_goals
  rwa[amC ?_]
  first|(rwa[amC (wpAny_typeNameOfWhole_itemiter f (amL ?_))];skip)|(rwa[amC (wpAny_typeNameOf_itemiter f (amL ?_))];skip)
 .show wpAny β (setField ?it 2 .ε >>=_) γ;rwa[amC (aot hit Τ (by simp) ?_)];rwa[amC ?_];rwa[amC (m:=firstArgMember β) (aps (a:=Value.ε) (by first|rfl|(simp only[firstArgMember];rfl)) ?_)];rwa[anw ?_ (by size_fits)];rwa[amC (wpAny_handled ?_)];rw[show A.in1.handled=ε from L];rwa[amC (amL (wpAny_throw ?_))];rwa[amC (wpAny_isInstance (T:=Ġ) (b:=ρ) {_,am0 _ Τ,2} isSubtype_stop ?_)];rwa[amL (S _ u (((anW ..).extBut.push _).push _))]
 .rwa[amC (wpAny_isOneOf_itemiter f ?_)];show wpAny β (setField ?it 3 (rawInt ((i:ο)+ 1)) >>=_) β {h,t,r,q,os}
  rwa[amC (aob hit (by simp) λg1 B s1=>?_)];let k:Shared.TypeIs ⟨g1,t,r,q,os⟩ ?it ò:={_,B,2};rwa[amC (an9 (amC (wpAny_isOneOf_itemiter k (amC (wpAny_isOneOf_itemiter k ?_)))))];rwa[amC (wpAny_newTuple ?_)];let l:IsItemIter (g1.push (Ω>>>.seq #[en.key,en.val])) it d (i+ 1) es.Γ ep ok v:=amJ _ B;generalize n:g1.push (Ω>>>.seq #[en.key,en.val])=g2 at l;let z1:g1.Ν.Γ=h.Ν.Γ:=s1.1;let C:it<h.Ν.Γ:=am6 hit;let D:g2.get? h.Ν.Γ\(Ω>>>.seq #[en.key,en.val]):=by rw[<-n,<-z1];rwa[am0 _ Τ]
  let N:∀b o,b≠it->h.get? b\o->g2.get? b\o:=λb o c e=>by rw[<-n];rwa[amJ _ (s1.extBut b o c e)]
  show wpAny β (Builtin.Dict_items.ownedTupleIsFree ?it >>=_) β {g2,t,r,q,os};rw[z1];rwa[amC ?_];rwa[amC (anB l Τ (x:=.ε) Τ (amL ?_))];rwa[amC (anB l Τ (x:=ok) Τ (amC (anB l Τ (x:=v) Τ ?_)))];rwa[amC (aob l (by simp) λX O s3=>?_)];rwa[amC (aob O (by simp) λU R s4=>?_)];rwa[amC (aob R (by simp) λV G s5=>?_)];rwa[amC (aob G (by simp) λy J H=>?_)];let z:∀b o,b≠it->g2.get? b\o->y.get? b\o:=λb o c e=>H.extBut b o c (s5.extBut b o c (s4.extBut b o c (s3.extBut b o c e)))
  rwa[amC (aqk (amL (amL {12,amL (I en y u J (z β (aoC C) D) λb o c e=>z b o c (N b o c e))})))]
end Di
abbrev O6 (d:Zs) (o:Obj) (kvs:List (Zd×V)):It:=RJ d o (.dT kvs) ⇑kvs λi H x H'=>∃p kp kv,kvs[i]?\kv/\H p=none/\H kp\.tup (kv.1.map kV)/\x=↑p/\H'=upd H p (.tup [↑kp,kv.2])
def UD {elts:Zr}{x1:η}{tp:Pos}(d it:Zs)(o:Obj)(O:Ŀ)(S:η)(n:θ (Zd×V))(N:o.data=.dict O S):
 Turn P w K (.Tuple elts x1 tp) (O6 d o n) [it] it (λi h=>∃ok j,IsItemIter h it d i O.Γ S ok j) where
 mem:=by simp
 obj:=λi h st b f=>by cbv
 keep:=λi h Z ζ k=>by let[ok,j,e]:=ζ;rwa[ok,j,k it (by simp) _ e]
 item:=by
  intro X G D hK J i l s σ H E I m st t;subst G D;let[ok,j,hit]:=st;let[hi,hd]:=t;let[r,z,y]:=KJ I.a0 hd N;let L:it<↥s:=am6 hit;refine Di.next (I.ok.hd J) hit r (λen g B F M u=>{12,wpAny_letOwnedTupleGo_items F λY C T=>?_}) λg e=>by cbv
  let[R,p,v,a,b,c,d,rv]:=y i _ B;rw[b,d]at M;rwa[↑↥s,_,I.wZ (fp:=[it]) (a:=↥s) (o:=.Θ [?p,R.2]) (h':=Y) (t':=s.toks) (λb x f q=>?_) m Φ {Za4 2,[?p,v],.cons Τ (.cons rv .nil),_,(T.2 _ (aoC L)).π M,212},2,{_,p,R,a,I.a0.fresh Φ,c,22},{11,C},λb f=>?_]
  .simp at f;rwa[(T.2 b f).π (u b x f q)]
  .rw[amI.mp f,aq (anl L)];rwa[(m it (by simp)).1]
 done:=by intro X G D hK J i l s σ H E I m st t;subst G D;let[ok,j,hit]:=st;let[hi,hd]:=t;let[r,z,y]:=KJ I.a0 hd N;rwa[Di.next (I.ok.hd J) hit r (λen g e=>by cbv) λg _ eb=>{2,I.lI (fp:=[it]) (t':=s.toks) (λb x f q=>eb b x (λz=>f (by simp[z])) q) m}]
 self:=λA i s Q E ζ h=>by let[ok,j,hit]:=ζ;rwa[PySem.W.kcp_self hit h]
section
variable {X:Cx}
def iDI (tl:TE):TI:=λ c H R=>tl c H λx b=>∃d a,x=?d/\b d\.dT a/\∀o,R (O6 d o a) (υ b d (.dz o (.dT a)))
def abH {tl:TE}{elts:Zr}{apos c:Pos}(M:PE X e tl)(f:attributeBase e "items" X.env ē=eval e X.env)(hline:(apos.endLine==c.line)=ρ):
 PI X (.Tuple elts n p) (.Call (.Attribute e "items" apos) [] [] c) (iDI tl):=by
 intro r s O H R I h;rwa[wpAny_Call_method0_late f hline (bx (M r s O H _ I h) λu s1 ζ=>?_)];let[x,L,k,N,d,j,ex,hd,q]:=ζ;subst ex;ext N;obtain⟨-,B,ys,U,o,m,t,y,D,C,W,Y⟩:=k.a0 d _ hd;let l:fj s1.ς d m t:={o,y,D,C};let A:Gw L d:=.Ζ {j,.ψ hd};let[E,F,_]:=oM k A;rwa[ç,"dict.items",aoe,PySem.F.slot_dict_items,PySem.F.type_dict_items,E,F,anZ Τ (PySem.evalArgs_none ?_)];rwa[apa PySem.F.slot_dict_items E PySem.F.entry_dict_items (PySem.F.args_dict_items_1 _) (Di.meets d B) {{m,t,l},5}];let Q:(s1.ς.push (ĭ>>>.fields #[?d])).IsItemsView ↥s1 d:={_,am0 _ Τ,22};let g:fj (s1.ς.push (ĭ>>>.fields #[?d])) d m t:={o,amJ _ y,D,C};rwa[Di.iter (s:={ s1 with ς:=s1.ς.push (ĭ>>>.fields #[?d]) }) Q g ?_];let J:=(k.freeze hd True.intro y).kept (h':=(s1.ς.push (ĭ>>>.fields #[?d])).push (ò>>>.fields #[.ε,.bool χ,?d,.τ 0 0,.τ m.Γ 0,.τ t 0,.ε,.ε])) (t':=s1.toks) λb o a=>amJ _ (amJ _ a)
 let i:↥s1<=(s1.ς.push (ĭ>>>.fields #[?d])).Ν.Γ:=by rw[apj];ext
 let T:=UD (P:=X.prog) (w:=X.w) (K:=X.K) (elts:=elts) (x1:=n) (tp:=p) d (s1.ς.push (ĭ>>>.fields #[?d])).Ν.Γ o m t j C;rwa[111112,J,T,{11,am0 _ Τ},λb G=>?_,q o];rw[amI.mp G];let v:=k.a0.fresh i;rwa[k.zN i ([aq (λz=>by cbv)]▸v)]
end
def Xd {g:TG}{e:TS}{o:Obj}{kvs:θ (Zd×V)}(a:η->St->Hp->ν)(j:a 0 D H)(l:∀i D H,i<=@kvs->a i D H->H d\.dz o (.dT kvs))(n:∀i b D H p kp,kvs[i]?\b->H p=ε->H kp\.Θ (b.1.Α kV)->a i D H->g ?p D (υ H p (.Θ [?kp,b.2])) λ c q=>e { G with nx:=a (i+ 1),ct:=a (i+ 1),bk:=G.nx } c q)(hd:∀ D H,a @kvs D H->G.nx D H):tN (O6 d o kvs) g e G D H:=RK j l (λi D H x r p y=>by let[h,kp,b,k,f,m,Τ,Τ]:=y;rwa[n i b D _ h kp k f m p]) hd
theorem xj:∀(n:η)(l:Zg)(lo:ο),l.Nodup->(∀x∈l,lo<=x/\x<lo+ n)->@l<=n
 |0,[],_,_,_=>amK _
 |0,x::l,lo,_,h=>by have:=h x (amR ..);ext
 |n+ 1,l,lo,b,h=>by
  cases c:lo+ n∈l
  .let d:=xj n (l.erase (lo+ n)) lo (b.erase _) λx a=>by let e:=(b.mem_erase_iff.mp a);let f:=h x e.2;ext
   rw[aoE c]at d;ext
  .let d:=xj n l lo b λx a=>by
    let f:=h x a;let g:x≠lo+ n:=λz=>c (by rw[<-z];rwa[a])
    ext
   ext
section
variable {κ:Type} [DecidableEq κ]
def Lb (b:θ (κ×V))(k j:κ):bG (fP b k) j=if j=k then ε else bG b j:=by
 unfold fP
 induction b with
 |nil=>split <;> rfl
 |cons p r e=>
  cases c:p.1=k
  .rw[θ.filter_cons_of_neg (by simp[c]),e];cases a:j=k
   .cbv
   .rw[amY a,amY a,cR (λz=>a (z.Β.π c))]
  .rw[aqd (by simp[c])];cases a:p.1=j
   .rw[cV a,amY (λz=>c (a.π z)),cV a]
   .rw[cR a,e];cases d:j=k
    .cbv
    .rw[amY d,amY d,cR a]
def Dr (a:θ (κ×V))(k:κ)(v:V):(putK a k v).Α (·.1)=if k∈a.Α (·.1) then a.Α (·.1) else a.Α (·.1)++[k]:=by
 unfold putK;cases h:(a.any λb=>decide (b.1=k))=ρ
 .let c:k∈a.Α (·.1):=by let[b,e,d]:=θ.any_eq_true.mp h;rwa[anm.mpr {b,e,ane d}]
  rw[am1 h,am1 c,anu];rwa[an4 λb _=>?_]
  cbv
 cbv
def Xe {a:θ (κ×V)}(k:κ)(v:V)(h:(a.Α (·.1)).Nodup):((putK a k v).Α (·.1)).Nodup:=by
 rw[Dr];split
 .rwa[h]
 .rename_i b;rwa[anC.mpr {h,by simp,λx d y c z=>?_}];rw[amI.mp c]at z;rwa[b (by rw[<-z];rwa[d])]
def UE {a:θ (κ×V)}(k:κ)(h:(a.Α (·.1)).Nodup):((fP a k).Α (·.1)).Nodup:=by rwa[θ.Nodup.sublist ((aoQ).Α _) h]
def Ds {a:θ (κ×V)}(h:(a.Α (·.1)).Nodup){b:κ×V}(hm:b∈a):bG a b.1\b.2:=by
 induction a with
 |nil=>ext hm
 |cons p r c=>
  rw[an0,anq]at h;rcases amW.mp hm with e|hm
  .rw[e];rwa[cV Τ]
  .rw[cR (λz=>h.1 ([z]▸aoP hm))];rwa[c h.2 hm]
def O8 {a:θ (κ×V)}{k:κ}(h:bG a k\q):(k,q)∈a:=by
 unfold bG at h
 cases e:a.find? λb=>decide (b.1=k) with
 |ε=>rw[e]at h;ext h
 |ι b=>cbv
end
def DI (H:Hp)(d:Zs)(f:ο->Zc):ν:=∃a:θ (Key×V),H d\.dK a/\(a.Α (·.1)).Nodup/\(∀b∈a,∃i:ο,b.1=Sum.ψ i)/\∀i:ο,bG a ĕ=f i
def DI.at {f:ο->Zc}(h:DI H d f)(k:∀o,H d\o->I d\o):DI I d f:=by let[a,c,b]:=h;rwa[a,k _ c,b]
def DI.congr {f g:ο->Zc}(h:DI H d f)(e:∀i,f i=g i):DI H d g:=by let[a,j,b,k,c]:=h;rwa[a,j,b,k,λi=>(c i).π (e i)]
def Du {a:θ (Key×V)}{f:ο->Zc}(k:(a.Α (·.1)).Nodup)(h:∀g∈a,∃i:ο,g.1=Sum.ψ i)(l:∀i:ο,bG a ĕ=f i)(i:ο)(v:V):DI (υ H d (.dK (putK a ĕ v))) d (λj=>if j=i then ι v else f j):=by
 rwa[_,aj,Xe^k,λg b=>?_,λj=>?_]
 .have:g.1∈(putK a ĕ v).Α (·.1):=aoP b;rw[Dr]at ω;split at ω
  .let[q,c,e]:=anm.mp ω;rw[<-e];rwa[h q c]
  .rcases amO.mp ω with z|z
   .let[q,c,e]:=anm.mp z;rw[<-e];rwa[h q c]
   .rwa[i,amI.mp z]
 .rw[fJ];dsimp only;cases e:j=i
  .rw[am1 e,am1 (by rw[e])]
  .rw[amY e,amY (λz=>e ŝ),l]
def UG {a:θ (Key×V)}{f:ο->Zc}(e:(a.Α (·.1)).Nodup)(g:∀c∈a,∃i:ο,c.1=Sum.ψ i)(h:∀i:ο,bG a ĕ=f i)(i:ο):DI (υ H d (.dK (fP a ĕ))) d (λj=>if j=i then ε else f j):=by
 rwa[_,aj,UE _ e,λc b=>g c ((anA.mp b).1),λj=>?_];rw[Lb]
 cbv
def yx {c:θ (Key×V)}{f:ο->Zc}(k:(c.Α (·.1)).Nodup)(m:∀d∈c,∃i:ο,d.1=Sum.ψ i)(p:∀i:ο,bG c ĕ=f i){n:η}{lo:ο}(o:∀i v,f i\v->lo<=i/\i<lo+ n):@c<=n:=by
 let h:=xj n (c.Α λd=>match d.1 with|Sum.ψ i=>i|Sum.Ζ _=>0) lo ?_ λx r=>?_
 .rw[amE]at h;rwa[h]
 .let e:c.Α (·.1)=(c.Α λd=>match d.1 with|Sum.ψ i=>i|Sum.Ζ _=>(0:ο)).Α Sum.ψ:=by
   rw[anu];rwa[an4 λd g=>?_]
   let[i,j]:=m d g;show d.1=Sum.ψ (match d.1 with|Sum.ψ i=>i|Sum.Ζ _=>(0:ο));rw[j]
  rw[e]at k;rwa[θ.Pairwise.Ρ (λ{a b} q z=>q (an7 Sum.ψ z)) (aor.mp k)]
 .let[d,g,Τ]:=anm.mp r;let[i,j]:=m d g;let l:=Ds k g;rw[j,p]at l;rw[j];rwa[o i _ l]
abbrev bM:=Int->Int->Int->Bool
structure eU (H:Hp)(k:Zs)(D:ο->Zo)(E:ο->ο->Zo)(S:bM):ν where
 top:DI H k λc=>(D c).Α V.Η
 row:∀c d,D c\d->DI H d λs=>(E c s).Α V.Η
 Bh:∀c s e,E c s\e->DI H e λo=>if S c s o=ρ then ι (.bl ρ) else ε
 ed:∀c s e,E c s\e->∃d,D c\d
 se:∀c s o,S c s o=ρ->∃e,E c s\e
 nd:∀c d,D c\d->d≠k
 ne:∀c s e,E c s\e->e≠k
 dd:∀c c' d,D c\d->D c'\d->c=c'
 de:∀c c' s d,D c\d->E c' s\d->False
 ee:∀c s c' s' e,E c s\e->E c' s'\e->c=c'/\s=s'
def xk (k:Zs)(D:ο->Zo)(E:ο->ο->Zo)(b:Zs):ν:=b=k\/(∃c,D c\b)\/∃c s,E c s\b
section
variable {H H':Hp}{k:Zs}{D:Int->Zo}{E:Int->Int->Zo}{S:bM}
def eU.keep (h:ì)(f:∀b o,xk k D E b->H b\o->H' b\o):eU H' k D E S:={h.top.at λo e=>f β (.ψ Τ) e,λc d e=>(h.row c d e).at λo q=>f β (.Ζ (.ψ {c,e})) q,λc s e q=>(h.Bh c s e q).at λo r=>f β (.Ζ (.Ζ {c,s,q})) r,h.ed,h.se,h.nd,h.ne,h.dd,h.de,h.ee}
def eU.Δ (h:ì)(s:au H H'):eU H' k D E S:=h.keep λb o _ e=>s b o e
def eU.there (h:ì){b:Zs}(d:xk k D E b):∃a,H b\(.dK a):=by
 rcases d with rfl|⟨c,e⟩|⟨c,s,e⟩
 .let[a,q,_]:=h.top;rwa[a,q]
 .let[a,q,_]:=h.row c b e;rwa[a,q]
 .let[a,q,_]:=h.Bh c s b e;rwa[a,q]
def eU.congr (h:ì){d:ο->Zo}{b:ο->ο->Zo}{a:bM}(e:∀c,D c=d c)(g:∀c s,E c s=b c s)(f:∀c s o,S c s o=a c s o):eU H k d b a:=by
 obtain rfl:D=d:=funext e;obtain rfl:E=b:=funext λc=>funext (g c)
 obtain rfl:S=a:=funext λc=>funext λs=>funext (f c s)
 rwa[h]
def eU.Xf (h:ì):∃a:θ (Key×V),H k\.dK a/\(a.Α (·.1)).Nodup/\(∀kv∈a,∃i:ο,kv.1=Sum.ψ i)/\∀i:ο,bG a ĕ=(D i).Α V.Η:=h.top
def eU.O9 (h:ì){c:ο}{d:Zs}(hd:D c\d):∃a:θ (Key×V),H d\.dK a/\(a.Α (·.1)).Nodup/\(∀kv∈a,∃i:ο,kv.1=Sum.ψ i)/\∀i:ο,bG a ĕ=(E c i).Α V.Η:=h.row c d hd
def eU.Xg (h:ì){c s:ο}{e:Zs}(b:E c s\e):∃a:θ (Key×V),H e\.dK a/\(a.Α (·.1)).Nodup/\(∀kv∈a,∃i:ο,kv.1=Sum.ψ i)/\∀i:ο,bG a ĕ=if S c s i=ρ then ι (.bl ρ) else ε:=h.Bh c s e b
def eU.UH (h:ì){c s:ο}{d e:Zs}(hd:D c\d)(M:E c s=ε){j:θ (Key×V)}(B:H d\.dK j)(J:H e\.dK [])(nw:¬xk k D E e):
 eU (υ H d (.dK (putK j Ò ?e))) k D (λb f=>if b=c/\f=s then ι e else E b f) S:=by
 let x:e≠d:=λz=>nw (.Ζ (.ψ {c,[z]▸hd}))
 let[t,C,L,F,I]:=h.row c d hd;rw[B]at C;obtain rfl:j=t:=by cbv
 rwa[h.top.at λo q=>?_,λb u i=>?_,λb f m a=>?_,λb f m a=>?_,λb f o G=>?_,h.nd,λb f m a=>?_,h.dd,λb r f u i a=>?_,λb f r w m p l=>?_]
 .rw[aq (h.nd c d hd).Β];rwa[q]
 .cases g:b=c
  .subst g;have:u=d:=by rw[hd]at i;rwa[(Za0 i).Β]
   subst ω;rwa[(Du L F I s ?e).congr λf=>?_]
   cbv
  .let y:u≠d:=λz=>g (h.dd γ i ([z]▸hd))
   rwa[((h.row b u i).at λo q=>[aq y]▸q).congr λf=>?_]
   cbv
 .cases g:b=c/\f=s
  .rw[am1 g]at a;obtain rfl:=Za0 a;let[Τ,Τ]:=g;rwa[[],[aq x]▸J,by simp,(λkv A=>by ext A),λo=>?_]
   cases q:S b f o with
   |ρ=>let[m,z]:=h.se γ q;cbv
   |χ=>dsimp only;rw[q];rfl
  .rw[amY g]at a;exact(h.Bh b f m a).at λo q=>by rw[aq (λz=>h.de c b f d hd (by cbv))];rwa[q]
 .cases g:b=c/\f=s
  .cbv
  .rw[amY g]at a;rwa[h.ed γ a]
 .cases g:b=c/\f=s
  .rwa[e,am1 g]
  .let[m,z]:=h.se γ G;cbv
 .cases g:b=c/\f=s
  .rw[am1 g]at a;obtain rfl:=Za0 a;rwa[λz=>nw (.ψ z)]
  .rw[amY g]at a;rwa[h.ne γ a]
 .cases g:r=c/\f=s
  .rw[am1 g]at a;obtain rfl:=Za0 a;rwa[nw (.Ζ (.ψ {b,i}))]
  .rw[amY g]at a;rwa[h.de δ i a]
 .cases v:b=c/\f=s
  .rw[am1 v]at p;obtain rfl:=Za0 p;cases n:r=c/\w=s
   .rwa[v.1.π n.1.Β,v.2.π n.2.Β]
   .rw[amY n]at l;rwa[(nw (.Ζ (.Ζ {r,w,l}))).Κ]
  .rw[amY v]at p;cases n:r=c/\w=s
   .rw[am1 n]at l;obtain rfl:=Za0 l;rwa[(nw (.Ζ (.Ζ {b,f,p}))).Κ]
   .rw[amY n]at l;rwa[h.ee δ _ p l]
def eU.setCell (h:ì){c s:ο}{e:Zs}(i:E c s\e){u:HO}{g:ο->Μ}(n:DI (υ H e u) e λo=>if g o=ρ then ι (.bl ρ) else ε):
 eU (υ H e u) k D E (λa d o=>if a=c/\d=s then g o else S a d o):=by
 rwa[h.top.at λo q=>?_,λa m j=>(h.row a m j).at λo q=>?_,λa d p b=>?_,h.ed,λa d o l=>?_,h.nd,h.ne,h.dd,h.de,h.ee]
 .rw[aq (h.ne γ i).Β];rwa[q]
 .rw[aq (λz=>h.de δ j ([z]▸i))];rwa[q]
 .cases f:a=c/\d=s
  .let[Τ,Τ]:=f;rw[i]at b;obtain rfl:=Za0 b;rwa[n.congr λo=>?_]
   simp
  .refine((h.Bh a d p b).at λo q=>?_).congr λo=>by rw[amY f]
   rw[aq (λz=>f (h.ee δ _ b ([z]▸i)))];rwa[q]
 .cases f:a=c/\d=s
  .rwa[e,[f.1,f.2]▸i]
  .rw[amY f]at l;rwa[h.se γ l]
def eU.Xh (h:ì){c s:ο}{e:Zs}(j:E c s\e){a:θ (Key×V)}(l:H e\.dK a)(o:ο):
 eU (υ H e (.dK (putK a (Sum.ψ o) (.bl ρ)))) k D E (λi f b=>S i f b || (decide (i=c) && decide (f=s) && decide (b=o))):=by
 let[d,n,q,p,m]:=h.Bh c s e j;rw[l]at n;obtain rfl:a=d:=by cbv
 rwa[(h.setCell (g:=λb=>S c s b || decide (b=o)) j ((Du q p m o (.bl ρ)).congr λb=>?_)).congr (λ_=>rfl) (λ_ _=>rfl) λi f b=>?_]
 .cbv
 cbv
def eU.UI (h:ì){n:ο}{d:Zs}(hd:D n=ε){g:θ (Key×V)}(v:H k\.dK g)(A:H d\.dK [])(nw:¬xk k D E d):
 eU (υ H k (.dK (putK g (Sum.ψ n) ?d))) k (λc=>if c=n then ι d else D c) E S:=by
 let[m,w,B,x,y]:=h.top;rw[v]at w;obtain rfl:g=m:=by cbv
 let t:d≠k:=λz=>nw (.ψ z)
 let en:∀s,E n s=ε:=λs=>by
  cases q:E n s with
  |ε=>rfl
  |ι e=>let[i,z]:=h.ed γ q;cbv
 rwa[(Du B x y n ?d).congr λc=>?_,λc i a=>?_,λc s e p=>(h.Bh c s e p).at λo q=>?_,λc s e p=>?_,h.se,λc i a=>?_,h.ne,λc r i b f=>?_,λc r s i b f=>?_,h.ee]
 .cbv
 .cases e:c=n
  .rw[am1 e]at a;obtain rfl:=Za0 a;subst e;rwa[[],[aq t]▸A,by simp,(λkv u=>by ext u),λs=>?_];dsimp only;rw[en s];rfl
  .rw[amY e]at a;exact(h.row c i a).at λo q=>by rw[aq (h.nd^a)];rwa[q]
 .rw[aq (h.ne γ p)];rwa[q]
 .let[i,z]:=h.ed γ p
  cbv
 .cases e:c=n
  .cbv
  .rw[amY e]at a;rwa[h.nd^a]
 .cases j:c=n
  .rw[am1 j]at b;obtain rfl:=Za0 b;cases l:r=n
   .rw[j,l]
   .rw[amY l]at f;rwa[(nw (.Ζ (.ψ {_,f}))).Κ]
  .rw[amY j]at b;cases l:r=n
   .rw[am1 l]at f;obtain rfl:=Za0 f;rwa[(nw (.Ζ (.ψ {_,b}))).Κ]
   .rw[amY l]at f;rwa[h.dd γ b f]
 .cases j:c=n
  .rw[am1 j]at b;obtain rfl:=Za0 b;rwa[nw (.Ζ (.Ζ {11,f}))]
  .rw[amY j]at b;rwa[h.de δ b f]
end
variable {K:Za1}{mg:Str->Zl}{h:Heap}{C f:Zs}{x q:Str}{st:Stmt}{ps:Zp}{oc kV doc pm b9 ct:Zt}{od an:Zo}{CP:Array Zl}
theorem Def.of (X:K.In h)(G:h.Ns mainGlobals mg)(a:PySem.W.nsIn K mainGlobals x\ι ?f)(l:K.lookup f\{oc,od,.func (fnOf x x ď õ Ù .ε kV doc pm an b9 ct),CP})(c:codeIn K b9 x=ρ)(k:keepIn K ?f=ρ)(b:∀(kV doc pm:Zt) (an:Zo) (b9 ct:Zt) (us:Zk),@us=@ps->bindArgs (fnOf x x ď õ Ù .ε kV doc pm an b9 ct) ⟨us,[]⟩=pure G2):Def K mg x st ps f (fnOf x x ď õ Ù .ε kV doc pm an b9 ct):=
 let F:=Kd (st:=st) l c k
 {F,mg_of X G a,F.binds (ps:=ps) b}
theorem MDef.of (a:findIn K ?C x\ι ?f)(i:isFn K ?f=ρ)(l:K.lookup f\{oc,od,.func (fnOf x q ď õ Ù .ε kV doc pm an b9 ct),CP})(c:codeIn K b9 q=ρ)(k:keepIn K ?f=ρ)(b:∀(kV doc pm:Zt) (an:Zo) (b9 ct:Zt) (us:Zk),@us=@ps->bindArgs (fnOf x q ď õ Ù .ε kV doc pm an b9 ct) ⟨us,[]⟩=pure G2):MDef K C x q st ps f (fnOf x q ď õ Ù .ε kV doc pm an b9 ct):=
 let F:=Kd (st:=st) l c k
 {F,{a,i,k},F.binds (ps:=ps) b}
def Def.fd {fd:Ă}(D:Def K mg x st ps f fd):∃(kV doc pm:Zt)(an:Zo)(b9 ct:Zt),fd=fnOf x x ď õ Ù .ε kV doc pm an b9 ct:=by let[oc,od,kV,doc,pm,an,b9,ct,CP,e,_]:=D.F.ex;rwa[kV,doc,pm,an,b9,ct,e]
end L2
namespace L2
def wk (b:η->ο->Zi):η->Zg->Zi
 |c,[]=>ι c
 |c,z::w=>match b c z with
  |ε=>ε
  |ι d=>wk b d w
section
variable {b:Nat->Int->Zi}
def iP (h:b n z\m):wk b n (z::l)=wk b m l:=by show (match b n z with|ε=>ε|ι m=>wk b m l)=_;rw[h]
def iM (h:wk b n (z::l)\m):∃d,b n z\d/\wk b d l\m:=by
 cases q:b n z with
 |ε=>let a:(match b n z with|ε=>ε|ι d=>wk b d l)\m:=h;rw[q]at a;ext a
 |ι d=>rw[iP q]at h;rwa[d,2,h]
theorem oQ:∀{u v:Zg}{c d:η},wk b c u\d->wk b c (u++v)=wk b d v
 |[],v,c,d,h=>by rw[Za0 h];rfl
 |z::u,v,c,d,h=>by let[e,f,a]:=iM h;rw[apc,iP f];rwa[oQ a]
theorem Dv:∀{u v:Zg}{c e:η},wk b c (u++v)\e->∃d,wk b c u\d/\wk b d v\e
 |[],v,c,e,h=>{c,2,h}
 |z::u,v,c,e,h=>by let[d,i,a]:=iM h;let[f,j,g]:=Dv a;rwa[f,[iP i]▸j,g]
def Lc (h:b n z\m):wk b n [z]\m:=by rw[iP h];rfl
def take_snoc (h:l[i]?\z):l.take (i+ 1)=l.take i++[z]:=by rw[anD,h];rfl
def drop_cons (h:l[i]?\z):l.drop i=z::l.drop (i+ 1):=by let a:=(amF.mp h).1;rw[aoY a,(amF.mp h).2]
end
structure Later (S S':RS):ν where
 el:∀c,c<S.q->S'.ay ľ=S'.ay c
 by_:∀c z d,S.by c z=ι d->S'.by (S'.ay c) z=ι (S'.ay d)
def Later.of {l:Za2}(h:Good S [] R)(g:Good T [] l)(i:∀a z b,R a z b->l a z b)(k:S.q<=T.q):Later S T:=by
 let el:∀c,c<S.q->T.ay ľ=T.ay c:=λc hc=>(g.fin (ano (h.lt hc) k) (ano hc k)).mpr ((h.cg c hc).mono i).Β
 rwa[el,λc z d e=>?_];let[f,j,r,n,m]:=h.so γ e;let[o,l2,_]:=h.rl γ r;rw[<-n,<-m,el f o,el j l2];rwa[g.tZ.mpr {f,j,i γ r,22}]
theorem Later.wk (h:Later S T):∀{w:Zg}{c d:η},wk S.by c w=ι d->wk T.by (T.ay c) w=ι (T.ay d)
 |[],c,d,e=>by rw[Za0 e];rfl
 |z::w,c,d,e=>by let[f,b,a]:=iM e;rw[iP (h.by_ γ b)];rwa[Later.wk h a]
structure Gg where
 which:η
 word:Zg
 start:η
 front:η
 first:η
 bK:η
 last:η
abbrev Zf:=List (Option Gg)
def Gg.z1 (g:Gg):ο:=g.word.Λ g.first 0
def Gg.z2 (g:Gg):ο:=-(g.word.Λ g.last 0)
structure GI (S:RS)(g:Gg):ν where
 fl:g.first<=g.last
 ll:g.last<@g.word
 s:g.start<S.q
 f:g.front<S.q
 r:g.bK<S.q
 wf:wk S.by (S.ay g.start) ı=ι (S.ay g.front)
 wr:wk S.by (S.ay g.bK) (g.word.drop (g.last+ 1))=ι (S.ay g.start)
def GI.later {g:Gg}(h:GI S g)(l:Later S T)(a:S.q<=T.q):GI T g:=by let c:=l.wk h.wf;let b:=l.wk h.wr;rw[l.el _ h.s,l.el _ h.f]at c;rw[l.el _ h.r,l.el _ h.s]at b;rwa[h.fl,h.ll,ano h.s a,ano h.f a,ano h.r a,c,b]
def Gg.sN {g:Gg}(h:g.first<@g.word):g.word[g.first]?\g.z1:=by unfold Gg.z1;rw[amH,amB h];rfl
def Gg.at2 {g:Gg}(h:g.last<@g.word):g.word[g.last]?\(-g.z2):=by unfold Gg.z2;rw[amH,amB h,aov];rfl
structure Adv (S:RS)(g g':Gg):ν where
 wh:g'.which=g.which
 wo:g'.word=g.word
 st:g'.start=g.start
 gi:GI S g'
 ef:S.ay g'.front=g'.front
 er:S.ay g'.bK=g'.bK
 n1:g'.first<g'.last->S.by g'.front g'.z1=ε
 n2:g'.first<g'.last->S.by g'.bK g'.z2=ε
 k1:S.ay g.front=g.front->S.by g.front g.z1=ε->g'.front=g.front/\g'.first=g.first
 k2:S.ay g.bK=g.bK->S.by g.bK g.z2=ε->g'.bK=g.bK/\g'.last=g.last
def GI.whole {g:Gg}(h:GI S g)(e:g.first=g.last)(c:S.ay g.start=g.start)(ef:S.ay g.front=g.front)(er:S.ay g.bK=g.bK)(d:S.by g.front g.z1=ι g.bK):wk S.by g.start g.word=ι g.start:=by
 let b:=h.wf;let a:=h.wr;rw[c,ef]at b;rw[c,er,<-e]at a;let hz:=Gg.sN (g:=g) ([e]▸h.ll);have:g.word=g.word.take g.first++(g.z1::g.word.drop (g.first+ 1)):=by rw[<-drop_cons hz,an2]
 rw[ω,oQ b,iP d];rwa[a]
def eN (m:η)(W:bM)(n:ο):η:=(~~~(m* 2001)).countP λc=>W ((c / 2001:η):ο) (((c % 2001:η):ο) - 1000) n
def yy (m G:η)(W:bM):η:=((~~~G).Α λn:η=>eN m W n).sum
def hL (W:bM)(r s:ο):bM:=λb a n=>W b a n && !(decide (b=r) && decide (a=s))
def Xi {r:η}(a:r<m)(b: -1000<=z/\z<=1000):r* 2001+ (z+ 1000).toNat<m* 2001:=by have:(r+ 1)* 2001<=m* 2001:=an1 _ a;ext
def Ld {c r:η}(f: -1000<=z/\z<=1000):(((c / 2001:η):ο)=(r:ο)/\((c % 2001:η):ο) - 1000=z)↔c=r* 2001+ (z+ 1000).toNat:=by
 constructor
 .rintro ⟨e,d⟩;have:=η.div_add_mod c 2001;ext
 .intro h;subst h
  let a:(r* 2001+ (z+ 1000).toNat) / 2001=r:=by rw[apu,η.mul_add_div ⋯,η.div_eq_of_lt ∅];ext
  let b:(r* 2001+ (z+ 1000).toNat) % 2001=(z+ 1000).toNat:=by rw[apu,η.mul_add_mod,η.mod_eq_of_lt ∅]
  rw[a,b];ext
def Xj {r:η}{W:bM}(n:ο)(f:r<m)(b: -1000<=z/\z<=1000):eN m (hL W r z) n+ (if W r z n=ρ then 1 else 0)=eN m W n:=by
 let d:=Xi f b
 let dec:∀c:η,(decide (((c / 2001:η):ο)=(r:ο)) && decide (((c % 2001:η):ο) - 1000=z))=decide (c=r* 2001+ (z+ 1000).toNat):=λc=>by rw[<-Μ.decide_and,apQ];rwa[Ld b]
 let at_:=(Ld (c:=r* 2001+ (z+ 1000).toNat) (r:=r) b).mpr rfl;unfold eN hL;cases a:W r z n=ρ
 .rw[am1 a]
  have:=nT (p:=λc:η=>W ((c / 2001:η):ο) (((c % 2001:η):ο) - 1000) n) (p':=λc:η=>W ((c / 2001:η):ο) (((c % 2001:η):ο) - 1000) n && !(decide (((c / 2001:η):ο)=(r:ο)) && decide (((c % 2001:η):ο) - 1000=z))) (v:=r* 2001+ (z+ 1000).toNat) (λc=>by rw[dec c,<-decide_not]) ([at_.1,at_.2]▸a) (m* 2001)
  rw[am1 d]at ω;rwa[ω]
 .rw[amY a,η.add_zero];rwa[θ.countP_congr λc _=>?_]
  rw[an6];rwa[λh=>h.1,λh=>{h,5}];rw[dec c]
  cases e:decide (c=r* 2001+ (z+ 1000).toNat) with
  |χ=>rfl
  |ρ=>rw[ane e,at_.1,at_.2]at h;rwa[absurd h a]
theorem Bi:∀(l:Zh)(f g h:η->η),(∀n∈l,f n+ g n=h n)->(l.Α f).sum+ (l.Α g).sum=(l.Α h).sum
 |[],_,_,_,_=>rfl
 |a::l,f,g,h,e=>by
  let c:=Bi l f g h λn b=>e n Ő
  have:=e a (amR ..);simp only[an0,θ.sum_cons];ext
theorem GC (p:η->Μ):∀l:Zh,(l.Α λn=>if p n=ρ then 1 else 0).sum=l.countP p
 |[]=>rfl
 |a::l=>by rw[an0,θ.sum_cons,GC p l,θ.countP_cons];ext
def UJ {G r:η}{W:bM}(a:r<m)(b: -1000<=z/\z<=1000):yy m G (hL W r z)+ (~~~G).countP (λn:η=>W r z n)=yy m G W:=by unfold yy;rw[<-GC (λn:η=>W r z n)];rwa[Bi δ λn _=>Xj n a b]
theorem UK:∀{l:Zh}{a b:η},l.Nodup->(∀x∈l,x=a\/x=b)->@l<=2
 |[],_,_,_,_=>⋯
 |[_],_,_,_,_=>aqu 1
 |[_,_],_,_,_,_=>amK 2
 |x::y::z::r,a,b,e,h=>by
  let f:=h x (by simp);let c:=h y (by simp);let d:=h z (by simp)
  cbv
def Xk {W:bM}{p q:ο×ο}(h:∀r s,W r s z=ρ->(r,s)=p\/(r,s)=q):eN m W z<=2:=by
 unfold eN;rw[θ.countP_eq_length_filter];rwa[UK (a:=(p.1* 2001+ (p.2+ 1000)).toNat) (b:=(q.1* 2001+ (q.2+ 1000)).toNat) (apg.filter _) λc d=>?_]
 let hd:=η.div_add_mod c 2001;rcases h _ _ (anA.mp d).2 with e|e
 .left;rw[<-e];dsimp only;ext
 .right;rw[<-e];dsimp only;ext
theorem Le:∀(l:Zh)(f:η->η)(k:η),(∀n∈l,f n<=k)->(l.Α f).sum<=@l* k
 |[],_,_,_=>by simp
 |a::l,f,k,h=>by
  let c:=Le l f k λn b=>h n Ő
  have:=h a (amR ..);rw[an0,θ.sum_cons,amT,apA];ext
def UL {W:bM}(h:∀a:η,∃p q:ο×ο,∀r s,W r s a=ρ->(r,s)=p\/(r,s)=q):yy m n W<=2* n:=by
 have:=Le (~~~n) (λa:η=>eN m W a) 2 λa _=>by let[p,q,e]:=h a;rwa[Xk e]
 rw[anp]at ω;unfold yy;ext
structure CI (S:RS)(bs:θ (η×Zg×η))(gs:Zf)(ag:Zh)(W:bM)(Ex:η->ο->ν)(x:Zi):ν where
 len:@gs=@bs
 al:∀(n:η)(g:Gg),gs[n]?\ι g->bs[n]?\(g.which,g.word,g.start)/\GI S g/\(n∈ag\/ι n=x\/(g.first<g.last/\W g.front g.z1 n=ρ/\W g.bK g.z2 n=ρ))
 de:∀(n:η)(b:η×Zg×η),gs[n]?\ε->ι n≠x->bs[n]?\b->S.ay b.2.2≠b.2.2\/wk S.by b.2.2 b.2.1=ι b.2.2
 ab:∀n∈ag,n<@gs
 en:∀r s n,W r s n=ρ->∃r' n':η,r=r'/\n=n'/\r'<S.q/\n'<@gs/\(-1000<=s/\s<=1000)/\(S.ay r'=r'/\S.by r' s=ε\/Ex r' s)
 sl:∀n:η,∃p q:ο×ο,(∀r s,W r s n=ρ->(r,s)=p\/(r,s)=q)/\∀g,gs[n]?\ι g->p=((g.front:ο),g.z1)/\q=((g.bK:ο),g.z2)
 bd:∀b∈bs,∀z∈b.2.1,-1000<=z/\z<=1000
def gI:η->ο->ν:=λ_ _=>False
section
variable {S:RS}{bs:List (Nat×Zg×Nat)}{gs:Zf}{ag:Zh}{W:bM}{Ex:Nat->Int->Prop}{x:Zi}{n:Nat}
def CI.pop (h:CI S bs gs (ag++[n]) W Ex ε):CI S bs gs ag W Ex (ι n):=by
 rwa[h.len,λk g e=>?_,λk b e _=>h.de k b e (λz=>by ext z),λk c=>h.ab k (amV _ c),h.en,h.sl,h.bd];let[f,d,a]:=h.al k g e;erw[f,d];rcases a with a|a|a
 .rcases amO.mp a with q|q
  .rwa[.ψ q]
  .rwa[.Ζ (.ψ (by rw[amI.mp q]))]
 .ext a
 .rwa[.Ζ (.Ζ a)]
def CI.done (h:CI S bs gs ag W Ex (ι n))(e:gs[n]?\ε)(k:∀b,bs[n]?\b->S.ay b.2.2≠b.2.2\/wk S.by b.2.2 b.2.1=ι b.2.2):CI S bs gs ag W Ex ε:=by
 rwa[h.len,λm g c=>?_,λm b c _ d=>?_,h.ab,h.en,h.sl,h.bd]
 .let[i,f,a]:=h.al m g c;erw[i,f];rcases a with a|a|a
  .rwa[.ψ a]
  .cbv
  .rwa[.Ζ (.Ζ a)]
 .cases q:m=n
  .rw[q]at d;rwa[k b d]
  .rwa[h.de m b c (λz=>q (Za0 z)) d]
def fK {c:Type}{l:θ c}{a b:c}(h:(l.set i a)[j]?\b):(j=i/\b=a)\/(j≠i/\l[j]?\b):=by
 cases e:i=j
 .subst e;let d:=(amF.mp h).1;rw[am7]at d;rw[anv d]at h;rwa[.ψ {2,(Za0 h).Β}]
 .rw[anQ e]at h;rwa[.Ζ {λz=>e z.Β,h}]
def CI.kill (h:CI S bs gs ag W Ex (ι n)):CI S bs (gs.set n ε) ag W Ex (ι n):=by
 rwa[[am7]▸h.len,λm g e=>?_,λm b e q f=>?_,λk a=>[am7]▸h.ab k a,λr s k e=>?_,λm=>?_,h.bd]
 .rcases fK e with ⟨_,z⟩|⟨z,e⟩
  .ext z
  .rwa[h.al m g e]
 .rcases fK e with ⟨z,_⟩|⟨z,e⟩
  .cbv
  .rwa[h.de m b e q f]
 .rw[am7];rwa[h.en r s k e]
 .let[p,q,d,c]:=h.sl m;rwa[p,q,d,λg e=>?_];rcases fK e with ⟨_,z⟩|⟨_,e⟩
  .ext z
  .rwa[c g e]
def addW (W:bM)(r s n:ο):bM:=λc a b=>W c a b || (decide (c=r) && decide (a=s) && decide (b=n))
def dS {W:bM}{r n a b:ο}:addW W r z n y a b=ρ↔W y a b=ρ\/(y=r/\a=z/\b=n):=by
 unfold addW
 cbv
def dC {W:bM}{r a b:ο}:hL W r z y a b=ρ↔W y a b=ρ/\¬(y=r/\a=z):=by
 unfold hL
 cbv
def CI.waits (h:CI S bs gs ag W gI (ι n)){g c:Gg}(e:gs[n]?\ι g)(a:Adv S g c)(d:c.first<c.last):CI S bs (gs.set n (ι c)) ag (addW (addW W c.front c.z1 n) c.bK c.z2 n) gI ε:=by
 let[A,M,_]:=h.al n g e;let D:=(amF.mp e).1;let gi:=a.gi;let bw:∀z∈c.word,-1000<=z/\z<=1000:=λz hz=>h.bd _ (amD A) z (by rw[<-a.wo];rwa[hz])
 let E:=bw _ (amD (Gg.sN (g:=c) (by have:=gi.ll;omega)));let N:=bw _ (amD (Gg.at2 (g:=c) gi.ll));rwa[[am7]▸h.len,λm u q=>?_,λm b q _ I=>?_,λk F=>[am7]▸h.ab k F,λr s k q=>?_,λm=>?_,h.bd]
 .rcases fK q with ⟨rfl,z⟩|⟨z,q⟩
  .ext z;rwa[by rw[A,a.wh,a.wo,a.st],gi,.Ζ (.Ζ {d,dS.mpr (.ψ (dS.mpr (.Ζ {222}))),dS.mpr (.Ζ {222})})]
  .let[o,l,f]:=h.al m u q;erw[o,l];rcases f with f|f|⟨f,G,H⟩
   .rwa[.ψ f]
   .rwa[absurd (Za0 f) z]
   .rwa[.Ζ (.Ζ {f,dS.mpr (.ψ (dS.mpr (.ψ G))),dS.mpr (.ψ (dS.mpr (.ψ H)))})]
 .rcases fK q with ⟨_,z⟩|⟨z,q⟩
  .ext z
  .rwa[h.de m b q (λy=>z (Za0 y)) I]
 .rw[am7];rcases dS.mp q with q|⟨rfl,Τ,rfl⟩
  .rcases dS.mp q with q|⟨rfl,Τ,rfl⟩
   .rwa[h.en r s k q]
   .rwa[_,n,Τ,Τ,gi.f,D,E,.ψ {a.ef,a.n1 d}]
  .rwa[_,n,Τ,Τ,gi.r,D,by ext,.ψ ⟨a.er,a.n2 d⟩]
 .let[p,q,o,l]:=h.sl m;cases B:m=n
  .subst B;let[J,eq]:=l g e;rwa[((c.front:ο),c.z1),((c.bK:ο),c.z2),λr s w=>?_,λu j=>?_]
   .rcases dS.mp w with w|⟨rfl,Τ,_⟩
    .rcases dS.mp w with w|⟨rfl,Τ,_⟩
     .let[v,L,er,_,_,_,_,t]:=h.en r s m w;rcases t with ⟨C,i⟩|t
      .rcases o r s w with z|z
       .rw[J]at z;injection z with z1 z2
        have:v=g.front:=∅
        subst ω;let[k1,k2]:=a.k1 C (by rw[<-z2];rwa[i])
        left
        rw[Prod.mk.injEq];erw[[k1]▸er];rw[z2];unfold Gg.z1;rw[a.wo,k2]
       .rw[eq]at z;injection z with z1 z2
        have:v=g.bK:=∅
        subst ω;let[k1,k2]:=a.k2 C (by rw[<-z2];rwa[i])
        right
        rw[Prod.mk.injEq];erw[[k1]▸er];rw[z2];unfold Gg.z2;rw[a.wo,k2]
      .rwa[t.Κ]
     .rwa[.ψ Τ]
    .rwa[.Ζ Τ]
   .rcases fK j with ⟨_,z⟩|⟨z,_⟩
    .ext z;rwa[22]
    .rwa[absurd Τ z]
  .rwa[p,q,λr s w=>?_,λu j=>?_]
   .rcases dS.mp w with w|⟨_,_,z⟩
    .rcases dS.mp w with w|⟨_,_,z⟩
     .rwa[o r s w]
     .ext
    .ext
   .rcases fK j with ⟨z,_⟩|⟨_,j⟩
    .rwa[absurd z B]
    .rwa[l u j]
def CI.wake (h:CI S bs gs ag W Ex x){r s:ο}{ns:Zh}(f:∀k:η,k∈ns↔W r s k=ρ):CI S bs gs (ag++ns) (hL W r s) Ex x:=by
 rwa[h.len,λm g e=>?_,h.de,λk u=>?_,λt o k q=>h.en γ (dC.mp q).1,λm=>?_,h.bd]
 .let[c,b,a]:=h.al m g e;erw[c,b];rcases a with a|a|⟨a,j,l⟩
  .rwa[.ψ (amV _ a)]
  .rwa[.Ζ (.ψ a)]
  .cases i:(g.front:ο)=r/\g.z1=s
   .rwa[.ψ (amN _ ((f m).mpr (by rw[<-i.1,<-i.2];rwa[j])))]
   .cases d:(g.bK:ο)=r/\g.z2=s
    .rwa[.ψ (amN _ ((f m).mpr (by rw[<-d.1,<-d.2];rwa[l])))]
    .rwa[.Ζ (.Ζ {a,dC.mpr {j,i},dC.mpr {l,d}})]
 .rcases amO.mp u with q|q
  .rwa[h.ab k q]
  .let[_,v,_,en,_,y,_]:=h.en γ ((f k).mp q);ext
 .let[p,q,c,b]:=h.sl m;rwa[p,q,λt o w=>c^(dC.mp w).1,b]
def CI.ex {e:η->ο->ν}(h:CI S bs gs ag W Ex x)(k:∀(r:η) s n,W r s n=ρ->r<S.q->Ex r s->(S.ay r=r/\S.by r s=ε)\/e r s):CI S bs gs ag W e x:=by rwa[h.len,h.al,h.de,h.ab,λr s n q=>?_,h.sl,h.bd];let[g,f,Τ,Τ,a,b,c,d]:=h.en r s n q;rwa[g,f,22,a,b,c,d.Κ .ψ (k g s f q a)]
end
structure fQ (S:RS):ν where
 a:∀c,c<S.q->S.ay c≠c->c∈S.bq
 b:∀c∈S.bq,S.ay c≠c
 c:∀c∈S.bq,c<S.q
section
variable {S S':RS}{pend:Ze}{w:Way}{R:Za2}{ks:Zg}
def Lf {x:η}:(S.meet n z x m pend).1.bq=S.bq++[max x m]:=by have:=(iu č (S.joined n z ϗ č) pend ((S.joined n z ϗ č).way č)).2;have:=an7 RS.bq ω;rwa[ω]
def vX (h:(S.takeIn pend w).1.bq=S.bq):(S.takeIn pend w).1.bj=S.bj:=by
 let no:∀{c x y:η}{z:ο},(S.meet c z x y pend).1.bq=S.bq->False:=λ{c x y z} e=>by rw[Lf]at e;have:=an7 θ.Ξ e;rw[amG]at ω;simp at ω
 unfold RS.takeIn at h ⊢;split
 .rename_i q;rw[am1 q]at h;rwa[(no h).Κ]
 .rename_i q;rw[amY q]at h;split
  .rename_i a;rw[am1 a]at h;rwa[(no h).Κ]
  .rfl
def fQ.take (f:fQ S)(h:Good S (pend++[w]) R)(j:∀c z d,R c z d->z∈ks):fQ (S.takeIn pend w).1/\∃l,(S.takeIn pend w).1.bq=S.bq++l:=by
 let[_,_,g,_,q]:=h.take j;rcases q with ⟨_,_,e⟩|⟨_,c,z,x,y,n,_,p,r,m,_,e,el⟩
 .let ee:=vX e;let el:∀a,(S.takeIn pend w).1.ay a=S.ay a:=λa=>by unfold RS.ay;rw[ee]
  rwa[{λc hc=>?_,λc hc=>?_,λc hc=>by rw[g];rw[e]at hc;rwa[f.c c hc]},[],by rw[e,am9]]
  .rw[g]at hc;rw[el,e];rwa[f.a c hc]
  .rw[e]at hc;rw[el];rwa[f.b c hc]
 .let[_,o,_,ex]:=h.st γ n;rwa[{λa b=>?_,λa b=>?_,λa b=>?_},[max x y],e]
  .rw[g]at b;rw[el,e];intro i;cases q:S.ay a=a
   .cbv
   .rwa[amV _ (f.a a b q)]
  .rw[el];rw[e]at b;rcases amO.mp b with q|q
   .let i:=f.b a q
    cbv
   cbv
  .rw[g];rw[e]at b;rcases amO.mp b with q|q
   .rwa[f.c a q]
   .rw[amI.mp q];rcases aql x y with k|k <;> ext
inductive lT:RS->Ze->RS->ν where
 |nil (S:RS):lT S [] S
 |take {S S':RS} {pend:Ze} {w:Way}:lT (S.takeIn pend w).1 (S.takeIn pend w).2 S'->lT S (pend++[w]) S'
def lT.all (l:Ϫ):Good S pend R->(∀c z d,R c z d->z∈ks)->fQ S->Good S' [] R/\fQ S'/\S'.q=S.q/\S'.L=S.L/\∃l,S'.bq=S.bq++l:=by
 induction l with
 |nil S=>exact λg _ w=>{g,w,22,[],(am9 _).Β}
 |take _ i=>intro g e w;let[h,_,m,k,_]:=g.take e;let[f,l2,n]:=w.take g e;let[a,b,c,d,o,j]:=i h e f;rwa[a,b,c.π m,d.π k,l2++o,by rw[j,n,ans]]
end
section
variable {S S':RS}{R:Za2}{bs:List (Nat×Zg×Nat)}{gs:Zf}{ag:Zh}{W:bM}{n c d:Nat}{z:Int}
def CI.lay (h:CI S bs gs ag W gI (ι n))(e:gs[n]?\ε)(g:Good S [] R)(w:Good S' [] (fX R c z d))(hm:S'.q=S.q)(L:fQ S)(C:fQ S'){l:Zh}(U:S'.bq=S.bq++l)(hc:c<S.q)(P:S.ay c=c)(hd:d<S.q)(ed:S.ay d=d)(k:∀b,bs[n]?\b->S'.ay b.2.2≠b.2.2\/wk S'.by b.2.2 b.2.1=ι b.2.2):CI S' bs gs ag W (λr s=>(r=c/\s=z)\/(r=d/\s= -z)\/∃m∈l,r=m\/r=S'.ay m) ε:=by
 let lt:=Later.of g w jh (apW hm.Β)
 let i:∀e,e<S.q->S.ay e=e->S'.ay e≠e->e∈l:=λe p j D=>by
  have:=C.a e ([hm]▸p) D;rw[U]at ω;rcases amO.mp ω with q|q
  .rwa[absurd j (L.b e q)]
  .rwa[q]
 let h0:CI S' bs gs ag W (λr s=>(r=c/\s=z)\/(r=d/\s= -z)\/∃m∈l,r=m\/r=S'.ay m) (ι n):=by
  rwa[h.len,λm u q=>?_,λm b A F Q=>?_,h.ab,λr s m q=>?_,h.sl,h.bd]
  .let[p,j,D]:=h.al m u q;rwa[p,j.later lt (apW hm.Β),D]
  .cases t:S'.ay b.2.2=b.2.2
   .right
    rcases h.de m b A F Q with q|q
    .cases y:b.2.2<S.q
     .let p:=(g.el _ y).1;let j:=(w.el _ ([hm]▸g.lt y)).1;rw[lt.el _ y,t]at j;rwa[absurd (η.le_antisymm p j) q]
     .exfalso
      let J:@S.bj=S.q:=g.wf.e;let O:@S'.bj=S'.q:=w.wf.e;let M:S.ay b.2.2=0:=by unfold RS.ay;rw[amH,ana ∅];rfl
      let B:S'.ay b.2.2=0:=by unfold RS.ay;rw[amH,ana ∅];rfl
      rwa[q (by rw[M,<-B,t])]
    .have:=lt.wk q;rw[t]at ω;rwa[ω]
   .rwa[.ψ t]
  .let[f,N,t,T,I,X,J,q]:=h.en r s m q;erw[f,N,t,T,[hm]▸I,X,J];rcases q with ⟨A,F⟩|q
   .cases p:S'.ay f=f
    .cases j:S'.by f s with
     |ε=>exact .ψ {p,2}
     |ι o=>
      right
      let[v,V,x,f1,f2]:=w.so γ j
      let stand:∀e,e<S.q->S.ay e=e->S'.ay e=f->e=f\/∃m∈l,f=m\/f=S'.ay m:=λe Y Z G=>by
       cases H:e=f
       .rwa[.ψ H]
       .rwa[.Ζ {e,i e Y Z (by rw[G];rwa[λz=>H z.Β]),.Ζ G.Β}]
      rcases x with x|⟨rfl,Τ,rfl⟩|⟨rfl,Τ,rfl⟩
      .let[E,l2,_]:=g.rl γ x;rcases stand (S.ay v) (g.lt E) (g.el _ E).2 ([lt.el _ E]▸f1) with a|a
       .exfalso
        have:=g.tZ.mpr {v,V,x,a,Τ};rw[F]at ω;ext ω
       .rwa[.Ζ (.Ζ a)]
      .rcases stand v hc P f1 with a|a
       .rwa[.ψ {a.Β,Τ}]
       .rwa[.Ζ (.Ζ a)]
      .rcases stand v hd ed f1 with a|a
       .rwa[.Ζ (.ψ {a.Β,Τ})]
       .rwa[.Ζ (.Ζ a)]
    .rwa[.Ζ (.Ζ (.Ζ {f,i f I A p,.ψ Τ}))]
   .rwa[q.Κ]
 rwa[h0.done e k]
end
def cH (a:η->ο->Zi):η->Zg->Zh
 |_,[]=>[]
 |r,z::c=>match a r z with
  |ε=>[]
  |ι b=>b::cH a b c
def Bj {a:η->ο->Zi}{r:η}(h:a r z=ε):cH a r (z::l)=[]:=by show (match a r z with|ε=>[]|ι b=>b::cH a b l)=[];rw[h]
def pW {a:η->ο->Zi}{r:η}(h:a r z\n):cH a r (z::l)=n::cH a n l:=by show (match a r z with|ε=>[]|ι n=>n::cH a n l)=_;rw[h]
def oj (w:η)(p:Zh)(k:η):Dt:=.t [.s [114,117,108,101],.i w,.t (p.Α λc:η=>Dt.i (c:ο)),.i k]
structure Dw (ws:Za3)(nr:η)(S:RS)(which:η)(word:Zg)(start m c d:η)(z:ο):ν where
 w:ws[which]?\word
 n:which<nr\/start=0
 s:start<S.q/\S.ay start=start
 hz:word[m]?\z
 f:wk S.by start å=ι c
 r:wk S.by d (word.drop (m+ 1))=ι start
 hc:c<S.q/\S.ay c=c
 hd:d<S.q/\S.ay d=d
 o:S.by c z≠ι d
def rQ (S:RS)(a:η)(word:Zg)(start m d:η):RS:={ S with rows:=S.rows++[oj a ((start::cH S.by start å)++(d::cH S.by d (word.drop (m+ 1)))) m] }
inductive Tr (ws:Za3)(nr:η):RS->RS->ν where
 |refl (S:RS):Tr ws nr S S
 |step {S S1 S2:RS} {which:η} {word:Zg} {start m c d:η} {z:ο}:Tr ws nr S S1->Dw ws nr S1 which word start m c d z->lT (rQ S1 which word start m d) [(c,z,d)] S2->Tr ws nr S S2
def Lg (S:RS)(c:η)(word:Zg):ν:=wk S.by c word=ι c\/∃(i j f r:η)(y z:ο),i<j/\word[i]?\y/\word[j]?\z/\wk S.by c (word.take i)=ι f/\S.by f y=ε/\wk S.by r (word.drop (j+ 1))=ι c/\S.by r (-z)=ε
structure Ab (rs ps:Za3)(S:RS):ν where
 r:∀w∈rs,∀c,c<S.q->S.ay c=c->Lg S c w
 p:∀w∈ps,Lg S 0 w
def UW (U:Za2):η->Zg->η->ν
 |p,[],q=>p=q
 |p,z::w,q=>∃r,U p z r/\UW U r w q
structure Xl (ws:Za3)(nr M:η)(φ:η->η)(U:Za2):ν where
 sy:∀p z q,U p z q->U q (-z) p
 fn:∀p z q q',U p z q->U p z q'->q=q'
 cl:∀(which:η)(word:Zg)(start m c d:η)(z:ο),ws[which]?\word->which<nr\/start=0->start<M->word[m]?\z->UW U (φ start) å (φ c)->UW U (φ d) (word.drop (m+ 1)) (φ start)->U (φ c) z (φ d)
section
variable {S S':RS}{R:Za2}{φ:Nat->Nat}{U:Za2}{ks:Zg}
def Dx (i:∀p z q e,U p z q->U p z e->q=e)(d:∀a z b,R a z b->U (φ a) z (φ b)){a b:η}(h:Cg R a b):φ a=φ b:=by
 induction h with
 |refl=>rfl
 |Β _ c=>exact c.Β
 |π _ _ f k=>exact f.π k
 |step j g _ c=>exact i δ (d γ j) ([c]▸d γ g)
def Dy (g:Good S [] R)(e:∀p z q i,U p z q->U p z i->q=i)(f:∀a z b,R a z b->U (φ a) z (φ b)){c d:η}{z:ο}(h:S.by c z=ι d):U (φ c) z (φ d):=by
 let[m,n,r,l,t]:=g.so γ h;let[j,k,_]:=g.rl γ r;let o:=Dx e f (g.cg _ j);let s:=Dx e f (g.cg _ k)
 cbv
theorem Dz (h:∀c z d,S.by c z=ι d->U (φ c) z (φ d)):∀{w:Zg}{c d:η},wk S.by c w=ι d->UW U (φ c) w (φ d)
 |[],c,d,e=>by rw[Za0 e];rfl
 |z::w,c,d,e=>by let[f,b,a]:=iM e;rwa[_,h γ b,Dz h a]
def Tr.sound {ws:Za3}(t:Tr ws n S S')(md:Xl ws n m φ U)(A:∀w∈ws,∀z∈w,z∈ks/\-z∈ks):Good S [] R->fQ S->S.q<=m->(∀a z b,R a z b->z∈ks)->(∀a z b,R a z b->U (φ a) z (φ b))->
 ∃j,Good S' [] j/\fQ S'/\S'.q=S.q/\S'.L=S.L/\(∀a z b,R a z b->j a z b)/\(∀a z b,j a z b->z∈ks)/\∀a z b,j a z b->U (φ a) z (φ b):=by
 induction t with
 |refl=>exact λg w _ k h=>{R,g,w,22,λ_ _ _ r=>r,k,h}
 |step _ ra C F=>
  rename_i J I which word start f c d z _;intro g q v k h;let[B,g1,l,D,G,E,k1,p]:=F g q v k h;let o:=λc z d=>Dy (c:=c) (d:=d) (z:=z) g1 md.fn p
  let u:=md.cl which word start f c d z ra.w ra.n (by have:=ra.s.1;omega) ra.hz (Dz o ra.f) (Dz o ra.r);let hz:=A word (amD ra.w) z (amD ra.hz)
  let i:∀a y b,fX B c z d a y b->y∈ks:=by
   rintro a y b (r|⟨_,e,_⟩|⟨_,e,_⟩)
   .rwa[k1 γ r]
   .rw[e];rwa[hz.1]
   .rw[e];rwa[hz.2]
  let[x,H,s,l2,_]:=C.all (g1.lay z ra.hc.1 ra.hd.1 _) i {l.a,l.b,l.c};erw[_,x,H,s.π D,l2.π G,λa y b r=>.ψ (E γ r),i];rintro a y b (r|⟨rfl,Τ,rfl⟩|⟨rfl,Τ,rfl⟩)
  .rwa[p γ r]
  .rwa[u]
  .rwa[md.sy γ u]
end
section
variable {X:Cx}
def UM (K:Za1)(h:TA)(f:TE):TI:=λ c H R=>h c H λd e=>f c e λz b=>∃a n,d=[?a]/\z=.τ n/\0<=n/\n<1000/\(∃g,az K b a g)/\R (RH K a n) b
def Xm (Q:V->Hp->ν):Zb->Hp->ν
 |[z],H=>Q z H
 |_,_=>False
theorem UN {Q:V->Hp->ν}:∀{a:Zb}{H:Hp},Xm Q a H->∃z,a=[z]/\Q z H
 |[z],_,h=>{z,2,h}
 |[],_,h=>h.Κ
 |_::_::_,_,h=>h.Κ
def Lh [i:e9 X K]{a b:đ}{t o:TE}{elts:Zr}{W:η}{N p pos kp:Pos}(B:Gl X Ã)(S:X.mg Ã=ε)(T:PE X a t)(A:PE X b o)(w:starEach [a] X.env=(χ,eval a X.env)::starEach [] X.env)(d:((backTo pos (starEach [a] X.env)).any (·.1) || (backToKw pos (keywordEach [⟨ι æ,b,kp⟩] X.env)).any (·.1.isNone))=χ):
 PI X (.Tuple elts W N) (.Call (.Name Ã p) [a] [{ι æ,b,kp}] pos) (UM K (u0 t tO) o):=by
 cases i.eq;intro c s x H R I h;rwa[aoa (iI I B S boot_enumerate ?_)];rwa[PySem.W.callWith_of (P:=λ_=>True) d (λ_ _=>{.machine,.Ζ (.ψ Τ),λ_ _ _ _ _ q=>amL q}) (evalArgs_kw2 Τ (bx ((ae T ah w) pos c s x H _ I h) λus O ζ=>?_) w)];let[E,M,C,r,q]:=ζ;rwa[bx ((Gp A J0:PK X [{ι æ,b,kp}] _) pos c O x M (Xm λz k=>∃a n,E=[?a]/\z=.τ n/\0<=n/\n<1000/\(∃v,az X.K k a v)/\R (RH X.K a n) k) C q) λws F ζ=>?_];let[Y,k,m,Q,U]:=ζ;rwa[True.intro,5]
 let[z,Τ,l,n,J,Τ,e,j,f,L]:=UN U;subst J;let[v,f]:=f;let[u,Τ,V]:=vals1 r;ext V;let[u2,Τ,y,Τ]:=vals1 Q;let[G,rv,pl,hz]:=m.list f;show wpAny β (call (.type Ã) [?l] [(æ,.τ n y)]) β F;rwa[En.FD pl.isList e j λZ g hit D=>Gy m (wM l _) (λ_=>∅) ([show n+ ((0:η):ο)=n by ext]▸g) hit D L]
end
section
variable {prog:Program} {w:World} {K:Type} [DecidableEq K] {knd:HeapKind prog w K} {A:Around} {E:Zt->Zu->Prop} {s:Zu} {d a:Zs} {k:K} {xs:List (K×Zs×Zt)}
def FG {dflt:Zt}(m:knd.room A)(b:knd.is s.ς k a)(C:s.ς.DictOfH knd d xs)(u:∀v,(atKey xs k).Α (·.2)\v->Q v { s with toks:=s.toks+ knd.draws k })(r:atKey xs k=ε->∀i,i.DictOfH knd d (storedH xs k a dflt)->Heap.SameBut d s.ς i->Q dflt { s with ς:=i,toks:=s.toks+ knd.draws k })(x:@xs<=sizeLine):(prog<|>w) A (dictSetDefault d ?a dflt) Q E s:=by
 let[G,B,t,f,g2,c,h,n,l]:=C;unfold dictSetDefault
 first|(with_reducible rwa[an9 ?_])|skip
 rwa[amC (knd.pyHash m b (amC (wpAny_dictFind_heap (s:={ s with toks:=s.toks+ knd.draws k }) m b f c h n l (λno=>?_) (λj p o=>?_))))]
 .let I:k∉xs.Α (·.1):=not_mem_keys_of_get no;let g:=atKey_none_of_get no;rwa[amC (apV (amC (wpAny_updateDictKeys (hz:=by let e:=size_of_entries h;omega) (s:={ s with toks:=s.toks+ knd.draws k }) f c (amL (r g _ ?_ (anW ..))))))];erw[11,t+ 1,anx _ f (Obj.isFreed_of_dict (Obj.data_mapDictKeys c _)),g2.mapDictKeys _,Obj.data_mapDictKeys c _,55]
  .rw[storedH_new g];simp[h,entryOfKey]
  .rw[storedH_new g];intro y z;rcases amO.mp z with q|q
   .rwa[knd.keeps (n y q) f c (anW ..)]
   .rw[amI.mp q];rwa[knd.keeps b f c (anW ..)]
  .rw[storedH_new g,am8,anC]
   cbv
 .let D:=atKey_of_get l o;rwa[amC (apE (s:={ s with toks:=s.toks+ knd.draws k }) f c ?_)]
  let F:B[j]?\(entryOfKey knd (k,p)):=by rw[entry_at h j,o];rfl
  rw[F];rwa[amC (apV (amL (u _ (by rw[D];rfl))))]
def BX (knd:HeapKind prog w K)(d a:Zs)(hd:(d==sysModules)=χ)(dflt:Zt):MeetsIn prog w (Builtin.«dict.setdefault» {[?d,?a,dflt],[]}) (λA R s=>knd.room A.in1/\∃k xs,knd.is s.ς k a/\s.ς.DictOfH knd d xs/\@xs<=sizeLine/\
 (∀v,(atKey xs k).Α (·.2)\v->R (.ok (.ret v)) { s with toks:=s.toks+ knd.draws k })/\(atKey xs k=ε->∀b,b.DictOfH knd d (storedH xs k a dflt)->Heap.SameBut d s.ς b->R (.ok (.ret dflt)) { s with ς:=b,toks:=s.toks+ knd.draws k })):=
 .of_wp λA R s ζ=>by
  let[i,k,xs,c,hm,m,h,g]:=ζ
  unfold Builtin.«dict.setdefault» Builtin.Dict.keyAndDefault;rwa[amC (amC (apy hm.typeIs ?_))];show wpAny β (pure (d,Value.Η a,ι dflt)) β s;rwa[amL ?_];show wpAny β (if (d==sysModules)=ρ then _ else (dictSetDefault d ?a dflt >>=_)) β s;rw[hd];rwa[amC (FG i c hm (λv f=>amL {v,2,h v f}) (λl b j e=>amL {dflt,2,g l b j e}) m)]
end
inductive Xn (a:Zs)(y z:V)(H:Hp)(Q:VK):ν
 |mk (kvs:θ (Zd×V))(k:Zd)(b:Zs):H a\.dT kvs->y=?b->H b\.Θ (k.Α kV)->@kvs<sizeLine->(∀v,bG kvs k\v->Q v H)->(bG kvs k=ε->Q z (υ H a (.dT (putK kvs k z))))->Xn a y z H Q
def Xo (td e tx:TE):TE:=λ b H Q=>td b H λx c=>Gx x c λa=>e b c λy d=>tx b d λz f=>Xn a y z f Q
section
variable {X:Cx}{o e f:Expr}{apos cQ:Pos}{td ty tx:TE}
def Pa (hu:X.A.units+ 1<cLine)(Y:ĳ)(he:ϒ)(W:PE X f tx)(m:M2 X o ϰ apos e f cQ):PE X (.Call (.Attribute o ϰ apos) [e,f] [] cQ) (Xo td ty tx):=by
 intro j s r H Q I h;rwa[ao5 m.base m.few m.line aoe aoH PySem.F.type_dict_setdefault (bx (Y j s r H _ I h) λu s1 ζ=>?_)];let[x,H1,C,rx,a,ex,d,R]:=ζ;subst ex;obtain rfl:u=Value.Η a:=rx;let[Z,L,_]:=oM C d;erw[Z,L];rw[m.trees]
 rwa[anZ Τ (aoh (anO (bx (he j s1 r H1 _ C R) λiv O ζ=>?_)))];let[y,H2,U,ry,q2]:=ζ;rwa[ anO (bx (W j O r H2 _ U q2) λfv s3 ζ=>?_)];let[z,D,n,G,i,k,b,A,ey,F,M,T,q4]:=ζ;rwa[aoq ?_]
 subst ey;cases (show iv=Value.Η b from ry);let[V,hd,xs,rel,J]:=Rw n.a0 A;let g:=rel.val k;let p:@xs<=sizeLine:=by rw[<-Paired.Ξ rel];rwa[V]
 rwa[apa aoH J.typeIs PySem.F.entry_dict_setdefault (PySem.F.args_dict_setdefault_3^_) (BX _ a b hd fv) {aoV hu,k,xs,oK n.a0 F,J,p,λv hv=>?_,λhn g1 w sb=>?_}]
 .rw[hv]at g
  cases l:bG i k with
  |ε=>rw[l]at g;rwa[g.Κ]
  |ι t=>rw[l]at g;rwa[t,D,n.tok _,g,T t l]
 .rw[hn]at g
  cases l:bG i k with
  |ι t=>rw[l]at g;rwa[g.Κ]
  |ε=>
   let hl:@(putK i k z)<=sizeLine:=by have:=gE i k z;ext
   let[q,es,ep,E,N,h3,P,_,S]:=w;rwa[z,υ D a (.dT (putK i k z)),lM n ([A]▸True.intro) sb ⟨q,E⟩ ⟨hl,hd,_,(rel.put k F G).keeps λc ys B=>?_,q,es,ep,E,N,h3,P,S⟩,G,q4 l];rw[aq (bF B A (λz=>nomatch z))];rwa[B]
end
section
variable {H:Hp}{k:Zs}{D:Int->Zo}{E:Int->Int->Zo}{S:bM}
def eU.Pb (h:ì){c s:ο}{d:Zs}(hd:D c\d){l:θ (Key×V)}(x:H d\.dK l):
 eU (υ H d (.dK (fP l Ò))) k D (λg f=>if g=c/\f=s then ε else E g f) (hL S c s):=by
 let[m,n,G,A,F]:=h.row c d hd;rw[x]at n;obtain rfl:l=m:=by injection n with n;injection n
 let un:∀{g f:ο}{z:Zs},(if g=c/\f=s then ε else E g f)\z->¬(g=c/\f=s)/\E g f\z:=λ{g f z} q=>by
  cases e:g=c/\f=s
  .rw[am1 e]at q;ext q
  .rw[amY e]at q;rwa[e,q]
 rwa[h.top.at λo q=>?_,λg v j=>?_,λg f p i=>?_,λg f p i=>h.ed γ (un i).2,λg f o C=>?_,h.nd,λg f p i=>h.ne γ (un i).2,h.dd,λg B f v j i=>h.de δ j (un i).2,λg f B I p y w=>h.ee δ _ (un y).2 (un w).2]
 .rw[aq (h.nd c d hd).Β];rwa[q]
 .cases u:g=c
  .subst u;obtain rfl:v=d:=by rw[hd]at j;rwa[(Za0 j).Β]
   rwa[(UG G A F s).congr λf=>?_]
   cases r:f=s
   .rw[am1 r,am1 {2,r}];rfl
   .rw[amY r,amY (λz=>r z.2)]
  .rwa[((h.row g v j).at λo q=>by rw[aq λz=>u (h.dd γ j ([z]▸hd))];rwa[q]).congr λf=>?_]
   rw[amY (λz=>u z.1)]
 .let[ne,t]:=un i;rwa[((h.Bh g f p t).at λo q=>[aq (λz=>h.de c g f d hd (by rw[<-z];rwa[t]))]▸q).congr λo=>?_]
  have:hL S c s g f o=S g f o:=by rw[aoL,dC];rwa[λz=>z.1,λz=>{z,ne}]
  rw[ω]
 .let[a,b]:=dC.mp C;let[e,t]:=h.se γ a;rwa[e,[amY b]▸t]
end
structure Xp (k:Zs)(D:ο->Zo)(E:ο->ο->Zo)(W:bM)(O:Zs->ν):ν where
 o:∀b,xk k D E b->O b
 d:∀c x,D c\x->0<=c/\c<100000
 e:∀c s x,E c s\x-> -1000<=s/\s<=1000
 w:∀c s n,W c s n=ρ->0<=n/\n<100000
def qL (H:Hp)(k:Zs)(W:bM)(O:Zs->ν):ν:=∃D E,eU H k D E W/\Xp k D E W O
def gu (H:Hp)(k:Zs)(W:bM)(O:Zs->ν)(c:ο)(d:Zs):ν:=∃D E,eU H k D E W/\Xp k D E W O/\D c\d
def rS (H:Hp)(k:Zs)(W:bM)(O:Zs->ν)(c s:ο)(e:Zs):ν:=∃D E,eU H k D E W/\Xp k D E W O/\E c s\e
def Li (O:Zs->ν)(p:Zs):Zs->ν:=λb=>O b\/b=p
variable {H H':Hp}{k:Zs}{W:bM}{O:Zs->Prop}{c s:Int}{d e p:Zs}
def qL.keep (h:qL H k W O)(f:∀b o,O b->H b\o->H' b\o):qL H' k W O:=by let[D,E,g,a]:=h;rwa[D,E,g.keep λb o i q=>f b o (a.o b i) q,a]
def qL.sM (h:qL H k W O):Gw H k:=by let[D,E,a,_]:=h;let[kv,q,_]:=a.top;rwa[.ψ {kv,.ψ q}]
def qL.room (h:qL H k W O)(t:H p=ε)(hc:0<=c/\c<100000):∃a,υ H p (.dK []) k\.dK a/\@a<sizeLine/\(∀v,bG a (Sum.ψ c)\v->∃d,v=?d/\gu (υ H p (.dK [])) k W O c d)/\
 (bG a (Sum.ψ c)=ε->gu (υ (υ H p (.dK [])) k (.dK (putK a (Sum.ψ c) ?p))) k W (Li O p) c p):=by
 let[D,E,r,f]:=h;let y:=au.υ (o:=.dK []) t;let k1:=r.Δ y;let[a,m,A,w,l]:=k1.Xf;let nw:¬xk k D E p:=λz=>by let[kv,q]:=r.there z;cbv
 rwa[a,m,5,λv g=>?_,λg=>?_]
 .rwa[amS (yx (n:=100000) (lo:=0) A w l λi v g=>?_) ⋯]
  cases e:D i with
  |ε=>rw[e]at g;ext g
  |ι x=>have:=f.d i x e;ext
 .rw[l]at g;let[d,hd,Τ]:=an8.mp g;rwa[d,2,D,E,k1,f,hd]
 .rw[l]at g;let hd:D c=ε:=aqh.mp g;rwa[_,E,k1.UI hd m aj nw,{λb u=>?_,λj x q=>?_,f.e,f.w},am1 Τ]
  .rcases u with z|⟨j,z⟩|z
   .rwa[.ψ (f.o b (.ψ z))]
   .dsimp only at z;cases e:j=c
    .rw[am1 e]at z;rwa[.Ζ (Za0 z).Β]
    .rw[amY e]at z;rwa[.ψ (f.o b (.Ζ (.ψ {j,z})))]
   .rwa[.ψ (f.o b (.Ζ (.Ζ z)))]
  .cases e:j=c
   .rw[e];rwa[hc]
   .rw[amY e]at q;rwa[f.d j x q]
def gu.sM (h:ő):Gw H d:=by let[D,E,a,f,b]:=h;let[kv,q,_]:=a.row c d b;rwa[.ψ {kv,.ψ q}]
def gu.own (h:ő):O d:=by let[D,E,f,a,b]:=h;rwa[a.o d (.Ζ (.ψ {c,b}))]
def gu.Δ (h:ő)(s:au H H'):gu H' k W O c d:=by let[D,E,b,a,f]:=h;rwa[D,E,b.Δ s,a,f]
def gu.cell (h:ő)(w:H p=ε)(C: -1000<=s/\s<=1000):∃a,υ H p (.dK []) d\.dK a/\@a<sizeLine/\(∀v,bG a Ò\v->∃e,v=?e/\rS (υ H p (.dK [])) k W O c s e)/\
 (bG a Ò=ε->rS (υ (υ H p (.dK [])) d (.dK (putK a Ò ?p))) k W (Li O p) c s p):=by
 let[D,E,u,f,hd]:=h;let B:=au.υ (o:=.dK []) w;let k1:=u.Δ B;let[a,t,F,A,m]:=k1.O9 hd;let nw:¬xk k D E p:=λz=>by let[kv,q]:=u.there z;cbv
 rwa[a,t,5,λv g=>?_,λg=>?_]
 .rwa[amS (yx (n:=2001) (lo:=-1000) F A m λi v g=>?_) ⋯]
  cases e:E c i with
  |ε=>rw[e]at g;ext g
  |ι x=>have:=f.e c i x e;ext
 .rw[m]at g;let[e,r,Τ]:=an8.mp g;rwa[e,2,D,E,k1,f,r]
 .rw[m]at g;let r:E c s=ε:=aqh.mp g;rwa[D,_,k1.UH hd r t aj nw,{λb y=>?_,f.d,λl j x q=>?_,f.w},am1 {22}]
  .rcases y with z|z|⟨l,j,z⟩
   .rwa[.ψ (f.o b (.ψ z))]
   .rwa[.ψ (f.o b (.Ζ (.ψ z)))]
   .dsimp only at z;cases e:l=c/\j=s
    .rw[am1 e]at z;rwa[.Ζ (Za0 z).Β]
    .rw[amY e]at z;rwa[.ψ (f.o b (.Ζ (.Ζ {l,j,z})))]
  .cases e:l=c/\j=s
   .rw[e.2];rwa[C]
   .rw[amY e]at q;rwa[f.e l j x q]
def rS.own (h:rS H k W O c s e):O e:=by let[D,E,f,a,b]:=h;rwa[a.o e (.Ζ (.Ζ {c,s,b}))]
def rS.put (h:rS H k W O c s e){n:ο}(o:0<=n/\n<100000):∃a,H e\.dK a/\@a<sizeLine/\qL (υ H e (.dK (putK a (Sum.ψ n) (.bl ρ)))) k (addW W c s n) O:=by
 let[D,E,g,b,j]:=h;let[a,f,r,l,m]:=g.Xg j;rwa[a,f,5,D,E,g.Xh j f n,b.o,b.d,b.e,λx t u q=>?_]
 .rwa[amS (yx (n:=100000) (lo:=0) r l m λi v y=>?_) ⋯];cases w:W c s i=ρ
  .have:=b.w γ w;ext
  cbv
 .rcases dS.mp q with q|⟨_,_,q⟩
  .rwa[b.w γ q]
  .rw[q];rwa[o]
def qL.get (h:qL H k W O):∃o,dB H k (.τ c) o/\((o=ε/\∀s n,W c s n=χ)\/∃d,o\?d/\gu H k W O c d):=by
 let[D,E,a,i]:=h;let[b,j,r,q,f]:=a.Xf;let g:=dB.k (k:=Sum.ψ c) j;rw[f]at g;erw[_,g]
 cases e:D c with
 |ε=>
  rwa[.ψ {2,λs n=>?_}]
  cases w:W c s n with
  |χ=>rfl
  |ρ=>
   let[x,l]:=a.se γ w;let[y,m]:=a.ed γ l
   cbv
 |ι d=>exact .Ζ {d,2,D,E,a,i,e}
theorem DB:∀{a:θ (Key×V)},(a.Α (·.1)).Nodup->(∀kv∈a,∃n:η,kv.1=Sum.ψ (n:ο))->∃ns:Zh,a.Α (λkv=>kV kv.1)=ao (nI ns)/\ns.Nodup/\∀n:η,n∈ns↔Sum.ψ (n:ο)∈a.Α (·.1)
 |[],_,_=>{[],2,aoA,λn=>{(λz=>by ext z),(λz=>by ext z)}}
 |kv::r,b,h=>by
  rw[an0,anq]at b;let[ns,g,j,i]:=DB b.2 λx l=>h x (amZ _ l)
  let[m,f]:=h kv (amR ..);rwa[m::ns,5,anq.mpr {λz=>b.1 ([f]▸(i m).mp z),j},λn=>?_]
  .rw[an0,g,f];rfl
  cbv
def GD {a:θ (Key×V)}{v:V}(h:bG a ϧ\v):Sum.ψ z∈a.Α (·.1):=anm.mpr {_,O8 h,2}
def gu.pop (h:ő)(s:ο):∃a,H d\.dK a/\(bG a Ò=ε->∀n,W c s n=χ)/\
 ∀v,bG a Ò\v->∃(e:Zs)(f:θ (Key×V))(ns:Zh),v=?e/\e≠d/\H e\.dK f/\f.Α (λkv=>kV kv.1)=ao (nI ns)/\ns.Nodup/\(∀n:η,n∈ns↔W c s n=ρ)/\qL (υ H d (.dK (fP a Ò))) k (hL W c s) O:=by
 let[D,E,o,l,hd]:=h;let[a,y,R,P,A]:=o.O9 hd;rwa[a,y,λt n=>?_,λv t=>?_]
 .rw[A]at t
  cases w:W c s n with
  |χ=>rfl
  |ρ=>
   let[x,Q]:=o.se γ w
   cbv
 .rw[A]at t;let[e,C,Τ]:=an8.mp t;let[f,L,u,F,G]:=o.Xg C
  let r:∀i:ο,Sum.ψ i∈f.Α (·.1)↔W c s i=ρ:=λi=>by
   constructor
   .intro z;let[kv,g,e]:=anm.mp z;have:=Ds u g
    cbv
   .intro w;rwa[GD (v:=.bl ρ) (by rw[G,am1 w])]
  let[ns,M,J,N]:=DB u λkv g=>by let[i,B]:=F kv g;have:=l.w γ ((r i).mp (by rw[<-B];rwa[aoP g]));rwa[i.toNat,by rw[B];congr 1;ext]
  rwa[e,f,ns,2,λz=>o.de δ hd (by rw[<-z];rwa[C]),L,M,J,λn=>(N n).π (r n),11,o.Pb hd y,{λb I=>l.o b ?_,l.d,λm j x q=>?_,λm j n q=>l.w γ (dC.mp q).1}]
  .rcases I with z|z|⟨m,j,z⟩
   .rwa[.ψ z]
   .rwa[.Ζ (.ψ z)]
   .dsimp only at z;cases e:m=c/\j=s
    .cbv
    .rw[amY e]at z;rwa[.Ζ (.Ζ {m,j,z})]
  .cases e:m=c/\j=s
   .rw[am1 e]at q;ext q
   .rw[amY e]at q;rwa[l.e γ q]
def Lj {P:η->Μ}{G:η}:∀{ns:Zh},ns.Nodup->(∀n∈ns,n<G/\P n=ρ)->@ns<=(~~~G).countP P:=by
 intro ns
 induction ns generalizing P with
 |nil=>exact λ_ _=>ani _
 |cons m r j=>
  intro f h;rw[anq]at f;let[i,g]:=h m (amR ..);have:=nT (p:=P) (p':=λa=>P a && decide (a≠m)) (v:=m) (λa=>rfl) g G;rw[am1 i]at ω
  have:=j (P:=λa=>P a && decide (a≠m)) f.2 λn b=>{(h n Ő).1,by rw[(h n Ő).2,anh (show n≠m from λz=>f.1 (by rw[<-z];rwa[b]))];rfl}
  rw[amT];ext
def Ac {W:bM}{c s:ο}(h:∀n,W c s n=χ):hL W c s=W:=by
 funext b a n
 rw[aoL,dC];rwa[λz=>z.1,λz=>{z,λq=>?_}];rw[q.1,q.2,h]at z;ext z
end L2
namespace L2
variable {S:RS}{R:Za2}
theorem DC (g:Good S [] R):∀{w:Zg}{c d e:η},wk S.by c w=ι e->wk S.by d w=ι e->c=d
 |[],c,d,e,b,a=>by rw[Za0 b,Za0 a]
 |z::w,c,d,e,b,a=>by
  let[n,h,f]:=iM b;let[l,i,j]:=iM a;have:=DC g f j;subst ω;let k:=g.sy γ h;let m:=g.sy γ i
  cbv
def Pg (g:Good S [] R){p c d m:η}{word:Zg}{z:ο}(h:Lg S p word)(hz:word[m]?\z)(n:wk S.by p å=ι c)(k:wk S.by d (word.drop (m+ 1))=ι p):S.by c z=ι d:=by
 let J:=(amF.mp hz).1;rcases h with h|⟨i,j,f,r,y,s,v,D,E,u,L,F,t⟩
 .have:word=word.take m++(z::word.drop (m+ 1)):=by rw[<-drop_cons hz,an2]
  rw[ω,oQ n]at h;let[e,C,w]:=iM h;rw[C,DC g w k]
 .exfalso
  let a:m<=i:=by
   rcases apz i m with q|q
   .exfalso
    let e:word.take m=word.take i++(y::(word.take m).drop (i+ 1)):=by
     let l:å[i]?\y:=by rw[apo,am1 q];rwa[D]
     rw[<-drop_cons l];have:word.take i=(word.take m).take i:=by rw[θ.take_take,aom ∅]
     rw[ω,an2]
    rw[e,oQ u]at n;let[x,H,_]:=iM n
    cbv
   .rwa[q]
  let b:j<=m:=by
   rcases apz m j with q|q
   .exfalso
    let o:(word.drop (m+ 1))[j - (m+ 1)]?\s:=by rw[apq,show m+ 1+ (j - (m+ 1))=j by ext];rwa[E]
    let e:word.drop (m+ 1)=(word.drop (m+ 1)).take (j - (m+ 1))++(s::word.drop (j+ 1)):=by
     have:word.drop (j+ 1)=(word.drop (m+ 1)).drop (j - (m+ 1)+ 1):=by rw[θ.drop_drop];congr 1;ext
     rw[ω,<-drop_cons o,an2]
    rw[e]at k;let[x,_,G]:=Dv k;let[I,A,B]:=iM G;have:=DC g B F;subst ω;rw[g.sy γ A]at t;ext t
   .rwa[q]
  ext
theorem Ir {b:η->ο->Zi}:∀{w:Zg}{p q:η},UW (λp z q=>b p z\q) p w q->wk b p w\q
 |[],p,q,h=>by rw[show p=q from h];rfl
 |z::w,p,q,h=>by let[r,c,a]:=h;rw[iP c];rwa[Ir a]
def Xq (g:Good S [] R){l k a i:Za3}(c:Ab l k S)(r:0<S.q)(x:∀w∈a,w∈l)(v:∀w∈i,w∈k):Xl (a++i) @a S.q S.ay (λp z q=>S.by p z=ι q):=by
 rwa[λp z q h=>g.sy γ h,λp z q D C A=>by cbv,λe b start m B d z j y n u t s=>?_];rwa[Pg g (p:=S.ay start) ?_ u (Ir t) (Ir s)];cases f:e<@a
 .rw[amP f]at j;rwa[c.r b (x _ (amD j)) _ (g.lt n) (g.el _ n).2]
 .rw[amU ∅]at j;let o:start=0:=y.resolve_left f;have:S.ay start=0:=by rw[o];have:=(g.el 0 r).1;ext
  rw[ω];rwa[c.p b (v _ (amD j))]
section
variable {X:Cx}{e:Expr}{p pos:Pos}
def Xr (C:Zs):TE:=λ_ H Q=>∀x d,H x=ε->H d=ε->d≠x->Q ?x (υ (υ H d (.own x)) x (.ins C d []))
def Ph (d:makesIn X.K b=ρ)(n:findIn X.K ?b Ç=ι (ι (.builtin Ó)))(kp:keepIn X.K ?b=ρ)(j:œ)(q:X.mg x\?b)(f:(x==(Ö:Ι))=χ):PE X (.Call (.Name x p) [] [] pos) (Xr b):=by
 intro g s r H Q I h;rwa[aoa (jv I j q ?_ f)];rwa[PySem.W.callWith_K0 I.dZ kp (apX ?_)];let l:=Inv.made (C:=b) I;let k:=h (↥s+ 1) ↥s (I.a0.fresh (aqu _)) Ï (anl (aoo _));let Y:=makes_of (M:=model X.prog X.w) I.dZ d;rwa[JX I.dZ d n (λself=>PySem.W.Looks.of_pure (PySem.W.oi_bind self)) ?_]
 let m:((s.ς.push emptyDict).push (instObj b ↥s)).get? (↥s+ 1)\(instObj b ↥s):=by
  have:=am0 (s.ς.push emptyDict) (o:=instObj b ↥s) rfl
  rwa [apj]at ω
 let t1:PySem.W.Looks ë ((s.ς.push emptyDict).push (instObj b ↥s)) (typeOf ↑(↥s+ 1)) ?b:=(PySem.W.Looks.ld m).andThen .now;let i:PySem.W.Looks ë ((s.ς.push emptyDict).push (instObj b ↥s)) (isInstance ↑(↥s+ 1) (.type ũ)) ρ:=t1.andThen (Y.top.keeps λc o e=>amJ _ ű);rwa[aoG PySem.W.oi_plain PySem.W.entry_oi (@@PySem.W.check_slot ë γ Ó ũ Ç ↑(↥s+ 1) [] [] _ PySem.W.oi_kind PySem.W.oi_split i (PySem.W.oi_args ↑(↥s+ 1)) ?_)];rwa[amL (And.intro Τ ⟨↑(↥s+ 1),_,l,Τ,k⟩)]
end
def DE {b:đ}{o:Operator}{env:Env}:starEach (.BinOp e o b p::C) env=(χ,eval (.BinOp e o b p) env)::starEach C env:=rfl
end L2
namespace L2
def nm (E:Zh)(c:η):η:=E.Λ c 0
def sO (R:Za2)(E:Zh)(a:η)(z:ο)(b:η):ν:=∃c d,R c z d/\nm E c=a/\nm E d=b
def yz (x y a:η):η:=if a=y then x else a
def yA (h:n<m)(E:Zh)(c:η):nm (E.Α (yz n m)) c=yz n m (nm E c):=by
 unfold nm;rw[amH,amH,amQ]
 cases E[c]? with
 |ι x=>rfl
 |ε=>show 0=yz n m 0;unfold yz;rw[amY ∅]
def Xs (u v:η)(W:Za2)(a:η)(z:ο)(b:η):ν:=∃c d,W c z d/\yz u v c=a/\yz u v d=b
inductive One (ws:Za3)(nr:η):Zh->(Za2)->Dt->Zh->(Za2)->ν
 |meet {E:Zh} {W:Za2} {c u v:η} {z:ο}:u<v->E[u]?\u->E[v]?\v->W c z u->W c z v->One ws nr E W (iO c z u v) (E.Α (yz u v)) (Xs u v W)
 |rule {E:Zh} {W:Za2} {which k c d:η} {word:Zg} {p:Zh} {z:ο}:ws[which]?\word->@p=@word+ 1->p[0]?=p[@word]?->(which<nr\/p[0]?\0)->(∀x∈p,E[x]?\x)->word[k]?\z->p[k]?\c->p[k+ 1]?\d->(∀(i a b:η)(y:ο),i≠k->word[i]?\y->p[i]?\a->p[i+ 1]?\b->W a y b)->One ws nr E W (oj which p k) E (fX W c z d)
inductive Go (ws:Za3)(nr:η):Zh->(Za2)->θ Dt->Zh->(Za2)->ν
 |nil {E:Zh} {W W':Za2}:(∀a z b,W a z b↔W' a z b)->Go ws nr E W [] E W'
 |cons {E E1 E2:Zh} {W W1 W2:Za2} {row:Dt} {ms:ſ}:One ws nr E W row E1 W1->Go ws nr E1 W1 ms E2 W2->Go ws nr E W (row::ms) E2 W2
section
variable {ws:Za3}{nr:Nat}{E E1 E2:Zh}{W W' W1 W2:Za2}{ms ns:List Dt}
def Go.congr (h:Go ws nr E W ms E1 W1):∀{W':Za2},(∀a z b,W' a z b↔W a z b)->Go ws nr E W' ms E1 W1:=by
 induction h with
 |nil e=>exact λh=>.nil λa z b=>(h a z b).π (e a z b)
 |cons o _ m=>
  intro W' h
  cases o with
  |meet j c l f k=>exact .cons (.meet j c l ((h^_).mpr f) ((h^_).mpr k)) (m λa z b=>by
   constructor
   .rintro ⟨g,d,q,r⟩;rwa[g,d,(h^_).mp q,r]
   .rintro ⟨g,d,q,r⟩;rwa[g,d,(h^_).mpr q,r])
  |rule j c l f k v p u w=>exact .cons (.rule j c l f k v p u λi a b y n x s t=>(h^_).mpr (w i a b y n x s t)) (m λa z b=>by unfold fX;rw[h])
def Go.app (h:Go ws nr E W ms E1 W1):∀{E2:Zh}{W2:Za2}{ns:ſ},Go ws nr E1 W1 ns E2 W2->Go ws nr E W (ms++ns) E2 W2:=by
 induction h with
 |nil e=>exact λg=>g.congr e
 |cons o _ a=>exact λg=>.cons o (a g)
end
def UO (h:n<m)(a:η)(z:ο)(b:η):Xs n m (sO R B) a z b↔sO R (B.Α (yz n m)) a z b:=by
 constructor
 .rintro ⟨g,i,⟨e,c,r,Τ,rfl⟩,d,f⟩;rwa[e,c,r,by rw[yA h,d],by rw[yA h,f]]
 .rintro ⟨e,c,r,d,f⟩;rwa[11,{e,c,r,22},by rw[<-yA h,d],by rw[<-yA h,f]]
section
variable {ws:Za3}{nr:Nat}{S S':RS}{pend:Ze}{R:Za2}{ks:Zg}
def rT {S:RS}(wf:S.Wf){c:η}(a:c<S.q):S.bj[c]?\ľ:=by unfold RS.ay;rw[amH,amB ([wf.e]▸a)];rfl
def Xt (l:Ϫ):Good S pend R->(∀c z d,R c z d->z∈ks)->∃e,S'.rows=S.rows++e/\Go ws nr S.bj Z9 e S'.bj (sO R S'.bj):=by
 induction l with
 |nil S=>exact λ_ _=>{[],(am9 _).Β,.nil λ_ _ _=>Iff.rfl}
 | @take S S' pend w _ E=>
   intro g p;let[g1,_,r,_,q]:=g.take p;let[e,v,go]:=E g1 p;rcases q with ⟨_,j,B⟩|⟨_,c,z,x,y,u,h,D,F,m,j,_,A⟩
   .rw[vX B]at go;rwa[e,by rw[v,j],go]
   .let[_,o,_,ex]:=g.st γ u;let f:min x y<max x y:=by rcases η.lt_or_gt_of_ne m with q|q <;> ext
    let C:(S.takeIn pend w).1.bj=S.bj.Α (yz Ô Ψ):=by
     rwa[aox λi=>?_]
     rw[amQ];cases t:i<S.q
     .rw[rT g1.wf ([r]▸t),rT g.wf t,A];rfl
     .rw[ana (by rw[g1.wf.e,r];omega),ana (by rw[g.wf.e];omega)];rfl
    let ix:sO R S.bj c z x:=g.so γ u;let h:sO R S.bj c z y:=h;let n:=rT g.wf o;let k:=rT g.wf D;rw[ex]at n;rw[F]at k;rwa[iO c z Ô Ψ::e,by rw[v,j,ans];rfl,.cons (.meet f ?_ ?_ ?_ ?_) ((C ▸ go).congr λa s b=>UO f a s b)]
    .rcases aql x y with q|q
     .rw[aom q];rwa[n]
     .rw[ape q];rwa[k]
    .rcases aql x y with q|q
     .rw[apP q];rwa[k]
     .rw[aqc q];rwa[n]
    .rcases aql x y with q|q
     .rw[aom q];rwa[ix]
     .rw[ape q];rwa[h]
    .rcases aql x y with q|q
     .rw[apP q];rwa[h]
     .rw[aqc q];rwa[ix]
theorem ub {c:η->ο->Zi}:∀{w:Zg}{r e:η},wk c r w\e->@(r::cH c r w)=@w+ 1/\(r::cH c r w)[@w]?\e/\∀(i:η)(y:ο),w[i]?\y->∃a b,(r::cH c r w)[i]?\a/\(r::cH c r w)[i+ 1]?\b/\c a y\b
 |[],r,e,h=>by rwa[2,by rw[<-Za0 h];rfl,λi y q=>by simp at q]
 |z::w,r,e,h=>by
  let[d,f,j]:=iM h;let[g,k,l]:=ub j;rw[pW f];rwa[by rw[amT,g];rfl,k,λi y q=>?_]
  cases i with
  |zero=>rwa[r,d,22,by rw[<-Za0 q];rwa[f]]
  |succ i=>exact l i y q
theorem xl (g:Good S [] R):∀{w:Zg}{r e:η},wk S.by r w=ι e->S.bj[r]?\r->∀x∈r::cH S.by r w,S.bj[x]?\x
 |[],r,e,h,b,x,a=>by rw[amI.mp a];rwa[b]
 |z::w,r,e,h,b,x,a=>by
  let[d,c,f]:=iM h;rcases amW.mp a with rfl|a
  .rwa[b]
  .rw[pW c]at a;let[_,hd,_,i]:=g.st γ c;have:=rT g.wf hd;rw[i]at ω;rwa[xl g f ω x a]
def Pj (e:nm B n=n)(hd:nm B m=m)(a:η)(y:ο)(b:η):fX (sO R B) n z m a y b↔sO (fX R n z m) B a y b:=by
 constructor
 .rintro (⟨f,g,r,c,d⟩|⟨rfl,Τ,rfl⟩|⟨rfl,Τ,rfl⟩)
  .rwa[f,g,.ψ r,c,d]
  .rwa[11,.Ζ (.ψ {222}),e,hd]
  .rwa[11,.Ζ (.Ζ {222}),hd,e]
 .rintro ⟨f,g,r|⟨rfl,Τ,rfl⟩|⟨rfl,Τ,rfl⟩,c,d⟩
  .rwa[.ψ {f,g,r,c,d}]
  .rwa[.Ζ (.ψ {c.Β.π e,2,d.Β.π hd})]
  .rwa[.Ζ (.Ζ {c.Β.π hd,2,d.Β.π e})]
def Pk {start:η}{word:Zg}(g:Good S [] R)(c:Dw ws nr S n word start m i j z):One ws nr S.bj Z9 (oj n ((start::cH S.by start å)++(j::cH S.by j (word.drop (m+ 1)))) m) S.bj (fX Z9 i z j):=by
 let H:m<@word:=(amF.mp c.hz).1;let[d,B,G]:=ub c.f;let[v,C,D]:=ub c.r;let lt:@(word.take m)=m:=by rw[anc];ext
 let ld:@(word.drop (m+ 1))=@word - (m+ 1):=anI ..;rw[lt]at d B;rw[ld]at v C;let u:=rT g.wf c.s.1;rw[c.s.2]at u;let t:=rT g.wf c.hd.1;rw[c.hd.2]at t;let left:∀h,h<=m->((start::cH S.by start å)++(j::cH S.by j (word.drop (m+ 1))))[h]?=(start::cH S.by start å)[h]?:=λh A=>amP (by rw[d];omega)
 let right:∀h,((start::cH S.by start å)++(j::cH S.by j (word.drop (m+ 1))))[m+ 1+ h]?=(j::cH S.by j (word.drop (m+ 1)))[h]?:=λh=>by
  rw[amU (by rw[d];omega),d]
  congr 1
  ext
 rwa[.rule c.w (by rw[amG,d,v];omega) ?_ ?_ (λx k=>?_) c.hz ?_ ?_ λh a b y A w o l=>?_]
 .rw[left 0 ∅,show @word=m+ 1+ (@word - (m+ 1)) by ext,right];rw[C];rfl
 .rw[left 0 ∅];exact c.n.Ρ id λe=>by rw[e];rfl
 .rcases amO.mp k with k|k
  .rwa[xl g c.f u x k]
  .rwa[xl g c.r t x k]
 .rw[left m Φ];rwa[B]
 .rw[right 0];rfl
 .rcases η.lt_or_gt_of_ne A with q|q
  .let[F,E,p,s,r]:=G h y (by rw[ao2 q];rwa[w]);rw[left h ∅,p]at o;rw[left (h+ 1) ∅,s]at l;obtain rfl:=Za0 o;obtain rfl:=Za0 l;rwa[g.so γ r]
  .obtain⟨f,rfl⟩:∃f,h=m+ 1+ f:={h - (m+ 1),3};let[F,E,p,s,r]:=D f y ([apq]▸w);rw[right,p]at o;rw[show m+ 1+ f+ 1=m+ 1+ (f+ 1) by ext,right,s]at l;obtain rfl:=Za0 o;obtain rfl:=Za0 l;rwa[g.so γ r]
def RM (t:Tr ws nr S S')(C:∀w∈ws,∀z∈w,z∈ks/\-z∈ks):Good S [] R->fQ S->(∀a z b,R a z b->z∈ks)->∃p,Good S' [] p/\fQ S'/\(∀a z b,p a z b->z∈ks)/\∃j,S'.rows=S.rows++j/\Go ws nr S.bj Z9 j S'.bj (sO p S'.bj):=by
 induction t with
 |refl=>exact λg w k=>{R,g,w,k,[],(am9 _).Β,.nil λ_ _ _=>Iff.rfl}
 |step _ f u F=>
  rename_i l H h word start m c d z _;intro g x k;let[D,g1,n,v,j,E,o]:=F g x k;let s:=C word (amD f.w) z (amD f.hz)
  let i:∀a y b,fX D c z d a y b->y∈ks:=by
   rintro a y b (r|⟨_,e,_⟩|⟨_,e,_⟩)
   .rwa[v γ r]
   .rw[e];rwa[s.1]
   .rw[e];rwa[s.2]
  let gl:=g1.lay z f.hc.1 f.hd.1 (l.rows++[oj h ((start::cH l.by start å)++(d::cH l.by d (word.drop (m+ 1)))) m]);let[A,G,_]:=u.all gl i {n.a,n.b,n.c};let[q,B,go2]:=Xt (ws:=ws) (nr:=nr) u gl i;rwa[_,A,G,i,j++(_::q),5,o.app (.cons (Pk g1 f) (go2.congr λa y b=>Pj f.hc.2 f.hd.2 a y b))];rw[B];show (l.rows++[_])++q=_;rw[E,ans,ans];rfl
end
def TsQ (a:ĩ)(w:Ĩ)(A:Ģ)(env:Env):Zr->(Μ->Zu->ν)->Zu->ν
 |[],K,s=>K ρ s
 |c::_,K,s=>(a<|>w) A (isTrue c env (eval c env)) K (λ_ _=>False) s
def DF {R:Result->Zu->ν}{elt target iter:đ}{cs:Zr}{scope:Š}{pos:Pos}{it acc:Zt}{env:Env}(u:@cs<=1)(I:η->Zu->ν)(turn:∀n s,I n s->(P<|>w) A (pyNext it) (λr f=>match r with
  |ε=>R (.ok .next) f
  |ι v=>(P<|>w) A (letOwnedTupleGo target it v) (λ_ j=>(P<|>w) A (assign target env v) (λ_ l=>TsQ P w A env cs (λb k=>
   match b with
   |ρ=>(P<|>w) A (eval elt env) (λx d=>(P<|>w) A (call (.builtin "list.append") [acc,x]) (λ_ i=>∃m,m<n/\I m i) (λ_ _=>False) d) (λ_ _=>False) k
   |χ=>∃m,m<n/\I m k) l) (λ_ _=>False) j) (λ_ _=>False) f) (λ_ _=>False) s)(n:η)(h:I n s):codeAny B0 A (.compLoop (.ListComp elt [{target,iter,cs,(0)}] scope pos) 0 it acc env) R s:=by
 rwa[codeAny_loop Τ I (λn s t=>wpAny_noted ?_) n h];rcases cs with _|⟨c,_|_⟩;rw[compTurn_list1]
 rotate_left 2
 cbv
 all_goals
  rwa[amC (ap6 (amC (aok (turn n s t) (λr f g=>?_) λ_ _ e=>e.Κ)))]
  cases r with
  |ε=>exact amL g
  |ι v=>
   rwa[amC (aok g (λ_ j q=>amC (aok q (λ_ l a=>?_) λ_ _ e=>e.Κ)) λ_ _ e=>e.Κ)]
   try rwa[amC (wpAny_tests_one (aok a (λok d a=>?_) λ_ _ e=>e.Κ))];ext ok;rwa[amL {2,a}]
   rwa[amC (amC (aok a (λx d p=>amC (aok p (λ_ i o=>amL (amL {2,o})) λ_ _ e=>e.Κ)) λ_ _ e=>e.Κ))]
def RN (X:Cx):Zr->TT->ν
 |[],a=>a=λ_ H Q=>Q ρ H
 |c::_,a=>PT X c a
def UQ {e:TT}{Q:Μ->Hp->ν}{K:Μ->Zu->ν}(h:RN X C e)(i:X.xe=λ_ _=>False)(I:Ì)(q:e D H Q)(k:∀b a d,Inv X o D d a->Q b d->K b a):TsQ X.prog X.w X.A X.env C K s:=
 match C,h with
 |[],h=>by rw[h]at q;rwa[k ρ s H I q]
 |c::_,h=>by have:=h o s D H Q I q;rw[i]at ω;rwa[bx ω λb a ζ=>?_];let[d,f,g]:=ζ;rwa[k b a d f g]
section
variable {X:Cx}{elt iter yp:Expr}{x:Str}{px pos:Pos}{scope:Scope}{cl:List (Str×Zs)}{fns:Zp}{ixs:Zh}{wi:TI}{tt:TT}{te:TE}
theorem Bk {cs:Zr}{use:Ο (Zt->Sem Unit)}{RQ:Zt->Zu->ν}{Q:VK}(hl:@cs<=1)(hc:X.calm=ρ)(hi:PI X (.Name x px) iter wi)(S:â)(ht:∀(C:Zs) (s:Zu) (H:Hp) (ex:Zn),RN (dQ X (x::fns) scope cl C s H ex) cs tt)(he:∀(C:Zs) (s:Zu) (H:Hp) (ex:Zn),PE (dQ X (x::fns) scope cl C s H ex) elt te)(hs:∀x,foldedSetIterable iter X.env x=pure x)(I:Ì)(h:qG wi (jQ ixs) tt te D H Q)(fin:∀(C k:Zs) (H3:Hp) (ys:Zb) (s4:Zu) (m:Ι->Zl),s4.ς.Ns C m->(∀G,Heap.SameBut C s4.ς G->Inv X o D (υ H3 k (.Ε ys)) (s4<*G))->υ H3 k (.Ε ys) C=ε->X.env.locals≠C->(∀z c,X.env.cells.lookup z\c->c≠C)->X.fG.ς.Ν.Γ<=C->(∀g∈X.pn++o,g.1≠C)->Q ?k (υ H3 k (.Ε ys))->compPost ë X.A X.xe use RQ ?k C (.ok .next) s4):
 X⁻¹ X.A (comprehension (.ListComp elt [{.Name x px,iter,cs,(0)}] scope pos) scope X.env p (newList []) χ (eval iter X.env) use) RQ X.xe s:=by
 rwa[wpAny_comprehension_free Τ hs S.aeF S.kind S.names (bx (hi o s D H _ I h) λv s1 h1=>bx h1 λitv s2 h2=>?_)];let[it,Y,tn,J,H2,e,A,T,Lk,f2,W,⟨m0,w0⟩,turn]:=h2;subst e
 let E:∀b∈Y,b<↥s2:=λb t=>by let[f,ho,_]:=T.obj β Lk b t;rwa[am6 ho]
 rwa[anw (wpAny_newFunctionEnv S.cell (by intro y hy;simp at hy) (λPl O N=>?_) S.kind)];generalize DG:s2.ς.push { cls:=.type À,dict:=ε,data:=.seq ([]:Zk).toArray }=F at O N ⊢;generalize hD:↥s2=k at E ⊢;let hC:F.Ν.Γ=k+ 1:=by rw[<-DG,apj,hD]
 generalize hCe:F.Ν.Γ=C at hC O N ⊢;let w:k<C:=∅
 let Ln:k≠C:=anl w;let L:∀b u,s2•b\u->F.get? b\u:=λb u q=>by rw[<-DG];rwa[amJ _ q]
 let RP:∀{b u},s2•b\u->b<k:=λq=>by rw[<-hD];rwa[am6 q]
 let U:∀b u,F.get? b\u->Pl.get? b\u:=λb u q=>N.extBut b u (anl (ano (am6 q) (apW hCe))) (amJ _ q)
 let hDo:F.get? k\{ cls:=.type À,dict:=ε,data:=.seq ([]:Zk).toArray }:=by rw[<-DG,<-hD];rwa[am0 _ Τ]
 let I3:Inv X o D H2 (s2<*F):=A.kept (t':=s2.toks) L;let RT:H2 k=ε:=A.a0.fresh ∅;let hnC:H2 C=ε:=A.a0.fresh ∅
 let Pn:∀b∈k::Y,b∉bZ X.stack:=λb t z=>by
  rcases amW.mp (A.Cy b z) with e|z
  .rcases amW.mp t with Z|t
   .rwa[absurd A.lt (by rw[<-e,Z,<-hD];rwa[aou _])]
   .rwa[(f2 b t).2.1 e]
  .rcases amW.mp t with Z|t
   .rwa[A.VG (by rw[Z,<-hD];rwa[amK _]) z]
   .rwa[(f2 b t).2.2.1 z]
 let tJ:∀y c,cl.lookup y\c->∀b∈k::Y,c≠b:=λy c q b t z=>by
  let[v,hv]:=A.cell y c Ϣ;rcases amW.mp t with Z|t
  .rwa[absurd hv.lt (by rw[z,Z,<-hD];rwa[aou _])]
  .rwa[(f2 b t).2.2.2.2.1 y c Ϣ z]
 let' R:Cx:=dQ X (x::fns) scope cl C (s2<*F) H2 (k::Y)
 let ok:R.Ok:={
  mod:=A.ok.mod
  kind:=S.kind
  glob:=A.ok.glob
  blt:=A.ok.blt
  above:=by show F.Ν.Γ<=C;ext
  inj:=λy z c q1 q2=>A.ok.inj y z c (S.sub^q1) (S.sub^q2)
  has:=S.has
  Cw:=λy c q=>nomatch q
  hd:=A.ok.hd
  frames:=A.ok.frames
  Gd:=.ψ rfl
  Q0:=λb t=>{by
   rcases amW.mp t with Z|t
   .rw[Z];rwa[Ln]
   .rwa[anl (ap1 (E b t) w)],λy c q=>tJ y c q b t}
  bs:=I3.bs
  vQ:=amM I3.ok.vQ I3.sz
  wH:=λb f q t=>by
   rcases amW.mp t with Z|t
   .rwa[absurd (RP (A.bs b f q).1) (by rw[Z];rwa[aou _])]
   .rcases (f2 b t).2.2.2.1 with z|z
    .rwa[A.ok.wH b f q z]
    .rwa[absurd (am6 (A.ok.bs b f q).1) (η.not_lt.mpr z)]
  zK:=Pn
  kO:=I3.stack
  yc:=I3.uW }
 let start:∀(v0:Zc),v0=ε->Inv R [(k,{ cls:=.type À,dict:=ε,data:=.seq ([]:Zk).toArray })] (v0::jQ ixs D) H2 { s2 with ς:=Pl,toks:=s2.toks+ @([]:θ (Ι×Zt)) }:=λv0 hv0=>{
  ok:=ok
  os:=rfl
  bare:=A.bare
  base:=Un.kept U
  loc:={_,O,λi y v e1 Z e3=>by
   cases i with
   |zero=>rw[hv0]at Z;ext Z
   |succ j=>
    let e1':fns[j]?\y:=e1
    let Xu:(jQ ixs D)[j]?\(ι v):=Z
    let[i,hi1,hi2,hk,c,RV,hc2]:=S.at_ j y e1';unfold jQ at Xu;rw[amQ,hi1]at Xu
    let e3':D[i]?\(ι v):=by
     let z:(D[i]?).join\v:=Za0 Xu
     cases q:D[i]? with
     |ε=>rw[q]at z;ext z
     |ι f=>rw[q]at z;rw[show f=ι v from z]
    let[m,_,hl]:=A.loc;let[u,r,l]:=hl i y v hi2 e3' (hk.Κ (λz=>.Ζ (.ψ z)) λz=>.Ζ (.Ζ z));rwa[u,r,.Ζ {hc2,c,RV,5}];rcases l with ⟨z,_⟩|⟨_,c',hc',abI⟩
    .rcases hk with hk|hk <;> cbv
    .have:c'=c:=Za0 (hc'.Β.π (S.sub^RV));subst ω;let[f,ho,hd]:=abI;rwa[f,U^L^ho,hd]}
  cell:=λy c q=>by let[v,f,ho,hd]:=A.cell y c Ϣ;rwa[v,f,U^L^ho,hd]
  free:=hnC
  iX:=λy c q=>A.iX y c Ϣ
  pin:=λg hp=>by
   let Xv:g=(k,{ cls:=.type À,dict:=ε,data:=.seq ([]:Zk).toArray }):=by simpa [R,dQ] using hp
   subst Xv;rwa[U^hDo,RT,Ln,Pn k (amR ..),λv z=>nomatch z]
  a0:=(A.a0.kept L).kept U
  len:=by show @(v0::jQ ixs D)=@(x::fns);simp[jQ,S.len] }
 let Xw:∀{H':Hp}{P:θ (Zs×Obj)},(∀b∈Y,H' b=ε)->(∀g∈P,g.1=k)->∀b∈Y,rJ R P H' b:=λ{H' P} hn hp b t=>
  {hn b t,anl (ap1 (E b t) w),Pn b (amZ _ t),.ψ (amZ _ t),λy c q=>tJ y c q b (amZ _ t),λg q=>by
   let q':g∈P:=by simpa [R,dQ] using q
   rw[hp g q'];rwa[aoC (E b t)]}
 let loop:codeAny ë X.A (.compLoop (.ListComp elt [⟨.Name x px,iter,cs,(0)⟩] scope pos) 0 ?it ?k (compEnvC scope cl C X.env))
  (compPost ë X.A X.xe use RQ ?k C) { s2 with ς:=Pl,toks:=s2.toks+ @([]:θ (Ι×Zt)) }:=by
  refine DF hl (λn s'=>∃(i:η)(ys:Zb)(M:Zk)(nn:η)(v0:Zc)(H':Hp),Inv R [(k,{ cls:=.type À,dict:=ε,data:=.seq M.toArray nn })] (v0::jQ ixs D) H' s'/\tn i s'.ς/\(∀b∈Y,H' b=ε)/\Vals ys M/\W i n ys H') ?_ m0
   {(0),[],[],(0),ε,H2,start ε Τ,T.keep γ Lk λb _ f q=>U^L^q,λb t=>(f2 b t).1,.nil,w0}
  rintro n s3 ⟨i,ys,M,nn,v0,H3,J3,tn3,fr3,vv,w3⟩
  let Pp:∀g∈([(k,({ cls:=.type À,dict:=ε,data:=.seq M.toArray nn }:Obj))]:θ (Zs×Obj)),g.1=k:=λg hp=>by cbv
  rcases turn i n ys H3 w3 with ⟨stop,hlen,q⟩|⟨go,hlen,step⟩
  .-- the end
   rwa[bx (T.done R Τ Τ Τ hc i _ s3 _ H3 _ J3 (Xw fr3 Pp) tn3 stop) λr s4 ζ=>?_];let[hr,J4]:=ζ
   subst hr;let[m,hn,_]:=J4.loc;let[gD,nD,_,_,_]:=J4.pin (k,{ cls:=.type À,dict:=ε,data:=.seq M.toArray nn }) (by simp[R,dQ]);let B:=J4.base
   let inv:∀G,Heap.SameBut C s4.ς G->Inv X o D (υ H3 k (.Ε ys)) (s4<*G):=λG hsb=>by
    let kC:∀b u,b≠C->s4•b\u->G.get? b\u:=λb u t q=>(hsb.2 b t).π q
    let ne:∀{b f},s2•b\f->b≠C/\b≠k:=λq=>{anl (ap1 (RP q) w),anl (RP q)}
    let vY:∀{b f},s2•b\f->b∉Y->b∉k::Y:=λq hx z=>(amW.mp z).Κ (ne q).2 hx
    let uu:Un ŵ Y H2 (υ H3 k (.Ε ys)) s2.ς G:={
     keep:=λb f q n t hx=>kC b f (ne q).1 (B.keep b f (L b f q) n t (vY q hx))
     slot:=λb f q n t hx=>by let[sl,e]:=B.slot b f (L b f q) n t (vY q hx);rwa[sl,kC b _ (ne q).1 e]
     free:=λb f q n hx=>by rw[aq (ne q).2];rwa[B.free b f (L b f q) n (vY q hx)]
     there:=λb f q hx=>by let[o',e]:=B.there b f (L b f q) (vY q hx);rwa[o',kC b _ (ne q).1 e]
     lG:=λb xs q=>by rw[aq (ax q RT)];rwa[B.lG b xs q]
     j8:=λb f xs q=>by rw[aq (ax q RT)];rwa[B.j8 b f xs q]
     mY:=λb ps q=>by let[more,e]:=B.mY b ps q;rwa[{more,[aq (ax q RT)]▸e} ]}
    let a0:eI X.prog X.w (υ H3 k (.Ε ys)) G:=λb u e=>by
     cases t:b=k
     .subst t;rw[aj]at e;ext e;rwa[hlen,M,nn,vv,kC β Ln gD]
     .rw[aq t]at e;refine(J4.a0 b u e).iV (λc v hc q=>kC c v ?_ q) (λc q=>[aq (ax q nD)]▸q) λc xs q=>by rw[aq (ax q nD)];rwa[q]
      let fC:H3 C=ε:=J4.free
      cbv
    rwa[A.Q5 (s':=(s4<*G)) J4.os uu a0 J4.bare (λb t=>{(f2 b t).2.2.2.1,(f2 b t).2.1,(f2 b t).2.2.2.2.1,(f2 b t).2.2.2.2.2})]
   let ab:∀{b f},s2•b\f->b≠C:=λq z=>absurd (RP q) ([z]▸η.not_lt.mpr (aoI w))
   rwa[fin C k H3 ys s4 m hn inv ([aq (an5 Ln)]▸J4.free) (λz=>?_) (λz c hz=>?_) (amM (by have:=A.sz;rw[hD]at ω;rwa[ω]) (aoI w)) (λg hp=>ab (A.pin g hp).1) (q k nD)]
   .let h1:=A.lt
    cbv
   .let[v,f,ho,_]:=A.cell z c hz;rwa[ab ho]
  .-- a turn
   rwa[bx (T.item R Τ Τ Τ hc i _ s3 _ H3 _ J3 (Xw fr3 Pp) tn3 go) λr s4 ζ=>?_];let[u,hr,h4]:=ζ
   subst hr;rwa[bx h4 λ_ s5 ζ=>?_];let[xv,H5,J5,r5,y5,Lp,RW]:=ζ
   let J5':=J5.pinned (Xw RW Pp) (T.obj^Lp);let hg:PG R (.Name x px) (cU 0):=Gh (X:=R) (i:=0) S.nd Τ (.ψ (vT S.own)) (.Ζ (vT S.own));rwa[bx (hg _ s5 _ H5 xv u (λ fH H'=>fH=ι xv::jQ ixs D/\H'=H5) J5' r5 {22}) λ_ s6 ζ=>?_];let[σ6,H6,J6,e6,e6']:=ζ
   subst e6 e6';rwa[UQ (ht C (s2<*F) H2 (k::Y)) Τ J6 (step xv H6 y5) λbt s6b Xx Lq q6=>?_]
   cases bt with
   |ρ=>
    rwa[bx (he C (s2<*F) H2 (k::Y) _ s6b _ Xx _ Lq q6) λyv s7 ζ=>?_];let[y,H7,J7,r7,m',Xy,w7]:=ζ
    let[gD,nD,_,_,_]:=J7.pin (k,{ cls:=.type À,dict:=ε,data:=.seq M.toArray nn }) (by simp[R,dQ]);let Xz:tn (i+ 1) s7.ς:=T.keep γ Lp λb t f e=>(J7.pin (b,f) Ğ).1
    let XA:∀b∈Y,H7 b=ε:=λb t=>by let[f,e,d]:=T.obj β Lp b t;rwa[(J7.pin (b,f) Ğ).2.1]
    let J7':Inv R [] (ι xv::jQ ixs D) H7 s7:=J7.qB λg hp=>nomatch hp
    rwa[wpAny_list_append_plain (hsz:=by rw[am4,<-@vv];omega) {nn,gD} λh8 pl8 sb8=>?_]
    let[n8,g8]:=pl8
    let J8:Inv R [] (ι xv::jQ ixs D) H7 (s7<*h8):=J7'.turned (t':=s7.toks) (it:=k) (λb f t e=>(sb8.2 b t).π e) nD (Ln) (.ψ (amR ..))
     (λy c q=>tJ y c q k (amR ..)) (λg hp=>by simp[R,dQ]at hp)
    rwa[m',Xy,i+ 1,ys++[y],M++[yv],n8,ι xv,H7,J8.qB λg hp=>?_,5,XA,vv.append (.cons r7 .nil),w7]
    .cbv
    .rwa[T.keep γ Xz λb t f e=>(sb8.2 b (anl (E b t))).π e]
   |χ=>
    let[m',Xy,w7]:=q6;let[gD,nD,_,_,_]:=Lq.pin (k,{ cls:=.type À,dict:=ε,data:=.seq M.toArray nn }) (by simp[R,dQ]);let Xz:tn (i+ 1) s6b.ς:=T.keep γ Lp λb t f e=>(Lq.pin (b,f) Ğ).1
    let XA:∀b∈Y,Xx b=ε:=λb t=>by let[f,e,d]:=T.obj β Lp b t;rwa[(Lq.pin (b,f) Ğ).2.1]
    rwa[m',Xy,i+ 1,ys,M,nn,ι xv,Xx,Lq.qB λg hp=>?_,Xz,XA,vv,w7]
    cbv
 rwa[codeAny_compStart_list loop (T.self _ 0 γ (T.keep γ Lk λb _ f q=>U^L^q) loop)]
def DH {cs:Zr}(e:@cs<=1)(k:X.calm=ρ)(g:PI X (.Name x px) iter wi)(S:â)(d:∀(C:Zs) (s:Zu) (H:Hp) (ex:Zn),RN (dQ X (x::fns) scope cl C s H ex) cs tt)(j:∀(C:Zs) (s:Zu) (H:Hp) (ex:Zn),PE (dQ X (x::fns) scope cl C s H ex) elt te)(f:∀x,foldedSetIterable iter X.env x=pure x):PE X (.ListComp elt [⟨.Name x px,iter,cs,(0)⟩] scope pos) Į:=by intro c s o H Q I h;rwa[Bk e k g S d j f I h λC D n ys l m i inv _ _ _ _ _ q=>{m,i,λa b=>{?D,_,inv a b,2,q}}]
def vZ {cs:Zr}{a:Pos}(L:@cs<=1)(P:Ĥ)(i:X.N[n]?\f)(M:Ϯ)(T:X.calm=ρ)(O:PI X (.Name x px) iter wi)(S:â)(B:∀(C:Zs) (s:Zu) (H:Hp) (ex:Zn),RN (dQ X (x::fns) scope cl C s H ex) cs tt)(R:∀(C:Zs) (s:Zu) (H:Hp) (ex:Zn),PE (dQ X (x::fns) scope cl C s H ex) elt te)(N:∀x,foldedSetIterable iter X.env x=pure x)(r:swapsWith (.ListComp elt [⟨.Name x px,iter,cs,(0)⟩] scope pos) (ι (.Name f p)) a.line X.env=pure ρ)(l:X.fn f=ρ\/X.env.scope.names.lookup f=ι .local):PS X (.Assign [.Name f p] (.ListComp elt [⟨.Name x px,iter,cs,(0)⟩] scope pos) a) (zM Į (cU n)):=by
 intro d s σ H U I h;rw[exec_Assign_Name_used δ r];rwa[amC (ap6 (amC ?_))];rwa[amC (aok (Bk (RQ:=λ_ w=>SP X d U .next w) L T O S B R N I h λC D Z ys V m Q inv t A z sz J q=>?_) (λ_ w F=>amL (amL F)) λ_ _ e=>e)];rwa[wpAny_assign_Name (AU (inv _ {2,λ_ _=>rfl}) P i M (v:=?D) Τ (λs5 G c=>?_) l)];let[y,j,k]:=c
 let g:C≠y:=by
  rcases k with e|e
  .cbv
  .rwa[an5 (z f y e)]
 rwa[m,Q.sameBut j g,λh6 u=>?_];rwa[11,G.turned (t':=s5.toks) (it:=C) (λb o E e=>(u.2 b E).π e) t (an5 A) (.Ζ sz) z J,q]
def eP (c:X.calm=ρ)(d:PI X (.Name x px) iter wi)(S:â)(a:∀(C:Zs) (s:Zu) (H:Hp) (ex:Zn),PE (dQ X (x::fns) scope cl C s H ex) elt te)(b:∀x,foldedSetIterable iter X.env x=pure x:=by intro _;rfl):
 PE X (.ListComp elt [{.Name x px,iter,[],(0)}] scope pos) (Ro wi (jQ ixs) te):=DH (cs:=[]) ⋯ c d S (λ_ _ _ _=>rfl) a b
def yB (e:X.calm=ρ)(b:PI X (.Name x px) iter wi)(S:â)(c:∀(C:Zs) (s:Zu) (H:Hp) (ex:Zn),PT (dQ X (x::fns) scope cl C s H ex) yp tt)(a:∀(C:Zs) (s:Zu) (H:Hp) (ex:Zn),PE (dQ X (x::fns) scope cl C s H ex) elt te)(d:∀x,foldedSetIterable iter X.env x=pure x:=by intro _;rfl):
 PE X (.ListComp elt [{.Name x px,iter,[yp],(0)}] scope pos) Į:=DH (cs:=[yp]) Φ e b S c a d
def mw {iy:η}{a:Pos}(i:Ĥ)(c:X.N[iy]?\f)(g:Ϯ)(j:X.calm=ρ)(k:PI X (.Name x px) iter wi)(S:â)(e:∀(C:Zs) (s:Zu) (H:Hp) (ex:Zn),PE (dQ X (x::fns) scope cl C s H ex) elt te)(h:∀x,foldedSetIterable iter X.env x=pure x:=by intro _;rfl)(d:swapsWith (.ListComp elt [{.Name x px,iter,[],(0)}] scope pos) (ι (.Name f p)) a.line X.env=pure ρ:=by rfl)(b:X.fn f=ρ\/X.env.scope.names.lookup f=ι .local:=by trivial):
 PS X (.Assign [.Name f p] (.ListComp elt [{.Name x px,iter,[],(0)}] scope pos) a) (zM (Ro wi (jQ ixs) te) (cU iy)):=vZ (cs:=[]) ⋯ i c g j k S (λ_ _ _ _=>rfl) e h d b
def BZ {iy:η}{a:Pos}(j:Ĥ)(c:X.N[iy]?\f)(g:Ϯ)(k:X.calm=ρ)(l:PI X (.Name x px) iter wi)(S:â)(h:∀(C:Zs) (s:Zu) (H:Hp) (ex:Zn),PT (dQ X (x::fns) scope cl C s H ex) yp tt)(e:∀(C:Zs) (s:Zu) (H:Hp) (ex:Zn),PE (dQ X (x::fns) scope cl C s H ex) elt te)(i:∀x,foldedSetIterable iter X.env x=pure x)(d:swapsWith (.ListComp elt [⟨.Name x px,iter,[yp],(0)⟩] scope pos) (ι (.Name f p)) a.line X.env=pure ρ)(b:X.fn f=ρ\/X.env.scope.names.lookup f=ι .local):
 PS X (.Assign [.Name f p] (.ListComp elt [{.Name x px,iter,[yp],(0)}] scope pos) a) (zM Į (cU iy)):=vZ (cs:=[yp]) Φ j c g k l S h e i d b
end
def TrD (h base:ċ)(e:Zs)(cls:Zt)(g:Zo)(f:Zt):ν:=∃a b T d c,h.get? e\a/\(a.cls=cls/\a.dict=g)/\a.data=.fields b/\b[1]?\?T/\base.get? T=ε/\T≠e/\h.get? T\d/\d.data=.fields c/\c[3]?\f
def qo (base:ċ)(l:Zq)(e:Zs)(cls:Zt)(b:Zo)(a:Zt)(h:ċ):ν:=base.StaysIn h/\base.get? e=ε/\h.FunFrames base l/\TrD h base e cls b a
def Bl (f:Zm->Zm)(o:Obj):(Obj.mapFields f o).dict=o.dict:=by let[a,b,d,e]:=o;cases d <;> rfl
variable {M:Model}{A:Around}{E:Zt->Zu->Prop}{s:Zu}{base:Heap}{env:Env}{outer:Zq}{L e:Zs}{cls:Zt}{dx:Zo}
def Ls {x:Obj}{u:Zm}{head:Zt}{p:Μ}(F:A.frames\(env::outer))(D:s.ς.FunFrames base (env::outer))(Q:env.frame\L)(N:s•e\x)(H:ϫ)(y:base.get? e=ε)(hd:x.data=.fields u)(z:1<u.Γ)(h:∀G,qo base (env::outer) e x.cls x.dict (rawInt L) G->s.ς.UpToSlots G->U () (s<*G)):
 wpAny M A (do let a <-frameOf env;let pl <-entryPlaceOf L p;let b <-EntryCells.newEntry head a .ε (rawInt L) .ε pl;setField ?e 1 b) U E s:=by
 let w:e∉(env::outer).filterMap (·.frame):=λJ=>by let[_,o,C,i]:=D.mem J;rw[N]at C;injection C with C;subst C;rwa[i u hd]
 rwa[amC (wpAny_frameOf_fun F D Q λc f=>?_)];rwa[amC (wpAny_entryPlaceOf λpl v=>?_)];unfold EntryCells.newEntry newFields;rwa[amC (anw ?_ (v.sizeOk5 δ _))];let l:c.get? e\x:=(f.2.1 e w).π N;let k:base.StaysIn c:=λb o g=>(f.2.1 b λJ=>by rw[(D.mem J).1]at g;ext g).π (H b o g)
 let m:=amJ (h:=c) { cls:=.type "traceback",dict:=ε,data:=.fields ([head,?L,.ε,rawInt L,.ε]++(if pl.isEmpty then θ.replicate 6 Value.ε else pl)).toArray } l;rwa[aot m hd z ?_];let B:c.Ν.Γ≠e:=aoC (am6 l);let n:=anT hd (·.setIfInBounds 1 Ŝ);let t:=anx (Obj.mapFields (·.setIfInBounds 1 Ŝ)) m (aop n)
 let r:=(anH (c.push { cls:=.type "traceback",dict:=ε,data:=.fields ([head,?L,.ε,rawInt L,.ε]++(if pl.isEmpty then θ.replicate 6 Value.ε else pl)).toArray })
  (Obj.mapFields (·.setIfInBounds 1 Ŝ)) (an5 B)).π (am0 c Τ)
 let keep:∀b o,b≠e->c.get? b\o->_\o:=λb o O j=>(anH (c.push { cls:=.type "traceback",dict:=ε,data:=.fields ([head,?L,.ε,rawInt L,.ε]++(if pl.isEmpty then θ.replicate 6 Value.ε else pl)).toArray }) (Obj.mapFields (·.setIfInBounds 1 Ŝ)) (an5 O)).π (amJ _ j)
 let d:∀b o,s•b\o->(∀u,o.data≠.fields u)->b≠e:=λb o j i q=>by rw[q,N]at j;injection j with j;subst j;rwa[i u hd]
 rwa[h _ {λb o g=>keep b o (λq=>by rw[q,y]at g;ext g) (k b o g),y,D.of_keeps λb o j i=>?_,5} λb o j i=>?_]
 .let[P,I]:=f.2.2 b o j;rwa[_,keep b _ (d b o j i) I,2]
 .rwa[11,c.Ν.Γ,11,t,{apC β,Bl β},n,by simp[z],k.fresh,B,r,2,by first|(simp;done)|(rcases v with rfl|⟨_,_,_,_,_,_,_,rfl⟩ <;> simp)]
 .let[P,I]:=f.2.2 b o j;rwa[P,keep b _ (d b o j i) I]
def XB {z:Obj}{r:Zm}{n:Obj}{k:Zm}{l:Zq}(y:ϫ)(x:base.get? e=ε)(C:s.ς.FunFrames base l)(F:s•e\n)(G:n.cls=cls/\n.dict=dx)(hd:n.data=.fields k)(B:k[1]?\?a)(m:base.get? a=ε)(p:a≠e)(w:s•a\z)(g:z.data=.fields r)(D:r[3]?\v)(h:∀t,qo base l e cls dx u t->s.ς.UpToSlots t->U () (s<*t)):wpAny M A (setField ?a 3 u) U E s:=by
 let i:3<r.Γ:=(aog.mp D).1;let other:∀b,b≠a->(s.ς.update a (Obj.mapFields (·.setIfInBounds 3 u))).get? b=s•b:=λb d=>anH^an5 d
 let c:∀b o,s•b\o->(∀k,o.data≠.fields k)->b≠a:=λb o d f q=>by rw[q,w]at d;injection d with d;subst d;rwa[f r g]
 rwa[aot w g i (h _ {λb o j=>(other b λq=>by rw[q,m]at j;ext j).π (y b o j),x,C.of_keeps λb o d f=>{o,(other b (c b o d f)).π d,2},5} λb o d f=>{o.slots,(other b (c b o d f)).π d})]
 rwa[n,k,a,11,(other e (an5 p)).π F,G,hd,B,m,p,anx _ w (aop (anT g _)),anT g _,by simp[i]]
def DJ {l:Zq}(o:qo base l e cls dx v s.ς)(k:∀c,qo base l e cls dx .ε c->s.ς.UpToSlots c->U () (s<*c)):wpAny M A (setFlight ?e ε) U E s:=by let[h,f,n,t,r,T,q,u,j,a,hd,i,d,g,m,b,p]:=o;unfold setFlight;rwa[amC (anB j hd i ?_)];rw[am1 (show (Value.Η T !=Value.ε)=ρ from by simp)];rwa[XB h f n j a hd i d g m b p k]
def abJ (g:A.frames\(env::outer))(p:env.frame\L)(l:qo base (env::outer) e cls dx .ε s.ς)(w:∀d,qo base (env::outer) e cls dx (rawInt L) d->s.ς.UpToSlots d->U () (s<*d)):wpAny M A (noteFrame ?e env) U E s:=by
 let[b,a,k,J,I,T,H,N,t,⟨rfl,rfl⟩,hd,o,h,j,n,c,r]:=l;unfold noteFrame;simp only[p];rwa[amC (anB t hd o ?_)];rw[am1 (show (Value.Η T !=Value.ε)=ρ from by simp)];rwa[amC (anB n c r ?_)];rw[amY (show ¬((Value.ε==rawInt L)=ρ) from by simp[rawInt])];rwa[amC (XB b a k t {22} hd o h j n c r λv G y=>?_)];let[b,a,k,z,x,O,F,D,m,⟨C,u⟩,f,i,_]:=G;rwa[Ls (s:=(s<*v)) g k p m b a f (aog.mp i).1 λd q B=>?_]
 rw[C,u]at q;rwa[w d q (y.π B)]
def Pq {b:Obj}{h:Zm}(c:A.frames\(env::outer))(r:s.ς.FunFrames base (env::outer))(i:env.frame\L)(j:s•e\b)(g:ϫ)(f:base.get? e=ε)(hd:b.data=.fields h)(a:h[1]?=ι .ε)(m:∀d,qo base outer e b.cls b.dict .ε d->s.ς.UpToSlots d->U () (s<*d)):wpAny M A (leaving env ?e) U E s:=by unfold leaving noteFrame;simp only[i];rwa[amC (amC (anB j hd a ?_))];rw[amY ⋯];rwa[Ls c r i j g f hd (aog.mp a).1 λa n q=>DJ (s:=(s<*a)) n λl ζ p=>?_];let[k,t,⟨11,o⟩,u]:=ζ;rwa[m l {k,t,o,u} (q.π p)]
end L2
namespace L2
open PySem.Calls PySem.W Builtin Builtin.ObjectAttr
def Bm (x C:Zs)(e:Zo)(d:Μ)(h:ċ):ν:=∃b c,h.get? x\b/\b.cls=?C/\b.dict=e/\b.data=.fields c/\(d=ρ->c[1]?=ι .ε/\∃a,c[0]?\?a)
def XO (x C:Zs)(b:Zo)(a:Μ):HO:=.ext (Bm x C b a)
def Bm.iV {x:Zs}{dx:Zo}{nw:Μ}(p:Bm x a dx nw h)(k:∀o,h.get? x\o->g.get? x\o):Bm x a dx nw g:=by let[ob,b,e,r]:=p;rwa[ob,b,k _ e,r]
def Bm.ex {x:Zs}{dx:Zo}{nw:Μ}(p:Bm x a dx nw h):OD x a h:=let ⟨ob,b,e,c,_,d,_⟩:=p;{ob,b,e,c,d}
def DK (d:Zs)(fs:θ (Ι×V))(h:ċ):ν:=∃a,h.Ns1 d a/\(∀f,fF ť (a f))/\Within a (fs.Α (·.1))
def XD (d:Zs)(fs:θ (Ι×V)):HO:=.ext (DK d fs)
def DK.iV {fs:θ (Ι×V)}(p:DK d fs h)(k:∀o,h.get? d\o->g.get? d\o):DK d fs g:=by let[a,n,r]:=p;rwa[a,n.at k,r]
def Iu {x:Zs}{c:Zo}{b:Μ}(p:Bm x a c b h):cu P w H h x (XO x a c b):={p,let ⟨d,_,e,_⟩:=p;{d,e},λ_ _ q k=>q.iV k}
def RX {fs:θ (Ι×V)}(p:DK d fs h):cu P w H h d (XD d fs):={p,let ⟨_,⟨o,_,_,e,_⟩,_⟩:=p;{o,e},λ_ _ q k=>q.iV k}
def oR:Zk->Μ
 |.Η _::r=>oR r
 |l=>l==tT
def Iv (e:oR N=ρ):(∃c r,N=?c::r/\oR r=ρ)\/N=tT:=by
 cases N with
 |nil=>exact .Ζ (aqt.mp e)
 |cons c r=>cases c <;> first|rwa[.ψ ⟨_,_,Τ,e⟩]|rwa[.Ζ (aqt.mp e)]
theorem sP (self:Zt):∀(l:Zk),oR l=ρ->refuseLoop self ï l=pure ()/\l.contains (.type ũ)=ρ/\l.isEmpty=χ
 |[],e=>by ext e
 |v::l,e=>by
  rcases Iv e with ⟨c,r,q,e⟩|q
  .injection q with b d
   subst b d;let a:=sP self l e;rwa[[refuseLoop_ref]▸a.1,by cbv,2]
  .rw[q];rwa[PySem.F.store_ValueError.passes self,42]
structure Iw (K:Za1)(C:Zs):ν where
 mr:(clsIn K C).any (λcd=>oR cd.mro)=ρ
 hd:hasDictIn K C=ρ
 sa:findIn K ?C ï=ι (ι (.builtin Î))
 ga:findIn K ?C ŗ=ι (ι (.builtin ϴ))
 gt:findIn K ?C "__getattr__"=ι ε
 be:subIn K ?C (.type ż)\ρ
variable {prog:Program}{w:World}{A:Around}{R:Result->Zu->Prop}{s:Zu}{K:Za1}{x C:Zs}{name:Str}{v:Zt}
def GF {p:Obj}{t:Ο Obj}{g:Tok}(X:ĵ)(I:PySem.W.InstAt s.ς x p C t)(m:(clsIn K C).any (λcd=>oR cd.mro)=ρ)(j:takerIn K C name\ε)(h:∀b,(prog<|>w) A.in1 (storeInOwnDict ?x ?C (.str name g) name v b)
  (λfin d=>match fin with|.done f=>R (.ok f) d|.again i=>i.quiet=ρ/\codeAny Ñ A i R d) (λe d=>R (.error e) d) s):
 codeAny Ñ A (.call (.builtin Î) {[?x,.str name g,v],[]}) R s:=by
 let c:=PySem.F.store_object;let[cd,y,o]:=any_some m;let[n,B,z]:=sP ?x _ o;let sub:Looks Ñ s.ς (isInstance ?x (.type ũ)) ρ:=I.type.andThen (looks_mroIn X (by unfold mroIn;cbv));rwa[aoG c.slot.plain c.entry (@@check_slot Ñ β s Î ũ ï ?x [.str name g,v] [] _ c.kind c.split sub (c.args ?x (.str name g) v) ?_)];let[attr,u,r]:=Ο.bind_eq_some_iff.mp j;let hm:Looks Ñ s.ς (mroOf ?C) cd.mro:=(looks_clsIn X y).andThen .now
 let l:Looks Ñ s.ς (storeTaker? attr) ε:=by
  cases attr with
  |ε=>exact .now
  |ι a=>
   let[b,k,q]:=an8.mp r;rwa[(looks_takesIn X k).andThen ?_]
   cases b with
   |ρ=>ext q
   |χ=>exact .now
 rw[osa_eq,refuse_eq];rwa[amC (amC (I.type.here (amC (hm.here ?_))))];rw[n];rwa[amL (amC (I.type.here (amC ((looks_findIn X u).here (amC (l.here ?_))))))];rwa[h _]
def aeN {ns:Zp}{f:Obj}{q:Zm}(X:ĵ)(c:Iw K C)(u:s•x\f)(j:f.cls=?C)(hd:f.data=.fields q)(B:takerIn K C name\ε)(e:f.dict\d)(z:s.ς.Ns1 d M)(H:PySem.Within M ns)(G:@ns<=sizeLine)(h:∀i,i.Ns1 d (λy=>if y=name then ι v else M y)->Heap.SameBut d s.ς i->U () { s with ς:=i,toks:=s.toks+ 2 }):
 (prog<|>w) A (setAttr ?x name v) U E s:=by
 let[O,I,N,p]:=f;dsimp only at j hd e;subst j hd e;let[t,Q,S,D,r]:=id z;let J:PySem.W.InstAt s.ς x ⟨?C,ι d,.fields q,p⟩ C (ι t):={u,22,D};rwa[set_plain X J c.sa (GF (s:={ s with toks:=s.toks+ 1 }) X J c.mr B λb=>?_)];let[P,j,o]:=any_some c.hd;rwa[amC (amL (amC (amC (wpAny_loadPart u (amC (Looks.here (s:={ s with toks:=s.toks+ 1 }) (looks_clsIn X j) ?_))))))];rw[o];rwa[amL (a:=ι d) (amC (amL (amC ?_)))];rwa[wpAny_nsSet1 (s:={ s with toks:=s.toks+ 1 }) z λi g l=>?_]
 let[t,L,F,n,k,m]:=g.count (PySem.Within.cons name v H);rwa[amC (wpAny_lookBehind n ([k]▸pastItsLine_dict (amM m (by rw[amT];omega))) ?_)];rwa[amL (h _ g l)]
def abK {f:Obj}{r:Zm}(X:ĵ)(c:Iw K C)(n:s•x\f)(p:f.cls=?C)(hd:f.data=.fields r)(F:takerIn K C name\ε)(g:f.dict=ε)(h:∀j,j.Ns1 ↥s (λy=>if y=name then ι v else ε)->j.get? x\{ f with dict:=ι ↥s }->(∀b o,b≠x->s•b\o->j.get? b\o)->U () { s with ς:=j,toks:=s.toks+ 2 }):
 (prog<|>w) A (setAttr ?x name v) U E s:=by
 let[O,I,N,m]:=f;dsimp only at p hd g;subst p hd g;let J:PySem.W.InstAt s.ς x ⟨?C,ε,.fields r,m⟩ C ε:={n,22,True.intro};rwa[set_plain X J c.sa (GF (s:={ s with toks:=s.toks+ 1 }) X J c.mr F λb=>?_)];let[Q,p,D]:=any_some c.hd;rwa[amC (amL (amC (amC (wpAny_loadPart n (amC (Looks.here (s:={ s with toks:=s.toks+ 1 }) (looks_clsIn X p) ?_))))))];rw[D];let d:(s.ς.push (ç>>>.dict #[])).get? x\⟨?C,ε,.fields r,m⟩:=amJ _ n;let i:x≠↥s:=anl (am6 n);rwa[amC (wpAny_alloc' ?_)];rwa[amC (wpAny_update' d ?_)];rwa[amL (a:=ι ↥s) (amC (amL (amC ?_)))]
 let q:((s.ς.push (ç>>>.dict #[])).update x λo=>{ cls:=o.cls,dict:=ι ↥s,data:=o.data,slots:=o.slots }).get? ↥s
  =ι (ç>>>.dict #[]):=(Heap.get?_update_ne δ i.Β).π (Heap.get?_push_at Τ Τ)
 let u:((s.ς.push (ç>>>.dict #[])).update x λo=>{ cls:=o.cls,dict:=ι ↥s,data:=o.data,slots:=o.slots }).Ns ↥s (λ_=>ε):={_,#[],_,q,2,λe L=>absurd L (by simp),λ_=>rfl}
 rwa[wpAny_nsSet1 (s:={ s with ς:=(s.ς.push (ç>>>.dict #[])).update x λo=>{ cls:=o.cls,dict:=ι ↥s,data:=o.data,slots:=o.slots },toks:=s.toks+ 1 }) (Heap.Ns1.of_empty u) λj l k=>?_]
 let[P,M,H,B,t,z]:=l.count (Within.cons name v Within.nil);rwa[amC (wpAny_lookBehind B ([t]▸pastItsLine_dict (amM z (by rw[amT,ank,sizeLine_eq];omega))) ?_)];rwa[amL (h _ l ?_ λb o G e=>?_)]
 .rwa[(k.2 x i).π (anx _ d Τ)]
 .rwa[(k.2 b (anl ĉ)).π ((Heap.get?_update_ne δ G).π ű)]
end L2
namespace L2
open PySem.Calls PySem.W
def Ad (K:Frag)(C f:Zs):Μ:=match K.lookup C with
 |ι ⟨.type "type",_,.cls cd,c⟩=>(match cd.mro,c.toList with
  |.Η b::a,#v[_,_,_,_,.builtin n,_]=>b==C && n==ä && !cd.hasDel && tailIn K tT a && nsOkIn K cd.ns && nsIn K cd.ns Ç==ι (ι ?f)
  |_,_=>χ)
 |_=>χ
def UR {K:Frag}(X:K.In h)(G:h.Ns a M)(e:nsIn K a x\ι v):M x\v:=by
 let[o,l,n,g,hd,_,f]:=G;unfold nsIn at e;split at e
 .rename_i c d b j k q;have:=X^q;rw[g]at ω;ext ω;ext hd;split at e
  .rename_i m i;ext e;rw[<-f];unfold nsFind findBy;rw[<-Array.find?_toList,i];rfl
  .split at e <;> ext e
 .ext e
def DL (XK:K.In h)(q:Ad K a b=ρ):∃n N nm o bs k sn sub r col s C z E B D v,
 h.get? a=ι Ļ/\h.Ns N v/\v Ç=ι ?b/\OwnTail h tT n:=by
 unfold Ad at q;split at q
 .rename_i s cls m j;split at q
  .rename_i F n w x y t nid u f c;simp only[an6,aqt,Μ.not_eq_true']at q;let[⟨⟨⟨⟨rfl,rfl⟩,e⟩,g⟩,i⟩,d]:=q;let[nm,bs,mro,A,o,hd,sn,sub,r,col,del]:=cls;dsimp only at f e i d;subst f e
   let p:m=#[w,x,y,t,ι (.builtin ä),u]:=by let⟨l⟩:=m;simp only at c;rw[c]
   subst p;rwa[n,A,nm,o,bs,hd,sn,sub,r,col,s,w,x,y,t,u,_,XK^j,.of_isNs ϸ,UR XK (.of_isNs ϸ) d,PySem.W.tail_of_in XK g]
  .ext q
 .ext q
variable {prog:Program}{w:World}{A:Around}{E:Zt->Zu->Prop}{h:Heap}{g:Array GenState}{d:Drawn}{t:Nat}{os:OsState}
variable {nm q:Str}{C N:Zs}{bs bm RZ:Zk}{hdct:Bool}{sn:Zp}{sub:Zk}{ab:Bool}{col:Option Bool}{dd:Zo}{k0 k1 k2 k3 k5:Zl}{B newId Lv:String}
theorem yC (F:ExcBaseFacts B newId Lv RZ)(T:OwnTail h RZ bm){n:Ι->Zl}{rest:Zk}{s:Zs}{y:Obj}{Q:Fin->Zu->ν}(j:h.get? C\excClassObj nm q C N bs bm hdct sn sub ab col dd k0 k1 k2 k3 k5 newId)(L:h.Ns N n)(J:n Ç=ι ?s)(u:h.get? s\y)(p:y.cls=.type "function")(G:∀l e,Heap.MadeExcOf h l e ?C rest->(prog<|>w) A (call ?s (?e::rest)) (λr v=>r=.ε/\Q (.done (.ret ?e)) v) E {l,g,d,t,os})(abL:@rest<=sizeLine):
 (prog<|>w) A (Builtin.«type.__call__» ⟨?C::rest,[]⟩) Q E ⟨h,g,d,t,os⟩:=by
 repeat (first|with_reducible rwa[apJ j ?_]|with_reducible rwa[wpAny_madeBy_exc j ?_]|wp_step)
 rwa[codeAny_call_builtin_code (Code.quiet_builtin _ F.quiet) (wpAny_check_new_subT F T j ?_)];rwa[codeAny_exc_new_subT F T j ?_ abL];show wpAny δ _ _
 let a:=amJ { cls:=?C,data:=.fields #[?h.Ν.Γ,.ε,.ε,.ε,.bool χ,.ε] }
  (amJ (Ω>>>.seq rest.toArray) j)
 let c:=amJ { cls:=?C,data:=.fields #[?h.Ν.Γ,.ε,.ε,.ε,.bool χ,.ε] }
  (amJ (Ω>>>.seq rest.toArray) u)
 let i:((h.push (Ω>>>.seq rest.toArray)).push { cls:=?C,data:=.fields #[?h.Ν.Γ,.ε,.ε,.ε,.bool χ,.ε] }).Ns N n:=let ⟨o,I,M,e,r⟩:=L;{o,I,M,amJ _ ű,r}
 let f:((h.push (Ω>>>.seq rest.toArray)).push
  { cls:=?C,data:=.fields #[?h.Ν.Γ,.ε,.ε,.ε,.bool χ,.ε] }).get? (h.Ν.Γ+ 1)=ι
  { cls:=?C,data:=.fields #[?h.Ν.Γ,.ε,.ε,.ε,.bool χ,.ε] }:=by heap_get
 let m:(Value.Η C::bm).contains ?C=ρ:=by simp
 let k:=T.keeps (h':=(h.push (Ω>>>.seq rest.toArray)).push { cls:=?C,data:=.fields #[?h.Ν.Γ,.ε,.ε,.ε,.bool χ,.ε] })
  λb o e=>amJ _ ű
 unfold isInstance
 repeat (first|with_reducible rwa[apJ f ?_]|(with_reducible rwa[wpAny_isSubtype_exc a ?_];rw[m])|wp_step)
 show wpAny β (typeLookup ?C _) γ;rwa[wpAny_typeLookup_tail a i k F.mroIs F.init.lookup ?_];rw[J];rwa[an9 (amC ?_)];unfold bindSpecial;rwa[amC (ao9 (T:="function") {_,c,p} ?_)];rw[am1 ⋯];rwa[amL (amC (aok (G _ (h.Ν.Γ+ 1) {λb o z=>amJ _ (amJ _ z),Heap.get?_none_of_le (aqu _),h.Ν.Γ,f,Heap.get?_none_of_le Φ,5}) (λr v H=>?_) λ_ _ x=>x))]
 .rwa[amJ _ (Heap.get?_push_at Τ Τ)]
 .let[Τ,D]:=H
  wp_walk
  rwa[D]
def Iy (F:ExcBaseFacts B newId Lv RZ)(T:OwnTail h RZ bm){k:Ι->Zl}{rest:Zk}{i:Zs}{l:Obj}{Q:Zt->Zu->ν}(b:h.get? C\excClassObj nm q C N bs bm hdct sn sub ab col dd k0 k1 k2 k3 k5 newId)(p:h.Ns N k)(o:k Ç=ι ?i)(j:h.get? i\l)(f:l.cls=.type "function")(n:∀c e,Heap.MadeExcOf h c e ?C rest->(prog<|>w) (A.under (.builtin Č ⟨?C::rest,[]⟩)) (call ?i (?e::rest)) (λr m=>r=.ε/\Q ?e m) E {c,g,d,t,os})(a:@rest<=sizeLine):
 (prog<|>w) A (call ?C rest) Q E ⟨h,g,d,t,os⟩:=by
 let u:=tc_lookup;let x:=tc_bind ?C;let v:(⟨h,g,d,t,os⟩:Zu).TypeIs ?C "type":={_,b,2};rwa[apX (codeAny_of_tree ?_)];show wpAny β (callAny ?C _) γ
 repeat (any_goals (first|assumption|with_reducible rwa[apJ b ?_]|wp_step))
 erw[2];rwa[codeAny_call_builtin_at (Code.quiet_builtin _ ⋯) entry_typeCall (wpAny_check_type_call_sub b (yC (abL:=a) F T b p o j f λc e s=>?_))];rwa[n c e s]
def Pr {M:Model}{env:Env}{x:Sem Zt}{Q:Flow->Zu->ν}(b:bm.contains (.type ż)=ρ)(p:A.handled=ε)(h:wpAny M A x (λv a=>∃e f i,v=?e/\a•C\excClassObj nm q C N bs bm hdct sn sub ab col dd k0 k1 k2 k3 k5 newId/\a•e=ι f/\f.cls=?C/\f.data=.fields i/\i[1]?=ι .ε/\E ?e a) E s):
 wpAny M A (raiseStmt env (ι x) ε) Q E s:=by
 let j:(Value.Η C::bm).contains (.type ż)=ρ:=by rw[θ.contains_cons,b,Μ.or_true]
 unfold raiseStmt;rwa[amC (aok h (λv a c=>?_) λ_ _ x=>x)];let[e,f,i,Τ,k,l,m,hd,n,o]:=c;let[D,g,d,z,os]:=a;let[y,F,u,r]:=f;dsimp only at m hd;subst m hd
 repeat (first|with_reducible rwa[apJ l ?_]|with_reducible rwa[apJ k ?_]|(with_reducible rwa[wpAny_isSubtype_exc k ?_];rw[j])|with_reducible rwa[amC (anB l Τ n ?_)]|wp_step)
 all_goals rwa[wpAny_raiseNew_none p o]
end L2
namespace L2
inductive dG (P:ĩ)(w:Ĩ)(outer:Zq)(H:Hp)(s:Zu)(E:XK)(e:Zt)(s':Zu):ν
 |mk (x C:Zs)(dx:Zo)(B:ċ)(H':Hp):e=?x->s'.os=s.os->AllBare s'.gens->qo B outer x ?C dx .ε s'.ς->Un (bZ outer) [] H H' s.ς s'.ς->eI P w H' B->(∀b o,s•b\o->H b=ε->b∉bZ outer->B.get? b\o)->(∀b o,s•b\o->b∉bZ outer->∃o',B.get? b\o')->E ?C dx H'->dG P w outer H s E e s'
def del (H:Hp)(x:Zs):Hp:=λb=>if b=x then ε else H b
def qM {x:Zs}(h:b≠x):del H x b=H b:=by unfold del;rw[amY h]
def Pt {x:Zs}{u:HO}(h:del H x b\u):b≠x/\H b\u:=by
 unfold del at h
 cbv
def UT {x:Zs}{o:HO}(h:H x=ε):del (υ H x o) x=H:=by
 funext b
 cases e:b=x
 .rw[e,h];unfold del;rw[am1 Τ]
 .rw[qM e,aq e]
def jV:Passes Õ X (λ_ _ _=>False):=λ_ _ _ _ _ _ _ ζ=>by let[_,_,_,_,_,_,_,_,_,_,_,_,_,q]:=ζ;rwa[q.Κ]
def R6 {a:Zq}(h:dG P w a H s (λ_ _ _=>False) v t):False:=let ⟨_,_,_,_,_,_,_,_,_,_,_,_,_,q⟩:=h;q
section
variable {P:Program}{w:World}{K:Za1}{mg:Str->Zl}{base:Heap}{N:Zp}{qual:Str}{scope:Scope}{f:Zs}{cd:Zt}{A:Around}{outer:Zq}{s:Zu}{H:Hp}{E:XK}{pins:List (Zs×Obj)}{σ:St}{H1:Hp}{s1:Zu}
def Iz {o:Obj}(I:ě)(e:s•b\o)(a:b∉bZ outer):b∉bZ (dP Õ P w K mg base N qual scope f cd A outer s H E).stack:=λz=>by
 rcases amW.mp (show b∈↥s::bZ outer from z) with z|z
 .rwa[absurd ĉ (by rw[z];rwa[aou _])]
 .rwa[a z]
def XC {x:Zs}{R:Zo}(I:ě)(F:H1 x\XO x a R ρ)(Z:s•x=ε)(q:E ?a R (del H1 x)):
 (dP Õ P w K mg base N qual scope f cd A outer s H E).xe ?x s1:=by
 let t:=I.ok.frames;let C:∀env∈(dP Õ P w K mg base N qual scope f cd A outer s H E).stack,∀b,env.frame\b->b∈x::bZ (dP Õ P w K mg base N qual scope f cd A outer s H E).stack:=λenv X b k=>amZ _ (θ.mem_filterMap.mpr {env,X,k})
 let G:=PySem.W.funFrames_hide I.stack C;let[⟨ob,vs,d,rfl',Τ,i,l⟩,_,_]:=I.a0 x _ F;let nx:∀b o,s•b\o->b≠x:=λb o e z=>by cbv
 let out:∀b o,s•b\o->b∉bZ outer->b∉x::bZ (dP Õ P w K mg base N qual scope f cd A outer s H E).stack:=λb o e k z=>(amW.mp z).Κ (nx b o e) (Iz I e k)
 rwa[Pq (s:=s1) (base:=hideAll s1.ς (x::bZ (dP Õ P w K mg base N qual scope f cd A outer s H E).stack)) (L:=↥s) t G Τ d (λb o z=>PySem.W.of_hideAll _ z) (PySem.W.hideAll_none _ (.head _)) i (l Τ).1 λy r ups=>?_]
 let S:∀b o,s•b\o->H b=ε->b∉bZ outer->(hideAll s1.ς (x::bZ (dP Õ P w K mg base N qual scope f cd A outer s H E).stack)).get? b\o:=λb o d g h=>apT _ (I.base.keep b o d g h (by simp[dP])) (out b o d h)
 let O:∀b o,s•b\o->b∉bZ outer->∃j,(hideAll s1.ς (x::bZ (dP Õ P w K mg base N qual scope f cd A outer s H E).stack)).get? b\j:=λb o d h=>by let[j,i]:=I.base.there b o d (by simp[dP]);rwa[j,apT _ i (out b o d h)]
 let M:∀b o,s1•b\o->b∈bZ outer->∃B,y.get? b\{ o with slots:=B }:=λb o d g=>by let[_,o2,h,Y]:=I.stack.mem (show b∈bZ (dP Õ P w K mg base N qual scope f cd A outer s H E).stack from amZ _ g);rw[d]at h;ext h;rwa[ups b o d Y]
 let dl:∀{b:Zs}{u:HO},H1 b\u->(∀ T,u≠.ext T)->del H1 x b\u:=λ{b u} e n=>by
  rw[qM]
  .rwa[e]
  .intro z;rw[z,F]at e;rwa[n _ (Za0 e).Β]
 rw[rfl']at r;rwa[x,a,11,del H1 x,2,I.os,I.bare,r,{λb o d g h _=>r.1 b o (S b o d g h),λb o d g h _=>?_,λb o d g _=>?_,λb o d _=>?_,λb Q e=>dl (I.base.lG b Q e) (by cbv),λb o u e=>dl (I.base.j8 b o u e) (by cbv),λb V e=>?_},5,S,O,q]
 .let[B,i]:=I.base.slot b o d g h (by simp[dP]);let[D,l]:=M b _ i h;rwa[D,l]
 .rw[qM (nx b o d)];rwa[I.base.free b o d g (by simp[dP])]
 .cases k:b∈bZ outer
  .let[j,i]:=I.base.there b o d (by simp[dP]);let[B,l]:=M b j i k;rwa[_,l]
  .let[j,i]:=O b o d k;rwa[j,r.1 b j i]
 .let[m,g]:=I.base.mY b V e;rwa[m,dl g (by cbv)]
 .intro b u d;let[U,d]:=Pt d
  let p:∀c v,c≠x->H1 c\v->c∉x::bZ (dP Õ P w K mg base N qual scope f cd A outer s H E).stack:=λc v J g z=>by
   rcases amW.mp z with z|z
   .rwa[J z]
   .rw[I.uW c z]at g;ext g
  rwa[(I.a0 b u d).iV (λc v J z=>apT _ z ?_) (λc z=>dl z (by cbv)) λc Q z=>dl z (by cbv)]
  rcases J with z2|z2
  .rw[z2];rwa[p b u U d]
  .rwa[p c _ (λz=>by rw[z,F]at z2;ext z2) z2]
end
section
variable {P:Program}{w:World}{K:Za1}{mg:Str->Zl}{base:Heap}
theorem yl.Lx {qual:Ι}{st:Ž}{fd:Ă}{e:Zp}{k:η}{sp:Sp}(F:Ϛ)(S:aP Z e Ù)(len:∀c H Q E,sp c H Q E->@c=@e)(d:∀(b:Zt) (A:Ģ) (outer:Zq) (s:Zu) (H:Hp) (c:Zb) (Q:VK) (E:XK),dk k (A.deeper (envOfC qual Ù ↥s a b))->sp c H Q E->∃t,iY (dP Õ P w K mg base Z qual Ù a b A outer s H E) õ t/\t { nx:=λ_ i=>Q .non i,rt:=Q } (start Z c) H):eG P w K mg base Õ (k+ 1) a fd e sp:=by let[l,n,kV,doc,pm,m,b,ct,j,Τ,lk,g]:=F.ex;rwa[HV lk g S len λA outer s H c Q E h f=>d b A outer s H c Q E h f]
end
section
variable {X:Cx}{pins:List (Zs×Obj)}{σ:St}{H:Hp}{s:Zu}{h':Heap}{e C:Zs}{vs:Zk}
def Inv.R8 (I:Υ)(hm:Heap.MadeExcOf s.ς h' e ?C vs)(hex:X.ex=[]):H e=ε/\X.fG.ς.get? e=ε/\Inv X pins σ (υ H e (XO e C ε ρ)) (s<*h'):=by
 let a:H e=ε:=by
  cases q:H e with
  |ε=>rfl
  |ι u=>let[o,d]:=(I.a0 e u q).get;rw[hm.new]at d;ext d
 let ne:∀b o,s•b\o->b≠e:=λb o q z=>by rw[z,hm.new]at q;ext q
 let h:X.fG.ς.get? e=ε:=by
  cases q:X.fG.ς.get? e with
  |ε=>rfl
  |ι o=>let[l,d]:=I.base.there e o q (by rw[hex];simp);rw[hm.new]at d;ext d
 rwa[a,h,I.un (t':=s.toks) {λb u q _ _ _=>hm.keeps b u q,λb u q _ _ _=>{u.slots,hm.keeps b u q},λb u q n _=>[aq (ne b u q)]▸n,λb u q _=>{u,hm.keeps b u q},λb g q=>[aq (ax q a)]▸q,λb u g q=>[aq (ax q a)]▸q,λb k q=>{#[],by rw[aq (ax q a),q];simp}} λb u q=>?_];cases f:b=e
 .subst f;rw[aj]at q;ext q;let[t,i,_,_]:=hm.there;rwa[Iu {11,i,222,λ_=>{212}}]
 .rw[aq f]at q;rwa[(I.a0 b u q).iV (λc v _ q=>hm.keeps c v q) (λc q=>[aq (ax q a)]▸q) λc g q=>[aq (ax q a)]▸q]
end
variable {X:Cx}{k:Nat}{f C:Zs}{fd:FuncData}{ps:Zp}{sp:Sp}{x:Str}{p pos cQ:Pos}{e:Expr}{es:Zr}{t:TA}{E:XK}
def XE (X:Cx)(C:Zs)(E:XK):ν:=∀(a:θ (Zs×Obj))(c:St)(H:Hp)(s:Zu)(x:Zs)(b:Zo),Inv X a c H s->H x\XO x C b ρ->X.fG.ς.get? x=ε->E ?C b (del H x)->X.xe ?x s
def lvD {base:ċ}{qual:Ι}{scope:Š}{f C:Zs}{a:Zq}{E:XK}:XE (dP Õ P w K M base Z qual scope f v A a s H E) C E:=λ_ _ _ _ _ _ I c b q=>XC I c b q
def Ly {a:đ}{g:TE}(l:X.calm=ρ)(j:œ)(c:X.mg x\?C)(h:Oz X.K C)(r:PE X a g)(u:XE X C E)(hex:X.ex=[])(m:starEach [a] X.env=[(χ,eval a X.env)])(d:(x==(Ö:Ι))=χ):
 PS X (.Raise (ι (.Call (.Name x p) [a] [] cQ)) ε pos) (Kq C E g):=OB l j c h r (λb n H s v e w I c q=>by let[o,i,J]:=I.R8 c hex;rwa[u b n β e ε J aj i ([UT o]▸q)]) m d
def UU (C:Zs)(sp:Sp)(E:XK)(t:TA):TS:=λ_ g H=>t g H λd b=>∀x,b x=ε->sp (?x::d) (υ b x (XO x C ε ρ)) (λv a=>v=.non/\∃c,a x\XO x C c ρ/\E ?C c (del a x)) (λ_ _ _=>False)
theorem Lz (F:Ä)(hr:dk (k+ 1) X.A)(hb:Binds X.K fd ps [])(hc:X.calm=ρ)(hg:œ)(hm:X.mg x\?C)(hC:Ad X.K C f=ρ)(hf:isFn X.K ?f=ρ)(hk:keepIn X.K ?C=ρ)(ha:PA X (e::es) t)(lv:XE X C E)(hex:X.ex=[])(DM:@ps<=1000)(w:(x==(Ö:Ι))=χ)(he:starEach (e::es) X.env=(χ,eval e X.env)::starEach es X.env)(G:(backTo cQ Í).any (·.1)=χ):
 PS X (.Raise (ι (.Call (.Name x p) (e::es) [] cQ)) ε pos) (UU C sp E t):=by
 intro c s σ H D I h;let[R,N,nm,qn,bs,i,sn,sub,Q,col,dd,k0,k1,T,Z,k5,mN,W,o2,o3,o4]:=DL I.ok.mod.pP hC;let kp:∀{P O n},Inv X c P O n->∀b o,X.base.get? b\o->n•b\o:=λJ b o q=>(J.bs b o q).1
 rw[arm_exec_Raise];rwa[amC (ap6 (Pr (C:=C) (nm:=nm) (q:=qn) (N:=N) (bs:=bs) (bm:=R) (hdct:=i) (sn:=sn) (sub:=sub) (ab:=Q) (col:=col) (dd:=dd) (k0:=k0) (k1:=k1) (k2:=T) (k3:=Z) (k5:=k5) (newId:=ä) (o4.hasType ⋯) (I.ok.hd hc) (amC (aok (E:=X.xe) ?_ (λv Y m=>amC (ap6 (amL m))) λ_ _ x=>x))))];rwa[aoa (jv I hg hm ?_ w)];rwa[apm (h₀:=X.base) I.ok.mod.pP hk (bx (ha cQ c s σ H _ I h) λus s1 ζ=>?_) he G];let[vs,H1,j,r,q]:=ζ;rwa[j.dZ,5];let[oI,M,B]:=an8.mp (aqt.mp hf)
 let len:@us<=1000:=by let h1:=F.len δ (q (↥s1) (j.a0.fresh Φ));rw[amT]at h1;rw[<-@r];ext
 let[hh,g,d,tk,os]:=s1;rwa[Iy (A:=X.A) aoS (o4.keeps (kp j)) (kp j β W) (o2.keeps (kp j)) o3 (j.dZ^M) B (λh' y z=>?_) (amM len ⋯)];let[hn,h0,J]:=j.R8 z hex;let hq:=q y hn;let r2:Vals (V.Η y::vs) (Value.Η y::us):=.cons Τ r
 let hl:@(Value.Η y::us++[])=@ps:=by rw[am9,<-@r2];rwa[F.len δ hq]
 let l:=hb _ (Value.Η y::us) J.dZ hl;rw[am9]at l;rwa[apX (apt (F.run _ X.stack β {Value.Η y::us,[]} (Value.Η y::us) γ (hr.make C us []) (J.HS.make C us []) l r2 hq) λr n a=>?_)]
 cases r with
 |error e=>exact(R6 a).Κ
 |ok fl=>
  cases fl with
  |ret u=>let[v,O,L,rv,ev,dx,S,q3]:=J.after a;subst ev;let[⟨ob,ws,a1,a2,a3,a4,a5⟩,_,_]:=L.a0 y _ S;rwa[rv,y,ob,ws,2,kp L β W,a1,a2,a4,(a5 Τ).1,lv c σ O n y dx L S h0 q3]
  |next=>exact False.Κ a
  |brk=>exact False.Κ a
  |cont=>exact False.Κ a
end L2
namespace L2
open PySem.W
section
variable {M:Model}{A:Around}{E:Zt->Zu->Prop}{s:Zu}{x a:Zs}{ob:Obj}{vs:Zm}{tv:Zt}
def Pu {Q:Fin->Zu->ν}(d:s•x\ob)(hd:ob.data=.fields vs)(c:vs[0]?\?a)(h:Q (.done (.ret .ε)) { s with ς:=(s.ς.push (Ω>>>.seq #[tv])).update x (Obj.mapFields (·.setIfInBounds 0 ↑↥s)) }):wpAny M A (Builtin.«BaseException.__init__» {[?x,tv],[]}) Q E s:=by
 let b:=amJ (Ω>>>.seq #[tv]) d;unfold Builtin.«BaseException.__init__»;rwa[amC (wpAny_newTuple ?_)];unfold Builtin.BaseException.bexcPut;rwa[amC (amC (anB b hd c (amC (aot b hd (aog.mp c).1 ?_))))]
 wp_walk
 rwa[h]
end
variable {X:Cx}{Y:Zs}{y f:Str}{np apos pos pos':Pos}{e:Expr}{es:Zr}{t:TA}
structure Pw (K:Za1)(Y:Zs):ν where
 sp:specialIn K ?Y ŗ=ι (ι (.builtin "type.__getattribute__"))
 rd:readsIn K Y (.type "type")=ρ
 fc:(match findCls K ?Y (.type "type") Ç with|ι (.val (.builtin i))=>i==ž | _=>χ)=ρ
def Pw.find {Y:Zs}(b:Pw K Y):findCls K ?Y (.type "type") Ç=ι (.val (.builtin ž)):=by
 have:=b.fc
 cbv
def aeO (C:Zs)(t:TA):TE:=λ d H Q=>t d H λb a=>∃(x:Zs)(c:Zo)(l:Zh),b=[?x,.str (tx l)]/\a x\XO x C c ρ/\Q .non a
def Px {pl:Sem Μ}(R:Ad X.K a b=ρ)(A:Pw X.K Y)(Z:Gl X y)(hm:X.mg y\?Y)(ha:PA X (e::es) t)(D:(y==(Ö:Ι))=χ)(v:starEach (e::es) X.env=(χ,eval e X.env)::starEach es X.env)(n:(backTo pos Í).any (·.1)=χ)(U:eval (.Call (.Attribute (.Name y np) Ç apos) (e::es) [] pos) X.env=(do
  let M <-eval (.Name y np) X.env
  standAt apos.atName
  let (f,first) <-holding [M] (getMethod M Ç pl)
  callWith pos f first (backTo pos (starEach (e::es) X.env)) (backToKw pos (keywordEach [] X.env)))):
 PE X (.Call (.Attribute (.Name y np) Ç apos) (e::es) [] pos) (aeO a t):=by
 intro k s σ H Q I h;rwa[methodCall_KW (pl:=pl) (jv I Z hm ?_ D) U];rwa[method_cls I.dZ A.sp (cls_value I.dZ A.rd A.find Τ ?_)];rwa[PyProof.Rows.callWith_builtin1 (bx (ha pos k _ σ H _ Ě h) λus s1 ζ=>?_) v n];let[vs,B,p,r,x,P,l,ev,C,q]:=ζ;subst ev;let[u,E,Τ,rx,ry]:=vals2 r;ext rx;let[bm,N,nm,qn,bs,F,sn,sub,ab,col,dd,k0,k1,k2,k3,k5,mN,o1,o2,o3,o4]:=DL I.ok.mod.pP R;let kp:∀d o,X.base.get? d\o->s1•d\o:=λd o q=>(p.bs d o q).1
 let[⟨ob,ws,m,O,a3,L,a5⟩,_,_]:=p.a0 x _ C;let[S,c,G]:=a5 rfl;let[g,gg,dr,tk,os]:=s1;rwa[apX (aoG aoS.init.plain aoS.initEntry (wpAny_check_init_subT aoS (o4.keeps kp) (kp^o1) m O ?_))];rwa[Pu m L G ?_];let T:x≠g.Ν.Γ:=anl (am6 m);let w:=amJ (Ω>>>.seq #[E]) m;let j:=anT L (·.setIfInBounds 0 (Value.Η g.Ν.Γ));let i:=anx (Obj.mapFields (·.setIfInBounds 0 (Value.Η g.Ν.Γ))) w (aop j)
 let J:=p.write (h':=(g.push (Ω>>>.seq #[E])).update x (Obj.mapFields (·.setIfInBounds 0 ?g.Ν.Γ))) (t':=tk) (o:=XO x a P ρ) (x:=x) (e:=x) ([C]▸True.intro) (.ψ Τ) (λd u V z=>(anH^an5 V).π (amJ _ z)) {_,i}
  (Iu {11,i,(apC β).π O,(Bl β).π a3,j,λ_=>{[Array.getElem?_setIfInBounds_ne ⋯]▸S,g.Ν.Γ,by simp[(aog.mp G).1]}})
 let W:υ B x (XO x a P ρ)=B:=by
  funext d
  cases z:d=x
  .rw[z,aj,C]
  .rw[aq z]
 rw[W]at J;rwa[.non,B,J,2,q]
def abM (K:Za1)(k i:TE)(f:Ι):TS:=λD c H=>i c H λy j=>k c j λx b=>∃(a C:Zs)(h:Zo)(g:Μ),x=?a/\b a\XO a C h g/\Iw K C/\oD K C f/\
 match h with
 |ε=>∀d,b d=ε->D.nx c (υ (υ b d (XD d [(f,y)])) a (XO a C (ι d) g))
 |ι d=>∃fs,d≠a/\b d\XD d fs/\@fs<1000/\D.nx c (υ b d (XD d (bJ f y fs)))
def LC {fs:θ (Ι×V)}{mA:Ι->Zl}{y:V}(r:∀f,fF ť (mA f))(a:PySem.Within mA (fs.Α (·.1)))(c:Ľ):(∀g,fF ((bJ f y fs).lookup g) (if g=f then ι u else mA g))/\PySem.Within (λg=>if g=f then ι u else mA g) ((bJ f y fs).Α (·.1)):=by
 rwa[λg=>?_,λg b=>?_]
 .rw[di];cases q:g=f
  .rw[am1 q,am1 q];rwa[c]
  cbv
 .cases q:g=f
  .rw[q];rwa[(mH f y fs).1]
  .rwa[(mH f y fs).2 g (a g λz=>b ?_)]
   cbv
def GH [M:e9 X K]{o value:đ}{R Q:TE}(ha:PE X o R)(hv:PE X value Q)(hs:swapsWith value (ι (.Attribute o f pos')) pos.line X.env=pure χ):PS X (.Assign [.Attribute o f pos'] value pos) (abM K R Q f):=by
 cases M.eq;intro j s w H D I h;rwa[plainObj_wpAny_Assign_Attribute (bx (hv j s w H _ I h) λu s1 ζ=>?_) hs];let[y,H1,Z,T,q]:=ζ;rwa[bx (ha j s1 w H1 _ Z q) λov s2 ζ=>?_];let[x,H2,k,rx,a,C,dx,nw,ex,V,c,n,A]:=ζ;subst ex;obtain rfl:ov=Value.Η a:=rx;let[⟨ob,vs,N,O,S,G,a5⟩,_,_]:=k.a0 a _ V
 cases dx with
 |ι d=>
  let[fs,nd,U,hl,A]:=A;let[⟨mA,hn,r,P⟩,_,_]:=k.a0 d _ U;rwa[aeN k.dZ c N O G n.HM S hn P (by rw[amE,sizeLine_eq];omega) λm i sb=>?_]
  let[L,E]:=LC (f:=f) r P T;let[v,_,_,p,_]:=id i;rwa[w,_,k.write (x:=d) (e:=d) ([U]▸True.intro) (.ψ Τ) (λb u F z=>(sb.2 b F).π z) {v,p} (RX {_,i,L,E}),A]
 |ε=>
  rwa[abK k.dZ c N O G n.HM S λm i l kp=>?_]
  let hd:H2 ↥s2=ε:=k.a0.fresh Φ;let B:↥s2≠a:=aoC (am6 N);let[v,es,ep,p,W]:=id i;let[L,E]:=LC (fs:=[]) (mA:=λ_=>ε) (f:=f) (λ_=>True.intro) (λg hg=>absurd Τ hg) T;let J:=k.laid (a:=↥s2) (o:=XD ↥s2 [(f,y)]) (h':=s2.ς.push v) (t':=s2.toks) (λb u z=>amJ _ z) Φ (RX {_,{v,es,ep,Heap.get?_push_at Τ (Heap.get?_some_iff.mp p).2,W},L,E});rwa[w,_,J.write (h':=m) (x:=a) (e:=a) (o:=XO a C (ι ↥s2) nw) ([aq B.Β,V]▸True.intro) (.ψ Τ) (λb u F z=>?_) {_,l} (Iu {11,l,O,2,G,a5}),A _ hd];rcases Heap.get?_push_cases z with ⟨rfl,rfl⟩|z
  .rwa[p]
  .rwa[kp b u F z]
end L2
namespace L2
def iC (X:Cx)(a:θ (Zs×Obj))(g:St)(d:Hp)(x C:Zs)(f:Zo)(s:Zu):ν:=
 ∃(B:ċ)(c:Hp)(s1:Zu),Inv X a g c s1/\s.os=s1.os/\AllBare s.gens/\qo B X.stack x ?C f .ε s.ς/\Un ŵ [] c d s1.ς s.ς/\eI X.prog X.w d B/\(∀b o,s1•b\o->c b=ε->b∉bZ X.stack->B.get? b\o)/\(∀b o,s1•b\o->b∉bZ X.stack->∃e,B.get? b\e)
section
variable {X:Cx}{pins:List (Zs×Obj)}{σ:St}{H':Hp}{x C:Zs}{dx:Zo}{s:Zu}
def iC.of {E:XK}(I:Inv X pins σ H t)(cx:dG X.prog X.w X.stack H t E v s):∃x C dx H',v=?x/\iC X pins σ H' x C dx s/\E ?C dx H':=by let[x,C,dx,B,H',Τ,os,bare,fl,un,a,c,b,q]:=cx;rwa[x,C,dx,H',2,{B,H,t,I,os,bare,fl,un,a,c,b},q]
def iC.step {fl:Zt}{s1:Zu}(I:Inv X pins σ H s1)(os:s.os=s1.os)(bare:AllBare s.gens)(un:Un ŵ [] H H' s1.ς s.ς)(a0:eI X.prog X.w H' g)(q:∀b o,s1•b\o->H b=ε->b∉bZ X.stack->g.get? b\o)(p:∀b o,s1•b\o->b∉bZ X.stack->∃i,g.get? b\i)(a:qo g X.stack x ?C dx .ε h)(u:s.ς.UpToSlots h):iC X pins σ H' x C dx (s<*h):=by
 let n:∀b o,s1•b\o->b∈bZ X.stack->∃sl,h.get? b\{ o with slots:=sl }:=λb o e c=>by let[t,f,r]:=I.abB c;rw[e]at f;ext f;let[sl,m]:=un.slot b o e (I.uW b c) c (by simp);let[k,j]:=u b _ m r;rwa[k,j]
 rwa[g,H,s1,I,os,bare,a,{λb o d f l _=>a.1 b o (q b o d f l),λb o d _ l _=>n b o d l,un.free,λb o d _=>?_,un.lG,un.j8,un.mY},a0,q,p];cases c:b∈bZ X.stack
 .let[sl,j]:=n b o d c;rwa[_,j]
 .let[i,m]:=p b o d c;rwa[i,a.1 b i m]
def iC.look (t:Ĝ)(a:X.stack=X.env::X.outer)(k:X.env.frame\X.env.locals)(hA:A.frames\X.stack)(h:∀d,iC X pins σ H' x C dx (s<*d)->U () (s<*d)):
 X⁻¹ A (noteFrame ?x X.env) (λ_ f=>X⁻¹ A (setFlight ?x ε) U E f) E s:=by
 let[B,o,p,I,os,bare,fl,un,a0,n,j]:=t;let b:=fl;rw[a]at b;rwa[abJ (base:=B) (hA.π (by rw[a])) k b λe l i=>?_]
 rwa[DJ (s:=(s<*e)) l λm c g=>h m (iC.step (fl:=.ε) I os bare un a0 n j ([a]▸c) (i.π g))]
def iC.again (t:Ĝ)(h:∀b,iC X pins σ H' x C dx (s<*b)->U () (s<*b)):
 X⁻¹ A (setFlight ?x ε) U E s:=by let[B,f,g,I,os,bare,fl,un,a0,d,c]:=t;rwa[DJ fl λe a u=>h e (iC.step (fl:=.ε) I os bare un a0 d c a u)]
def iC.inv (t:Ĝ):Inv X pins σ H' s:=by let[B,c,e,I,os,bare,fl,un,a0,f,a]:=t;rwa[I.Q5 (ch:=[]) os un (a0.kept fl.1) bare (λb z=>absurd z (by simp))]
def iC.at (t:Ĝ):Bm x C dx χ s.ς:=by let[B,e,f,I,os,bare,fl,un,a0,g,d]:=t;let[_,_,_,c,a,_,_,_,b,hc,hd,_]:=fl;rwa[c,a,b,hc.1,hc.2,hd,λz=>by ext z]
end
abbrev LD:=Zs->Zo->St->Hp->Prop
abbrev Sb:=St->Hp->VK->LD->Prop
abbrev Sd:=Ends->LD->St->Hp->Prop
def XPd (X:Cx)(a:θ (Zs×Obj))(R:LD)(e:Zt)(s:Zu):ν:=∃x C b c H,e=?x/\iC X a c H x C b s/\R C b c H
def PEd (X:Cx)(e:đ)(t:Sb):ν:=∀(a:θ (Zs×Obj))(s:Zu)(b:St)(H:Hp)(Q:VK)(R:LD),Inv X a b H s->t b H Q R->X⁻¹ X.A ē ō (XPd X a R) s
def PSd (X:Cx)(st:Ž)(t:Sd):ν:=∀(a:θ (Zs×Obj))(s:Zu)(b:St)(H:Hp)(D:Ends)(R:LD),Inv X a b H s->t D R b H->X⁻¹ X.A (exec st X.env) (SP X a D) (XPd X a R) s
section
variable {X:Cx}{k:Nat}{f:Zs}{fd:FuncData}{ps:Zp}{sp:Sp}{x:Str}{p pos:Pos}{e:Expr}{es:Zr}{t:TA}{ds:Zk}{dvs:Zb}
def XF (sp:Sp)(dvs:Zb)(t:TA):Sb:=λ a H Q R=>t a H λd g=>sp (d++dvs) g Q λc h b=>∃C,c=?C/\R C h a b
theorem Py (F:Ä)(M:dk k X.A)(D:œ)(O:X.mg x\?f)(E:keepIn X.K ?f=ρ)(B:ø)(hd:ļ)(U:PA X.CD (e::es) t)(m:(x==(Ö:Ι))=χ)(T:starEach (e::es) X.env=(χ,eval e X.env)::starEach es X.env)(g:(backTo pos Í).any (·.1)=χ):
 PEd X (.Call (.Name x p) (e::es) [] pos) (XF sp dvs t):=by
 intro b s j H Q R I h;rwa[aoa (jv I D O ?_ m)];rwa[apm (h₀:=X.base) I.ok.mod.pP E (aok (U pos b s j H _ (I.wish _) h) (λd i ζ=>?_) λ_ _ z=>False.Κ z) T g];let[o,v,n,r,q]:=ζ;rwa[n.dZ,5];let J:=n.kP;let w:Vals (o++dvs) (d++ds):=r.append hd;let L:@(d++ds)=@ps:=by rw[<-@w];rwa[F.len δ q]
 rwa[apX (apt (F.run X.A X.stack i v {d,[]} (d++ds) (o++dvs) Q _ M J.HS (B i d J.dZ L) w q) λr A a=>?_)]
 cases r with
 |error e=>let a:dG X.prog X.w X.stack v i (λc l P=>∃C,c=Value.Η C/\R C l j P) e A:=a;let[x,C,l,W,Τ,G,Y,S,z]:=iC.of J a;ext S;rwa[x,C,l,j,W,2,G,z]
 |ok N=>
  cases N with
  |ret u=>exact J.after a
  |next=>exact False.Κ a
  |brk=>exact False.Κ a
  |cont=>exact False.Κ a
def abN (i:η)(b:Sb):Sd:=λD R a H=>b a H (λv c=>D.nx (a.set i (ι v)) c) R
def UX {x:Ι}{b:Sb}{pos':Pos}(w:Ĥ)(o:X.N[i]?\x)(r:Ī)(u:PEd X e b)(n:swapsWith e (ι (.Name x pos')) pos.line X.env=pure χ)(l:X.fn x=ρ\/X.env.scope.names.lookup x=ι .local):
 PSd X (.Assign [.Name x pos'] e pos) (abN i b):=by intro a s q H D R I h;rwa[wpAny_Assign_Name (bx (u a s q H _ R I h) λv A ζ=>?_) n];let[y,m,d,c,g]:=ζ;rwa[wI d w o r c (λz j=>{_,m,j,g}) l]
end
abbrev Bn:=Ends->Zs->Zo->St->Hp->Prop
def Se (X:Cx)(d:θ ExceptHandler)(t:Bn):ν:=∀(a:θ (Zs×Obj))(s:Zu)(c:St)(H:Hp)(x C:Zs)(b:Zo)(D:Ends),iC X a c H x C b s->t D C b c H->X⁻¹ X.A (handleBy ?x X.env d) (SP X a D) X.xe s
section
variable {X:Cx}{pos:Pos}{rest:List ExceptHandler}
def abO:Bn:=λ_ _ _ _ _=>False
def XG:Se X rest abO:=λ_ _ _ _ _ _ _ _ _ h=>h.Κ
def abP (t:Sd)(c:Bn):TS:=λD e H=>t D (λC d a b=>c D C d a b) e H
def UY {st:Ž}{t:Sd}{b:ExceptHandler}{j:θ ExceptHandler}{c:Bn}(d:X.stack=X.env::X.outer)(l:X.env.frame\X.env.locals)(k:PSd X st t)(o:Se X (b :: j) c):
 PS X (.Try [st] (b :: j) [] [] pos) (abP t c):=by
 intro a s u H D I h;rwa[wpAny_Try_except (wpAny_execs_cons (aok (k a s u H D _ I h) (λp r q=>?_) λe r q=>?_))]
 .cases p with
  |next=>exact apr (apr q)
  |ret v=>exact q
  |brk=>exact q
  |cont=>exact q
 .let[x,C,w,g,m,Τ,c,q]:=q;rwa[c.look d l I.ok.frames λz f=>o a _ g m x C w D f q]
end
def IA (K:Za1)(C:Zs):Μ:=match findIn K ?C Ç with
 |ι (ι ?f)=>Ad K C f
 |_=>χ
def GJ (h:IA K a=ρ)(e:findIn K ?a Ç=ι (ι ?b)):Ad K a b=ρ:=by unfold IA at h;rw[e]at h;rwa[h]
structure aeP (K:Za1)(x qual:Ι)(st:Ž)(f:Zs)(fd:Ă)(dV:Zt):ν where
 ex:∃(oc:Zt)(od:Zo)(kV doc pm:Zt)(an:Zo)(b9 ct:Zt)(CP:ī),fd=fnOf x qual ď õ Ù dV kV doc pm an b9 ct/\K.lookup f\⟨oc,od,.func fd,CP⟩/\codeIn K b9 qual=ρ
 kp:keepIn K ?f=ρ
structure DDef (K:Za1)(mg:Ι->Zl)(x:Ι)(st:Ž)(ps:Zp)(f:Zs)(fd:Ă)(d:Ι):ν where
 F:∃dV,aeP K x x st f fd dV
 kp:keepIn K ?f=ρ
 m:mg x\?f
 b:Binds K fd ps []
 bd:∃t,Binds K fd ps [.str d t]
variable {P:Program}{w:World}{K:Za1}{mg:Str->Zl}{base:Heap}
theorem DDef.Lx {st:Ž}{fd:Ă}{e:Zp}{k:η}{sp:Sp}(D:DDef K mg x st e a fd f)(S:aP Z e Ù)(len:∀c H Q E,sp c H Q E->@c=@e)(d:∀(b:Zt) (A:Ģ) (outer:Zq) (s:Zu) (H:Hp) (c:Zb) (Q:VK) (E:XK),dk k (A.deeper (envOfC x Ù ↥s a b))->sp c H Q E->∃t,iY (dP Õ P w K mg base Z x Ù a b A outer s H E) õ t/\t { nx:=λ_ j=>Q .non j,rt:=Q } (start Z c) H):eG P w K mg base Õ (k+ 1) a fd e sp:=by let[p,F]:=D.F;let[m,o,kV,doc,pm,n,b,ct,l,Τ,lk,h]:=F.ex;rwa[HV lk h S len λA outer s H c Q E i g=>d b A outer s H c Q E i g]
def DDef.of {st:Ž}{y d:Zo}{j r:ī}{kV doc pm ct A:Zt}{dd:Zo}{t:Tok}(X:K.In h)(G:h.Ns mainGlobals mg)(e:PySem.W.nsIn K mainGlobals x\ι ?a)(l:K.lookup a\{v,y,.func (fnOf x x ď õ Ù ?b kV doc pm d u ct),j})(c:codeIn K u x=ρ)(k:keepIn K ?a=ρ)(lt:K.lookup b\{A,dd,.seq #[.str f t] n,r})(g:∀(kV doc pm:Zt) (d:Zo) (u ct:Zt) (us:Zk),@us=@Z->∃i:Ο Zm->Sem (θ (Ι×Zt)),bindArgs (fnOf x x ď õ Ù ?b kV doc pm d u ct) ⟨us,[]⟩=seqItems? ?b >>=i/\i (ι #[.str f t])=pure (Z.zip us))(z:∀(kV doc pm:Zt) (d:Zo) (u ct:Zt) (us:Zk),@us+ 1=@Z->∃i:Ο Zm->Sem (θ (Ι×Zt)),bindArgs (fnOf x x ď õ Ù ?b kV doc pm d u ct) ⟨us,[]⟩=seqItems? ?b >>=i/\i (ι #[.str f t])=pure (Z.zip (us++[.str f t]))):
 DDef K mg x st Z a (fnOf x x ď õ Ù ?b kV doc pm d u ct) f:=by
 rwa[{_,{v,y,kV,doc,pm,d,u,ct,j,2,l,c},k},k,mg_of X G e,λs us p m=>?_,t,λs us p m=>?_]
 .rw[am9]at m ⊢;let[i,q,o]:=g kV doc pm d u ct us m;rwa[BindsTo.of_defaults (T:=b) Τ (p^lt) Τ q o]
 .let[i,q,o]:=z kV doc pm d u ct us (by simpa using m);rwa[BindsTo.of_defaults (T:=b) Τ (p^lt) Τ q o]
end L2
namespace L2
def IB {c:η}{g:Zg}(b:S.Wf):(S.make c z g).stand=S.stand+ 1:=by
 unfold RS.stand;show (~~~(S.q+ 1)).countP _=_;rw[aon,θ.countP_append,θ.countP_singleton]
 let d:(S.make c z g).ay S.q=S.q:=by show (S.grown c z g).ay S.q=S.q;rw[gk b,am1 Τ]
 rw[show decide ((S.make c z g).ay S.q=S.q)=ρ from anh d,am1 Τ]
 congr 1
 rwa[θ.countP_congr λa e=>?_]
 have:(S.make c z g).ay a=S.ay a:=by show (S.grown c z g).ay a=S.ay a;rw[gk b,amY (by have:=anj.mp e;omega)]
 rw[ω]
def Pz (hw:S.Wf)(d:n<S.q):(S.make n z l).by m y=if m=S.q/\y= -z then ι n else if m=n/\y=z then ι S.q else S.by m y:=by
 unfold RS.make RS.keep;let b:(S.grown n z l).ways.Ξ=S.q+ 1:=by show @(S.ways++[[]])=_;rw[amG,hw.w];rfl
 let c:∀a s,(S.grown n z l).by a s=S.by a s:=λa s=>by unfold RS.by;rw[pU hw]
 show (((S.grown n z l).cL n z S.q).cL S.q (-z) n).by m y=_;rw[kx (by show @((S.grown n z l).ways.set n _) > _;rw[am7,b];omega),kx (by rw[b];omega),c]
def uc (h:fQ S)(g:S.Wf)(c:η)(z:ο)(f:Zg):fQ (S.make c z f):=by
 let e:∀b,(S.make c z f).ay b=if b=S.q then S.q else S.ay b:=λb=>gk g c z f b
 rwa[λb d a=>?_,λb d=>?_,λb d=>?_]
 .let d:b<S.q+ 1:=d;rw[e]at a;cases q:b=S.q
  .rw[am1 q,q]at a;rwa[absurd Τ a]
  .rw[amY q]at a;rwa[h.a b ∅ a]
 .let d:b∈S.bq:=d;have:=h.c b d;rw[e,amY ∅];rwa[h.b b d]
 .let d:b∈S.bq:=d;have:=h.c b d;show b<S.q+ 1;ext
def GK (d:Dt):ν:=(∃n,d=.i n)\/∃l,d=.s l
def GK.low {k:η}{d:Dt}(h:GK d)(a:cy H k q d):cy H n q d:=by
 rcases h with ⟨b,rfl⟩|⟨l,rfl⟩
 .ext a;rwa[.i]
 .ext a;rwa[.s]
def UZ {k:η}{b:ſ}(h:∀x∈b,GK x)(a:cy H (k+ 1) q (.t b)):cy H (n+ 1) q (.t b):=by
 cases a with
 |t g f i=>exact .t g f λj q d e c=>(h d (amD c)).low (i j q d e c)
def Dp (d:Dt):ν:=∃a,d=.t a/\∀x∈a,GK x\/∃as,x=.t as/\∀y∈as,GK y
def Dp.low {d:Dt}(h:Dp d)(b:cy H 4 q d):cy H 2 q d:=by
 let[k,Τ,h]:=h
 cases b with
 |t g f i=>
  rwa[.t g f λj q d e c=>?_]
  let b:=i j q d e c;rcases h d (amD c) with a|⟨as,Τ,a⟩
  .rwa[a.low b]
  .rwa[UZ a b]
def GN {a:ſ}(h:∀x∈a,GK x):Dp (.t a):={a,Τ,λx b=>.ψ (h x b)}
def XH (c:η)(z:ο)(n:η):Dp (tV c z n):=GN λx a=>by
 simp only[amW,anK,apb]at a;rcases a with rfl|rfl|rfl|rfl
 .rwa[.Ζ {_,Τ}]
 all_goals rwa[.ψ {_,Τ}]
def XI {e:Za3}{b:Zh}{W:Za2}{row:Dt}(h:One e n B W row b R):Dp row:=by
 cases h with
 |meet=>
  rwa[GN λx a=>?_]
  simp only[amW,anK,apb]at a;rcases a with rfl|rfl|rfl|rfl|rfl
  .rwa[.Ζ {_,Τ}]
  all_goals rwa[.ψ {_,Τ}]
 |rule=>
  rwa[12,λx a=>?_];simp only[amW,anK,apb]at a;rcases a with rfl|rfl|rfl|rfl
  .rwa[.ψ (.Ζ {_,Τ})]
  .rwa[.ψ (.ψ {_,Τ})]
  .rwa[.Ζ {_,Τ,λy d=>?_}];let[c,_,Τ]:=anm.mp d;rwa[.ψ {12}]
  .rwa[.ψ (.ψ {12})]
def abQ {e:Za3}{c:Zh}{W:Za2}{b:ſ}(h:Go e n B W b c R):∀x∈b,Dp x:=by
 induction h with
 |nil=>cbv
 |cons o _ d=>
  intro x a;rcases amW.mp a with rfl|a
  .rwa[XI o]
  .rwa[d x a]
section
variable {S S':RS}{R:Za2}{ks:Zg}{pend:Ze}
def lT.gap (l:Ϫ):Good S pend R->(∀c z d,R c z d->z∈ks)->fz S R ks->fz S' R ks:=by
 induction l with
 |nil S=>exact λ_ _ h=>h
 |take _ b=>intro g a h;rwa[b (g.take a).1 a (h.take g)]
def lT.wr (l:Ϫ):Good S pend R->(∀c z d,R c z d->z∈ks)->@S.bq<=@S.rows->@S'.bq<=@S'.rows:=by
 induction l with
 |nil S=>exact λ_ _ h=>h
 |take _ i=>
  intro g e h;let[f,_,_,_,q]:=g.take e;rwa[i f e ?_];rcases q with ⟨_,a,b⟩|⟨_,_,_,_,_,_,_,_,_,_,a,b,_⟩
  .rw[a,b];rwa[h]
  .rw[a,b,amG,amG,aoc,aoc];ext
structure YS (S:RS)(L:η)(ks:Zg)(R:Za2):ν where
 g:Good S [] R
 w:fQ S
 k:∀a z b,R a z b->z∈ks
 gi:fz S R ks
 l:S.L=L
 m:0<S.q
 d:∀x∈S.rows,Dp x
 wr:@S.bq<=@S.rows
def YS.new {L:η}{ks:Zg}:YS (RS.new L ks) L ks (λ_ _ _=>False):=by
 rwa[rO L _,{λc hc e=>?_,(λc hc=>by ext hc),(λc hc=>by ext hc)},(λ_ _ _ z=>z.Κ),UC L _,2,η.one_pos,(λx a=>by ext a),amK _];have:c=0:=by have:c<1:=hc;ext
 subst ω;rwa[absurd Τ e]
def YS.make (h:YS S n ks R)(hc:m<S.q)(f:S.ay m=m)(g:S.by m z=ε)(hz:z∈ks)(c: -z∈ks):YS (S.make m z ks) n ks (fX R m z S.q):=by
 erw[h.g.make hc f g _,uc h.w h.g.wf γ,λa y b r=>?_,h.gi.make h.g hc f g,h.l,η.succ_pos _,λx d=>?_]
 .rcases r with r|⟨_,e,_⟩|⟨_,e,_⟩
  .rwa[h.k γ r]
  .rw[e];rwa[hz]
  .rw[e];rwa[c]
 .let d:x∈S.rows++[tV m z S.q]:=d;rcases amO.mp d with p|p
  .rwa[h.d x p]
  .rw[amI.mp p];rwa[XH^_]
 .show @S.bq<=@(S.rows++[_]);rw[amG];have:=h.wr;ext
def YS.tr {ws:Za3}(t:Tr ws m S S')(o:∀w∈ws,∀z∈w,z∈ks/\-z∈ks)(h:YS S n ks R):∃u,YS S' n ks u/\S'.q=S.q/\(∀a z b,R a z b->u a z b)/\∃v,S'.rows=S.rows++v/\∃E W B F,Go ws m E W v B F:=by
 induction t with
 |refl=>rwa[R,h,2,λ_ _ _ r=>r,[],(am9 _).Β,1111,.nil (E:=S.bj) (W:=λ_ _ _=>False) λ_ _ _=>Iff.rfl]
 |step L ra j P=>
  rename_i k Z which word start f c d z;let[C,g,M,N,O,e1,E,W,B,F,g1]:=P;let hz:=o word (amD ra.w) z (amD ra.hz)
  let i:∀a y b,fX C c z d a y b->y∈ks:=by
   rintro a y b (r|⟨_,e,_⟩|⟨_,e,_⟩)
   .rwa[g.k γ r]
   .rw[e];rwa[hz.1]
   .rw[e];rwa[hz.2]
  let gl:=g.g.lay z ra.hc.1 ra.hd.1 (rQ k which word start f d).rows;let[I,Q,A,l2,_]:=j.all gl i {g.w.a,g.w.b,g.w.c};let gp:=j.gap gl i ((g.gi.more λa y b r=>.ψ r).rows _);let[u,X,T,Y,H,J,p]:=RM (Tr.step (Tr.refl k) ra j) (R:=C) o g.g g.w g.k;let[R0,U,w0,V,l,G,s]:=RM (Tr.step L ra j) (R:=R) o h.g h.w h.k;rwa[_,{I,Q,i,gp,l2.π g.l,[A]▸g.m,λx D=>?_,j.wr gl i (by show @k.bq<=@(k.rows++[_]);rw[amG];have:=g.wr;omega)},A.π M,λa y b r=>.ψ (N γ r),l,G,1111,s];rw[J]at D;rcases amO.mp D with q|q
  .rwa[g.d x q]
  .rwa[abQ p x q]
end
def CI.make {bs:θ (η×Zg×η)}{gs:Zf}{W:bM}(h:CI S bs gs [] W gI ε)(d:Good S [] R)(hc:n<S.q)(x:S.ay n=n)(A:S.by n z=ε)(f:∀b∈bs,b.2.2<S.q)(g:Zg):CI (S.make n z g) bs gs [] W (λr s=>r=n/\s=z) ε:=by
 let i:=d.make hc x A g;let k:S.q<=(S.make n z g).q:=aqu _;let lt:=Later.of d i jh k;let el:∀b,b<S.q->(S.make n z g).ay b=S.ay b:=λb c=>(gk d.wf n z g b).π (amY ∅)
 rwa[h.len,λa u q=>?_,λa b B I m=>?_,(λa j=>by ext j),λr s a q=>?_,h.sl,h.bd]
 .let[C,v,E]:=h.al a u q;rwa[C,v.later lt k,E]
 .let c:=f b (amD m);rw[el _ c];rcases h.de a b B I m with w|w
  .rwa[.ψ w]
  .cases e:S.ay b.2.2=b.2.2
   .right
    have:=lt.wk w;rw[el _ c,e]at ω;rwa[ω]
   .rwa[.ψ e]
 .let[l,p,G,D,o,j,F,w]:=h.en r s a q;erw[l,p,G,D,ano o k,j,F];rcases w with ⟨t,H⟩|w
  .cases e:l=n/\s=z
   .rwa[.Ζ e]
   .left
    rw[el _ o,Pz d.wf hc,amY (λy=>by omega),amY e];rwa[t,H]
  .rwa[w.Κ]
section
variable {X:Cx}{y:Str}{Y:Zs}{np pos:Pos}{Ig:Stmt}{suite:List Stmt}{rest:List ExceptHandler}{tb:TS}{tr:Bn}
def abR (K:Za1)(Y:Zs)(tb:TS)(tr:Bn):Bn:=λD C c a H=>∃b,exmOne K ?C ?Y\b/\if b=ρ then tb D a H else tr D C c a H
def XJ [j:e9 X K](p:Gl X y)(B:X.mg y\?Y)(o:∀x,iY (X.C5 x) (Ig :: suite) tb)(t:Se X rest tr)(m:(y==(Ö:Ι))=χ):
 Se X (.ExceptHandler (ι (.Name y np)) ε (Ig :: suite) pos::rest) (abR K Y tb tr):=by
 cases j.eq;intro a s A H x C E D f h;let[b,k,h]:=h;let I:=f.inv;rwa[wpAny_handleBy_cons (codeAny_handlers_test ?_) f!""];rwa[jv (X:=X.C5 x) (I.C5 x) p B ?_ m];rwa[PySem.W.exm_one I.dZ f.at.ex.abC k δ (λ_ _ e=>e) ?_]
 cases b with
 |χ=>exact t a s A H x C E D f h
 |ρ=>
  rwa[codeAny_handlers_suite (f.again λF g=>?_)];let J:=g.inv;rwa[aok (o x a γ D (J.C5 x) h) (λw G q=>?_) λ_ _ z=>False.Κ z]
  cases w with
  |next=>let[d,l,c,q]:=q;rwa[11,c.Cq I.ok,q]
  |brk=>let[d,l,c,q]:=q;rwa[11,c.Cq I.ok,q]
  |cont=>let[d,l,c,q]:=q;rwa[11,c.Cq I.ok,q]
  |ret u=>let[v,d,l,c,r,q]:=q;rwa[v,11,c.Cq I.ok,r,q]
end
abbrev Def.Ok {K:Za1} {mg:Str->Zl} {x:Str} {st:Stmt} {ps:Zp} {f:Zs} {fd:FuncData} (_:Def K mg x st ps f fd) (P:Program) (w:World) (base:Heap) (k:Nat) (sp:Sp):Prop:=eG P w K mg base (dG P w) k f fd ps sp
abbrev MDef.Ok {K:Za1} {C:Zs} {x q:Str} {st:Stmt} {ps:Zp} {f:Zs} {fd:FuncData} (_:MDef K C x q st ps f fd) (mg:Str->Zl) (P:Program) (w:World) (base:Heap) (k:Nat) (sp:Sp):Prop:=eG P w K mg base (dG P w) k f fd ps sp
section
variable {P:Program}{w:World}{K:Za1}{mg:Str->Zl}{base:Heap}{x q:Str}{st:Stmt}{ps N:Zp}{f C:Zs}{fd:FuncData}{k:Nat}{sp:Sp}
def Def.on (D:Def K mg x st ps f fd)(S:aP N ps Ù)(a:∀(b:Zt) (A:Ģ) (outer:Zq) (s:Zu) (H:Hp) (c:Zb) (Q:VK) (E:XK),dk k (A.deeper (envOfC x Ù ↥s f b))->sp c H Q E->∃t,iY (dP Õ P w K mg base N x Ù f b A outer s H E).CD õ t/\t { nx:=λ_ d=>Q .non d,rt:=Q } (start N c) H)(len:∀c H Q E,sp c H Q E->@c=@ps:=by intro _ _ _ _ h;rcases h with ⟨⟩;subst_vars;rfl):D.Ok P w base (k+ 1) sp:=D.F.okN S len a
def MDef.on (D:MDef K C x q st ps f fd)(S:aP N ps Ù)(a:∀(b:Zt) (A:Ģ) (outer:Zq) (s:Zu) (H:Hp) (c:Zb) (Q:VK) (E:XK),dk k (A.deeper (envOfC q Ù ↥s f b))->sp c H Q E->∃t,iY (dP Õ P w K mg base N q Ù f b A outer s H E).CD õ t/\t { nx:=λ_ d=>Q .non d,rt:=Q } (start N c) H)(len:∀c H Q E,sp c H Q E->@c=@ps:=by intro _ _ _ _ h;rcases h with ⟨⟩;subst_vars;rfl):D.Ok mg P w base (k+ 1) sp:=D.F.okN S len a
end
variable {X:Cx}{x q m:Str}{st:Stmt}{ps:Zp}{f C:Zs}{fd:FuncData}{k j i:Nat}{sp:Sp}{e o:Expr}{es:Zr}{t:TA}{ta te:TE}{p pos pos' apos:Pos}
def pc (D:Def X.K X.mg x st ps f fd)(F:Ä)(g:dk j X.A)(d:PA X (e::es) t)(hj:k<=j:=by decide)(h:Gl X x:=by rfl)(b:(x==(Ö:Ι))=χ:=by decide)(c:starEach (e::es) X.env=(χ,eval e X.env)::starEach es X.env:=by rfl)(a:(backTo pos Í).any (·.1)=χ:=by rfl):
 PE X (.Call (.Name x p) (e::es) [] pos) (Ri sp [] (λ_ _ _=>False) t):=u6 F (g.mono hj) h D.m D.F.kp D.b .nil jV d b c a
def pm {pl:Sem Μ}(g:Z0)(c:ϊ)(D:MDef X.K C m q st ps f fd)(F:Ä)(n:dk j X.A)(l:PA X (e::es) t)(h:k<=j:=by decide)(a:starEach (e::es) X.env=(χ,eval e X.env)::starEach es X.env:=by rfl)(b:(backTo pos Í).any (·.1)=χ:=by rfl)(r:eval (.Call (.Attribute o m apos) (e::es) [] pos) X.env=(do
  let d <-eval o X.env
  standAt apos.atName
  let (f,first) <-holding [d] (getMethod d m pl)
  callWith pos f first (backTo pos (starEach (e::es) X.env)) (backToKw pos (keywordEach [] X.env))):=by rfl):
 PE X (.Call (.Attribute o m apos) (e::es) [] pos) (yi C m sp [] (λ_ _ _=>False) ta t):=Ub g c D.m F (n.mono h) D.b .nil jV l a b r
def DN {pl:Sem Μ}(b:Z0)(c:ϊ)(D:MDef X.K C m q st ps f fd)(F:Ä)(g:dk j X.A)(d:k<=j:=by decide)(h:eval (.Call (.Attribute o m apos) [] [] pos) X.env=(do
  let a <-eval o X.env
  standAt apos.atName
  let (f,first) <-holding [a] (getMethod a m pl)
  callWith pos f first (backTo pos (starEach [] X.env)) (backToKw pos (keywordEach [] X.env))):=by rfl):
 PE X (.Call (.Attribute o m apos) [] [] pos) (yi C m sp [] (λ_ _ _=>False) ta tO):=Ob b c D.m F (g.mono d) D.b .nil jV h
def bH (i:η)(d:Ĥ)(b:Ŏ)(g:X.N[i]?\x:=by rfl)(h:Loc X.env.scope x:=by trivial)(c:swapsWith e (ι (.Name x pos')) pos.line X.env=pure χ:=by rfl)(a:X.fn x=ρ\/X.env.scope.names.lookup x=ι .local:=by trivial):
 PS X (.Assign [.Name x pos'] e pos) (zM te (cU i)):=VQ d g h b c a
def du (i:η)(a:Ĥ)(b:X.N[i]?\x:=by rfl)(c:Loc X.env.scope x:=by trivial)(d:X.fn x=ρ\/X.env.scope.names.lookup x=ι .local:=by trivial):PG X (.Name x pos) (cU i):=Gh a b c d
end L2
namespace M11
def flip (k:η):η:=if k % 2=0 then k+ 1 else k - 1
def nx (T:Za3)(k i:η):η:=((T.Λ i []).Λ k 0).toNat
structure Tab (L:η)(T:Za3):ν where
 pos:1<=@T
 top:@T<=300
 let1:1<=L
 Ae:L<=40
 row:∀(i:η)(r:Zg),T[i]?\r->@r=2* L
 val:∀i k,i<@T->k<2* L->∃r:Zg,T[i]?\r/\r[k]?\((nx T k i:η):ο)
 lt:∀i k,i<@T->k<2* L->nx T k i<@T
 back:∀i k,i<@T->k<2* L->nx T (flip k) (nx T k i)=i
def pl (s:ο):η:=if 0<s then 2* s.natAbs - 2 else 2* s.natAbs - 1
def walk (T:Za3)(w:Zg)(i:η):η:=w.foldl (λi s=>nx T (pl s) i) i
def aH (L:η)(w:Zg):ν:=∀s∈w,s≠0/\s.natAbs<=L
def back (w:Zg):Zg:=w.reverse.Α λz=>-z
def gR (h:z≠0/\z.natAbs<=n):pl z<2* n:=by unfold pl;split <;> ext
def vk (h:z≠0):pl (-z)=flip (pl z):=by
 unfold pl flip;rw[ο.natAbs_neg];cases a:0<z
 .rw[am1 a,amY (show ¬ 0 < -z by omega),am1 ∅];ext
 .rw[amY a,am1 (show 0 < -z by omega),amY ∅];ext
theorem iQ {L:η}{T:Za3}(c:ϭ):∀{w:Zg}{i:η},aH L w->i<@T->walk T w i<@T
 |[],i,_,a=>a
 |s::w,i,b,a=>iQ c (w:=w) (λs d=>b s (amZ _ d)) (c.lt i (pl s) a (gR (b s (amR ..))))
def gJ (T:Za3)(w u:Zg)(i:η):walk T (w++u) i=walk T u (walk T w i):=ao6 ..
theorem mM {L:η}{T:Za3}(c:ϭ):∀{w:Zg}{i:η},aH L w->i<@T->walk T (w++back w) i=i
 |[],i,_,_=>rfl
 |s::w,i,d,f=>by
  let a:=d s (amR ..);let b:aH L w:=λs a=>d s (amZ _ a)
  let e:back (s::w)=back w++[-s]:=by unfold back;rw[aqj,am8];rfl
  let g:=mM c (i:=nx T (pl s) i) b (c.lt i (pl s) f (gR a));rw[e,apc,<-ans];show walk T ((w++back w)++[-s]) (nx T (pl s) i)=i;rw[gJ,g];show nx T (pl (-s)) (nx T (pl s) i)=i;rw[vk a.1];rwa[c.back i (pl s) f (gR a)]
def eX (h:aH n l):aH n (back l):=λs a=>by unfold back at a;let[y,b,Τ]:=anm.mp a;have:=h y (θ.mem_reverse.mp b);ext
structure Pm (p:η)(r:Zg):ν where
 len:@r=p
 nd:r.Nodup
 rg:∀z∈r,0<=z/\z<(p:ο)
def Pm.at {r:Zg}(h:Pm n r){i:η}(b:i<n):∃j:η,r[i]?\(j:ο)/\j<n:=by
 let a:i<@r:=by rw[h.len];rwa[b]
 have:=h.rg r[i] (aph a);rwa[r[i].toNat,by rw[amB a,show ((r[i].toNat:η):ο)=r[i] by ext],3]
def GO {k:η}(h:k<2* n):flip k<2* n:=by unfold flip;split <;> ext
theorem et:∀(n:η)(l:Zh),l.Nodup->(∀x∈l,x<n)->@l<=n
 |0,[],_,_=>amK _
 |0,a::l,_,h=>absurd (h a (amR ..)) ∅
 |n+ 1,l,b,h=>by
  cases c:n∈l
  .have:=et n (l.erase n) (b.erase n) (λx d=>by cbv)
   rw[aoE c]at ω;ext
  .have:=et n l b (λx d=>by cbv)
   ext
def IC (j:l.Nodup)(h:∀x∈l,0<=x/\x<(n:ο)):@l<=n:=by
 let f:(l.Α ο.toNat).Nodup:=by rwa[aor.mpr (ao8 ?_ j)];intro a b d g c z;have:=h a d;have:=h b g;rwa[c ∅]
 have:=et n (l.Α ο.toNat) f (λx i=>by let[y,e,Τ]:=anm.mp i;have:=h y e;omega)
 rw[amE]at ω;rwa[ω]
def Pm.aeQ {r:Zg}(h:Pm n r){x:η}(f:x<n):∃i:η,r[i]?\(x:ο)/\i<n:=by
 let b:(x:ο)∈r:=by
  rwa[anY λb=>?_]
  have:=IC (n:=n) (l:=(x:ο)::r) (anq.mpr {b,h.nd}) (λy c=>by
   rcases amW.mp c with e|c
   .rw[e];ext
   .rwa[h.rg y c])
  rw[amT,h.len]at ω;ext
 let[i,d,e]:=apL.mp b;rwa[i,by rw[amB d,e],by rw[<-h.len];rwa[d]]
def yD (p:η)(r t:Zg):ν:=@t=p/\∀k j:η,r[k]?\(j:ο)->t[j]?\(k:ο)
def vl (p:η)(r t:Zg)(n:η):ν:=@t=p/\∀k j:η,k<n->r[k]?\(j:ο)->t[j]?\(k:ο)
def vl.step {r:Zg}(h:vl n r l m)(f:Pm n r)(d:r[m]?\(j:ο))(c:j<n):vl n r (l.set j (m:ο)) (m+ 1):=by
 rwa[[am7]▸h.1,λk i g a=>?_];cases e:k=m
 .subst e;rw[d]at a;have:j=i:=by have:=Za0 a;ext
  subst ω;rwa[anv ([h.1]▸c)]
 .let b:j≠i:=λz=>by subst z;rwa[e ((apH (amF.mp a).1 f.nd).mp (a.π d.Β))]
  rw[anQ b];rwa[h.2 k i ∅ a]
def vl.all {r:Zg}(h:vl n r l n)(b:Pm n r):yD n r l:={h.1,λk j a=>h.2 k j (by have:=(amF.mp a).1;rw[b.len]at ω;omega) a}
end M11
namespace M12
open M11
def Fc (W:η)(E:Zg)(N:η):ν:=(∀z∈E,0<=z/\z<(N:ο))/\∀j:η,0<j->j<N->∃p:η,p<j* W/\E[p]?\(j:ο)/\∀(q:η)(z:ο),q<p->E[q]?\z->z<(j:ο)
def Fc.old {W:η}(h:Fc W l n)(k:i<n):Fc W (l++[(i:ο)]) n:=by
 rwa[λz hz=>?_,λj e d=>?_]
 .rcases amO.mp hz with hz|hz
  .rwa[h.1 z hz]
  .rw[amI.mp hz];ext
 .let[p,b,c,f]:=h.2 j e d;let g:=(amF.mp c).1;rwa[p,b,by cbv,λq z a hz=>f q z a ?_];rw[amP ∅]at hz;rwa[hz]
def Fc.new {W:η}{E:Zg}(h:Fc W E n)(hN:0<n)(hE:@E<n* W):Fc W (E++[(n:ο)]) (n+ 1):=by
 rwa[λz hz=>?_,λj d i=>?_]
 .rcases amO.mp hz with hz|hz
  .have:=h.1 z hz;ext
  .rw[amI.mp hz];ext
 .cases e:j=n
  .subst e;rwa[@E,hE,by cbv,λq z a hz=>?_];rw[amP a]at hz;rwa[(h.1 z (amD hz)).2]
  .let[p,b,c,f]:=h.2 j d ∅;let g:=(amF.mp c).1;rwa[p,b,by cbv,λq z a hz=>f q z a ?_];rw[amP ∅]at hz;rwa[hz]
def Fc.zero (W:η):Fc W [] 1:={(λz hz=>by ext hz),(λj b a=>∅)}
theorem vm {W:η}(hW:0<W):∀{T:Za3}{i k:η}{r:Zg},(∀(i:η)(r:Zg),T[i]?\r->@r=W)->T[i]?\r->k<W->T.flatten[i* W+ k]?=r[k]?
 |[],i,k,r,_,a,_=>by simp at a
 |s::T,0,k,r,h,a,b=>by cbv
 |s::T,i+ 1,k,r,h,a,b=>by
  let c:=h 0 s rfl;rw[apD,amU (by rw[c,aqm];omega),c];let e:(i+ 1)* W+ k - W=i* W+ k:=by rw[aqm];ext
  rw[e];rwa[vm hW (λi r a=>h (i+ 1) r a) a b]
def st (k:η):ο:=if k % 2=0 then ((k / 2+ 1:η):ο) else -((k / 2+ 1:η):ο)
def rV (k:η):pl (st k)=k:=by
 unfold pl st;cases h:k % 2=0
 .rw[am1 h,am1 ∅];ext
 .rw[amY h,amY ∅];ext
def rX {k:η}(h:k<2* n):st k≠0/\(st k).natAbs<=n:=by unfold st;split <;> ext
def Lw (L:η)(T:Za3)(ws:é):ν:=@ws=@T/\ws[0]?\[]/\∀(j p:η),0<j->j<@T->T.flatten[p]?\(j:ο)->(∀(q:η)(z:ο),q<p->T.flatten[q]?\z->z<(j:ο))->∃u,ws[p / (2* L)]?\u/\ws[j]?\(u++[p % (2* L)])
end M12
namespace M13
open M11 M12
structure Part (L:η)(T:Za3)(ws:é)(p:η):ν where
 pos:ws[0]?\[]
 top:@ws<=@T
 all:∀(q:η)(z:ο),q<p->T.flatten[q]?\z->z<(@ws:ο)
 XM:∀(j q:η),0<j->j<@ws->T.flatten[q]?\(j:ο)->(∀(r:η)(z:ο),r<q->T.flatten[r]?\z->z<(j:ο))->∃u,ws[q / (2* L)]?\u/\ws[j]?\(u++[q % (2* L)])
 ok:∀(i:η)(u:Zh),ws[i]?\u->(∀k∈u,k<2* L)/\walk T (u.Α st) 0=i/\@u<=i
variable {L:Nat}{T:Za3}{ws:List Zh}{p:Nat}
def Part.start (c:ϭ)(l:Fc (2* L) T.flatten @T):Part L T [[]] 0:=by
 rwa[2,c.pos,λq z g=>∅,λj q h d=>by simp at d;ext,λi u a=>?_];let e:=amI.mp (amD a)
 let f:i=0:=by have:=(amF.mp a).1;simp only[amT,ank]at ω;ext
 subst e f;rwa[λk b=>(by ext b),2,amK _]
def Part.has (e:ϭ)(b:Fc (2* L) T.flatten @T)(h:Part L T ws p){i k:η}(j:i<@T)(c:p=i* (2* L)+ k):i<@ws:=by
 let f:1<=@ws:=(amF.mp h.pos).1;rwa[anY λl=>?_]
 let[q,d,a,g]:=b.2 @ws ∅ ∅;have:@ws* (2* L)<=i* (2* L):=an1 _ ∅;have:=h.all q _ ∅ a;ext
def Part.step (f:ϭ)(D:Fc (2* L) T.flatten @T){i k:η}(h:Part L T ws (i* (2* L)+ k))(y:i<@T)(e:k<2* L):
 (nx T k i≠@ws->Part L T ws (i* (2* L)+ k+ 1))/\(nx T k i=@ws->∀u,ws[i]?\u->Part L T (ws++[u++[k]]) (i* (2* L)+ k+ 1)):=by
 let Y:=f.let1;let X:1<=@ws:=(amF.mp h.pos).1;let[r,U,R]:=f.val i k y e
 let a:T.flatten[i* (2* L)+ k]?\((nx T k i:η):ο):=by rw[vm ∅ f.row U e];rwa[R]
 let J:=f.lt i k y e;let s:=h.has f D y rfl
 let hdiv:(i* (2* L)+ k) / (2* L)=i:=by rw[apu,η.mul_add_div ∅,η.div_eq_of_lt e];ext
 let g:(i* (2* L)+ k) % (2* L)=k:=by rw[apu,η.mul_add_mod,η.mod_eq_of_lt e]
 rwa[λM=>?_,λV u G=>?_]
 .let W:nx T k i<@ws:=by
   rwa[anY λZ=>?_]
   let[q,a1,A,Q]:=D.2 @ws ∅ ∅;cases w:q<i* (2* L)+ k
   .have:=h.all q _ w A;ext
   .cases x:q=i* (2* L)+ k
    .rw[x,a]at A;have:=Za0 A;ext
    .have:=Q β ∅ a;ext
  rwa[h.pos,h.top,λq z n hz=>?_,h.XM,h.ok];cases c:q=i* (2* L)+ k
  .rw[c,a]at hz;have:=Za0 hz;ext
  .rwa[h.all q z ∅ hz]
 .let d:=h.ok i u G;rwa[[amP ∅]▸h.pos,by rw[amG];simp only[amT,ank];ext,λq z n hz=>?_,λj q N I n F=>?_,λB v l=>?_]
  .rw[amG];simp only[amT,ank];cases c:q=i* (2* L)+ k
   .rw[c,a]at hz;have:=Za0 hz;ext
   .have:=h.all q z ∅ hz;ext
  .rw[amG]at I;simp only[amT,ank]at I;cases c:j=@ws
   .let m:q=i* (2* L)+ k:=by
     cases w:q<i* (2* L)+ k
     .have:=h.all q _ w n;ext
     .cases x:q=i* (2* L)+ k
      .rwa[x]
      .have:=F β ∅ a;ext
    erw[u,5]
    .rw[m,hdiv,amP s];rwa[G]
    .rw[c,m,g,amU Φ,aoi];rfl
   .let[v,C,H]:=h.XM j q N ∅ n F;let o:=(amF.mp C).1;let t:=(amF.mp H).1;rwa[v,[amP o]▸C,[amP t]▸H]
  .cases c:B<@ws
   .rw[amP c]at l;rwa[h.ok B v l]
   .let E:=(amF.mp l).1;rw[amG]at E;simp only[amT,ank]at E;let P:B=@ws:=∅
    subst P;rw[amU Φ,aoi]at l;let O:u++[k]=v:=Za0 l;subst O;erw[λS b=>?_,5]
    .rcases amO.mp b with b|b
     .rwa[d.1 S b]
     .rw[amI.mp b];rwa[e]
    .rw[am8,gJ,d.2.1];show nx T (pl (st k)) i=@ws;rw[rV];rwa[V]
    .rw[amG];simp only[amT,ank];have:=d.2.2;ext
def Part.le (b:ϭ)(m:Fc (2* L) T.flatten @T){i k:η}(h:Part L T ws (i* (2* L)+ k))(e:i<@T)(c:k<2* L):nx T k i<=@ws:=by
 let t:=b.let1;let[r,o,j]:=b.val i k e c
 let a:T.flatten[i* (2* L)+ k]?\((nx T k i:η):ο):=by rw[vm ∅ b.row o c];rwa[j]
 let f:=b.lt i k e c;let s:1<=@ws:=(amF.mp h.pos).1;rwa[anY λu=>?_]
 let[q,v,d,g]:=m.2 @ws ∅ ∅;cases l:q<i* (2* L)+ k
 .have:=h.all q _ l d;ext
 .cases n:q=i* (2* L)+ k
  .rw[n,a]at d;have:=Za0 d;ext
  .have:=g β ∅ a;ext
def Part.end_ (l:ϭ)(i:Fc (2* L) T.flatten @T)(h:Part L T ws (@T* (2* L))):Lw L T ws:=by
 let d:1<=@ws:=(amF.mp h.pos).1
 let a:@ws=@T:=by
  rwa[anY λn=>?_]
  let e:=h.top;let[q,k,b,m]:=i.2 @ws ∅ ∅;have:@ws* (2* L)<=@T* (2* L):=an1 _ e;have:=h.all q _ ∅ b;ext
 rwa[a,h.pos,λj q f d c g=>h.XM j q f ∅ c g]
end M13
namespace M16
def sn (w:Zg)(x:ο):Zg:=if w.getLast?=ι (-x) then w.dropLast else w++[x]
def thin (ns:Zg):Zg:=ns.foldl sn []
theorem GP:∀w:Zg,w=[]\/∃u b,w=u++[b]
 |[]=>.ψ rfl
 |a::w=>.Ζ (by
  rcases GP w with rfl|⟨u,b,rfl⟩
  .rwa[[],a,Τ]
  .rwa[a::u,b,Τ])
def U0 (w:Zg)(b x:ο):sn (w++[b]) x=if b= -x then w else w++[b]++[x]:=by
 unfold sn;rw[θ.getLast?_concat,θ.dropLast_concat];cases h:b= -x
 .rw[am1 (by rw[h]),am1 h]
 .rw[amY (λz=>h (Za0 z)),amY h]
variable (F:Int->Zg)
def fill (l:Zg):Zg:=l.flatMap F
def dD (a b:Zg):fill F (a++b)=fill F a++fill F b:=by unfold fill;rw[aoy]
def fk (x:ο):fill F [x]=F x:=by unfold fill;simp
def XP {x:ο}(h:y∈sn l x):y∈l\/y=x:=by
 unfold sn at h;split at h
 .rwa[.ψ (θ.dropLast_subset _ h)]
 .rcases amO.mp h with h|h
  .rwa[.ψ h]
  .rwa[.Ζ (amI.mp h)]
end M16
namespace M18
open M11 M12
def ji (Im:Za3)(s:ο):Zg:=if 0<s then Im.Λ (s.natAbs - 1) [] else back (Im.Λ (s.natAbs - 1) [])
def fill (Im:Za3)(u:Zg):Zg:=u.flatMap (ji Im)
def LJ {Im:Za3}(a:∀w∈Im,aH n w):aH n (ji Im z):=by
 let h:aH n (Im.Λ (z.natAbs - 1) []):=by
  rw[amH]
  cases e:Im[z.natAbs - 1]? with
  |ε=>exact λz b=>by ext b
  |ι w=>exact a w Ÿ
 unfold ji;split
 .rwa[h]
 .rwa[eX h]
def IE {Im:Za3}(a:∀w∈Im,aH n w):aH n (fill Im l):=λs c=>by let[t,_,b]:=anS.mp c;rwa[LJ a s b]
end M18
namespace M19
open M11 M12 M18
section
variable {α:Type} [DecidableEq α]
structure Sf (z:α)(R:α->α->ν)(F:θ α):ν where
 nd:F.Nodup
 zm:z∈F
 cl:∀x∈F,∀y,R x y->y∈F
 mn:∀P:α->ν,P z->(∀x y,P x->R x y->P y)->∀x∈F,P x
end
def inv_one {r c:Zg}(d:Pm n r)(h:yD n r l)(b:yD n r c):l=c:=by
 rwa[aox λi=>?_]
 cases e:i<n
 .let[j,a,_]:=d.aeQ e;rw[h.2 j i a,b.2 j i a]
 .rw[ana (by rw[h.1];omega),ana (by rw[b.1];omega)]
end M19
namespace M20
open M11 M12 M18 M19
def cap (r:η):η->η
 |0=>1
 |n+ 1=>min 5001 (cap r n* r)
theorem GQ {r:η}(a:1<=r){j:η}(h:5000<cap r j):∀d,5000<cap r (j+ d)
 |0=>h
 |d+ 1=>by let b:=GQ a h d;show 5000<min 5001 (cap r (j+ d)* r);have:cap r (j+ d)<=cap r (j+ d)* r:=η.le_mul_of_pos_right _ a;ext
def DP {r:η}(a:1<=r){j n:η}(h:5000<cap r j)(b:j<=n):5000<cap r n:=by have:=GQ a h (n - j);rw[show j+ (n - j)=n by ext]at ω;rwa[ω]
def ext (N:η)(r:Zh):θ Zh:=(~~~N).Α λx=>r++[x]
def oS (N:η):η->θ Zh
 |0=>[[]]
 |n+ 1=>(oS N n).flatMap (ext N)
def GR (N:η)(r:Zh):@(ext N r)=N:=by unfold ext;rw[amE,anp]
theorem xm (N:η):∀rs:θ Zh,@(rs.flatMap (ext N))=@rs* N
 |[]=>by simp
 |r::rs=>by rw[aoz,amG,xm N rs,GR,amT,aqm];ext
def DQ (c:1<=n)(h:cap n m<=5000):@(oS n m)=cap n m:=by
 induction m with
 |zero=>rfl
 |succ m a=>
  let b:cap n m<=5000:=by
   cases z:cap n m<=5000
   .rwa[z]
   .have:=DP c (j:=m) (n:=m+ 1) ∅ ∅;ext
  show @((oS n m).flatMap (ext n))=min 5001 (cap n m* n);rw[xm,a b];let d:min 5001 (cap n m* n)<=5000:=h;ext
theorem oT:∀{n:η}{h:Zh},h∈oS m n->@h=n/\∀x∈h,x<m
 |0,h,d=>by rw[amI.mp d];rwa[2,λx e=>by ext e]
 |n+ 1,h,d=>by
  let[r,g,f]:=anS.mp d;let[x,e,Τ]:=anm.mp f;let[a,b]:=oT g;rwa[by rw[amG,a];rfl,λy c=>?_];rcases amO.mp c with c|c
  .rwa[b y c]
  .rw[amI.mp c];rwa[anj.mp e]
def gl (r:Zg):η:=r.foldl (λm s=>max m s.natAbs) 0
theorem GU:∀(r:Zg)(m n:η),r.foldl (λm s=>max m s.natAbs) m<=n↔m<=n/\∀s∈r,s.natAbs<=n
 |[],m,n=>by simp
 |s::r,m,n=>by
  rw[aoO,GU r (max m s.natAbs) n];constructor
  .rintro ⟨a,b⟩;rwa[3,λz hz=>?_];rcases amW.mp hz with rfl|hz
   .ext
   .rwa[b z hz]
  .rintro ⟨a,b⟩;have:=b s (amR ..);rwa[3,λz hz=>b z (amZ _ hz)]
def Cr (r:Zg)(n:η):gl r<=n↔∀s∈r,s.natAbs<=n:=by unfold gl;rw[GU];rwa[λh=>h.2,λh=>{ani _,h}]
section
variable (T:Za3) (wy:Nat->Zg)
def Good (h:Zh)(r:Zg):Μ:=decide (walk T (fill (h.Α wy) r) 0=0)
def sQ (N:η)(ls:é)(due:Za3):θ Zh:=ls.flatMap λr=>(ext N r).filter λh=>due.all (Good T wy h)
def vn (rules:Za3)(n:η):Za3:=rules.filter λr=>decide (gl r=n)
def qN (N:η)(rules:Za3):η->θ Zh
 |0=>[[]]
 |n+ 1=>sQ T wy N (qN N rules n) (vn rules (n+ 1))
end
variable {T:Za3}{wy:Nat->Zg}
theorem dD {Im:Za3}{w:Zg}:∀{r:Zg},(∀s∈r,s≠0/\s.natAbs<=@Im)->fill (Im++[w]) r=fill Im r
 |[],_=>rfl
 |s::r,h=>by
  let c:=h s (amR ..);let a:=dD (Im:=Im) (w:=w) (r:=r) (λz b=>h z Ő)
  let e:ji (Im++[w]) s=ji Im s:=by unfold ji;rw[amH,amH,amP ∅]
  show ji (Im++[w]) s++fill (Im++[w]) r=ji Im s++fill Im r;rw[e,a]
def PB {x:η}{r:Zg}(c:∀s∈r,s≠0)(b:gl r<=@B):Good T wy (B++[x]) r=Good T wy B r:=by unfold Good;rw[am8];show decide (walk T (fill (B.Α wy++[wy x]) r) 0=0)=_;rw[dD λs a=>{c s a,[amE]▸(Cr r _).mp b s a}]
def PD {r:Zg}(a:∀s∈r,s≠0)(b:gl r=0):Good T wy B r=ρ:=by
 have:r=[]:=by
  cases r with
  |nil=>rfl
  |cons s r=>let d:=(Cr (s::r) 0).mp ∅ s (amR ..);let c:=a s (amR ..);ext
 subst ω;rwa[anh Τ]
def ok (T:Za3)(wy:η->Zg)(rules:Za3)(n:η)(h:Zh):Μ:=rules.all λr=>!decide (gl r<=n) || Good T wy h r
def U1 {rules:Za3}(c:∀r∈rules,∀s∈r,s≠0){n x:η}{h:Zh}(i:@h=n):ok T wy rules (n+ 1) (h++[x])=(ok T wy rules n h && (vn rules (n+ 1)).all (Good T wy (h++[x]))):=by
 unfold ok vn;rw[θ.all_filter]
 induction rules with
 |nil=>rfl
 |cons r rules e=>
  rw[θ.all_cons,θ.all_cons,θ.all_cons,e λr b=>c r Ő]
  let a:(!decide (gl r<=n+ 1) || Good T wy (h++[x]) r)=((!decide (gl r<=n) || Good T wy h r) && (!decide (gl r=n+ 1) || Good T wy (h++[x]) r)):=by
   rcases η.lt_trichotomy (gl r) (n+ 1) with z|z|z
   .rw[PB (c r (amR ..)) (by omega),anh (show gl r<=n+ 1 by omega),anh (show gl r<=n by omega),anG (show ¬gl r=n+ 1 by omega)];simp
   .rw[anh (show gl r<=n+ 1 by omega),anG (show ¬gl r<=n by omega),anh z];simp
   .rw[anG (show ¬gl r<=n+ 1 by omega),anG (show ¬gl r<=n by omega),anG (show ¬gl r=n+ 1 by omega)];simp
  rw[a];change (!decide (gl r<=n) || Good T wy h r)=d;change (rules.all λr=>!decide (gl r<=n) || Good T wy h r)=f;change (!decide (gl r=n+ 1) || Good T wy (h++[x]) r)=g;cases d <;> cases f <;> cases g <;> simp
theorem filter_none {a:Type}{p:a->Μ}:∀{l:θ a},(∀x∈l,p x=χ)->l.filter p=[]
 |[],_=>rfl
 |x::l,h=>by rw[aod,h x (amR ..),filter_none (l:=l) λy b=>h y Ő];rfl
theorem Bo {N:η}{p q g:Zh->Μ}:∀{ls:é},(∀h∈ls,∀x,q (h++[x])=(p h && g (h++[x])))->(ls.flatMap (ext N)).filter q=(ls.filter p).flatMap λr=>(ext N r).filter g
 |[],_=>rfl
 |h::ls,b=>by
  let d:=Bo (N:=N) (ls:=ls) (λh f=>b h (amZ _ f));let c:=b h (amR ..);rw[aoz,aoj,d,aod]
  cases e:p h with
  |χ=>
   have:(ext N h).filter q=[]:=filter_none λy a=>by let[x,_,Τ]:=anm.mp a;rw[c x,e];rfl
   rw[ω,ao4];rfl
  |ρ=>
   rw[am1 Τ,aoz]
   congr 1
   rwa[apG λy a=>?_]
   let[x,_,Τ]:=anm.mp a;rw[c x,e];rfl
theorem yE {N:η}{rules:Za3}(b:∀r∈rules,∀s∈r,s≠0):∀n,qN T wy N rules n=(oS N n).filter (ok T wy rules n)
 |0=>by
  have:ok T wy rules 0 []=ρ:=by
   unfold ok;rw[apR];intro r a;cases z:gl r<=0
   .rw[PD (b r a) ∅,Μ.or_true]
   .rw[anG z];rfl
  show [[]]=θ.filter (ok T wy rules 0) [[]];rw[aod,ω];rfl
 |n+ 1=>by show sQ T wy N (qN T wy N rules n) (vn rules (n+ 1))=((oS N n).flatMap (ext N)).filter (ok T wy rules (n+ 1));rw[yE b n];unfold sQ;rwa[(Bo λh c x=>U1 b (oT c).1).Β]
end M20
namespace M24
def add (come:Zh)(y:η):Zh:=if y∈come then come else come++[y]
def eQ (f:η->η->η)(x:η)(come:Zh)(k:η):Zh:=(~~~k).foldl (λc i=>add c (f i x)) come
def kA (f:η->η->η)(x:η)(come:Zh)(k:η):eQ f x come (k+ 1)=add (eQ f x come k) (f k x):=by unfold eQ;rw[aon,ao6];rfl
def bC (f:η->η->η)(k a:η):η->Zh
 |0=>[a]
 |n+ 1=>match (bC f k a n)[n]? with
  |ι x=>eQ f x (bC f k a n) k
  |ε=>bC f k a n
def xn (f:η->η->η)(k a:η):bC f k a 0=[a]:=rfl
def gL {f:η->η->η}{k x:η}(h:(bC f k n m)[m]?\x):bC f k n (m+ 1)=eQ f x (bC f k n m) k:=by rw[bC,h]
def oU {f:η->η->η}{k:η}(h:(bC f k n m)[m]?=ε):bC f k n (m+ 1)=bC f k n m:=by rw[bC,h]
def GV (come:Zh)(y:η):∃t,add come y=come++t:=by
 unfold add;split
 .rwa[[],(am9 _).Β]
 cbv
theorem rY (f:η->η->η)(x:η)(come:Zh):∀k,∃t,eQ f x come k=come++t
 |0=>{[],(am9 _).Β}
 |k+ 1=>by let[t,b]:=rY f x come k;let[u,a]:=GV (eQ f x come k) (f k x);rwa[t++u,by rw[kA,a,b,ans]]
def xo (f:η->η->η)(k a n:η):∃t,bC f k a (n+ 1)=bC f k a n++t:=by
 cases h:(bC f k a n)[n]? with
 |ε=>rwa[[],by rw[oU h,am9]]
 |ι x=>let[t,b]:=rY f x (bC f k a n) k;rwa[t,by rw[gL h,b]]
theorem GW (f:η->η->η)(k a n:η):∀m,∃t,bC f k a (n+ m)=bC f k a n++t
 |0=>{[],(am9 _).Β}
 |m+ 1=>by
  let[t,c]:=GW f k a n m;let[u,b]:=xo f k a (n+ m)
  cbv
def U2 {come:Zh}:m∈add come n↔m∈come\/m=n:=by
 unfold add
 cbv
def XQ {come:Zh}(h:come.Nodup)(y:η):(add come y).Nodup:=by
 unfold add
 cbv
theorem vo {f:η->η->η}{x:η}{come:Zh}(h:come.Nodup):∀k,(eQ f x come k).Nodup
 |0=>h
 |k+ 1=>[kA]▸XQ (vo h k) _
theorem jj (f:η->η->η)(k a:η):∀n,(bC f k a n).Nodup
 |0=>by rw[xn];simp
 |n+ 1=>by
  cases h:(bC f k a n)[n]? with
  |ε=>rw[oU h];rwa[jj f k a n]
  |ι x=>rw[gL h];rwa[vo (jj f k a n) k]
theorem lU {f:η->η->η}{x:η}{come:Zh}{z:η}:∀{k:η},z∈eQ f x come k↔z∈come\/∃i,i<k/\z=f i x
 |0=>{.ψ,λq=>q.Κ id λζ=>by let[i,a,_]:=ζ;rwa[absurd a (η.not_lt_zero _)]}
 |k+ 1=>by
  rw[kA,U2,lU (k:=k)]
  cbv
theorem qO {f:η->η->η}{k x0:η}{P:η->ν}(b:P x0)(c:∀x i,P x->i<k->P (f i x)):∀n,∀z∈bC f k x0 n,P z
 |0,z,a=>by rw[xn,amI]at a;rw[a];rwa[b]
 |n+ 1,z,a=>by
  cases h:(bC f k x0 n)[n]? with
  |ε=>rw[oU h]at a;rwa[qO b c n z a]
  |ι x=>
   rw[gL h,lU]at a;rcases a with a|⟨i,d,rfl⟩
   .rwa[qO b c n z a]
   .rwa[c β (qO b c n x (amD h)) d]
theorem nU {f:η->η->η}{k:η}:∀{n j x i:η},j<n->Ϻ[j]?\x->i<k->f i x∈bC f k m n
 |n+ 1,j,x,i,g,b,c=>by
  cases h:Ϻ[n]? with
  |ε=>rw[oU h]at b ⊢;let o:=aoB.mp h;let l:=(amF.mp b).1;rwa[nU (show j<n by omega) b c]
  |ι y=>
   let[t,d]:=rY f y Ϻ k;let p:=(amF.mp h).1
   let a:Ϻ[j]?\x:=by rw[gL h,d,amP ∅]at b;rwa[b]
   cases e:j=n
   .rw[e,h]at a;rw[gL h,lU];rwa[.Ζ {i,c,by cbv}]
   .rw[gL h,lU];rwa[.ψ (nU (show j<n by omega) a c)]
def ix (come:Zh)(y:η):η:=come.findIdx λz=>z==y
theorem yF:∀{come:Zh}{i y:η},come.Nodup->come[i]?\y->ix come y=i
 |[],i,y,_,h=>by simp at h
 |a::l,0,y,_,h=>by
  let e:a=y:=Za0 h;unfold ix
  cbv
 |a::l,i+ 1,y,d,h=>by
  rw[θ.getElem?_cons_succ]at h;let f:=amD h
  let b:(a==y)=χ:=by rw[anf];intro e;rwa[(anq.mp d).1 (by cbv)]
  let c:ix l y=i:=yF (anq.mp d).2 h;unfold ix at c ⊢;rw[θ.findIdx_cons,b];show l.findIdx _+ 1=i+ 1;rw[c]
def LK {come:Zh}(b:come.Nodup)(h:n∈come):come[ix come n]?\n:=by let[i,a]:=ant h;rw[yF b a];rwa[a]
def yG {come:Zh}(b:(come++B).Nodup)(h:n∈come):ix (come++B) n=ix come n:=by
 let[i,a]:=ant h;let c:(come++B)[i]?\n:=by rw[amP (amF.mp a).1];rwa[a]
 rw[yF b c,yF (anC.mp b).1 a]
def fY (f:η->η->η)(k:η)(come:Zh):Za3:=come.Α λx=>(~~~k).Α λi=>((ix come (f i x):η):ο)
def LN {come:Zh}(h:n∉come):ix (come++[n]) n=@come:=by
 induction come with
 |nil=>unfold ix;rw[ao4,θ.findIdx_cons];simp
 |cons a l b=>
  rw[amW,not_or]at h;let c:(a==n)=χ:=by rw[anf];rwa[λe=>h.1 e.Β]
  have:=b h.2;unfold ix at ω ⊢
  cbv
def lV (f:η->η->η)(k a n:η):Za3:=((bC f k a n).take n).Α λx=>(~~~k).Α λi=>((ix (bC f k a n) (f i x):η):ο)
def Bp (f:η->η->η)(k a:η):lV f k a 0=[]:=rfl
def Bq {f:η->η->η}{k x:η}(h:(bC f k n m)[m]?\x):lV f k n (m+ 1)=lV f k n m++[(~~~k).Α λi=>((ix (bC f k n (m+ 1)) (f i x):η):ο)]:=by
 let[t,e]:=xo f k n m;let b:=jj f k n (m+ 1);let q:=(amF.mp h).1
 let l:(bC f k n (m+ 1)).take (m+ 1)=(bC f k n m).take m++[x]:=by rw[e,θ.take_append_of_le_length ∅,anD,h];rfl
 unfold lV;rw[l,am8]
 congr 1
 rwa[an4 λc o=>?_]
 rwa[an4 λi p=>?_]
 let[j,d]:=ant o
 let a:j<m:=by have:=(amF.mp d).1;rw[anc]at ω;ext
 rw[ao2 a]at d;let g:=nU a d (anj.mp p);rw[e]at b ⊢;rw[yG b g]
def DR {f:η->η->η}{k:η}(h:@(bC f k n m)=m):lV f k n m=fY f k (bC f k n m):=by
 unfold lV fY
 cbv
end M24
namespace M55
open M11 M24
theorem Br {f:η->η->η}{x:η}{come:Zh}{m:η}:∀n,∃t,eQ f x come (m+ n)=eQ f x come m++t
 |0=>{[],(am9 _).Β}
 |n+ 1=>by let[t,b]:=Br (m:=m) n;let[u,a]:=GV (eQ f x come (m+ n)) (f (m+ n) x);rwa[t++u,by rw[<-η.add_assoc,kA,a,b,ans]]
section
variable {f:Nat->Nat->Nat}{k N:Nat}
theorem LQ {x:η}(h:Ü[n]?\x){E:Zg}(g:@E=n* k)(l:M12.Fc k E @(bC f k 0 n)):∀m,m<=k->M12.Fc k (E++(~~~m).Α λi=>((ix (bC f k 0 (n+ 1)) (f i x):η):ο)) @(eQ f x Ü m)
 |0,_=>by rw[θ.range_zero,θ.map_nil,am9];rwa[l]
 |m+ 1,p=>by
  let j:=LQ h g l m ∅;let a:=jj f k 0 (n+ 1);let[t,b]:=Br (f:=f) (x:=x) (come:=bC f k 0 n) (m:=m+ 1) (k - (m+ 1));rw[show m+ 1+ (k - (m+ 1))=k by ext,<-gL h]at b;rw[aon,am8,<-ans,θ.map_singleton];generalize e:bC f k 0 (n+ 1)=O at *;let r:=(amF.mp h).1;let[u,o]:=rY f x Ü m;let hlen:n<@(eQ f x Ü m):=by rw[o,amG];ext
  rw[kA]at b ⊢;cases c:f m x∈eQ f x Ü m
  .let d:add ϡ (f m x)=eQ f x Ü m:=by unfold add;rw[am1 c]
   rw[d]at b ⊢;rw[b]at a;let q:=yG a c;let lt:=(amF.mp (LK (anC.mp a).1 c)).1;rw[show ix O (f m x)=ix ϡ (f m x) by rw[b];rwa[q]];rwa[j.old lt]
  .let d:add ϡ (f m x)=eQ f x Ü m++[f m x]:=by unfold add;rw[amY c]
   rw[d]at b ⊢;rw[b]at a;let q:=yG a (amN ϡ amR);rw[show ix O (f m x)=@(eQ f x Ü m) by rw[b,q];rwa[LN c],amG];rwa[j.new ∅ ?_];rw[amG,amE,anp,g];have:(n+ 1)* k<=@(eQ f x Ü m)* k:=an1 _ hlen;rw[apA]at ω;ext
theorem XR (d:@(bC f k 0 N)=N):∀n,n<=N->(lV f k 0 n).flatten.Ξ=n* k/\M12.Fc k (lV f k 0 n).flatten @(bC f k 0 n)
 |0,_=>{by rw[Bp,η.zero_mul];rfl,[Bp,xn]▸M12.Fc.zero k}
 |n+ 1,i=>by
  let[c,g]:=XR d n ∅
  let a:∃x,Ü[n]?\x:=by
   cases e:Ü[n]? with
   |ι x=>rwa[x,2]
   |ε=>
    exfalso
    let h:=aoB.mp e
    have:∀m,(bC f k 0 (n+ m))=bC f k 0 n:=λm=>by
     induction m with
     |zero=>rfl
     |succ m b=>rw[<-η.add_assoc,oU ([b]▸aoB.mpr ∅),b]
    have:=ω (N - n);rw[show n+ (N - n)=N by ext]at ω;rw[ω]at d;ext
  let[x,a]:=a;rw[Bq a,θ.flatten_append,θ.flatten_singleton];erw[by rw[amG,c,amE,anp,apA,η.one_mul]];have:=LQ a c g k Φ;rw[gL a]at ω ⊢;rwa[ω]
def fc (a:@(bC f k 0 N)=N):M12.Fc k (fY f k Ŷ).flatten @(fY f k Ŷ):=by have:=(XR a N Φ).2;rw[DR a]at ω;unfold fY;rw[amE];rwa[ω]
def DS {come:Zh}(a:j<k)(b:come[i]?\n):nx (fY f k come) j i=ix come (f j n):=by unfold nx fY;rw[amH (l:=θ.Α _ come),amQ,b];show ((((~~~k).Α λi=>((ix come (f i n):η):ο))).Λ j 0).toNat=_;rw[amH,amQ,an3 a];rfl
def rZ (c:@(bC f k 0 N)=N){j i y:η}(b:j<k)(a:Ŷ[i]?\y):Ŷ[nx (fY f k Ŷ) j i]?\(f j y):=by rw[DS b a];rwa[LK (jj γ N) (nU (by have:=(amF.mp a).1;omega) a b)]
end
def XS {f:η->η->η}(l:@(bC f (2* n) 0 m)=m)(o:∀x∈bC f (2* n) 0 m,∀j,j<2* n->f (flip j) (f j x)=x)(e:1<=n)(g:n<=40)(q:1<=m)(p:m<=300):Tab n (fY f (2* n) (bC f (2* n) 0 m)):=by
 let hlen:@(fY f (2* n) (bC f (2* n) 0 m))=m:=by unfold fY;rw[amE,l]
 let c:∀i,i<@(fY f (2* n) (bC f (2* n) 0 m))->∃y,(bC f (2* n) 0 m)[i]?\y:=λi d=>{_,amB ∅}
 rwa[33,e,g,λi r h=>?_,λi k d a=>?_,λi k d a=>?_,λi k d a=>?_]
 .unfold fY at h
  cbv
 .let[y,b]:=c i d;erw[_,by unfold fY;rw[amQ,b];rfl];rw[DS a b,amQ,an3 a];rfl
 .let[y,b]:=c i d;have:=(amF.mp (rZ l a b)).1;ext
 .let[y,b]:=c i d;rw[DS (GO a) (rZ l a b),o y ϙ k a];rwa[yF (jj γ m) b]
end M55
namespace K75
open PySem L2
def top (i:η):Stmt:=PySem.Challenge.pw_cosetyard_k75_whole_told_otherwise.main.body.Λ i (.Pass {(0),(0),(0),(0)})
set_option genInjectivity false in
structure sX where
 PF:Zs
 PH:FuncData
 Af:Zs
 Ag:FuncData
 IG:Zs
 IH:FuncData
 f_back:Zs
 XT:FuncData
 FH:Zs
 FI:FuncData
 II:Zs
 IJ:FuncData
 abS:Zs
 abT:FuncData
 IK:Zs
 IL:FuncData
 IQ:Zs
 IU:FuncData
 IV:Zs
 IW:FuncData
 IX:Zs
 IY:FuncData
 vp:Zs
 vq:FuncData
 LX:Zs
 LY:FuncData
 LZ:Zs
 L0:FuncData
 DV:Zs
 DW:FuncData
 abU:Zs
 abV:FuncData
 DX:Zs
 DY:FuncData
 sY:Zs
 sZ:FuncData
 qp:Zs
 qt:FuncData
 B1:Zs
 B6:FuncData
 IZ:Zs
 I0:FuncData
 vB:Zs
 vC:FuncData
 PL:Zs
 PN:FuncData
 DZ:Zs
 D0:FuncData
 Ah:Zs
 Ai:FuncData
 FJ:Zs
 FK:FuncData
 L4:Zs
 L5:FuncData
 I1:Zs
 I7:FuncData
 yR:Zs
 yS:FuncData
 FL:Zs
 FN:FuncData
 xq:Zs
 xr:FuncData
 vD:Zs
 vE:FuncData
 qW:Zs
 qX:FuncData
 B7:Zs
 B9:FuncData
 I8:Zs
 I9:FuncData
 Ea:Zs
 Eb:FuncData
 Aj:Zs
 Ak:FuncData
 abW:Zs
 abX:FuncData
 uk:Zs
 um:FuncData
 o8:Zs
 xt:FuncData
 yT:Zs
 yU:FuncData
 FP:Zs
 FQ:FuncData
 mR:Zs
 uo:FuncData
 qY:Zs
 qZ:FuncData
 yV:Zs
 yW:FuncData
 xu:Zs
 xA:FuncData
 Al:Zs
 Am:FuncData
 yX:Zs
 yZ:FuncData
 An:Zs
 Ao:FuncData
 Ca:Zs
 Cb:FuncData
 Ap:Zs
 Aq:FuncData
 Ar:Zs
 As:FuncData
 uq:Zs
 ur:FuncData
 FU:Zs
 FV:FuncData
 o9:Zs
 xB:FuncData
 Ec:Zs
 Ed:FuncData
 FW:Zs
 FX:FuncData
 Ja:Zs
 Jb:FuncData
 Cd:Zs
 Ce:FuncData
 xC:Zs
 xD:FuncData
 Ci:Zs
 Cj:FuncData
 vF:Zs
 vG:FuncData
 Ee:Zs
 Ef:FuncData
 y4:Zs
 y6:FuncData
 r6:Zs
 r9:FuncData
 y7:Zs
 y8:FuncData
 pe:Zs
 xE:FuncData
 y9:Zs
 za:FuncData
 Eg:Tok
 mx:Zs
 bQ:Zs
 sf:Zs
 dH:Zs
 aI:Zs
 aT:Zs
 aL:Zs
 bB:Zs
set_option genInjectivity false in
structure Txt (K:Za1)(mg:Ι->Zl)(A:sX):ν where
 walked:Def K mg "walked" DT [Ê,Â,ß] A.PF A.PH
 pf:Def K mg "first_places" qP [í] A.Af A.Ag
 pj:Def K mg "steps_of" yH [É] A.IG A.IH
 back:Def K mg "back" LR [ß] A.f_back A.XT
 uv:Def K mg "filled_in" v7 [ß,"images"] A.FH A.FI
 numbered:Def K mg "numbered" yI [Ê] A.II A.IJ
 led:Def K mg "led" Sg [ù,Â,ß] A.abS A.abT
 lY:Def K mg "place_of" yJ [Ð] A.IK A.IL
 xF:Def K mg "order_by" yK ["name"] A.IQ A.IU
 xG:Def K mg "first_of" yL [Ê,"some"] A.IV A.IW
 sg:Def K mg "all_gaps" yM [É] A.IX A.IY
 own:Def K mg "own" Sh [ϔ] A.vp A.vq
 fill:DDef K mg "fill" LV [É,í,"part",ϱ,"order"] A.LX A.LY (tx [114,111,111,109,115])
 Au:Def K mg "turning" Bs [ù,ß] A.LZ A.L0
 k6:Def K mg "least_ways" ud [ù] A.DV A.DW
 pP:Def K mg "kin" Si ["one",ā,ϱ] A.abU A.abV
 nV:Def K mg "homes_onto" uf ["group",ù] A.DX A.DY
 my:Def K mg "check_lists" sR [Ê,É] A.sY A.sZ
 iD:Def K mg "turned_by_least_ways" jW [ù] A.qp A.qt
 qu:Def K mg "turned_back" sS [ϯ] A.B1 A.B6
 xH:Def K mg "homes_by" yN [ė,É,í] A.IZ A.I0
 k8:Def K mg "greatest_letter" nB [Z1] A.vB A.vC
 longer:Def K mg "longer" DU ["lists","due",ė] A.PL A.PN
 sh:Def K mg "leads_home" ug [ė,ų,Z1] A.DZ A.D0
 pk:Def K mg "comes_to_all" qQ [ė,ų] A.Ah A.Ai
 ux:Def K mg "ways_back" v9 [Ĭ,"second",ü] A.FJ A.FK
 Av:Def K mg "_law_at" Bu [î,"_law_k"] A.L4 A.L5
 si:Def K mg "_law_mix" yO [Þ,"_law_place"] A.I1 A.I7
 m3:Def K mg "_law_of_order" pX ["_law_order",Þ] A.yR A.yS
 p9:Def K mg "_law_back" wc [Ą] A.FL A.FN
 hO:Def K mg "_law_filled_in" oV [Ą,Ť] A.xq A.xr
 k9:Def K mg "_law_one_turned" nF [è,Þ,Û] A.vD A.vE
 iW:Def K mg "_law_told_otherwise" kB [è,Þ,Û] A.qW A.qX
 mz:Def K mg "_law_filled" sT [Û,è] A.B7 A.B9
 sj:Def K mg "_law_led" yP [Ņ,Ą] A.I8 A.I9
 nX:Def K mg "_law_words" uh [ņ,Z8,Û] A.Ea A.Eb
 lb:Def K mg "_law_carried" qR [è,"_law_forth","_law_behind",Ņ,ϳ] A.Aj A.Ak
 law:Def K mg "law" Sj [î] A.abW A.abX
 eR:MDef K A.bQ Ç "TooMany.__init__" mO [Χ,Ć,ķ] A.uk A.um
 hU:MDef K A.aT Ç "Going.__init__" oW [Χ,ô,ß,æ] A.o8 A.xt
 m4:MDef K A.aT "advance" "Going.advance" pY [Χ,Ê] A.yT A.yU
 uy:MDef K A.aT "row" "Going.row" wg [Χ,Ê] A.FP A.FQ
 fL:MDef K A.aL Ç "Closing.__init__" mP [Χ,Ê,í,"part"] A.mR A.uo
 fS:MDef K A.aL "begin_rules" "Closing.begin_rules" kD [Χ,Â] A.qY A.qZ
 j5:MDef K A.aL "begin" "Closing.begin" pZ [Χ,ô,ß,Â] A.yV A.yW
 jD:MDef K A.aL "settle" "Closing.settle" oX [Χ] A.xu A.xA
 pq:MDef K A.aL "make" "Closing.make" qS [Χ,Â,Ð] A.Al A.Am
 nh:MDef K A.aL "go_on" "Closing.go_on" p5 [Χ,Ū] A.yX A.yZ
 lg:MDef K A.aL "wait" "Closing.wait" qT [Χ,Ū,Â,Ð] A.An A.Ao
 qv:MDef K A.aL "lay" "Closing.lay" sU [Χ,"going"] A.Ca A.Cb
 fM:MDef K A.aL "wake" "Closing.wake" qU [Χ,Â,Ð] A.Ap A.Aq
 pw:MDef K A.aL "hear" "Closing.hear" qV [Χ] A.Ar A.As
 kc:MDef K A.aL "wake_all" "Closing.wake_all" mQ [Χ,Â] A.uq A.ur
 qc:MDef K A.dH "gap" "Order.gap" wm [Χ,Ê] A.FU A.FV
 hV:MDef K A.aI Ç "Rooms.__init__" oY [Χ,É] A.o9 A.xB
 sk:MDef K A.aI "make" "Rooms.make" ui [Χ,Â,Ð] A.Ec A.Ed
 uz:MDef K A.aI "lay" "Rooms.lay" wq [Χ,Â,Ð,ā,"row"] A.FW A.FX
 jk:MDef K A.aI "by" "Rooms.by" yQ [Χ,Â,Ð] A.Ja A.Jb
 iR:MDef K A.aI "elder" "Rooms.elder" sV [Χ,Â] A.Cd A.Ce
 jE:MDef K A.aI "standing" "Rooms.standing" o5 [Χ] A.xC A.xD
 mB:MDef K A.aI "paper" "Rooms.paper" sW [Χ] A.Ci A.Cj
 lh:MDef K A.aI "first_gap" "Rooms.first_gap" nH [Χ,Â] A.vF A.vG
 nY:MDef K A.aI "keep" "Rooms.keep" uj [Χ,Â,Ð,ā] A.Ee A.Ef
 ni:MDef K A.aI "take_in" "Rooms.take_in" p6 [Χ,"way",ĥ] A.y4 A.y6
 gx:MDef K A.aI "put_together" "Rooms.put_together" kZ [Χ,Â,Ð,"one",ā,ĥ] A.r6 A.r9
 nj:MDef K A.aI "put_off" "Rooms.put_off" p7 [Χ,Â,ĥ] A.y7 A.y8
 hY:MDef K A.bB Ç "Moves.__init__" o6 [Χ,ù] A.pe A.xE
 nk:MDef K A.bB ϖ "Moves.by_home" p8 [Χ,ų,Ð] A.y9 A.za
 uA:mg "MOST_LISTS"=ι (.τ 5000 A.Eg)
 mC:mg Ã=ε
 abY:mg "min"=ε
 Jc:mg ό=ε
 fE:mg ą=ε
 cq:mg "len"=ε
 jF:mg Ω=ε
 ib:mg À=ε
 eZ:mg "isinstance"=ε
 XU:mg "bool"=ε
 Sl:mg ϟ=ε
 L6:mg ç=ε
 abZ:mg "zip"=ε
 zb:mg "abs"=ε
 ab0:mg "all"=ε
 Jd:mg Ú=ε
 FY:mg "YardError"=ι ?A.mx
 Bv:mg "TooMany"=ι ?A.bQ
 Je:mg "TooGreat"=ι ?A.sf
 U4:mg "Order"=ι ?A.dH
 U6:mg "Rooms"=ι ?A.aI
 U9:mg "Going"=ι ?A.aT
 L7:mg "Closing"=ι ?A.aL
 Va:mg "Moves"=ι ?A.bB
 PQ:plainGet K A.aI Ι.empty=ρ
 PR:hasDictIn K A.aI=ρ
 PV:plainOver K A.aI=ρ
 PX:findIn K ?A.aI ï=ι (ι (.builtin Î))
 xI:makesIn K A.aI=ρ
 PY:keepIn K ?A.aI=ρ
 uB:findIn K ?A.aI É=ι ε
 q8:findIn K ?A.aI Ć=ι ε
 uC:findIn K ?A.aI ķ=ι ε
 jX:findIn K ?A.aI Ķ=ι ε
 uD:findIn K ?A.aI "gaps"=ι ε
 kf:findIn K ?A.aI ύ=ι ε
 pz:findIn K ?A.aI ώ=ι ε
 uE:findIn K ?A.aI "went"=ι ε
 PZ:plainGet K A.aT Ι.empty=ρ
 P0:hasDictIn K A.aT=ρ
 P1:plainOver K A.aT=ρ
 P8:findIn K ?A.aT ï=ι (ι (.builtin Î))
 xJ:makesIn K A.aT=ρ
 P9:keepIn K ?A.aT=ρ
 Eh:findIn K ?A.aT ô=ι ε
 kF:findIn K ?A.aT ß=ι ε
 sr:findIn K ?A.aT æ=ι ε
 iE:findIn K ?A.aT š=ι ε
 fN:findIn K ?A.aT Ĭ=ι ε
 iS:findIn K ?A.aT Z2=ι ε
 jG:findIn K ?A.aT "last"=ι ε
 Jf:plainGet K A.aL Ι.empty=ρ
 Jg:hasDictIn K A.aL=ρ
 Jh:plainOver K A.aL=ρ
 Ji:findIn K ?A.aL ï=ι (ι (.builtin Î))
 su:makesIn K A.aL=ρ
 Jj:keepIn K ?A.aL=ρ
 fO:findIn K ?A.aL Ê=ι ε
 Ei:findIn K ?A.aL í=ι ε
 kH:findIn K ?A.aL ŕ=ι ε
 mS:findIn K ?A.aL ū=ι ε
 lj:findIn K ?A.aL Ũ=ι ε
 pC:findIn K ?A.aL ϲ=ι ε
 Qa:plainGet K A.dH Ι.empty=ρ
 Qb:hasDictIn K A.dH=ρ
 Qc:plainOver K A.dH=ρ
 Qd:findIn K ?A.dH ï=ι (ι (.builtin Î))
 Qe:makesIn K A.dH=ρ
 Qf:keepIn K ?A.dH=ρ
 Qg:findIn K ?A.dH Ç=ι (ι (.builtin Ó))
 aeR:findIn K ?A.dH "__class__"=ι (ι (.builtin Ŕ))
 aeS:mroIn K A.dH (.type ũ)\ρ
 zf:L2.IA K A.bQ=ρ
 Jk:keepIn K ?A.bQ=ρ
 e_T:exmOne K ?A.bQ ?A.bQ\ρ
 Jl:(PySem.W.clsIn K A.bQ).any (λcd=>L2.oR cd.mro)=ρ
 Jm:hasDictIn K A.bQ=ρ
 Jn:findIn K ?A.bQ ï=ι (ι (.builtin Î))
 Jo:findIn K ?A.bQ ŗ=ι (ι (.builtin ϴ))
 Jp:findIn K ?A.bQ "__getattr__"=ι ε
 Jq:PySem.W.subIn K ?A.bQ (.type ż)\ρ
 Vb:findIn K ?A.bQ Ć=ι ε
 Vc:findIn K ?A.bQ ķ=ι ε
 aeT:PySem.W.specialIn K ?A.mx ŗ=ι (ι (.builtin "type.__getattribute__"))
 aeU:PySem.W.readsIn K A.mx (.type "type")=ρ
 aeV:(match PySem.W.findCls K ?A.mx (.type "type") Ç with|ι (.val (.builtin i))=>i==ž | _=>χ)=ρ
 Qh:plainGet K A.bB Ι.empty=ρ
 Qi:hasDictIn K A.bB=ρ
 Qj:plainOver K A.bB=ρ
 Qk:findIn K ?A.bB ï=ι (ι (.builtin Î))
 xK:makesIn K A.bB=ρ
 Ql:keepIn K ?A.bB=ρ
 Ej:findIn K ?A.bB Ē=ι ε
 vr:findIn K ?A.bB ü=ι ε
 sv:findIn K ?A.bB Ŗ=ι ε
 Jr:excIn K A.sf tT ä=ρ
def aO {A:sX}(T:Ĳ):mI K A.aI:={T.PQ,T.PR,T.PV,T.PX}
def xI {A:sX}(T:Ĳ):Mk K A.aI A.o9:={T.xI,T.hV.m.at_,T.hV.m.fn,T.PY}
def aZ {A:sX}(T:Ĳ):mI K A.aT:={T.PZ,T.P0,T.P1,T.P8}
def xJ {A:sX}(T:Ĳ):Mk K A.aT A.o8:={T.xJ,T.hU.m.at_,T.hU.m.fn,T.P9}
def aS {A:sX}(T:Ĳ):mI K A.aL:={T.Jf,T.Jg,T.Jh,T.Ji}
def su {A:sX}(T:Ĳ):Mk K A.aL A.mR:={T.su,T.fL.m.at_,T.fL.m.fn,T.Jj}
def Ek {A:sX}(T:Ĳ):mI K A.dH:={T.Qa,T.Qb,T.Qc,T.Qd}
def fm {A:sX}(T:Ĳ):mI K A.bB:={T.Qh,T.Qi,T.Qj,T.Qk}
def xK {A:sX}(T:Ĳ):Mk K A.bB A.pe:={T.xK,T.hY.m.at_,T.hY.m.fn,T.Ql}
def qd:aP [Ê,Â,ß,"path",Ð] [Ê,Â,ß] (aF DT):=()
def i5:aP [í,"places",ô,Z1] [í] (aF qP):=()
def qw:aP [É,"steps","letter"] [É] (aF yH):=()
def Vd:aP [ß] [ß] (aF LR):=()
def lu:aP [ß,"images","filled",Ð,"image"] [ß,"images"] (aF v7):=()
def gM:aP [Ê,"steps","found","numbers",ķ,"others",ā] [Ê] (aF yI):=()
def El:aP [ù,Â,ß,Ð] [ù,Â,ß] (aF Sg):=()
def FZ:aP [Ð] [Ð] (aF yJ):=()
def F0:aP ["name"] ["name"] (aF yK):=()
def qx:aP [Ê,"some",Â,Ð] [Ê,"some"] (aF yL):=()
def F3:aP [É] [É] (aF yM):=()
def XW:aP [ϔ] [ϔ] (aF Sh):=()
def om:aP [É,í,"part",ϱ,"order","chosen",Ê,"closing","gap"] [É,í,"part",ϱ,"order"] (aF LV):=()
def lz:aP [ù,ß,ϯ,Ð,"place"] [ù,ß] (aF Bs):=()
def fq:aP [ù,"steps",Ķ,Â,"row",Ð,ā] [ù] (aF ud):=()
def q9:aP ["one",ā,ϱ,Ĭ,"second","found",Ķ,ü] ["one",ā,ϱ] (aF Si):=()
def tf:aP ["group",ù,ė] ["group",ù] (aF uf):=()
def jH:aP [Ê,É,Ē,"letter"] [Ê,É] (aF sR):=()
def cz:aP [ù,Ķ,ϯ,Â,Ð,"ahead","place"] [ù] (aF jW):=()
def jI:aP [ϯ,Ê,Â,ā] [ϯ] (aF sS):=()
def jY:aP [ė,É,í,"found","letter","due"] [ė,É,í] (aF yN):=()
def uF:aP [Z1] [Z1] (aF nB):=()
def mU:aP ["lists","due",ė,"found",Ê,Â,ų] ["lists","due",ė] (aF DU):=()
def gf:aP [ė,ų,Z1,ϯ,Ð,Â] [ė,ų,Z1] (aF ug):=()
def dU:aP [ė,ų,"found","reached","at",Â,ā] [ė,ų] (aF qQ):=()
def lA:aP [Ĭ,"second",ü,Ķ,"way",É] [Ĭ,"second",ü] (aF v9):=()
def Js:aP [î,"_law_k"] [î,"_law_k"] (aF Bu):=()
def iT:aP [Þ,"_law_place","_law_turn","_law_part"] [Þ,"_law_place"] (aF yO):=()
def eS:aP ["_law_order",Þ,"_law_first","_law_half","_law_fourth","_law_some",Z8] ["_law_order",Þ] (aF pX):=()
def Em:aP [Ą] [Ą] (aF wc):=()
def fu:aP [Ą,Ť,ņ,Z7] [Ą,Ť] (aF oV):=()
def cE:aP [è,Þ,Û,"_law_at_here",ϳ,Z7,"_law_rule"] [è,Þ,Û] (aF nF):=()
def dv:aP [è,Þ,Û,"_law_one","_law_two",Ť,"_law_turned"] [è,Þ,Û] (aF kB):=()
def jJ:aP [Û,è,ņ] [Û,è] (aF sT):=()
def mD:aP [Ņ,Ą,"_law_room",Z7] [Ņ,Ą] (aF yP):=()
def nu:aP [ņ,Z8,Û,Ą,Z7] [ņ,Z8,Û] (aF uh):=()
def lB:aP [è,"_law_forth","_law_behind",Ņ,ϳ,"_law_rule","_law_k"] [è,"_law_forth","_law_behind",Ņ,ϳ] (aF qR):=()
def jm:aP [î,Þ,Û,è,"_law_others","_law_cell","_law_groups","_law_tables",ņ] [î] (aF Sj):=()
def tE:aP [Χ,Ć,ķ] [Χ,Ć,ķ] (aF mO):=()
def vH:aP [Χ,ô,ß,æ] [Χ,ô,ß,æ] (aF oW):=()
def kg:aP [Χ,Ê,Â] [Χ,Ê] (aF pY):=()
def pD:aP [Χ,Ê,"ahead",Ŗ] [Χ,Ê] (aF wg):=()
def fT:aP [Χ,Ê,í,"part",Â,ô,ß] [Χ,Ê,í,"part"] (aF mP):=()
def gN:aP [Χ,Â,Z1,ô] [Χ,Â] (aF kD):=()
def xM:aP [Χ,ô,ß,Â] [Χ,ô,ß,Â] (aF pZ):=()
def vI:aP [Χ] [Χ] (aF oX):=()
def zg:aP [Χ,Â,Ð] [Χ,Â,Ð] (aF qS):=()
def pE:aP [Χ,Ū,"going"] [Χ,Ū] (aF p5):=()
def lC:aP [Χ,Ū,Â,Ð,"steps","numbers"] [Χ,Ū,Â,Ð] (aF qT):=()
def rh:aP [Χ,"going",Ð] [Χ,"going"] (aF sU):=()
def zh:aP [Χ,Â,Ð] [Χ,Â,Ð] (aF qU):=()
def zi:aP [Χ] [Χ] (aF qV):=()
def fU:aP [Χ,Â,Ð,"elder"] [Χ,Â] (aF mQ):=()
def Eo:aP [Χ,Ê] [Χ,Ê] (aF wm):=()
def vJ:aP [Χ,É] [Χ,É] (aF oY):=()
def ti:aP [Χ,Â,Ð,Ū] [Χ,Â,Ð] (aF ui):=()
def uG:aP [Χ,Â,Ð,ā,"row",ĥ] [Χ,Â,Ð,ā,"row"] (aF wq):=()
def F4:aP [Χ,Â,Ð] [Χ,Â,Ð] (aF yQ):=()
def Aw:aP [Χ,Â] [Χ,Â] (aF sV):=()
def vK:aP [Χ] [Χ] (aF o5):=()
def Ax:aP [Χ] [Χ] (aF sW):=()
def mV:aP [Χ,Â,Ð] [Χ,Â] (aF nH):=()
def Ck:aP [Χ,Â,Ð,ā] [Χ,Â,Ð,ā] (aF uj):=()
def eT:aP [Χ,"way",ĥ,Â,Ð,ā,"led_to","come_from"] [Χ,"way",ĥ] (aF p6):=()
def fb:aP [Χ,Â,Ð,"one",ā,ĥ,"less","more",Ū] [Χ,Â,Ð,"one",ā,ĥ] (aF kZ):=()
def iF:aP [Χ,Â,ĥ,Ķ,Ð,ā] [Χ,Â,ĥ] (aF p7):=()
def vL:aP [Χ,ù] [Χ,ù] (aF o6):=()
def pF:aP [Χ,ų,Ð,Â] [Χ,ų,Ð] (aF p8):=()
section
variable {P:Program}{w:World}{K:Za1}{mg:Str->Zl}{base:Heap}{A:sX}
variable (T:Txt K mg A)
def cW {o:HO}(e:υ H a o=I)(n:H a=ε):au H I/\I a\o:=by subst e;rwa[au.υ n,aj]
def Ct (K:Za1):Sp:=λb H Q _=>∃(a:Zs)(ns:Zg),b=[?a]/\az K H a ň/\@ns<=63/\∀c,Q (.bl ρ) c
def bE (n:η):Zg:=(~~~n).Α M12.st
def vu (n:η):@(bE n)=n:=by unfold bE;cbv
def ri (h:i<n):(bE n)[i]?\Ϩ:=by unfold bE;rw[amQ,an3 h];rfl
def Ve (i:η):bE (2* i)++[1+ (i:ο)]++[-(1+ (i:ο))]=bE (2* (i+ 1)):=by
 let e:2* (i+ 1)=2* i+ 1+ 1:=∅
 rw[e];unfold bE;rw[aon,aon,am8,am8];let a:M12.st (2* i)=1+ (i:ο):=by unfold M12.st;rw[am1 ∅];ext
 let b:M12.st (2* i+ 1)= -(1+ (i:ο)):=by unfold M12.st;rw[amY ∅];ext
 show _=(~~~(2* i)).Α M12.st++[M12.st (2* i)]++[M12.st (2* i+ 1)];rw[a,b]
def L8 (n:η):(bE n).Nodup:=by unfold bE;rwa[aor.mpr (θ.Pairwise.Ρ ?_ apg)];intro a b c z;let d:=M12.rV a;rw[z,M12.rV]at d;rwa[c d.Β]
def bW {rs:Zn}{r:Zs}(h:rs[i]?\r):pS Ĉ (i:ο)\(V.Η r):=cG (by rw[amQ,h];rfl)
def Qm:Sp:=λb H Q _=>∃L:η,b=[.τ L]/\1<=L/\L<=200/\∀l a,au H a->a l\.Ε (ao ((~~~(2* L)).Α M12.st))->Q ?l a
def XX:Sp:=λb H Q _=>∃L:η,b=[.τ L]/\1<=L/\L<=200/\∀d a,au H a->H d=ε->a d\.dK (gK (bE (2* L)))->Q ?d a
inductive Sn (C:Zs)(vs:Zb)(H:Hp)(Q:VK)(E_:XK):ν
 |mk (x dx:Zs)(L:η):vs=[?x,.τ L]->H x\.ins C dx []->1<=L->L<=200->(∀a H',(∀b o,H b\o->b≠x->H' b\o)->aB C H' x (RS.new L (bE (2* L))) a->(∀b,a.own x b->b=x\/H b=ε)->Q .non H')->Sn C vs H Q E_
def dm (a:RA)(r:Zs)(H c:Hp):ν:=∀b o,¬a.own r b->H b\o->c b\o
inductive L9 (C:Zs)(vs:Zb)(H:Hp)(Q:VK)(E_:XK):ν
 |mk (r:Zs)(S:RS)(a:RA)(c d:η)(z:ο):vs=[?r,.τ c,.τ z,.τ d]->aB C H r S a->S.Wf->c<S.q->d<S.q->(∀l∈S.ways,@l<=100000)->(∀H',dm a r H H'->aB C H' r (S.keep c z d) a->Q .non H')->L9 C vs H Q E_
inductive Ma (C:Zs)(vs:Zb)(H:Hp)(Q:VK)(E_:XK):ν
 |mk (r:Zs)(S:RS)(a:RA)(c:η)(z:ο):vs=[?r,.τ c,.τ z]->aB C H r S a->S.Wf->1<=S.L->S.L<=200->c<S.q->S.q<=100000->@S.rows<=1000000->(∀l∈S.ways,@l<=100000)->(∀a' H',dm a r H H'->aB C H' r (S.make c z (bE (2* S.L))) a'->(∀b,a'.own r b->a.own r b\/H b=ε)->Q (.τ S.q) H')->Ma C vs H Q E_
inductive Sq (C:Zs)(vs:Zb)(H:Hp)(Q:VK)(E_:XK):ν
 |mk (r:Zs)(S:RS)(a:RA)(c:η)(z:ο):vs=[?r,.τ c,.τ z]->aB C H r S a->c<@S.ways->(Q (((S.by c z).Α λn:η=>V.τ (n:ο)).Λ .non) H)->Sq C vs H Q E_
inductive GX (C:Zs)(vs:Zb)(H:Hp)(Q:VK)(E_:XK):ν
 |mk (r:Zs)(S:RS)(a:RA)(c e:η):vs=[?r,.τ c]->aB C H r S a->S.bj[c]?\e->Q (.τ e) H->GX C vs H Q E_
inductive zj (C:Zs)(vs:Zb)(H:Hp)(Q:VK)(E_:XK):ν
 |mk (r:Zs)(S:RS)(a:RA):vs=[?r]->aB C H r S a->S.Wf->S.q<=100000->(∀l,H l=ε->Q ?l (υ H l (.Ε (ao (nI ((~~~S.q).filter λc=>decide (S.bj[c]?\c)))))))->zj C vs H Q E_
def zk (k:η):Sp:=λc H Q _=>∃(v:V)(d:Dt),c=[v]/\cy H k v d/\oO d/\∀b a,au H a->cy a k b d->Q b a
inductive GY (k:η)(C:Zs)(vs:Zb)(H:Hp)(Q:VK)(E_:XK):ν
 |mk (r:Zs)(S:RS)(a:RA):vs=[?r]->aB C H r S a->@S.rows<=1000000->(∀p d,d∈S.rows->cy H 4 ?p d->cy H k ?p d)->(∀l ps H',au H H'->H l=ε->H' l\.Ε (ps.Α V.Η)->Each (λp d=>cy H' 4 ?p d) ps S.rows->Q ?l H')->GY k C vs H Q E_
def XY:η->Sp
 |0=>λ_ _ _ _=>False
 |n+ 1=>zk n
def xN {dp lv:η}(T:Txt K mg A)(o:eG P w K mg base Õ lv A.vp A.vq [ϔ] (XY dp)):eG P w K mg base Õ (lv+ 1) A.vp A.vq [ϔ] (zk dp):=by
 rwa[T.own.F.okN XW (λf H Q E h=>?_) (λb9 AA F s H f Q E G h=>?_)]
 .let[v,d,Τ,_]:=h;rfl
 .let[v,d,Τ,J,hd,k]:=h
  erw[_,{{bI (gS (aY jd Τ T.eZ anM #[0,kj (v:=.ty Ω) Τ T.jF anV Τ]))
   {{bf (cO fZ Τ T.jF anV #[eP (fns:=[]) (ixs:=[]) (cl:=[]) Τ l3 (b0 [] Τ True.intro Τ) (λC s H ex=>(pc (hj:=amK _) T.own o G #[0]))])}}
   bp,bI (gS (aY jd Τ T.eZ anM #[0,kj (v:=.ty À) Τ T.ib anF Τ]))
    {{ou}}
    bp,bI (gS (aY jd Τ T.eZ anM #[0,kj (v:=.ty ç) Τ T.L6 PyProof.Rows.boot_dict Τ]))
    {{ou}}
    bp,bf (pv 0)}}]
  rwa[gH ?_];intro jn dA S
  let atom:(∃n,v=.τ n)\/(∃l,v=.str (tx l))\/∃(a:Zs)(f:Zb)(ds:ſ)(m:η),dp=m+ 1/\v=?a/\d=.t ds/\(H a\.Θ f/\@f=@ds/\∀(j:η)(v:V)(x:Dt),f[j]?\v->ds[j]?\x->cy H m v x):=by
   cases J with
   |i=>exact .ψ {12}
   |s=>exact .Ζ (.ψ {12})
   |n=>ext hd
   |b=>ext hd
   |t g L I=>exact .Ζ (.Ζ {1111222,g,L,I})
   |l=>ext hd
  rcases atom with ⟨n,rfl⟩|⟨l,rfl⟩|⟨a,f,ds,m,Τ,Τ,Τ,z⟩
  .rwa[_,Τ,_,_,_,_,Τ,.τ n,BV K,_,Τ,dc ?_];rwa[1211112,.τ n,Df K,12,dc ?_];rwa[1211112,.τ n,Dg K,12,dc ?_];rwa[12,k _ H (λ_ _ e=>e) J]
  .rwa[1211112,.str (tx l),BW K,12,dc ?_];rwa[1211112,.str (tx l),Dh K,12,dc ?_];rwa[1211112,.str (tx l),Dj K,12,dc ?_];rwa[12,k _ H (λ_ _ e=>e) J]
  .let[g,L,I]:=z;obtain⟨hz,p⟩:@ds<=100000/\∀x∈ds,oO x:=by cases hd with|t a b=>exact{a,b}
   rwa[1211112,.Θ g,oH K Ω,12,gC ?_];erw[12,a,2,{_,bD.of g}];rwa[jf @f (λi=>f.Λ i .non) (λc v i=>∃x,ds[i]?\x/\oO x/\cy c m v x) (λH1 c v i s ζ=>by let[x,e,hn,q]:=ζ;rwa[x,e,hn,q.Δ s]) ?_ (λi c s2 r=>CQ (bD.of (s2^g)) i r) (λi x c X s2 r y=>?_) (λc s2=>wU (bD.of (s2^g))) (λi c Rr r s2 Y=>?_) (λD c ys s2 U hl G=>?_)]
   .rwa[amM ∅ (show 100000<=sizeLine by decide)]
   .let[e,z]:=zR (bD.of (s2^g)) i x X r y
    cbv
   .let z:f[i]?\(f.Λ i .non):=by rw[amH,amB r];rfl
    let u:ds[i]?\(ds[i]'∅):=amB ∅
    rwa[12112,(I i β z u).Δ s2,p _ ϻ,λR H' O q'=>Y R H' O {_,u,p _ ϻ,q'}]
   .rwa[D,ys,2,.ψ {az.of aj,λl B=>?_}];let M:au c (υ c D (.Ε ys)):=au.υ U;let N:au (υ c D (.Ε ys)) (υ (υ c D (.Ε ys)) l (.Θ ys)):=au.υ B;rwa[k β (s2.π (M.π N)) (.t aj ∅ λj v x e1 Z=>?_)];obtain⟨y,e3,-,q⟩:=G j v e1;obtain rfl:y=x:=Za0 (e3.Β.π Z);rwa[q.Δ (M.π N)]
def Mb:eG P w K mg base Õ 2 A.vp A.vq [ϔ] (zk 0):=xN (dp:=0) (lv:=1) T {λ_ _ _ _ h=>h.Κ,λ_ _ _ _ _ _ _ _ _ _ _ _ _ h=>h.Κ}
def Mf:eG P w K mg base Õ 3 A.vp A.vq [ϔ] (zk 1):=xN T (Mb T)
def Bw:eG P w K mg base Õ 4 A.vp A.vq [ϔ] (zk 2):=xN T (Mf T)
def qy:T.pj.Ok P w base 1 Qm:=by
 rwa[T.pj.on qw (λx F g s H D Q E G h=>?_) (len:=by rintro _ _ _ _ ⟨L,Τ,_⟩;rfl)]
 .let[L,Τ,u,C,k]:=h
  erw[_,{{bH 1 qw.nd Ϙ,bU am5 Τ (mG Τ T.fE #[ak,aK cZ (pv 0) ak]) (du 2 qw.nd)
    {{a8 (df amX am2 am3 bS (pv 1) #[2]),a8 (df amX am2 am3 bS (pv 1) #[fx dN (pv 2)])}},bf (pv 1)}}]
  rwa[cF ?_];intro z r;rwa[ani _,λl j=>?_];let q:au H (υ H l (.Ε [])):=au.υ j;let p:υ H l (.Ε []) l\(.Ε (ao (bE (2* 0)))):=aj;change υ H l _=H0 at q p ⊢;erw[121122,(1),(L:ο)+ 1,2,{3333}]
  let' c:η->St->Hp->ν:=λi m d=>∃v:Zc,m=#v[.τ L,?l,v]/\au H d/\d l\(.Ε (ao (bE (2* i))))
  rwa[ik (lo:=1) (n:=((L:ο)+ 1 - 1).toNat) c {ε,2,q,p} ?_ ?_]
  .rintro i m d I ⟨v,Τ,f,a⟩;dsimp only[cU];rwa[kb ?_];intro B y;let t:i<L:=∅
   erw[12,.ψ {21,az.of a},12,l,1122,a,5]
   .rw[aD,vu];rwa[amS (show 2* i<=400 by omega) ⋯]
   erw[12,.ψ {21,az.of aj},1212,l,1122,aj,5]
   .rw[amG,aD,vu];rwa[amS (show 2* i+ 1<=400 by omega) ⋯]
   erw[12,λb o e=>?_]
   .rw[aq (ax e j),aq (ax e j)];rwa[f^e]
   .rw[aj,<-Ve,ints_app,ints_app];rfl
  .rintro m d ⟨v,Τ,f,a⟩;rw[show ((L:ο)+ 1 - 1).toNat=L by ext]at a;rwa[12,k l d f a]
def wu:T.sg.Ok P w base 2 XX:=by
 rwa[T.sg.on F3 (λX AA n s H vs Q E B h=>?_) (len:=by rintro _ _ _ _ ⟨L,Τ,_⟩;rfl)]
 .let[L,Τ,o,G,k]:=h;erw[_,{{bf (cO (yt Τ) Τ T.L6 PyProof.Rows.boot_dict #[eP (fns:=[]) (ixs:=[]) (cl:=[]) Τ (cD (pc T.pj (qy T) B #[0])) (b0 [] Τ True.intro Τ) (λC s H ex=>(bA #[0,iw]))])}}];rwa[12,L,2,o,G,λl Y s1 j=>{l,2,{_,az.of j},5}];let hn:@(ao ((~~~(2* L)).Α M12.st))=2* L:=by rw[aD,amE,anp]
  rwa[jf (2* L) (λi=>.τ Ϩ) (λc v i=>∃p,v=?p/\c p\.Θ [.τ Ϩ,.bl ρ]) (λY c v i s ζ=>by let[p,e,q]:=ζ;rwa[p,e,s^q]) ?_ (λi c s2 f=>iL (az.of (s2^j)) i ∅) (λi x c S s2 f y=>?_) (λc s2=>?_) (λi c Rr f s2 U=>?_) (λD c ys s2 R u B=>?_)]
  .rwa[amM (show 2* L<=400 by omega) ⋯]
  .let[e,hx]:=gb (az.of (s2^j)) i x S ∅ y;erw[e];rw[show (ao ((~~~(2* L)).Α M12.st))[i]?=ι (.τ Ϩ) from bT (ri f)]at hx
   cbv
  .have:=fi (az.of (K:=K) (s2^j));rw[hn]at ω;rwa[ω]
  .rwa[12,(Za4 2),λt O=>U β (au.υ O) {t,2,aj}]
  .let[g,Τ,F]:=z0 (P:=λi p=>c p\.Θ [.τ Ϩ,.bl ρ]) ys 0 (λi v hv=>[aqn]▸B i v hv);let I:au c (υ c D (.Ε l5)):=au.υ R;rw[amE]at u;rwa[D,g,gK (bE (2* L)),2,aj,by rw[WZ,vu,u],λi p kv J r=>?_,λd hd=>?_]
   .let f:i<2* L:=by rw[<-u];rwa[(amF.mp J).1]
    have:=F i p J;rw[aqn]at ω;unfold gK at r;rw[amQ,ri f]at r;rw[<-Za0 r];rwa[I^ω]
   .let e:jT [] (gK (bE (2* L)))=gK (bE (2* L)):=by rw[Ba β ?_,ao4];rw[ao4];unfold gK;rw[anu];rwa[aor.mpr (θ.Pairwise.Ρ (λ{a b} m z=>m ŝ) (L8 _))]
    rw[e];let N:au (υ c D (.Ε l5)) (υ (υ c D (.Ε l5)) d (.dK (gK (bE (2* L))))):=au.υ hd;let M:=s1.π (s2.π I);rwa[k d _ (M.π N) (M.free hd) aj]
def iU:T.jk.Ok mg P w base 1 (Sq A.aI):=by
 rwa[T.jk.on F4 (λe m d s H l Q E i h=>?_)]
 .let[r,S,a,c,z,Τ,h,j,k]:=h;let b:=iZ i;erw[_,{{bf (Ox b ((0<<<1)|||1) (pv 2) ⟨2222⟩)}}];let g:S.ways[c]?\á:=by unfold RS.way;rw[amH,amB j];rfl
  let[p,f,hd]:=h.rW.at g;erw[12,r,_,a.dx,112,h.ins,aO T,T.jX,jA^_,12,a.aW,11122,az.of h.hW,bW f,p,2,.ψ {_,.ψ hd},121,dB.k (k:=Sum.ψ z) hd];rw[mK];rwa[k]
def jK:T.iR.Ok mg P w base 1 (GX A.aI):=by
 rwa[T.iR.on Aw (λd j b s H g Q E i h=>?_)]
 .let[r,S,a,c,e,Τ,h,f,k]:=h;erw[_,{{bf ((0<<<1)|||1)}}];rwa[12,r,_,a.dx,112,h.ins,aO T,T.kf,km^_,12,a.aE,11122,az.of h.hE,cG (bT (kT f)),k]
def rj {c:η}(h:c<@S.ways):S.ways[c]?\á:=by unfold RS.way;cbv
def zl {c:η}(h:c<@S.gaps):S.gaps[c]?\(S.gap c):=by unfold RS.gap;cbv
def Ep (h:∀l∈S.ways,@l<=m):@(S.way n)<=m:=by
 unfold RS.way;rw[amH]
 cases e:S.ways[n]? with
 |ε=>exact ani _
 |ι l=>exact h l Ÿ
def Sr {r:Zs}(h:O.ws[i]?\a):O.own r a:=.Ζ (.Ζ (dR (amD h)))
def ab1 {r:Zs}(h:O.gs[i]?\a):O.own r a:=.Ζ (.Ζ (hJ (amD h)))
def dm.υ {r:Zs}{o:HO}(h:O.own r a):dm O r H ć:=λb u c e=>[aq (λz=>c ([z]▸h))]▸e
def dm.π {r:Zs}(h:dm O r H I)(c:dm O r I J):dm O r H J:=λb u a e=>c b u a (h b u a e)
def tj:T.nY.Ok mg P w base 1 (L9 A.aI):=by
 rwa[T.nY.on Ck (λb9 AA F s H vs Q E hr h=>?_)]
 .let[r,S,a,c,d,z,Τ,h,hw,hc,hd,X,k]:=h;let j:=iZ hr
  erw[_,{{jx j ((0<<<1)|||1) (pv 2) (pv 3) Τ,jx j ((0<<<1)|||3) (fx dN (pv 2)) (pv 1) Τ,a8 (wY ((0<<<1)|||1) (pv 2) dJ ⟨2222⟩),a8 (wY ((0<<<1)|||3) (fx dN (pv 2)) dJ ⟨2222⟩)}}]
  rwa[gH ?_];intro jn dA eD;let[p,b,J]:=h.rW.at (rj (S:=S) (c:=c) ([hw.w]▸hc));let b1:@(S.way c)<=100000:=Ep X;erw[1212,r,_,a.dx,112,h.ins,aO T,T.jX,jA^_,12,a.aW,11122,az.of h.hW,bW b,12,p,12,lL.k (k:=Sum.ψ z) J ([C9]▸amS b1 ⋯)];rw[Dc];let n:aB A.aI _ r (S.cL c z d) a:=h.De b i0;let U:dm a r H (υ H p (.dK (wK i0))):=dm.υ (Sr b);change υ H p _=G at n U ⊢;let w1:(S.cL c z d).ways.Ξ=S.q:=by show @(S.ways.set c _)=_;rw[am7,hw.w]
  let[q,D,B]:=n.rW.at (rj (S:=S.cL c z d) (c:=d) ([w1]▸hd))
  let b2:@((S.cL c z d).way d)<=100001:=Ep λl g=>by
   rcases aoX g with g|rfl
   .rwa[η.le_succ_of_le (X l g)]
   .rwa[amM (OW^_) (by omega)]
  rwa[_,Τ,_,Τ,r,_,a.dx,_,_,Τ,n.ins,aO T,T.jX,jA^_,_,Τ,a.aW,_,_,_,Τ,Τ,az.of n.hW,bW D,_,Τ,_,Τ,q,_,Τ,lL.k (k:=Sum.ψ (-z)) B (by rw[C9];rwa[amS b2 (by decide)]),?_];rw[Dc];let f:aB A.aI _ r ((S.cL c z d).cL d (-z) c) a:=n.De D (kX ((S.cL c z d).way d) (-z) c);let N:dm a r G (υ G q (.dK (wK (kX ((S.cL c z d).way d) (-z) c)))):=dm.υ (Sr D);change υ G q _=H2 at f N ⊢;generalize R:(S.cL c z d).cL d (-z) c=C at f ⊢;let M:@C.gaps=S.q:=by rw[<-R];rwa[hw.g]
  let[p3,o,m]:=f.rG.at (zl (S:=C) (c:=c) ([M]▸hc))
  let pop:∀{H:Hp}{S:RS}{c:η}{z:ο}{p:Zs},aB A.aI H r S a->a.gs[c]?\p->H p\.dK ă->∀{Q:V->Hp->ν},(∀v L,dm a r H L->aB A.aI L r (S.nP c z) a->Q v L)->
   Ow p (.τ z) .non H Q:=by
   intro H S c z p h b J Q B
   suffices q:(∀v,bG ă ϧ\v->Q v (υ H p (.dK (fP ă ϧ))))/\(bG ă ϧ=ε->Q .non H) from ⟨_,Sum.ψ z,J,2,q.1,q.2⟩
   rw[KL,Uv];cases I:z∈S.gap c
   .rw[am1 I];rwa[λv _=>B β (dm.υ (ab1 b)) (h.W9 b _),λz=>by ext z]
   .rw[amY I];rwa[λv z=>(by ext z),λ_=>B β (λ_ _ _ e=>e) ?_];let e:(S.gap c).filter (λx=>decide (x≠z))=S.gap c:=θ.filter_eq_self.mpr λx hx=>anh λz=>I (z ▸ hx)
    let g:c<@S.gaps:=by rw[<-h.rG.1];rwa[(amF.mp b).1]
    have:S.nP c z=S:=by
     unfold RS.nP RS.setG;rw[e]
     let es:S.gaps.set c (S.gap c)=S.gaps:=aox λi=>by
      cases Y:c=i
      .subst Y;rw[anv g,zl g]
      .rw[anQ Y]
     rw[es]
    rw[ω];rwa[h]
  rwa[12,r,_,a.dx,112,f.ins,aO T,T.uD,vh^_,12,a.aG,11122,az.of f.hG,bW o,p3,2,.ψ {_,.ψ m},12,pop f o m λv H3 u3 t=>?_];generalize e3:C.nP c z=Z at t;let g3:@Z.gaps=S.q:=by rw[<-e3];show @(C.gaps.set c _)=_;rw[am7,M]
  let[p4,y,u]:=t.rG.at (zl (S:=Z) (c:=d) ([g3]▸hd));rwa[12,r,_,a.dx,112,t.ins,aO T,T.uD,vh^_,12,a.aG,11122,az.of t.hG,bW y,p4,2,.ψ {_,.ψ u},1212,pop t y u λv H4 u4 O=>?_];rwa[k H4 (U.π (N.π (u3.π u4))) ?_];rw[<-e3,<-R]at O;rwa[O]
def vM:T.hV.Ok mg P w base 3 (Sn A.aI):=by
 rwa[T.hV.on vJ (λb9 AA outer s H vs Q E hr h=>?_)]
 .let[x,B,L,Τ,hx,qe,Bx,k]:=h
  erw[_,{{ck (pv 0) (pv 1) Τ,ck (pv 0) ak Τ,ck (pv 0) Ϙ Τ,ck (pv 0) (bN #[eK]) Τ,ck (pv 0) (bN #[pc T.sg (wu T) hr #[1]]) Τ,ck (pv 0) (bN #[ak]) Τ,ck (pv 0) (bN #[bN #[ak]]) Τ,ck (pv 0) Ϙ Τ}}]
  rwa[xi ?_];intro By zo rn pG jn dA eD
  let st:∀{H0:Hp}{fs:θ (Ι×V)}{f:Ι}{v:V},H0 x\.ins A.aI B fs->(∀b o,H b\o->b≠x->H0 b\o)->υ H0 x (.ins A.aI B (bJ f v fs)) x\.ins A.aI B (bJ f v fs)/\(∀b o,H b\o->b≠x->υ H0 x (.ins A.aI B (bJ f v fs)) b\o)/\∀b o,b≠x->H0 b\o->υ H0 x (.ins A.aI B (bJ f v fs)) b\o:=λ_ h=>{aj,λb o e n=>[aq n]▸h b o e n,λb o n e=>[aq n]▸e}
  erw[1212,x,_,B,12,hx,aO T,T.uB,(by show 0<1000;decide)];obtain⟨x1,o1,-⟩:=st (f:=É) (v:=.τ L) hx (λb o e _=>e);change υ H x _=H1 at x1 o1 ⊢;let f1:@(bJ É (.τ L) ([]:θ (Ι×V)))<=1:=kr (n:=0) Φ;erw[12,x,_,B,12,x1,aO T,T.q8,amS f1 ⋯];obtain⟨x2,o2,-⟩:=st (f:=Ć) (v:=.τ 1) x1 o1;let f2:=kr (f:=Ć) (v:=.τ 1) f1;generalize e2:bJ Ć (.τ 1) (bJ É (.τ L) [])=fs2 at x2 o2 f2 ⊢;change υ H1 x _=H2 at x2 o2 ⊢;rwa[ani _,λu nR=>{12,x,_,B,12,au.υ nR β x2,aO T,T.uC,amS f2 ⋯,5}];let hR3:υ H2 u (.Ε []) u\(.Ε []):=aj;let C:u≠x:=(ax x2 nR).Β;let s3:=au.υ (o:=.Ε []) nR
  let n0:∀{b:Zs}{H0:Hp},(∀c o,H c\o->c≠x->H0 c\o)->H0 b=ε->b≠x->H b=ε:=λ{b H0} h n nx=>by
   cases e:H b with
   |ε=>rfl
   |ι o=>rw[h b o e nx]at n;ext n
  let kR:=n0 o2 nR C;change υ H2 u _=H3 at hR3 s3 ⊢;let[x4,o4,k4]:=st (f:=ķ) (v:=?u) (s3^x2) (λb o e n=>s3^o2 b o e n);let f4:=kr (f:=ķ) (v:=?u) f2;generalize e4:bJ ķ ?u fs2=fs4 at x4 o4 f4 k4 ⊢;let XZ:=k4 β C hR3;change υ H3 x _=H4 at x4 o4 XZ ⊢;intro wd X1;let l:wd≠x:=(ax x4 X1).Β;let kwd:=n0 o4 X1 l;generalize e_:υ H4 wd _=H5;let[s5,aeW]:=cW e_ X1;rwa[(Za4 1),λG nW=>{12,x,_,B,12,au.υ nW β (s5^x4),aO T,T.jX,amS f4 ⋯,5}];let U:G≠x:=(ax (s5^x4) nW).Β;let kW:=n0 (λb o e n=>s5^o4 b o e n) nW U;let nWR:G≠u:=(ax (s5^XZ) nW).Β;generalize e_:υ H5 G _=H6;let[s6,hW6]:=cW e_ nW;let[x7,o7,k7]:=st (f:=Ķ) (v:=?G) (s6^s5^x4) (λb o e n=>s6^s5^o4 b o e n);let f7:=kr (f:=Ķ) (v:=?G) f4;generalize e7:bJ Ķ ?G fs4=fs7 at x7 o7 f7 k7 ⊢;let X2:=k7 β C (s6^s5^XZ);let X3:=k7 β U hW6;let Qn:=k7 β l (s6^aeW);change υ H6 x _=H7 at x7 o7 X2 X3 Qn ⊢;rwa[12,L,2,qe,Bx,λgd H8 s8 X4 aeX=>?_];let t:gd≠x:=(ax x7 X4).Β;let kgd:=n0 o7 X4 t;let ngw:gd≠wd:=(ax Qn X4).Β;rwa[(Za4 1),λN nG=>{12,x,_,B,12,au.υ nG β (s8^x7),aO T,T.uD,amS f7 ⋯,5}];let Mg:N≠x:=(ax (s8^x7) nG).Β;let kG:=n0 (λb o e n=>s8^o7 b o e n) nG Mg;let nGR:N≠u:=(ax (s8^X2) nG).Β;let nGW:N≠G:=(ax (s8^X3) nG).Β;generalize e_:υ H8 N _=H9;let[s9,hG9]:=cW e_ nG;let[x10,Ss,Y]:=st (f:="gaps") (v:=?N) (s9^s8^x7) (λb o e n=>s9^s8^o7 b o e n);let Mh:=kr (f:="gaps") (v:=?N) f7;generalize e10:bJ "gaps" ?N fs7=aeY at x10 Ss Mh Y ⊢;let Qo:=Y β C (s9^s8^X2);let Qp:=Y β U (s9^s8^X3);let Sv:=Y β l (s9^s8^Qn);let Qq:=Y β Mg hG9;let Sw:=Y β t (s9^aeX);change υ H9 x _=qf at x10 Ss Qo Qp Sv Qq Sw ⊢;rwa[4,λI nE=>{12,x,_,B,12,au.υ nE β x10,aO T,T.kf,amS Mh ⋯,5}];let Sx:I≠x:=(ax x10 nE).Β;let kE:=n0 Ss nE Sx;let nER:I≠u:=(ax Qo nE).Β;let nEW:I≠G:=(ax Qp nE).Β;let nEG:I≠N:=(ax Qq nE).Β;generalize e_:υ qf I _=Bz;let[y,aeZ]:=cW e_ nE;let[X,Mi,F]:=st (f:=ύ) (v:=?I) (y^x10) (λb o e n=>y^Ss b o e n);let X5:=kr (f:=ύ) (v:=?I) Mh;generalize e12:bJ ύ ?I aeY=ae0 at X Mi X5 F ⊢;let R:=F β C (y^Qo);let J:=F β U (y^Qp);let Sy:=F β l (y^Sv);let S:=F β Mg (y^Qq);let Sz:=F β t (y^Sw);let O:=F β Sx aeZ;change υ Bz x _=SD at X Mi R J Sy S Sz O ⊢;rwa[4,λcl r=>{(Za4 1),λM nC=>{12,x,_,B,12,au.υ nC β (au.υ r β X),aO T,T.pz,amS X5 ⋯,5}}];let Qr:cl≠x:=(ax X r).Β;let kcl:=n0 Mi r Qr;let ncR:cl≠u:=(ax R r).Β;let ncW:cl≠G:=(ax J r).Β;let ncG:cl≠N:=(ax S r).Β;let ncE:cl≠I:=(ax O r).Β;let a:=au.υ (o:=.Ε [.τ 0]) r;let z:υ SD cl (.Ε [.τ 0]) cl\(.Ε [.τ 0]):=aj;change υ SD cl _=GZ at a z nC ⊢;let X6:M≠x:=(ax (a^X) nC).Β;let kC:=n0 (λb o e n=>a^Mi b o e n) nC X6;let nCR:M≠u:=(ax (a^R) nC).Β;let nCW:M≠G:=(ax (a^J) nC).Β;let nCG:M≠N:=(ax (a^S) nC).Β;let nCE:M≠I:=(ax (a^O) nC).Β;let nCc:M≠cl:=(ax z nC).Β;generalize e_:υ GZ M _=X7;let[m,ae1]:=cW e_ nC;let[Mj,SF,q]:=st (f:=ώ) (v:=?M) (m^a^X) (λb o e n=>m^a^Mi b o e n);let SG:=kr (f:=ώ) (v:=?M) X5;generalize e15:bJ ώ ?M ae0=ae2 at Mj SF SG q ⊢;let Qs:=q β C (m^a^R);let Qt:=q β U (m^a^J);let SJ:=q β l (m^a^Sy);let Qu:=q β Mg (m^a^S);let SK:=q β t (m^a^Sz);let Qw:=q β Sx (m^a^O);let D:=q β Qr (m^z);let Qx:=q β X6 ae1;change υ X7 x _=H15 at Mj SF Qs Qt SJ Qu SK Qw D Qx ⊢;rwa[ani _,λZ nN=>{12,x,_,B,12,au.υ nN β Mj,aO T,T.uE,amS SG ⋯,5}];let nxN:Z≠x:=(ax Mj nN).Β;let kN:=n0 SF nN nxN;let nNR:Z≠u:=(ax Qs nN).Β;let nNW:Z≠G:=(ax Qt nN).Β;let nNG:Z≠N:=(ax Qu nN).Β;let nNE:Z≠I:=(ax Qw nN).Β;let nNC:Z≠M:=(ax Qx nN).Β;let nNc:Z≠cl:=(ax D nN).Β;generalize e_:υ H15 Z _=H16;let[g,ae3]:=cW e_ nN;let[x17,o17,j]:=st (f:="went") (v:=?Z) (g^Mj) (λb o e n=>g^SF b o e n)
  let ef:bJ "went" ?Z ae2=gG (L:ο) 1 ⟨B,u,G,N,I,M,Z,[],[wd],[gd],[cl]⟩:=by
   rw[<-e15,<-e12,<-e10,<-e7,<-e4,<-e2]
   kernel_rfl
  rw[ef]at x17 o17 j ⊢;rwa[k {B,u,G,N,I,M,Z,[],[wd],[gd],[cl]} _ o17 {x17,j β C (g^Qs),j β U (g^Qt),j β Mg (g^Qu),j β Sx (g^Qw),j β X6 (g^Qx),j β nxN ae3,{2,(λi p d h=>by simp at h)},555,(λd hd=>by ext hd),55} ?_]
  .rwa[Each.snoc (ps:=[]) (xs:=[]) {2,λi p d h=>by simp at h} (j β l (g^SJ))]
  .rwa[Each.snoc (ps:=[]) (xs:=[]) {2,λi p d h=>by simp at h} (j β t (g^SK))]
  .rwa[Each.snoc (ps:=[]) (xs:=[]) {2,λi p d h=>by simp at h} (j β Qr (g^D))]
  .show [u,G,N,I,M,Z,cl].Nodup;simp only[anq,amW,anK,apb,not_or,aoA,and_true,ao7]
   cbv
  .show [wd,gd].Nodup;simp only[anq,amW,anK,apb,aoA,and_true,ao7];rwa[ngw.Β]
  .intro b hb;rcases hb with rfl|hb|hb
   .rwa[.ψ Τ]
   .simp only[RA.lists,amW,anK,apb]at hb
    cbv
   .simp only[RA.fy,amO,amW,anK,apb]at hb
    cbv
def _root_.Lake.L2.aB.Er {r:Zs}(h:Ϭ){p:Zs}(b:H p=ε):¬O.own r p:=λz=>by
 let[o,e]:=h.there z
 cbv
def Cm:T.sk.Ok mg P w base 3 (Ma A.aI):=by
 rwa[T.sk.on ti (λb9 AA outer s H vs Q E hr h=>?_)]
 .let[r,S,a,c,z,Τ,h,hw,qe,Bx,hc,hm,ro,hz,k]:=h
  erw[_,{{bH 3 ti.nd (0<<<1),ck (pv 0) Q2 Τ,a8 (df amX am2 am3 bS (0<<<1) #[bA #[fD (l:=[110,101,119]) Τ,1,2,3]]),a8 (df amX am2 am3 bS (0<<<1) #[eK]),a8 (df amX am2 am3 bS (0<<<1) #[pc T.sg (wu T) hr #[0<<<1]]),a8 (df amX am2 am3 bS (0<<<1) #[3]),a8 (df amX am2 am3 bS (0<<<1) #[bN #[3]]),a8 (pm (pv 0) (aO T) T.nY (tj T) hr #[1,2,3]),bf (pv 3)}}]
  rwa[OY ?_];intro SM By zo rn pG jn dA eD;erw[12,r,_,a.dx,112,h.ins,aO T,T.q8,vf^_];erw[12112212,r,_,a.dx,12,h.ins,aO T,T.q8,(by show 8<1000;decide)];rw[KN,show (S.q:ο)+ 1=((S.q+ 1:η):ο) by ext];let h1:=h.Uw (S.q+ 1);let u1:dm a r H (υ H r (.ins A.aI a.dx (gG S.L ((S.q+ 1:η):ο) a))):=dm.υ (.ψ Τ);change υ H r _=H1 at h1 u1 ⊢;let lR:@(a.rs.Α V.Η)<sizeLine:=by rw[amE,h.rR.1];rwa[amS ro ⋯]
  rwa[12,r,_,a.dx,112,h1.ins,aO T,T.uC,vg^_,.ψ {21,az.of h1.hR},121212,(Za4 4),λt ht=>{a.aR,1122,au.υ ht β h1.hR,lR,5}];generalize e_:υ H1 t _=H2;let[s2,SN]:=cW e_ ht
  let hd2:cy H2 4 ?t (tV c z S.q):=by
   rwa[.t SN Τ λj v d q F=>?_]
   rcases j with _|_|_|_|j
   .simp at q F;subst q F;rwa[.s]
   .simp at q F;subst q F;rwa[.i]
   .simp at q F;subst q F;rwa[.i]
   .simp at q F;subst q F;rwa[.i]
   .simp at q
  let nl:oO (tV c z S.q):=.t (by show 4<=100000;decide) λd hd=>by
   simp only[amW,anK,apb]at hd;rcases hd with rfl|rfl|rfl|rfl
   .rwa[.s]
   .rwa[.i]
   .rwa[.i]
   .rwa[.i]
  let B:=(h1.Δ s2).Dd hd2 nl;let u3:dm a r H2 (υ H2 a.aR (.Ε (a.rs.Α V.Η++[?t]))):=dm.υ (.Ζ (.ψ gP));change υ H2 a.aR _=H3 at B u3 ⊢;generalize N:({ a with rs:=a.rs++[t] }:RA)=n at B;let U:∀b,n.own r b->a.own r b:=λb f=>by rw[<-N]at f;rwa[f]
  let ak4:∀b,a.own r b->n.own r b:=λb f=>by rw[<-N];rwa[f]
  let ewG:n.dx=a.dx:=by rw[<-N]
  let U3:dm a r H H3:=u1.π (λb o f e=>u3 b o f (s2^e));erw[12,r,_,n.dx,112,B.ins,aO T,T.jX,jA^_,.ψ {21,az.of B.hW}];intro wd u;let hdW:@(n.ws.Α V.Η)<sizeLine:=by rw[amE,B.rW.1];show @S.ways<sizeLine;rw[hw.w];rwa[amS hm ⋯]
  let s4:=au.υ (o:=.dK []) u;let I:υ H3 wd (.dK []) wd\(.dK (wK [])):=aj;let ae4:=B.Er u;erw[n.aW,1122,s4^B.hW,hdW];change υ H3 wd _=H4 at s4 I ⊢;let C:=(B.Δ s4).W7 I (λz=>ae4 (.Ζ (.Ζ z)));let u5:dm n r H4 (υ H4 n.aW (.Ε (n.ws.Α V.Η++[?wd]))):=dm.υ (.Ζ (.ψ gQ));change υ H4 n.aW _=H5 at C u5 ⊢;generalize ea5:({ n with ws:=n.ws++[wd] }:RA)=m at C
  let alb:∀b,m.own r b->n.own r b\/b=wd:=λb f=>by
   rw[<-ea5]at f;rcases f with f|f|f
   .rwa[.ψ (.ψ f)]
   .rwa[.ψ (.Ζ (.ψ f))]
   .simp only[RA.fy,amO,amI]at f;rcases f with (f|f)|f
    .rwa[.ψ (.Ζ (.Ζ Z5))]
    .rwa[.Ζ f]
    .rwa[.ψ (.Ζ (.Ζ (amN _ f)))]
  let kwd:H wd=ε\/a.own r wd:=by
   cases y:a.own r wd
   .rwa[.Ζ y]
   .rwa[.ψ ?_]
    cases e:H wd with
    |ε=>rfl
    |ι o=>rw[U3 wd o y e]at u;ext u
  let U5:dm a r H H5:=U3.π λb o f e=>u5 b o (λz=>f (U b z)) (s4^e)
  rwa[12,r,_,m.dx,112,C.ins,aO T,T.uD,vh^_,.ψ {21,az.of C.hG},12,r,_,m.dx,112,C.ins,aO T,T.uB,yu^_,S.L,2,qe,Bx,λx H6 s6 L R=>?_];let hdG:@(m.gs.Α V.Η)<sizeLine:=by rw[amE,C.rG.1];show @S.gaps<sizeLine;rw[hw.g];rwa[amS hm ⋯]
  let h6:=C.Δ s6;let ae5:=C.Er L;erw[m.aG,1122,h6.hG,hdG];let O:=h6.W8 R (λz=>ae5 (.Ζ (.Ζ z)));let u7:dm m r H6 (υ H6 m.aG (.Ε (m.gs.Α V.Η++[?x]))):=dm.υ (.Ζ (.ψ j4));change υ H6 m.aG _=H7 at O u7 ⊢;generalize ea7:({ m with gs:=m.gs++[x] }:RA)=g at O
  let alc:∀b,g.own r b->m.own r b\/b=x:=λb f=>by
   rw[<-ea7]at f;rcases f with f|f|f
   .rwa[.ψ (.ψ f)]
   .rwa[.ψ (.Ζ (.ψ f))]
   .simp only[RA.fy,amO,amI]at f;rcases f with f|f|f
    .rwa[.ψ (.Ζ (.Ζ Z5))]
    .rwa[.ψ (.Ζ (.Ζ (amN _ f)))]
    .rwa[.Ζ f]
  let w5:H wd=ε\/a.own r wd:=kwd
  let ae6:∀b o,¬a.own r b->H b\o->¬m.own r b:=λb o f e z=>by cbv
  let U7:dm a r H H7:=λb o f e=>u7 b o (ae6 b o f e) (s6^U5 b o f e)
  let kgd:H x=ε\/a.own r x:=by
   cases y:a.own r x
   .rwa[.Ζ y]
   .rwa[.ψ ?_]
    cases e:H x with
    |ε=>rfl
    |ι o=>rw[U5 x o y e]at L;ext L
  erw[12,r,_,g.dx,112,O.ins,aO T,T.kf,km^_,.ψ {21,az.of O.hE},12,g.aE,1122,O.hE,5]
  .rw[aD,cK];show @S.bj<sizeLine;rw[hw.e];rwa[amS hm ⋯]
  let eE:ao (nI S.bj)++[V.τ (S.q:ο)]=ao (nI (S.bj++[S.q])):=by rw[jU,ints_app];rfl
  show _;let G:=O.Bb (S.bj++[S.q]);rw[<-eE]at G;let u8:dm g r H7 (υ H7 g.aE (.Ε (ao (nI S.bj)++[V.τ (S.q:ο)]))):=dm.υ (.Ζ (.ψ iB));change υ H7 g.aE _=H8 at G u8 ⊢
  let D:∀b o,¬a.own r b->H b\o->¬g.own r b:=λb o f e z=>by cbv
  let U8:dm a r H H8:=λb o f e=>u8 b o (D b o f e) (U7 b o f e)
  rwa[12,r,_,g.dx,112,G.ins,aO T,T.pz,pT^_,.ψ {21,az.of G.hC},12,(Za4 1),λcl p=>{g.aC,1122,au.υ p β G.hC,55}]
  .rw[amE,G.rC.1];show @S.called<sizeLine;rw[hw.c];rwa[amS hm ⋯]
  generalize e_:υ H8 cl _=H9;obtain⟨s9,X⟩:_/\_\(.Ε (ao (nI [S.q]))):=cW e_ p;let Z:=G.Er p;let M:=(G.Δ s9).KP X (λz=>Z (.Ζ (.ψ z)));let Y:dm g r H9 (υ H9 g.aC (.Ε (g.cs.Α V.Η++[?cl]))):=dm.υ (.Ζ (.ψ jC));change υ H9 g.aC _=qf at M Y ⊢;generalize ae7:({ g with cs:=g.cs++[cl] }:RA)=i at M
  let ak5:∀b,i.own r b->g.own r b\/b=cl:=λb f=>by
   rw[<-ae7]at f;rcases f with f|f|f
   .rwa[.ψ (.ψ f)]
   .let SQ:b∈g.lists++[cl]:=f;rcases amO.mp SQ with f|f
    .rwa[.ψ (.Ζ (.ψ f))]
    cbv
   .rwa[.ψ (.Ζ (.Ζ f))]
  let kcl:H cl=ε\/a.own r cl:=by
   cases y:a.own r cl
   .rwa[.Ζ y]
   .rwa[.ψ ?_]
    cases e:H cl with
    |ε=>rfl
    |ι o=>rw[U8 cl o y e]at p;ext p
  let J:∀b o,¬a.own r b->H b\o->¬i.own r b:=λb o f e z=>by cbv
  let U10:dm a r H qf:=λb o f e=>Y b o (D b o f e) (s9^U8 b o f e)
  let hS:aB A.aI qf r (S.grown c z (bE (2* S.L))) i:=M;rwa[12,r,i.dx,12,hS.ins,cY γ ⋯,121212,r,S.grown c z (bE (2* S.L)),i,c,S.q,z,2,hS,{5555},555,λBz u11 h11=>?_]
  .show @(S.ways++[[]])=S.q+ 1;rw[amG,hw.w];rfl
  .show @(S.gaps++[_])=S.q+ 1;rw[amG,hw.g];rfl
  .show @(S.bj++[_])=S.q+ 1;rw[amG,hw.e];rfl
  .show @(S.called++[_])=S.q+ 1;rw[amG,hw.c];rfl
  .show c<S.q+ 1;ext
  .show S.q<S.q+ 1;ext
  .intro l hl;rcases amO.mp hl with hl|hl
   .rwa[hz l hl]
   cbv
  .rwa[_,Τ,k i Bz (λb o f e=>u11 b o (J b o f e) (U10 b o f e)) h11 λb f=>?_]
   cbv
def nJ:T.jE.Ok mg P w base 1 (zj A.aI):=by
 rwa[T.jE.on vK (λo v g s H u Q E y h=>?_)]
 .let[r,S,a,Τ,h,hw,q,k]:=h;erw[_,{{bf (yB (fns:=[Χ]) (ixs:=[0]) (cl:=_) Τ (jb Τ T.fE #[0<<<1]) (b0 [(_,_)] Τ {22222,True.intro} Τ) (λC s H ex=>(aX dI (aU (j9 (K:=K) Τ) (Uy (K:=K) Τ (pv 1) Τ) (pv 0) (λ_ _=>rfl)) (pv 0) (bh _))) (λC s H ex=>(pv 0)))}}];erw[12,r,_,a.dx,112,h.ins,aO T,T.q8,vf^_,(S.q:ο),233];rw[anb];erw[λi m ys j=>m=S.q - i/\i<=S.q/\ys=ao (nI ((~~~i).filter λc=>decide (S.bj[c]?\c)))/\j=H,{S.q,by simp,ani _,22}];rintro i m ys j ⟨rfl,B,Τ,rfl⟩
  let hlen:@(ao (nI ((~~~i).filter λc=>decide (S.bj[c]?\c))))<=i:=by rw[aD,cK];rwa[amM (anN β) (by cbv)]
  cases b:i<S.q
  .rwa[.Ζ {b,5,λx t f=>?_}]
   .rwa[amS (amM hlen (show i<=100000 by omega)) ⋯]
   let[Τ,Τ]:=f;let l:S.bj[i]?\(S.bj[i]'([hw.e]▸b)):=amB _
   change S.bj[i]'(by cbv)=e at l;erw[12,r,_,a.dx,112,h.ins,aO T,T.kf,km^_,12,a.aE,11122,az.of h.hE,([ap3]▸cG (bT (kT l)))];erw[12212];cases d:e=i
   .subst d;rw[show decide (V.τ (e:ο)=V.τ (0+ (e:ο)))=ρ from anh (by rw[ap3])];rwa[12,S.q - (e+ 1),32,b,52];rw[aon,aoj,aqd (by cbv),θ.filter_nil,jU,ints_app,ap3];rfl
   .rw[show decide (V.τ (e:ο)=V.τ (0+ (i:ο)))=χ from anG (λz=>d (by injection z with z;omega))];rwa[S.q - (i+ 1),32,b,52];rw[aon,aoj,θ.filter_cons_of_neg (by cbv),θ.filter_nil,am9]
  .let e:i=S.q:=∅
   subst e;rwa[.ψ {amK _,amM hlen (amM q ⋯),λD n=>k D n}]
def rq:T.mB.Ok mg P w base 5 (GY 2 A.aI):=by
 rwa[T.mB.on Ax (λb9 AA j s H vs Q E U h=>?_)]
 .let[r,S,a,Τ,h,u,o,k]:=h;erw[_,{{bf (eP (fns:=[]) (ixs:=[]) (cl:=[]) Τ (cD (0<<<1)) (b0 [] Τ True.intro Τ) (λC s H ex=>(pc T.own (Bw T) U #[0])))}}];erw[12,r,_,a.dx,112,h.ins,aO T,T.uC,vg^_,a.aR,2,{_,az.of h.hR}];let g:@(a.rs.Α V.Η)=@S.rows:=by rw[amE,h.rR.1]
  let J:∀i,i<@S.rows->∃p d,a.rs[i]?\p/\S.rows[i]?\d/\d∈S.rows/\cy H 4 ?p d:=λi c=>by let hd:=amB c;let[p,n,q]:=h.rR.at hd;rwa[p,_,n,hd,amD hd,q]
  rwa[jf @S.rows (λi=>(a.rs.Α V.Η).Λ i .non) (λb v i=>∃p d,v=?p/\S.rows[i]?\d/\oO d/\cy b 4 ?p d) (λH1 b v i s q0=>by let[p,x,e,m,hn,q]:=q0;rwa[p,x,e,m,hn,q.Δ s]) ?_ (λi b s2 c=>iL (az.of (s2^h.hR)) i ∅) (λi x b H3 s2 c y=>?_) (λb s2=>?_) (λi b Rr c s2 kk=>?_) (λD b ys s2 M R U=>?_)]
  .rwa[amM u ⋯]
  .let[e,B]:=gb (az.of (s2^h.hR)) i x H3 ∅ y;erw[e];rw[amH,B];rfl
  .have:=fi (az.of (K:=K) (s2^h.hR));rw[g]at ω;rwa[ω]
  .let[p,d,n,hd,f,q]:=J i c;let B:(a.rs.Α V.Η).Λ i .non=?p:=by rw[amH,amQ,n];rfl
   let q1:=(o p d f q).Δ s2;rw[B];rwa[12,?p,d,2,q1,h.flat d f,λv' H' Z Y=>?_]
   have:∃I,v'=?I:=by
    let G:∃O,d=.t O:=by
     cases q with
     |t=>cbv
     |l=>exact absurd (h.flat _ f) (λz=>by ext z)
    let[O,Τ]:=G
    cases Y with
    |t=>cbv
   let[I,Τ]:=ω;rwa[kk _ H' Z {I,d,2,hd,h.flat d f,Y.le ⋯}]
  .let[N,Τ,F]:=z0 (P:=λi p=>∃d,S.rows[i]?\d/\cy b 4 ?p d) ys 0 (λi v hv=>by cbv)
   let L:au b (υ b D (.Ε (N.Α V.Η))):=au.υ M;rw[amE]at R;rwa[k D N _ (s2.π L) (s2.free M) aj {R,λi p d e1 m=>?_}];let[d',X,q]:=F i p e1;rw[aqn]at X;obtain rfl:d'=d:=Za0 (X.Β.π m);rwa[q.Δ L]
def dy (H:Hp)(p:Zs)(a:Ze):ν:=∃b:Zn,H p\.Ε (b.Α V.Η)/\Each (λq (w:Way)=>H q\.Θ [.τ (w.1:ο),.τ w.2.1,.τ (w.2.2:ο)]) b a
def sx (a:RA)(r p:Zs)(H c:Hp):ν:=∀b o,¬a.own r b->b≠p->H b\o->c b\o
def dy.keep {c:Ze}(h:dy H a c)(k:∀o,H a\o->I a\o)(f:∀b d,H b\.Θ d->I b\.Θ d):dy I a c:=by let[g,j,i]:=h;rwa[g,k _ j,i.Ρ λq w _ _ e=>f^e]
structure Small (S:RS):ν where
 m:S.q<=100000
 w:∀l∈S.ways,@l<=100000
 r:@S.rows<=1000000
 n:@S.bq<=1000000
 c:∀l∈S.called,@l<=1000000
inductive Es (C:Zs)(vs:Zb)(H:Hp)(Q:VK)(E_:XK):ν
 |mk (r p:Zs)(S:RS)(a:RA)(c:η)(pend:Ze):vs=[?r,.τ c,?p]->aB C H r S a->S.Wf->c<S.q->Ip S c->(∀l∈S.ways,@l<=100000)->dy H p pend->¬a.own r p->@pend<=1000000->(∀a' H',sx a r p H H'->aB C H' r (S.qK c pend).1 a'->dy H' p (S.qK c pend).2->(∀b,a'.own r b->a.own r b\/H b=ε)->Q .non H')->Es C vs H Q E_
inductive G0 (C:Zs)(vs:Zb)(H:Hp)(Q:VK)(E_:XK):ν
 |mk (r p:Zs)(S:RS)(a:RA)(c x y:η)(z:ο)(pend:Ze):vs=[?r,.τ c,.τ z,.τ x,.τ y,?p]->aB C H r S a->S.Wf->x<S.q->y<S.q->x≠y->Ip S Ψ->(∀n∈S.cM Ψ,n<S.q)->Small S->dy H p pend->¬a.own r p->@pend<=1000000->(∀a' H',sx a r p H H'->aB C H' r (S.meet c z x y pend).1 a'->dy H' p (S.meet c z x y pend).2->(∀b,a'.own r b->a.own r b\/H b=ε)->Q .non H')->G0 C vs H Q E_
structure zp (S:RS):ν where
 wf:S.Wf
 el:∀c,c<S.q->S.ay c<S.q
 bl:∀c z d,S.by c z=ι d->d<S.q
 cl:∀c,∀n∈S.cM c,n<S.q
 off:∀c,c<S.q->Ip S c
 sm:Small S
inductive Eu (C:Zs)(vs:Zb)(H:Hp)(Q:VK)(E_:XK):ν
 |mk (r t p:Zs)(S:RS)(a:RA)(w:Way)(pend:Ze):vs=[?r,?t,?p]->aB C H r S a->H t\.Θ [.τ (w.1:ο),.τ w.2.1,.τ (w.2.2:ο)]->zp S->w.1<S.q->w.2.2<S.q->dy H p pend->¬a.own r p->@pend<=1000000->(∀a' H',sx a r p H H'->aB C H' r (S.takeIn pend w).1 a'->dy H' p (S.takeIn pend w).2->(∀b,a'.own r b->a.own r b\/H b=ε)->Q .non H')->Eu C vs H Q E_
inductive SR (C:Zs)(vs:Zb)(H:Hp)(Q:VK)(E_:XK):ν
 |mk (r q:Zs)(S:RS)(a:RA)(c d:η)(z:ο)(row:Dt)(I:RS->Ze->ν)(μ:RS->Ze->η):vs=[?r,.τ c,.τ z,.τ d,?q]->aB C H r S a->@S.rows<=1000000->cy H 2 ?q row->oO row->I { S with rows:=S.rows++[row] } [(c,z,d)]->(∀S pend w,I S (pend++[w])->zp S/\w.1<S.q/\w.2.2<S.q/\@pend<=1000000/\I (S.takeIn pend w).1 (S.takeIn pend w).2/\μ (S.takeIn pend w).1 (S.takeIn pend w).2 < μ S (pend++[w]))->(∀S' a' H',dm a r H H'->aB C H' r S' a'->I S' []->(∀b,a'.own r b->a.own r b\/H b=ε)->Q .non H')->SR C vs H Q E_
def jL (h:i<n):tP n (i:ο)\i:=by unfold tP;rw[am1 ∅,am1 ∅,anb]
def Qy {l:θ (ο×η)}(a:(l.Α (·.1)).Nodup){q:ο×η}(h:q∈l):fW l q.1\q.2:=by
 induction l with
 |nil=>ext h
 |cons p l b=>
  unfold fW;rw[an0,anq]at a;cases e:p.1=q.1
  .cbv
  .rw[apl (by simpa using e)];rcases amW.mp h with rfl|h
   .rwa[absurd Τ e]
   .rwa[b a.2 h]
theorem xO:T.nj.Ok mg P w base 1 (Es A.aI):=by
 rwa[T.nj.on iF (λb9 AA outer s H vs Q E hr h=>?_)]
 .let[r,p,S,a,c,d,Τ,h,hw,hc,ok,sm,hP,np,jZ,k]:=h;let qH:=iZ hr
  erw[_,{{bH 3 iF.nd ((0<<<1)|||1),jS eK (kQ (0<<<1) (pv 1) set_list),bU am5 Τ (cD (cO (kY Τ) Τ T.ib anF #[3])) (du 4 iF.nd)
    {{bH 5 iF.nd (lO qH (pv 3) (pv 4) (λ_ _=>rfl)),bL (bI (aX j3 (pv 5) (pv 1) (bh _))
     {{a8 (Oy ((0<<<1)|||5) (fx dN (pv 4)) ⟨2222⟩)}}
     bp),a8 (df amX am2 am3 bS (pv 2) #[bA #[1,4,5]])}}}}]
  rwa[cF ?_];intro dA eD;let O:c<@S.ways:=by rw[hw.w];rwa[hc]
  let[wd,u,hWD]:=h.rW.at (rj O);let hl0:@(S.way c)<=100000:=Ep sm;erw[12,r,_,a.dx,112,h.ins,aO T,T.jX,jA^_,12,a.aW,11122,az.of h.hW,bW u];intro Y C;generalize e_:υ H Y _=H1;obtain⟨s1,ae8⟩:_/\_\(.dK (wK [])):=cW e_ C;let nn:=h.Er C;let nnp:Y≠p:=λz=>by let[I,q1,_]:=hP;cbv
  let h1:=h.Δ s1;let hi:c<@a.ws:=by rw[h.rW.1];rwa[O]
  erw[12,r,_,a.dx,112,h1.ins,aO T,T.jX,jA^_,12,a.aW,11,c,22,h1.hW,jL ([amE]▸hi)];let h2:=h1.Xa hi ae8 (λz=>nn (.Ζ (.Ζ z)));let u2:∀b o,b≠a.aW->H1 b\o->υ H1 a.aW (.Ε ((a.ws.Α V.Η).set c ?Y)) b\o:=λb o v e=>by rw[aq v];rwa[e]
  change υ H1 a.aW _=H2 at h2 u2 ⊢;let npW:p≠a.aW:=λz=>np (.Ζ (.ψ ([z]▸gQ)))
  let wdW:wd≠a.aW:=(h.ld gQ (dR ϻ)).Β;let M:H2 wd\(.dK (wK á)):=u2 β wdW (s1^hWD);generalize G3:({ a with ws:=a.ws.set c Y }:RA)=a2 at h2;let C7:aB A.aI H2 r (dh c S d []).1 a2:=h2
  let ae9:¬a2.own r wd:=λz=>by
   rw[<-G3]at z;rcases z with z|z|z
   .rwa[(h.rd (dR ϻ)) z.Β]
   .rwa[h.ld z (dR ϻ) Τ]
   .let ndp:=anC.mp h.oP;let z':wd∈a.ws.set c Y++a.gs:=z;rcases amO.mp z' with z|z
    .let[j,L]:=ant z;cases e:c=j
     .subst e;rw[anv hi]at L;have:Y=wd:=Za0 L;rw[ω,hWD]at C;ext C
     .rw[anQ e]at L;rwa[e ((apH hi ndp.1).mp (u.π L.Β))]
    .rwa[ndp.2.2 wd ϻ wd z Τ]
  let J:∀b,a2.own r b->a.own r b\/H b=ε:=λb f=>by
   rw[<-G3]at f;rcases f with f|f|f
   .rwa[.ψ (.ψ f)]
   .rwa[.ψ (.Ζ (.ψ f))]
   .let SQ:b∈a.ws.set c Y++a.gs:=f;rcases amO.mp SQ with f|f
    .rcases aoX f with f|rfl
     .rwa[.ψ (.Ζ (.Ζ Z5))]
     .rwa[.Ζ C]
    .rwa[.ψ (.Ζ (.Ζ (amN _ f)))]
  let zq:¬a2.own r p:=λz=>by
   rcases J p z with q|q
   .rwa[np q]
   .let[I,q1,_]:=hP;cbv
  let X8:dy H2 p (dh c S d []).2:=hP.keep (λo e=>u2 β npW (s1^e)) (λb R e=>u2 β (h.tl e gQ) (s1^e));let B2:sx a r p H H2:=λb o v _ e=>u2 β (λz=>v (.Ζ (.ψ ([z]▸gQ)))) (s1^e)
  rwa[12,wd,12,M,λl nl=>?_];let s3:=au.υ (o:=.Ε ((wK á).Α λF=>kV F.1)) nl;let U:υ H2 l (.Ε ((wK á).Α λF=>kV F.1)) l\(.Ε ((wK á).Α λF=>kV F.1)):=aj;let Ew:=C7.Er nl;let nlp:l≠p:=λz=>by let[I,q1,_]:=X8;cbv
  let nlw:l≠wd:=λz=>by cbv
  let nlH:H l=ε\/a.own r l:=by
   cases ho:a.own r l
   .rwa[.Ζ ho]
   .rwa[.ψ ?_]
    cases e:H l with
    |ε=>rfl
    |ι o=>rw[B2 l o ho nlp e]at nl;ext nl
  change υ H2 l _=H3 at s3 U ⊢;erw[l,2,{_,az.of U}];let hlen:@((wK á).Α λF=>kV F.1)=@(S.way c):=by rw[amE,C9]
  let' jo:η->St->Hp->ν:=λi σ G=>∃v4 v5,σ=#v[?r,.τ (c:ο),?p,?wd,v4,v5]/\aB A.aI G r (dh c S d ((S.way c).take i)).1 a2/\dy G p (dh c S d ((S.way c).take i)).2/\(∀b o,¬a2.own r b->b≠p->H3 b\o->G b\o)
  rwa[cS (xs:=(wK á).Α λF=>kV F.1) jo {ε,ε,2,C7.Δ s3,X8.keep (λo e=>s3^e) (λb R e=>s3^e),λb o _ _ e=>e} (λi σ G _ ζ=>by let[_,_,_,_,_,Z]:=ζ;rwa[az.of (Z β Ew nlp U)]) ?_ ?_]
  .intro i x σ G hx X;rwa[bu ?_];intro q_;let[v4,v5,Τ,N,y,Z]:=X;dsimp only[q_];clear q_;dsimp only[cU];rwa[Dn ?_];intro ic w_2 Ey;let D:i<@(S.way c):=by rw[<-hlen];rwa[(amF.mp hx).1]
   let hg:á[i]?\(á[i]'D):=amB D
   change á[i]'D=w at hg
   let ex:x=.τ w.1:=by unfold wK at hx;rw[amQ,amQ,hg]at hx;rwa[(Za0 hx).Β]
   subst ex;let hm:=amD hg;let uH:(S.way c).take (i+ 1)=(S.way c).take i++[w]:=by rw[anD,hg];rfl
   let afa:G wd\(.dK (wK á)):=Z β ae9 (λz=>by let[I,q1,_]:=X8;cbv) (s3^M);let hv:bG (wK á) (Sum.ψ w.1)\(.τ (w.2:ο)):=by rw[mK,Qy ok.nd hm];rfl
   let vV:=ok.lt w hm;let hol:=(iu c S d ((S.way c).take i)).1;erw[1212,wd,12,(by have:=dB.k (k:=Sum.ψ w.1) afa;rw[hv]at ω;rwa[ω])]
   let' Qz:St->Hp->ν:=λ fH H'=>fH=#v[?r,.τ (c:ο),?p,?wd,.τ w.1,.τ (w.2:ο)]/\aB A.aI H' r (dh c S d ((S.way c).take (i+ 1))).1 a2/\dy H' p (dh c S d ((S.way c).take i)).2/\(∀b o,¬a2.own r b->b≠p->H3 b\o->H' b\o)
   erw[Qz,5]
   .rwa[bV ?_];intro ic;rwa[1212212,cw (λyo=>?_) (λyo=>?_)]
    .let n:w.2≠c:=λz=>by cbv
     let hd2:w.2<(dh c S d ((S.way c).take i)).1.ways.Ξ:=by rw[hol,hw.w];rwa[vV]
     let[pd,B,hPD]:=N.rW.at (rj hd2)
     let KW:((dh c S d ((S.way c).take i)).1.by w.2 (-w.1)).isSome=ρ:=by
      rw[Aa O _ (λq hq=>[hw.w]▸ok.lt q (aoZ hq)),amY]
      .rwa[ok.bk w hm n]
      .rintro (q|⟨q,hq,q1,q2⟩)
       .rwa[n q]
       .let[j,L]:=ant hq
        let hji:j<i:=by have:=(amF.mp L).1;rw[anc]at ω;ext
        rw[ao2 hji]at L;let e1:((S.way c).Α (·.1))[j]?\q.1:=by rw[amQ,L];rfl
        let e2:((S.way c).Α (·.1))[i]?\w.1:=by rw[amQ,hg];rfl
        let e3:q.1=w.1:=∅
        rw[e3]at e1;have:=(apH ([amE]▸D) ok.nd).mp (e2.π e1.Β);ext
     let[m,G4]:=apY.mp KW;erw[12,r,_,a2.dx,112,N.ins,aO T,T.jX,jA^_,12,a2.aW,11122,az.of N.hW,bW B,pd,2,.ψ {_,.ψ hPD},12121,Sum.ψ (-w.1),.τ (m:ο),hPD,25]
     .rw[mK];show ((dh c S d ((S.way c).take i)).1.by w.2 (-w.1)).Α _=_;rw[G4];rfl
     .rw[Uz];rwa[25,y.keep (λo e=>?_) (λb R e=>?_),λb o v g e=>?_]
      .rw[uH,jg];unfold ku;simp only[n,aqi,ao7,ne_eq];rwa[N.De B _]
      .rw[aq (λz=>zq (.Ζ (.Ζ (dR ([z]▸amD B)))))];rwa[e]
      .rw[aq (N.td e (dR (amD B)))];rwa[e]
      .rw[aq (λz=>v (.Ζ (.Ζ (dR ([z]▸amD B)))))];rwa[Z b o v g e]
    .let n:w.2=c:=by
      cases e:w.2=c
      .rwa[e]
      .cbv
     rwa[25,y,Z];rw[uH,jg];unfold ku
     cbv
   rintro fH H5 ⟨rfl,h5,hP5,kk5⟩;let[I,Ml,Ez]:=hP5
   let X9:@(I.Α V.Η)<sizeLine:=by rw[amE,Ez.1,Bc,amG,amE,anc];rwa[amS (show _<=1100000 by omega) ⋯]
   rwa[12,.ψ {21,az.of Ml},121212,(Za4 3),λt nt=>?_];generalize e_:υ H5 t _=H6;let[s6,Mm]:=cW e_ nt;erw[p,1122,s6^Ml,X9];let kp:∀b o,b≠p->H6 b\o->υ H6 p (.Ε (I.Α V.Η++[?t])) b\o:=λb o v e=>by rw[aq v];rwa[e]
   let Ya:∀b R,H6 b\.Θ R->υ H6 p (.Ε (I.Α V.Η++[?t])) b\(.Θ R):=λb R e=>kp β (bF e (s6^Ml) (by cbv)) e
   rwa[112,(h5.Δ s6).keep (λb o f e=>kp b o (λz=>zq (z ▸ f)) e) Ya,{I++[t],55},λb o v g e=>kp b o g (s6^kk5 b o v g e)]
   .rw[aj,am8];rfl
   .rw[uH,jg];rwa[(Ez.Ρ λq w' _ _ e=>Ya^s6^e).snoc (Ya^Mm)]
  .intro σ G X;rwa[bu ?_];intro q_;let[v4,v5,Τ,N,y,Z]:=X;dsimp only[q_];clear q_;rw[hlen,anJ]at N y;rwa[k a2 G (λb o v g e=>?_) N y J];let e2:=B2 b o v g e;rwa[Z b o (λz=>by cbv) g (s3^e2)]
def zr (h:n<@S.called):S.called[n]?\(S.cM n):=by unfold RS.cM;cbv
def pH (h:n<@S.bj):S.bj[n]?\(S.ay n):=by unfold RS.ay;cbv
def Mp (h:∀l∈S.called,@l<=m):@(S.cM n)<=m:=by
 unfold RS.cM;rw[amH]
 cases e:S.called[n]? with
 |ε=>exact ani _
 |ι l=>exact h l Ÿ
theorem xP (x:η):∀(l a:Zh),@(l.foldl (λa n=>a.set n x) a)=@a
 |[],_=>rfl
 |n::l,a=>by rw[aoO,xP x l,am7]
def ints_set (ns:Zg)(i:η)(z:ο):(ao ns).set i (.τ z)=ao (ns.set i z):=by unfold ao;rw[ap2]
def kI:T.gx.Ok mg P w base 2 (G0 A.aI):=by
 rwa[T.gx.on fb (λb9 AA outer s H vs Q E hr h=>?_)]
 .let[r,p,S,a,c,x,y,z,f,Τ,h,hw,hx,hy,hxy,ok,Mq,sm,hP,np,jZ,k]:=h
  erw[_,{{bH 6 fb.nd (aY (JV Τ) Τ T.abY PyProof.Rows.boot_min #[3,4]),bH 7 fb.nd (aY (JT Τ) Τ T.Jc PyProof.Rows.boot_max #[3,4]),a8 (df amX am2 am3 bS (0<<<1) #[bA #[fD (l:=[109,101,101,116]) Τ,1,2,6,7]]),a8 (df amX am2 am3 bS (0<<<1) #[7]),bU am5 Τ (cD ((0<<<1)|||7)) (du 8 fb.nd)
    {{jS (pv 6) (kQ (0<<<1) (pv 8) set_list)}},a8 (df amX ap4 ap5 A0 ((0<<<1)|||6) #[(0<<<1)|||7]),a8 (pm (pv 0) (aO T) T.nj (xO T) hr #[7,5])}}]
  rwa[xh ?_];intro zo rn pG jn dA eD;let C:(if (y:ο)<(x:ο) then (y:ο) else (x:ο))=((min x y:η):ο):=by split <;> ext
  let F:(if (y:ο) > (x:ο) then (y:ο) else (x:ο))=((max x y:η):ο):=by split <;> ext
  let hlm:min x y<max x y:=∅
  let I:max x y<S.q:=∅
  generalize ev:min x y=u at C hlm;let ek:∀a' O,sx a r p H O->aB A.aI O r ((S.joined c z u Ψ).qK Ψ f).1 a'->dy O p ((S.joined c z u Ψ).qK Ψ f).2->(∀b,a'.own r b->a.own r b\/H b=ε)->Q .non O:=λa' O h1 N M g=>k a' O h1 (by unfold RS.meet;rw[ev];rwa[N]) (by unfold RS.meet;rw[ev];rwa[M]) g
  clear k;change max x y=v at F hlm I ok Mq ek;erw[1212112];rw[C];erw[1212112];rw[F];let lR:@(a.rs.Α V.Η)<sizeLine:=by rw[amE,h.rR.1];rwa[amS sm.r ⋯]
  rwa[12,r,_,a.dx,112,h.ins,aO T,T.uC,vg^_,.ψ {21,az.of h.hR},12121212,(Za4 5),λt nt=>{a.aR,1122,au.υ nt β h.hR,lR,5}];generalize e_:υ H t _=H1;let[s1,SV]:=cW e_ nt
  let Kv:cy H1 4 ?t (iO c z u v):=by
   rwa[.t SV Τ λj w d C F=>?_]
   rcases j with _|_|_|_|_|j
   .simp at C F;subst C F;rwa[.s]
   .simp at C F;subst C F;rwa[.i]
   .simp at C F;subst C F;rwa[.i]
   .simp at C F;subst C F;rwa[.i]
   .simp at C F;subst C F;rwa[.i]
   .simp at C
  let nl:oO (iO c z u v):=.t (by show 5<=100000;decide) λd hd=>by
   simp only[amW,anK,apb]at hd;rcases hd with rfl|rfl|rfl|rfl|rfl
   .rwa[.s]
   .rwa[.i]
   .rwa[.i]
   .rwa[.i]
   .rwa[.i]
  let N:=(h.Δ s1).Dd Kv nl;let B2:sx a r p H (υ H1 a.aR (.Ε (a.rs.Α V.Η++[?t]))):=λb o D _ e=>by rw[aq (λz=>D (.Ζ (.ψ ([z]▸gP))))];rwa[s1^e]
  let npl:∀{b},b∈a.lists->p≠b:=λhb z=>np (.Ζ (.ψ ([z]▸hb)))
  let P2:dy (υ H1 a.aR (.Ε (a.rs.Α V.Η++[?t]))) p f:=hP.keep (λo e=>[aq (npl gP)]▸s1^e) (λb xs e=>[aq (h.tl e gP)]▸s1^e);change υ H1 a.aR _=H2 at N B2 P2 ⊢;generalize G3:({ a with rs:=a.rs++[t] }:RA)=a2 at N;let Y:∀b,a2.own r b↔a.own r b:=λb=>by rw[<-G3];rwa[Iff.rfl]
  let zq:¬a2.own r p:=λz=>np ((Y p).mp z)
  let G:∀{b},b∈a2.lists->p≠b:=λhb z=>zq (.Ζ (.ψ ([z]▸hb)))
  let lN:@(ao Ŭ)<sizeLine:=by rw[aD,cK];rwa[amS sm.n ⋯]
  erw[12,r,_,a2.dx,112,N.ins,aO T,T.uE,vi^_,.ψ {21,az.of N.hN},12,a2.aN,1122,N.hN,lN];let eN:ao Ŭ++[V.τ (v:ο)]=ao (nI (S.bq++[v])):=by rw[jU,ints_app];rfl
  let M:=N.Ux (S.bq++[v]);rw[<-eN]at M;let B3:sx a r p H (υ H2 a2.aN (.Ε (ao Ŭ++[V.τ (v:ο)]))):=λb o D B e=>by rw[aq (λz=>D ((Y b).mp (.Ζ (.ψ ([z]▸i3)))))];rwa[B2 b o D B e]
  let P3:dy (υ H2 a2.aN (.Ε (ao Ŭ++[V.τ (v:ο)]))) p f:=P2.keep (λo e=>[aq (G i3)]▸e) (λb xs e=>[aq (N.tl e i3)]▸e);show _;change υ H2 a2.aN _=H3 at M B3 P3 ⊢;let[pv,J,hPV]:=M.rC.at (show S.called[v]?=ι (S.cM v) from zr ([hw.c]▸I));let mpv:=amD J;erw[12,r,_,a2.dx,112,M.ins,aO T,T.pz,pT^_,12,a2.aC,11122,az.of M.hC,bW J,pv,2,{_,az.of hPV}];obtain⟨-,-,-,-,-,nc⟩:=yw M.jN;let npE:pv≠a2.aE:=(nc pv mpv).2.2.2.1
  let' jo:η->St->Hp->ν:=λi σ L=>∃v8,σ=#v[?r,.τ (c:ο),.τ z,.τ (x:ο),.τ (y:ο),?p,.τ (u:ο),.τ (v:ο),v8]/\aB A.aI L r { S with rows:=S.rows++[iO c z u v],bq:=S.bq++[v],bj:=((S.cM v).take i).foldl (λU n=>U.set n u) S.bj } a2/\sx a r p H L/\dy L p f
  rwa[cS (xs:=ao (nI (S.cM v))) jo {ε,2,M,B3,P3} (λi σ L _ ⟨11,g,11⟩=>az.of (g.rC.2 v pv _ J (show S.called[v]?=ι (S.cM v) from zr ([hw.c]▸I)))) ?_ ?_]
  .rintro i w σ L hw4 ⟨v8,Τ,g,B4,P4⟩;dsimp only[cU];rwa[bV ?_];intro ic;let[m,Τ,Z]:=bR hw4;unfold nI at Z;rw[amQ]at Z
   cases hn:(S.cM v)[i]? with
   |ε=>rw[hn]at Z;ext Z
   |ι n=>
    rw[hn]at Z;obtain rfl:(n:ο)=m:=Za0 Z;let wx:=Mq n (amD hn);let hel:@(((S.cM v).take i).foldl (λU n=>U.set n u) S.bj)=S.q:=by rw[xP,hw.e]
    erw[1212,r,_,a2.dx,112,g.ins,aO T,T.kf,km^_,12,a2.aE,11,n,22,g.hE,jL ([aD,cK,hel]▸wx)];rw[ints_set,WY];let h5:=g.Bb ((((S.cM v).take i).foldl (λU n=>U.set n u) S.bj).set n u);rwa[125,λb o D B e=>?_,P4.keep (λo e=>?_) (λb xs e=>?_)]
    .let uH:(S.cM v).take (i+ 1)=(S.cM v).take i++[n]:=by rw[anD,hn];rfl
     rw[uH,ao6];rwa[h5]
    .rw[aq (λz=>D ((Y b).mp (.Ζ (.ψ ([z]▸iB)))))];rwa[B4 b o D B e]
    .rw[aq (G iB)];rwa[e]
    .rw[aq (g.tl e iB)];rwa[e]
  .rintro σ L ⟨v8,Τ,g,B4,P4⟩;rw[aD,cK,anJ]at g;let Yb:u<@S.called:=by rw[hw.c];ext
   let hvl:v<@S.called:=by rw[hw.c];rwa[I]
   let[pu,X,hPU]:=g.rC.at (show S.called[u]?=ι (S.cM u) from zr Yb);let afb:=g.rC.2 v pv _ J (show S.called[v]?=ι (S.cM v) from zr hvl);let b1:@(S.cM u)<=1000000:=Mp sm.c;let b2:@(S.cM v)<=1000000:=Mp sm.c;erw[12,r,_,a2.dx,112,g.ins,aO T,T.pz,pT^_,12,a2.aC,11122,az.of g.hC,bW X,.ψ {21,az.of hPU}];erw[12,r,_,a2.dx,112,g.ins,aO T,T.pz,pT^_,12,a2.aC,11122,az.of g.hC,bW J,pu,pv,1122,hPU,afb,5]
   .rw[aD,aD,cK,cK];rwa[amM (show _<=2000000 by omega) ⋯]
   let eC:ao (nI (S.cM u))++ao (nI (S.cM v))=ao (nI (S.cM u++S.cM v)):=by rw[jU,ints_app]
   rw[eC];let h5:=g.KQ X (S.cM u++S.cM v);let R:=hH (amD X);let B5:sx a r p H (υ L pu (.Ε (ao (nI (S.cM u++S.cM v))))):=λb o D B e=>by rw[aq (λz=>D ((Y b).mp (.Ζ (.ψ ([z]▸R)))))];rwa[B4 b o D B e]
   let P5:dy (υ L pu (.Ε (ao (nI (S.cM u++S.cM v))))) p f:=P4.keep (λo e=>[aq (G R)]▸e) (λb xs e=>[aq (g.tl e R)]▸e);change υ L pu _=H5 at h5 B5 P5 ⊢;let h5':aB A.aI H5 r Ë a2:=h5;rwa[12,r,a2.dx,12,h5'.ins,cY γ ⋯,1212,r,p,S.joined c z u v,a2,v,f,2,h5',{hw.w,hw.g,55},I,{ok.nd,ok.lt,ok.bk},sm.w,P5,zq,jZ,λa' O b' r' p' o'=>ek a' O (λb o D B e=>b' b o (λz=>D ((Y b).mp z)) B (B5 b o D B e)) r' p' (λb hb=>?_)]
   .show @((S.cM v).foldl (λU n=>U.set n u) S.bj)=S.q;rw[xP];rwa[hw.e]
   .show @(S.called.set u (S.cM u++S.cM v))=S.q;rw[am7];rwa[hw.c]
   .rcases o' b hb with q|q
    .rwa[.ψ ((Y b).mp q)]
    .cases ho:a.own r b
     .rwa[.ψ ho]
     .rwa[.Ζ ?_]
      cases e:H b with
      |ε=>rfl
      |ι o=>
       cases hbp:b=p
       .let[qs,q1,_]:=P5
        cbv
       .rw[B5 b o ho hbp e]at q;ext q
def xQ:T.ni.Ok mg P w base 3 (Eu A.aI):=by
 rwa[T.ni.on eT (λb9 AA N s H vs Q E J h=>?_)]
 .let[r,t,p,S,a,w,i,Τ,h,ht,ok,F,x,hP,L,v,k]:=h;let y:=iZ J
  erw[_,{{bH 3 eT.nd ((0<<<1)|||(1&&&ak)),bH 4 eT.nd (1&&&ak),bH 5 eT.nd ((0<<<1)|||(1&&&ak)),bH 6 eT.nd (oN y ((0<<<1)|||3) (pv 4) (pv 5) ⟨2222⟩),bH 7 eT.nd (oN y ((0<<<1)|||5) (fx dN (pv 4)) (pv 3) ⟨2222⟩),bL (bI (aX j3 (pv 6) (pv 5) (bh _))
    {{a8 (pm (pv 0) (aO T) T.gx (kI T) J #[3,4,6,5,2])}}
    {{bL (bI (aX j3 (pv 7) (pv 3) (bh _))
     {{a8 (pm (pv 0) (aO T) T.gx (kI T) J #[5,fx dN (pv 4),7,3,2])}}
     {{a8 (pm (pv 0) (aO T) T.nY (tj T) J #[3,4,5])}})}})}}]
  rwa[xg ?_];intro rn pG jn dA eD;let O:bD K H t [.τ (w.1:ο),.τ w.2.1,.τ (w.2.2:ο)]:=bD.of ht;let B:∀{c:η},c<S.q->S.bj[c]?\ľ:=λ{c} j=>pH ([ok.wf.e]▸j)
  let j:=ok.el _ F;let hd:=ok.el _ x;erw[12,r,_,a.dx,112,h.ins,aO T,T.kf,km^_,12,t,11122,O,(rfl:pS _ (0:ο)=_),a.aE,11122,az.of h.hE,cG (bT (kT (B F)))];erw[12,t,11122,O,(rfl:pS _ (1:ο)=_)];erw[12,r,_,a.dx,112,h.ins,aO T,T.kf,km^_,12,t,11122,O,(rfl:pS _ (2:ο)=_),a.aE,11122,az.of h.hE,cG (bT (kT (B x)))];let g:=k;clear k;unfold RS.takeIn at g;change S.ay w.1=c at j g ⊢;change S.ay w.2.2=d at hd g ⊢;change w.2.1=z at g ⊢;let[pc,U,G]:=h.rW.at (rj (S:=S) (c:=c) ([ok.wf.w]▸j));let[pd,Z,D]:=h.rW.at (rj (S:=S) (c:=d) ([ok.wf.w]▸hd));let gd:∀(o:Zi)(n:η),(o.Α λr:η=>V.τ (r:ο)).Λ (.τ (n:ο))=V.τ ((o.Λ n:η):ο):=λo n=>by cases o <;> rfl
  erw[12,r,_,a.dx,112,h.ins,aO T,T.jX,jA^_,12,a.aW,11122,az.of h.hW,bW U,pc,2,.ψ {_,.ψ G},12121,dB.k (k:=Sum.ψ z) G];rw[mK,gd];show _;erw[12,r,_,a.dx,112,h.ins,aO T,T.jX,jA^_,12,a.aW,11122,az.of h.hW,bW Z,pd,2,.ψ {_,.ψ D},1212121,dB.k (k:=Sum.ψ (-z)) D];rw[mK,gd];let e1:fW á z=S.by c z:=rfl;let e2:fW (S.way d) (-z)=S.by d (-z):=rfl;rw[e1,e2]
  let hl:(S.by c z).Λ d<S.q:=by
   cases e:S.by c z with
   |ε=>exact hd
   |ι m=>exact ok.bl γ e
  let hf:(S.by d (-z)).Λ c<S.q:=by
   cases e:S.by d (-z) with
   |ε=>exact j
   |ι m=>exact ok.bl γ e
  change (S.by c z).Λ d=l at hl g ⊢;change (S.by d (-z)).Λ c=f at hf g ⊢
  let ne:∀{m n:η},m≠n->(!decide (V.τ (m:ο)=V.τ (n:ο)))=ρ:=λ{m n} q=>by cbv
  rwa[λ_ I=>Q .non I,5,λ_ _ q=>q];cases C:l≠d
  .rw[am1 C]at g;erw[1212212];rw[ne C];rwa[gC ?_];rwa[12,r,a.dx,12,h.ins,cY γ ⋯,1212121212,r,p,S,a,c,l,d,z,i,2,h,ok.wf,hl,hd,C,ok.off _ ∅,λn Y=>ok.cl _ n Y,ok.sm,hP,L,v,g]
  .let X:l=d:=apI.mp C;rw[amY C]at g;rwa[1212212,nM (by rw[X]) ?_];rwa[λ_ I=>Q .non I,5,λ_ _ q=>q];cases u:f≠c
   .rw[am1 u]at g;erw[1212212];rw[ne u];rwa[gC ?_];rwa[12,r,a.dx,12,h.ins,cY γ ⋯,121212121212,r,p,S,a,d,f,c,-z,i,2,h,ok.wf,hf,j,u,ok.off _ ∅,λn Y=>ok.cl _ n Y,ok.sm,hP,L,v,g]
   .let R:f=c:=apI.mp u;rw[amY u]at g;rwa[1212212,nM (by rw[R]) ?_];rwa[12,r,a.dx,12,h.ins,cY γ ⋯,121212,r,S,a,c,d,z,2,h,ok.wf,j,hd,ok.sm.w,λI M r'=>g a I (λb o nb _ e=>M b o nb e) r' (hP.keep (λo e=>M β L e) (λb xs e=>M β (h.vj e) e)) λb hb=>.ψ hb]
def EA:T.uz.Ok mg P w base 5 (SR A.aI):=by
 rwa[T.uz.on uG (λb9 AA outer s H vs Q E hr h=>?_)]
 .let[r,q,S,a,c,d,z,row,I,μ,Τ,h,ro,hq,x,hI,step,k]:=h
  erw[_,{{a8 (df amX am2 am3 bS (0<<<1) #[pc T.own (Bw T) hr #[4]]),bH 5 uG.nd (bN #[bA #[1,2,3]]),bL (ja am5 (CK (pv 5) (λ_=>rfl))
    {{a8 (pm (pv 0) (aO T) T.ni (xQ T) hr #[J9 amX PySem.F.slot_list_pop PySem.F.type_list_pop Ka (pv 5),5])}})}}]
  rwa[cF ?_];intro dA eD;let lR:@(a.rs.Α V.Η)<sizeLine:=by rw[amE,h.rR.1];rwa[amS ro ⋯]
  obtain⟨ds,rfl⟩:∃ds,row=.t ds:=by
   cases hq with
   |t=>rwa[12]
   |l=>ext x
  rwa[12,r,_,a.dx,112,h.ins,aO T,T.uC,vg^_,.ψ {21,az.of h.hR},12,?q,.t ds,2,hq,x,λv' H1 s1 hv'=>?_];obtain⟨q',rfl⟩:∃q',v'=?q':=by cases hv' with|t=>exact{_,Τ}
  erw[a.aR,1122,s1^h.hR,lR];let h2:=(h.Δ s1).Dd (hv'.le ⋯) x;let B2:dm a r H (υ H1 a.aR (.Ε (a.rs.Α V.Η++[?q']))):=λb o j e=>by rw[aq (λz=>j (.Ζ (.ψ ([z]▸gP))))];rwa[s1^e]
  change υ H1 a.aR _=H2 at h2 B2 ⊢;generalize G3:({ a with rs:=a.rs++[q'] }:RA)=a2 at h2;let eo:∀b,a2.own r b↔a.own r b:=λb=>by rw[<-G3];rwa[Iff.rfl]
  rwa[121212,(Za4 3),λt nt=>?_];generalize e_:υ H2 t _=H3;let[s3,zt]:=cW e_ nt;rwa[(Za4 1),λp O=>?_];generalize e_:υ H3 p _=H4;let[s4,hp4]:=cW e_ O;let Mr:¬a2.own r p:=(h2.Δ s3).Er O
  let Z:H p=ε:=by
   cases e:H p with
   |ε=>rfl
   |ι o=>have:=s3^(B2 p o (λz=>Mr ((eo p).mpr z)) e);rw[O]at ω;ext ω
  let B4:dm a r H H4:=λb o j e=>s4^s3^B2 b o j e
  let P4:dy H4 p [(c,z,d)]:={[t],hp4,Each.snoc (ps:=[]) (xs:=[]) {2,λi p d h=>by simp at h} (s4^zt)};rwa[λ_ Y=>Q .non Y,5,λ_ _ q=>q];erw[λm σ n=>∃C J pend,m=μ C pend/\σ=#v[?r,.τ (c:ο),.τ z,.τ (d:ο),?q,?p]/\aB A.aI n r C J/\dy n p pend/\I C pend/\¬J.own r p/\(∀b o,¬a.own r b->b≠p->H b\o->n b\o)/\∀b,J.own r b->a.own r b\/H b=ε,⟨11,a2,[(c,z,d)],22,(h2.Δ s3).Δ s4,P4,hI,Mr,λb o j _ e=>B4 b o j e,λb G=>.ψ ((eo b).mp G)⟩];intro m σ n EB;rwa[bu ?_];intro q_;let[C,J,pend,Τ,Τ,h5,P5,I5,R,B5,O5]:=EB;dsimp only[q_];clear q_;let[X,B,y]:=id P5;erw[12,!(X.Α V.Η).isEmpty,.ψ {_,az.of B,2}];cases F:pend=[]
  .subst F;let eq0:X=[]:=aoF y.1;subst eq0;rwa[dc ?_];rwa[k C J n (λb o j e=>B5 b o j (λz=>by rw[z,Z]at e;ext e) e) h5 I5 O5]
  .let L:=aos F;change pend.getLast F=w at L;change pend.dropLast=pre at L;subst L;let N:@X=@pre+ 1:=by rw[y.1,amG];rfl
   let hqn:X≠[]:=λz=>by rw[z]at N;ext N
   let v:=aos hqn;change X.getLast hqn=D at v;change X.dropLast=f at v;subst v;let jZ:@f=@pre:=by rw[amG]at N;have:@([D]:Zn)=1:=rfl;ext
   let[ok,hw1,hw3,G,hI2,SW]:=step C pre w I5;let htq:n D\(.Θ [.τ (w.1:ο),.τ w.2.1,.τ (w.2.2:ο)]):=y.2 @pre D w (by rw[<-jZ,amU Φ,aoi];rfl) (by rw[amU Φ,aoi];rfl);let ht:(!((f++[D]).Α V.Η).isEmpty)=ρ:=by simp
   rw[ht];rwa[gC ?_];erw[λ fH Y=>∃S6 a6 g,μ S6 g < μ C (pre++[w])/\fH=#v[?r,.τ (c:ο),.τ z,.τ (d:ο),?q,?p]/\aB A.aI Y r S6 a6/\dy Y p g/\I S6 g/\¬a6.own r p/\(∀b o,¬a.own r b->b≠p->H b\o->Y b\o)/\∀b,a6.own r b->a.own r b\/H b=ε,λ fH Y ζ=>by let[S6,a6,g,lt,e1,e2,e3,e4,e5,e6,e7]:=ζ;rwa[_,lt,S6,a6,g,2,e1,e2,e3,e4,e5,e6,e7]];erw[12,r,J.dx,12,h5.ins,cY γ ⋯,12,.ψ {21,az.of B},p,_,?D,22,B,5]
   .rw[am8,amG];show (l6++[V.Η D])[@(f.Α V.Η)+ 1 - 1]?=_
    rw[η.add_sub_cancel,amU Φ,aoi];rfl
   let Yc:((f++[D]).Α V.Η).dropLast=f.Α V.Η:=by rw[am8];rwa[θ.dropLast_concat]
   rw[Yc];let kp:∀b o,b≠p->n b\o->υ n p (.Ε l6) b\o:=λb o j e=>by rw[aq j];rwa[e]
   let kt:∀b xs,n b\.Θ xs->υ n p (.Ε l6) b\(.Θ xs):=λb xs e=>kp b _ (bF e B f!"") e
   let h6:=h5.keep (λb o G e=>kp b o (λz=>R (z ▸ G)) e) kt;let P6:dy (υ n p (.Ε l6)) p pre:={f,aj,jZ,λi t' w' e1 e2=>kt^(y.2 i t' w' ([amP (amF.mp e1).1]▸e1) ([amP (amF.mp e2).1]▸e2))};change υ n p _=H6 at kp kt h6 P6 ⊢;rwa[12,r,D,p,C,J,w,pre,2,h6,kt^htq,ok,hw1,hw3,P6,R,G,λa7 H7 b7 h7 P7 o7=>?_];rwa[_,a7,_,SW,2,h7,P7,hI2,λz=>?_,λb o j U e=>b7 b o (λz=>?_) U (kp b o U (B5 b o j U e)),λb G=>?_]
   .rcases o7 p z with u|u
    .rwa[R u]
    .let[_,q2,_]:=P6;rw[u]at q2;ext q2
   .rcases O5 b z with u|u
    .rwa[j u]
    .rw[u]at e;ext e
   .rcases o7 b G with u|u
    .rwa[O5 b u]
    .cases ho:a.own r b
     .rwa[.ψ ho]
     .rwa[.Ζ ?_]
      cases e:H b with
      |ε=>rfl
      |ι o=>
       cases M:b=p
       .rw[M,Z]at e;ext e
       .rw[kp b o M (B5 b o ho M e)]at u;ext u
def Vf {a:Type}{ws:θ a}{z:a}(h:ws[i]?\z):ws.drop i=z::ws.drop (i+ 1):=by let b:=(amF.mp h).1;rw[aoY b,(amF.mp h).2]
inductive EC (C:Zs)(vs:Zb)(H:Hp)(Q:VK)(E_:XK):ν
 |mk (r:Zs)(S:RS)(a:RA)(c:η)(t:Zs)(ws:Zg):vs=[?r,.τ c,?t]->aB C H r S a->S.Wf->c<S.q->(∀c z d,S.by c z=ι d->d<S.q)->H t\.Θ (ao ws)->@ws<=1000->(∀l H',au H H'->H' l\.Ε (ao (nI (c::cH S.by c ws)))->Q ?l H')->EC C vs H Q E_
def BD:T.walked.Ok P w base 2 (EC A.aI):=by
 rwa[T.walked.on qd (λb9 AA I s H vs Q E hr h=>?_)]
 .let[r,S,a,c,t,ws,Τ,h,hw,hc,G,U,Z,k]:=h
  refine{_,{{bH 3 qd.nd (bN #[1]),bU am5 Τ i8 (du 4 qd.nd)
    {{bH 1 qd.nd (pm (pv 0) (aO T) T.jk (iU T) hr #[1,4]),bI (aX oz (pv 1) dJ (bh _))
     {{wL}}
     bp,a8 (df amX am2 am3 bS (pv 3) #[1])}},bf (pv 3)}},?_}
  rwa[cF ?_];intro dA eD;rwa[12,(Za4 1),λl F=>?_];generalize e_:υ H l _=Y;obtain⟨M,C⟩:_/\_\(.Ε (ao (nI [c]))):=cW e_ F;let O:¬a.own r l:=h.Er F;let y:=M^U;let J:t≠l:=ax U F;erw[12,t,2,{_,bD.of y}]
  let fin:∀{f:Hp}{pre:Zh},(∀b o,b≠l->Y b\o->f b\o)->f l\.Ε (ao (nI (c::pre)))->cH S.by c ws=pre->Q ?l f:=λ{f pre} g d e=>by subst e;rwa[k l f (λb o e=>g b o (ax e F) (M^e)) d]
  let' u:η->St->Hp->ν:=λi D f=>∃cur:η,∃pre N,D=#v[?r,.τ (cur:ο),?t,?l,N]/\cur<S.q/\@pre=i/\cH S.by c ws=pre++cH S.by cur (ws.drop i)/\(∀b o,b≠l->Y b\o->f b\o)/\f l\(.Ε (ao (nI (c::pre))))
  rwa[cS (xs:=ao ws) u {c,[],ε,2,hc,22,λ_ _ _ e=>e,C} (λi D f _ ζ=>by let[_,_,_,_,_,_,_,g,_]:=ζ;rwa[bD.of (g β J y)]) ?_ ?_]
  .intro i x D f hx m;rwa[bu ?_];intro B;let[cur,pre,N,Τ,v,p,j,g,d]:=m;dsimp only[B];clear B;dsimp only[cU];rwa[Dn ?_];intro ic w_2 Ey;let[z,Τ,X]:=bR hx;let hi:i<@ws:=(amF.mp X).1;let R:aB A.aI f r S a:=(h.Δ M).keep (λb o hb e=>g b o (λq=>O (q ▸ hb)) e) (λb xs e=>g b _ (bF e C (by cbv)) e);rw[Vf X]at j;erw[12,r,a.dx,12,R.ins,cY γ ⋯,1212,r,S,a,cur,z,2,R,by rw[hw.w];ext]
   cases L:S.by cur z with
   |ε=>rwa[12212,gC ?_];rw[Bj L,am9]at j;rwa[12,fin g d j]
   |ι b=>
    rw[show (Ο.Α (λn:η=>V.τ (n:ο)) (ι b)).Λ V.non=V.τ (b:ο) from rfl];rwa[12212,dc ?_];rw[pW L]at j;erw[12,.ψ {21,az.of d},12,l,1122,d,5]
    .rw[aD,cK,amT,p];rwa[amS (show i+ 1<=1001 by omega) ⋯]
    erw[b,pre++[b],12,G γ L,by rw[amG,p];rfl,by rw[j,ans];rfl,λx o n e=>[aq n]▸g x o n e];rw[aj,<-apc,jU,ints_app];rfl
  .intro D f m;rwa[bu ?_];intro B;let[cur,pre,N,Τ,v,p,j,g,d]:=m;dsimp only[B];clear B;rw[aD,θ.drop_length]at j;rwa[12,fin g d ([j]▸am9 _)]
def jq (g:Gg)(a:Zs):θ (Ι×V):=[(ô,.τ g.which),(ß,?a),(æ,.τ g.start),(š,.τ g.front),(Ĭ,.τ g.first),(Z2,.τ g.bK),("last",.τ g.last)]
def QB (g:Gg)(a:Zs):(jq g a).lookup (ô:Ι)\(.τ g.which):=by kernel_rfl
def lZ (g:Gg)(a:Zs):(jq g a).lookup (ß:Ι)\?a:=by kernel_rfl
def xR (g:Gg)(a:Zs):(jq g a).lookup (æ:Ι)\(.τ g.start):=by kernel_rfl
def l0 (g:Gg)(a:Zs):(jq g a).lookup (š:Ι)\(.τ g.front):=by kernel_rfl
def iG (g:Gg)(a:Zs):(jq g a).lookup (Ĭ:Ι)\(.τ g.first):=by kernel_rfl
def mh (g:Gg)(a:Zs):(jq g a).lookup (Z2:Ι)\(.τ g.bK):=by kernel_rfl
def mj (g:Gg)(a:Zs):(jq g a).lookup ("last":Ι)\(.τ g.last):=by kernel_rfl
def SX {g:Gg}(h:x∉([ô,ß,æ,š,Ĭ,Z2,"last"]:Zp)):(jq g a).lookup x=ε:=by simp only[amW,anK,apb,not_or]at h;let[e,c,j,d,i,b,f]:=h;unfold jq;simp only[θ.lookup,anf.mpr e,anf.mpr c,anf.mpr j,anf.mpr d,anf.mpr i,anf.mpr b,anf.mpr f]
def ED (g:Gg)(a:Zs)(n:η):bJ š (.τ n) (jq g a)=jq { g with front:=n } a:=by kernel_rfl
def QC (g:Gg)(a:Zs)(n:η):bJ Ĭ (.τ n) (jq g a)=jq { g with first:=n } a:=by kernel_rfl
def G5 (g:Gg)(a:Zs)(n:η):bJ Z2 (.τ n) (jq g a)=jq { g with bK:=n } a:=by kernel_rfl
def Vg (g:Gg)(a:Zs)(n:η):bJ "last" (.τ n) (jq g a)=jq { g with last:=n } a:=by kernel_rfl
structure e8 (CG:Zs)(H:Hp)(p dx wa:Zs)(g:Gg):ν where
 ins:H p\(.ins CG dx (jq g wa))
 wo:H wa\(.Θ (ao g.word))
def e8.Δ {dx:Zs}{g:Gg}(h:e8 a H b dx c g)(s:Đ):e8 a I b dx c g:={s^h.ins,s^h.wo}
def e8.set {dx:Zs}{g g':Gg}(h:e8 a H b dx c g)(e:g'.word=g.word):e8 a (υ H b (.ins a dx (jq g' c))) b dx c g':={aj,[aq (bF h.wo h.ins (by cbv)),e]▸h.wo}
def jO (a:θ (Zg×η)):θ (Zd×V):=a.Α λp=>(p.1.Α Sum.ψ,V.τ p.2)
structure Ay (rs:Za3)(fp:θ (Zg×η)):ν where
 a:∀p∈fp,rs[p.2]?\p.1
 b:∀w∈rs,∃n,(w,n)∈fp
 n:(fp.Α (·.1)).Nodup
def EE {c:θ (Zg×η)}(w:Zg):bG (jO c) (w.Α Sum.ψ)=((c.find? λp=>decide (p.1=w)).Α λp=>V.τ p.2):=by
 induction c with
 |nil=>rfl
 |cons p l d=>
  cases h:p.1=w
  .rw[aqg (by cbv)];rwa[cV (p:=(p.1.Α Sum.ψ,V.τ p.2)) (by rw[h])]
  .rw[apl (by simpa using h)];rwa[(cR (p:=(p.1.Α Sum.ψ,V.τ p.2)) (λz=>h ?_)).π d]
   let inj:∀{a b:Zg},a.Α (Sum.ψ:ο->Key)=b.Α Sum.ψ->a=b:=λ{a b} e=>by
    induction a generalizing b with
    |nil=>cases b with|nil=>rfl|cons=>ext e
    |cons x a d=>cases b with
     |nil=>ext e
     |cons y b=>cbv
   rwa[inj z]
def QD:Sp:=λc H Q _=>∃(l:Zs)(rs:Za3),c=[?l]/\bz H l rs/\@rs<=1000/\∀d b a,au H a->H d=ε->a d\.dT (jO b)->Ay rs b->Q ?d a
def zu:T.pf.Ok P w base 1 QD:=by
 rwa[T.pf.on i5 (λb9 AA Y s H vs Q E hr h=>?_) (len:=by rintro _ _ _ _ ⟨l,rs,Τ,_⟩;rfl)]
 .let[l,rs,Τ,hW,hl,k]:=h;let S:=iZ hr
  erw[_,{{bH 1 i5.nd Ov,bU am5 Τ Ϝ (oy Τ (dM (du 2 i5.nd) (dM (du 3 i5.nd) lH)))
    {{a8 (Pa S (pv 1) (pv 3) (pv 2) {2222})}},bf (pv 1)}}]
  rwa[cF ?_];intro dA eD;let[C,y,x]:=id hW;rwa[λd M=>?_]
  generalize e_:υ H d _=H1;obtain⟨s1,q1⟩:_/\_\(.dT (jO [])):=cW e_ M;let ndl:l≠d:=ax y M;erw[12,l,2,{_,az.of (s1^y)}]
  let' I:η->St->Hp->ν:=λi N B=>∃a v2 O,N=#v[?l,?d,v2,O]/\au H B/\B d\.dT (jO a)/\(∀p∈a,rs[p.2]?\p.1/\p.2<i)/\(∀(j:η)(w:Zg),j<i->rs[j]?\w->∃n,(w,n)∈a)/\(a.Α (·.1)).Nodup/\@a<=i
  refine yq (xs:=C.Α V.Η) I
   {[],ε,ε,2,s1,q1,(λp c=>by ext c),λj w D=>absurd D ∅,aoA,amK _} (λi N B _ ζ=>by let[_,_,_,_,s2,_]:=ζ;rwa[az.of (s2^y)]) ?_ ?_
  .intro i v N B t hi nt g;rwa[bu ?_];intro J;let[a,v2,O,Τ,s2,hd,F,R,hn,hlen]:=g;dsimp only[J];clear J
   let f:i<@C:=by have:=(amF.mp hi).1;rw[amE]at ω;rwa[ω]
   let r:i<@rs:=by rw[<-x.1];rwa[f]
   let g1:C[i]?\(C[i]'f):=amB f
   let U:rs[i]?\(rs[i]'r):=amB r
   rw[amQ,g1]at hi;obtain rfl:V.Η (C[i]'f)=v:=Za0 hi;change C[i]'f=q at g1;change rs[i]'r=w at U;let L:=au.υ (o:=.Θ [.τ (i:ο),?q]) nt;erw[t,12,bD.of aj,21121122];change υ B t _=H3 at L ⊢;let m:=L^hd;let hq:H3 q\(.Θ ((w.Α (Sum.ψ:ο->Key)).Α kV)):=by rw[anu];rwa[(s2.π L) β (x.2 i q w g1 U)]
   rwa[12,d,2,.Ζ {_,.ψ m},1212,jO a,w.Α Sum.ψ,q,m,2,hq,5,λv G=>?_,λG=>?_]
   .unfold jO;rw[amE];rwa[amS (show @a<=1000 by omega) ⋯]
   .rw[EE]at G;let[p,c,Τ]:=an8.mp G;let e:p.1=w:=by let h9:=θ.find?_some c;simpa using h9
    let hm:=θ.mem_of_find?_eq_some c;rwa[a,112,s2.π L,m,λp c=>{(F p c).1,by have:=(F p c).2;ext},λj u D eu=>?_,hn,3];cases X:j<i
    .rwa[R j u X eu]
    .cbv
   .rw[EE]at G
    let hno:∀p∈a,p.1≠w:=λp c e=>by
     have:=θ.find?_eq_none.mp (aqh.mp G) p c
     cbv
    let ep:putK (jO a) (w.Α Sum.ψ) (V.τ (i:ο))=jO (a++[(w,i)]):=by rw[lK _ ([EE]▸G)];unfold jO;rw[am8];rfl
    rw[ep];let Z:H d=ε:=M;rwa[a++[(w,i)],112,λb o e=>[aq (ax e Z)]▸(s2.π L) β e,aj,λp c=>?_,λj u D eu=>?_,5,by rw[amG];show _+ 1<=_;ext]
    .rcases amO.mp c with z|z
     .rwa[(F p z).1,by have:=(F p z).2;ext]
     .rw[amI.mp z];rwa[U,by show i<i+ 1;ext]
    .cbv
    cbv
  .intro N B g;rwa[bu ?_];intro J;let[a,v2,O,Τ,s2,hd,F,R,hn,hlen]:=g;dsimp only[J];clear J;rwa[12,k d a B s2 M hd {λp c=>(F p c).1,λw hw=>?_,hn}];let[j,D]:=ant hw;rwa[R j w ([amE,x.1]▸(amF.mp D).1) D]
def BE (a:η)(word:Zg)(start:η):Gg:={a,word,start,start,(0),start,@word - 1}
inductive Ms (CG:Zs)(vs:Zb)(H:Hp)(Q:VK)(E_:XK):ν
 |mk (x dx wa:Zs)(which start:η)(word:Zg):vs=[?x,.τ which,?wa,.τ start]->H x\.ins CG dx []->H wa\.Θ (ao word)->1<=@word->@word<=1000->(∀H',(∀b o,H b\o->b≠x->H' b\o)->e8 CG H' x dx wa (BE which word start)->Q .non H')->Ms CG vs H Q E_
def Yd (a start:η)(b:Zs)(l:ο):θ (Ι×V):=[(ô,.τ a)]
def Ye (a start:η)(b:Zs)(l:ο):θ (Ι×V):=[(ô,.τ a),(ß,?b)]
def Yf (a start:η)(b:Zs)(l:ο):θ (Ι×V):=[(ô,.τ a),(ß,?b),(æ,.τ start)]
def Yg (a start:η)(b:Zs)(l:ο):θ (Ι×V):=[(ô,.τ a),(ß,?b),(æ,.τ start),(š,.τ start)]
def Yh (a start:η)(b:Zs)(l:ο):θ (Ι×V):=[(ô,.τ a),(ß,?b),(æ,.τ start),(š,.τ start),(Ĭ,.τ 0)]
def Yi (a start:η)(b:Zs)(l:ο):θ (Ι×V):=[(ô,.τ a),(ß,?b),(æ,.τ start),(š,.τ start),(Ĭ,.τ 0),(Z2,.τ start)]
def gx7 (a start:η)(b:Zs)(l:ο):θ (Ι×V):=[(ô,.τ a),(ß,?b),(æ,.τ start),(š,.τ start),(Ĭ,.τ 0),(Z2,.τ start),("last",.τ l)]
def gy2 (a start:η)(b:Zs)(l:ο):bJ ß ?b (Yd a start b l)=Ye a start b l:=eM (by kernel_rfl)
def gy3 (a start:η)(b:Zs)(l:ο):bJ æ (.τ start) (Ye a start b l)=Yf a start b l:=eM (by kernel_rfl)
def gy4 (a start:η)(b:Zs)(l:ο):bJ š (.τ start) (Yf a start b l)=Yg a start b l:=eM (by kernel_rfl)
def gy5 (a start:η)(b:Zs)(l:ο):bJ Ĭ (.τ 0) (Yg a start b l)=Yh a start b l:=eM (by kernel_rfl)
def gy6 (a start:η)(b:Zs)(l:ο):bJ Z2 (.τ start) (Yh a start b l)=Yi a start b l:=eM (by kernel_rfl)
def gy7 (a start:η)(b:Zs)(l:ο):bJ "last" (.τ l) (Yi a start b l)=gx7 a start b l:=eM (by kernel_rfl)
def vN:T.hU.Ok mg P w base 1 (Ms A.aT):=by
 rwa[T.hU.on vH (λS AA m s H vs Q E hr h=>?_)]
 .let[x,c,d,a,start,word,Τ,r,f,RG,N,k]:=h
  refine{_,{{ck (pv 0) (pv 1) Τ,ck (pv 0) (pv 2) Τ,ck (pv 0) (pv 3) Τ,ck (pv 0) (pv 3) Τ,ck (pv 0) ak Τ,ck (pv 0) (pv 3) Τ,ck (pv 0) (aK fI (2<<<0) ak) Τ}},?_}
  rwa[xh ?_];intro R rn X U dA J;let st:∀{H0:Hp}{fs gs:θ (Ι×V)},H0 x\.ins A.aT c fs->(∀b o,H b\o->b≠x->H0 b\o)->υ H0 x (.ins A.aT c gs) x\.ins A.aT c gs/\∀b o,H b\o->b≠x->υ H0 x (.ins A.aT c gs) b\o:=λ_ h=>{aj,λb o e n=>[aq n]▸h b o e n}
  let g:d≠x:=bF f r (by cbv);let o0:∀b o,H b\o->b≠x->H b\o:=λb o e _=>e
  erw[1212,x,_,c,12,r,aZ T,T.Eh,(by show 0<1000;decide)];rw[show bJ ô (.τ a) []=Yd a start d (((@word - 1:η):ο)) from rfl];let[v,C]:=st (gs:=Yd a start d (((@word - 1:η):ο))) r o0;change υ H x _=Y at v C ⊢;erw[1212,x,_,c,12,v,aZ T,T.kF,(by show 1<1000;decide)];rw[gy2];let[q,B]:=st (gs:=Ye a start d (((@word - 1:η):ο))) v C;change υ Y x _=Z at q B ⊢;erw[1212,x,_,c,12,q,aZ T,T.sr,(by show 2<1000;decide)];rw[gy3];let[l,D]:=st (gs:=Yf a start d (((@word - 1:η):ο))) q B;change υ Z x _=L at l D ⊢;erw[1212,x,_,c,12,l,aZ T,T.iE,(by show 3<1000;decide)];rw[gy4];let[j,F]:=st (gs:=Yg a start d (((@word - 1:η):ο))) l D;change υ L x _=O at j F ⊢;erw[12,x,_,c,12,j,aZ T,T.fN,(by show 4<1000;decide)];rw[gy5];let[t,z]:=st (gs:=Yh a start d (((@word - 1:η):ο))) j F;change υ O x _=M at t z ⊢;erw[1212,x,_,c,12,t,aZ T,T.iS,(by show 5<1000;decide)];rw[gy6];let[u,i]:=st (gs:=Yi a start d (((@word - 1:η):ο))) t z;change υ M x _=G at u i ⊢;erw[12,d,12,.Ζ (bD.of (i β f g)),112212,x,_,c,12,u,aZ T,T.jG,(by show 6<1000;decide)];rw[show V.τ ((@(ao word):ο) - 1)=V.τ (((@word - 1:η):ο)) by show V.τ ((@(ao word):ο) - 1)=_;rw[aD];congr 1;ext];rw[gy7];let[y,p]:=st (gs:=gx7 a start d (((@word - 1:η):ο))) u i;change υ G x _=I at y p ⊢;rwa[k I p {y,p β f g}]
structure uI (S:RS)(g g':Gg):ν where
 wh:g'.which=g.which
 wo:g'.word=g.word
 st:g'.start=g.start
 gi:GI S g'
 ef:S.ay g'.front=g'.front
 er:S.ay g'.bK=g'.bK
 k1:S.ay g.front=g.front->S.by g.front g.z1=ε->g'.front=g.front/\g'.first=g.first
 k2:S.ay g.bK=g.bK->S.by g.bK g.z2=ε->g'.bK=g.bK/\g'.last=g.last
def uI.fwd {g g1:Gg}(h:uI S g g1)(i:Good S [] R)(a:g1.first<g1.last){c:η}(hc:S.by g1.front g1.z1=ι c):uI S g { g1 with front:=c,first:=g1.first+ 1 }:=by
 let[_,b,_,e]:=i.st γ hc;let ll:=h.gi.ll;let hz:=Gg.sN (g:=g1) ∅;rwa[h.wh,h.wo,h.st,{a,ll,h.gi.s,b,h.gi.r,5,h.gi.wr},e,h.er,λf d=>?_,h.k2]
 .have:=h.gi.wf;rw[h.ef]at ω;show wk S.by _ (g1.word.take (g1.first+ 1))=ι ľ;rw[take_snoc hz,oQ ω,Lc hc,e]
 .let[j,k]:=h.k1 f d;unfold Gg.z1 at hc d;rw[j,k,h.wo,d]at hc;ext hc
def uI.bwd {g g1:Gg}(h:uI S g g1)(d:Good S [] R)(f:g1.first<g1.last){c:η}(hc:S.by g1.bK g1.z2=ι c):uI S g { g1 with bK:=c,last:=g1.last - 1 }:=by
 let[_,a,_,e]:=d.st γ hc;let ll:=h.gi.ll;let hz:=Gg.at2 (g:=g1) ll;rwa[h.wh,h.wo,h.st,{by show g1.first<=g1.last - 1;ext,by show g1.last - 1<@g1.word;ext,h.gi.s,h.gi.f,a,h.gi.wf,5},h.ef,e,h.k1,λi b=>?_]
 .have:=h.gi.wr;rw[h.er]at ω;show wk S.by ľ (g1.word.drop (g1.last - 1+ 1))=ι (S.ay g1.start);rw[show g1.last - 1+ 1=g1.last by ext,drop_cons hz,e,iP (d.sy γ hc)];ext
 .let[j,k]:=h.k2 i b;unfold Gg.z2 at hc b;rw[j,k,h.wo,b]at hc;ext hc
inductive SY (CR CG:Zs)(vs:Zb)(H:Hp)(Q:VK)(E_:XK):ν
 |mk (p dx wa r:Zs)(g:Gg)(S:RS)(a:RA)(R:Za2):vs=[?p,?r]->e8 CG H p dx wa g->aB CR H r S a->Good S [] R->GI S g->¬a.own r p->@g.word<=1000->(∀g' H',(∀b o,b≠p->H b\o->H' b\o)->e8 CG H' p dx wa g'->Adv S g g'->Q .non H')->SY CR CG vs H Q E_
theorem xS:T.m4.Ok mg P w base 2 (SY A.aI A.aT):=by
 rwa[T.m4.on kg (λb9 AA outer s H vs Q E hr h=>?_)]
 .let[p,d,C,r,g,S,a,R,Τ,Z,hR,F,y,Yj,O,k]:=h
  refine{_,{{ck (pv 0) (pm (pv 1) (aO T) T.iR (jK T) hr #[0<<<1]) Τ,ck (pv 0) (pm (pv 1) (aO T) T.iR (jK T) hr #[0<<<1]) Τ,bL (ja am5 (aX nL (0<<<1) (0<<<1) (bh _))
    {{bH 2 kg.nd (pm (pv 1) (aO T) T.jk (iU T) hr #[0<<<1,(0<<<1)&&&(0<<<1)]),bI ğ
     {{wL}}
     bp,ck (pv 0) (pv 2) Τ,ck (pv 0) (aK cZ (0<<<1) ak) Τ}}),bL (ja am5 (aX nL (0<<<1) (0<<<1) (bh _))
    {{bH 2 kg.nd (pm (pv 1) (aO T) T.jk (iU T) hr #[0<<<1,fx dN ((0<<<1)&&&(0<<<1))]),bI ğ
     {{wL}}
     bp,ck (pv 0) (pv 2) Τ,ck (pv 0) (aK fI (0<<<1) ak) Τ}})}},?_}
  rwa[gH ?_];intro jn dA eD;let eo:∀{c:η},c<S.q->S.bj[c]?\ľ:=λ{c} hc=>pH ([F.wf.e]▸hc)
  let kp:∀{G:Hp},(∀b o,b≠p->H b\o->G b\o)->aB A.aI G r S a:=λ{G} f=>hR.keep (λb o hb e=>f b o (λz=>Yj (z ▸ hb)) e) (λb xs e=>f b _ (bF e Z.ins (by cbv)) e)
  let up:∀{G:Hp}{o2:HO},(∀b o,b≠p->H b\o->G b\o)->∀b o,b≠p->H b\o->υ G p o2 b\o:=λf b o n e=>by rw[aq n];rwa[f b o n e]
  erw[12,r,a.dx,12,hR.ins,cY γ ⋯,12,p,_,d,112,Z.ins,aZ T,T.iE,l0 β,r,S,a,g.front,S.ay g.front,2,hR,eo y.f,12,p,_,d,12,Z.ins,aZ T,T.iE,(by show 7<1000;decide)];rw[ED];let p1:=Z.set (g':={ g with front:=S.ay g.front }) rfl;let f1:=up (o2:=.ins A.aT d (jq { g with front:=S.ay g.front } C)) (λb o _ e=>e);change υ H p _=H1 at p1 f1 ⊢;let R1:=kp f1;erw[12,r,a.dx,12,R1.ins,cY γ ⋯,12,p,_,d,112,p1.ins,aZ T,T.iS,mh β,r,S,a,g.bK,S.ay g.bK,2,R1,eo y.r,12,p,_,d,12,p1.ins,aZ T,T.iS,(by show 7<1000;decide)];rw[G5];let p2:=p1.set (g':={ g with front:=S.ay g.front,bK:=S.ay g.bK }) rfl;let f2:=up (o2:=.ins A.aT d (jq { g with front:=S.ay g.front,bK:=S.ay g.bK } C)) f1;change υ H1 p _=G at p2 f2 ⊢;let e1:=(F.el _ y.f).2;let e2:=(F.el _ y.r).2;let I:uI S g { g with front:=S.ay g.front,bK:=S.ay g.bK }:={222,{y.fl,y.ll,y.s,F.lt y.f,F.lt y.r,by show wk γ\S.ay (S.ay g.front);rw[e1];rwa[y.wf],by show wk _ (S.ay (S.ay g.bK)) _=_;rw[e2];rwa[y.wr]},e1,e2,λe _=>{e,2},λe _=>{e,2}}
  let' L:St->Hp->ν:=λ B j=>∃g1 u,B=#v[?p,?r,u]/\(∀b o,b≠p->H b\o->j b\o)/\e8 A.aT j p d C g1/\uI S g g1/\(g1.first<g1.last->S.by g1.front g1.z1=ε)
  erw[L,5]
  .rwa[bV ?_];intro ic;erw[λm N j=>∃g1 u,m=g1.last - g1.first/\N=#v[?p,?r,u]/\(∀b o,b≠p->H b\o->j b\o)/\e8 A.aT j p d C g1/\uI S g g1,⟨11,ε,22,f2,p2,I⟩];intro m N j t;rwa[bu ?_];intro v;let[g1,u,Τ,Τ,x,i,ad]:=t;dsimp only[v];clear v;let Y:=kp x;let ll:=ad.gi.ll;let fl:=ad.gi.fl;let lw:@g1.word<=1000:=by rw[ad.wo];rwa[O]
   erw[12,p,_,d,112,i.ins,aZ T,T.fN,iG β,12,p,_,d,112,i.ins,aZ T,T.jG,mj β,112212];rwa[cw (λq=>?_) (λq=>?_)]
   .let q:(g1.first:ο)<(g1.last:ο):=ane q;erw[_,λ_ _ z=>z];let hz:=Gg.sN (g:=g1) ∅;erw[12,r,a.dx,12,Y.ins,cY γ ⋯,12,p,_,d,112,i.ins,aZ T,T.iE,l0 β,12,p,_,d,112,i.ins,aZ T,T.kF,lZ β,12,p,_,d,112,i.ins,aZ T,T.fN,iG β,C,11,.τ g1.z1,22,bD.of i.wo,cG (bT hz),r,S,a,g1.front,g1.z1,2,Y,[F.wf.w]▸ad.gi.f]
    cases U:S.by g1.front g1.z1 with
    |ε=>rwa[12212,gC {g1,12,x,i,ad,λ_=>U}]
    |ι c=>rw[show (Ο.Α (λn:η=>V.τ (n:ο)) (ι c)).Λ V.non=V.τ (c:ο) from rfl];rwa[12212,dc ?_];erw[1212,p,_,d,12,i.ins,aZ T,T.iE,(by show 7<1000;decide)];rw[ED];let D:=i.set (g':={ g1 with front:=c }) rfl;let X:=up (o2:=.ins A.aT d (jq { g1 with front:=c } C)) x;change υ j p _=H3 at D X ⊢;erw[12,p,_,d,112,D.ins,aZ T,T.fN,iG β,112212,p,_,d,12,D.ins,aZ T,T.fN,(by show 7<1000;decide)];rw[show V.τ ((({ g1 with front:=c }:Gg).first:ο)+ 1)=V.τ ((g1.first+ 1:η):ο) from rfl,QC];rwa[_,by show g1.last - (g1.first+ 1)<_;ext,1122,up X,D.set Τ,ad.fwd F ∅ U]
   .rwa[g1,u,2,x,i,ad,λz=>absurd (anh (show (g1.first:ο)<(g1.last:ο) by omega)) q]
  intro B j t;rwa[bu ?_];intro v;let[g0,v0,Τ,f0,p0,I,n0]:=t;dsimp only[v];clear v
  let' J:St->Hp->ν:=λ B j=>∃g1 u,B=#v[?p,?r,u]/\(∀b o,b≠p->H b\o->j b\o)/\e8 A.aT j p d C g1/\uI S g g1/\(g1.first<g1.last->S.by g1.front g1.z1=ε)/\(g1.first<g1.last->S.by g1.bK g1.z2=ε)
  erw[J,5]
  .rwa[bV ?_];intro ic;erw[λm N j=>∃g1 u,m=g1.last - g1.first/\N=#v[?p,?r,u]/\(∀b o,b≠p->H b\o->j b\o)/\e8 A.aT j p d C g1/\uI S g g1/\(g1.first<g1.last->S.by g1.front g1.z1=ε),⟨11,v0,22,f0,p0,I,n0⟩];intro m N j t;rwa[bu ?_];intro v;let[g1,u,Τ,Τ,x,i,ad,M]:=t;dsimp only[v];clear v;let Y:=kp x;let ll:=ad.gi.ll;let fl:=ad.gi.fl;let lw:@g1.word<=1000:=by rw[ad.wo];rwa[O]
   erw[12,p,_,d,112,i.ins,aZ T,T.fN,iG β,12,p,_,d,112,i.ins,aZ T,T.jG,mj β,112212];rwa[cw (λq=>?_) (λq=>?_)]
   .let q:(g1.first:ο)<(g1.last:ο):=ane q;erw[_,λ_ _ z=>z];let hz:=Gg.at2 (g:=g1) ll;erw[12,r,a.dx,12,Y.ins,cY γ ⋯,12,p,_,d,112,i.ins,aZ T,T.iS,mh β,12,p,_,d,112,i.ins,aZ T,T.kF,lZ β,12,p,_,d,112,i.ins,aZ T,T.jG,mj β,C,11,.τ (-g1.z2),22,bD.of i.wo,cG (bT hz),12,r,S,a,g1.bK,g1.z2,(by cbv),Y,[F.wf.w]▸ad.gi.r]
    cases U:S.by g1.bK g1.z2 with
    |ε=>rwa[12212,gC {g1,12,x,i,ad,M,λ_=>U}]
    |ι c=>rw[show (Ο.Α (λn:η=>V.τ (n:ο)) (ι c)).Λ V.non=V.τ (c:ο) from rfl];rwa[12212,dc ?_];erw[1212,p,_,d,12,i.ins,aZ T,T.iS,(by show 7<1000;decide)];rw[G5];let D:=i.set (g':={ g1 with bK:=c }) rfl;let X:=up (o2:=.ins A.aT d (jq { g1 with bK:=c } C)) x;change υ j p _=H3 at D X ⊢;erw[12,p,_,d,112,D.ins,aZ T,T.jG,mj β,112212,p,_,d,12,D.ins,aZ T,T.jG,(by show 7<1000;decide)];rw[show V.τ ((({ g1 with bK:=c }:Gg).last:ο) - 1)=V.τ ((g1.last - 1:η):ο) by show V.τ ((g1.last:ο) - 1)=_;congr 1;ext,Vg];rwa[_,by show (g1.last - 1) - g1.first<_;ext,1122,up X,D.set Τ,ad.bwd F ∅ U,λz=>M (by let z:g1.first<g1.last - 1:=z;omega)]
   .rwa[g1,u,2,x,i,ad,M,λz=>absurd (anh (show (g1.first:ο)<(g1.last:ο) by omega)) q]
  intro B j t;rwa[bu ?_];intro v;let[g1,u,Τ,x,i,ad,M,n2]:=t;dsimp only[v];clear v;rwa[k g1 j x i {ad.wh,ad.wo,ad.st,ad.gi,ad.ef,ad.er,M,n2,ad.k1,ad.k2}]
def ab2 (ns:Zg)(j:η):gY (ao ns) ε (ι (j:ο))=ao (ns.take j):=by
 rw[C1,HT.va];show ao ((θ.drop 0 ns).take (min j @ns - 0))=_
 cbv
def Vh (ns:Zg)(j:η)(h:j<=@ns):gY (ao ns) (ι (j:ο)) ε=ao (ns.drop j):=by rw[C1,HT.va,aom h];show ao ((ns.drop j).take (@ns - j))=_;rw[anE ([anI]▸amK _)]
theorem rz {by_:η->ο->Zi}:∀{ws:Zg}{r:η},@(cH by_ r ws)<=@ws
 |[],_=>amK _
 |z::ws,r=>by
  cases q:by_ r z with
  |ε=>rw[Bj q];rwa[ani _]
  |ι d=>rw[pW q,amT,amT];rwa[aqp rz]
inductive Mt (CR CG:Zs)(vs:Zb)(H:Hp)(Q:VK)(E_:XK):ν
 |mk (p dx wa r:Zs)(g:Gg)(S:RS)(a:RA)(R:Za2):vs=[?p,?r]->e8 CG H p dx wa g->aB CR H r S a->Good S [] R->g.start<S.q->g.bK<S.q->g.last<@g.word->@g.word<=1000->(∀q H',au H H'->cy H' 2 ?q (oj g.which ((g.start::cH S.by g.start ı)++(g.bK::cH S.by g.bK (g.word.drop (g.last+ 1)))) g.first)->Q ?q H')->Mt CR CG vs H Q E_
def EF:T.uy.Ok mg P w base 3 (Mt A.aI A.aT):=by
 rwa[T.uy.on pD (λb9 AA J s H vs Q E hr h=>?_)]
 .let[p,m,wa,r,g,S,a,R,Τ,n,hR,I,hs,N,Yk,pI,k]:=h
  refine{_,{{bH 2 pD.nd (pc T.walked (BD T) hr #[1,0<<<1,iA rK (0<<<1) iN (gT (0<<<1))]),bH 3 pD.nd (pc T.walked (BD T) hr #[1,0<<<1,iA rK (0<<<1) (gT (aK cZ (0<<<1) ak)) iN]),bf (bA #[fD (l:=[114,117,108,101]) Τ,0<<<1,cO fZ Τ T.jF anV #[aK qE (pv 2) (pv 3)],0<<<1])}},?_}
  rwa[cF ?_];intro dA eD;let y:∀c z d,S.by c z=ι d->d<S.q:=λc z d e=>(I.st c z d e).2.1
  rwa[1212,p,_,m,112,n.ins,aZ T,T.sr,xR β,12,p,_,m,112,n.ins,aZ T,T.kF,lZ β,12,p,_,m,112,n.ins,aZ T,T.fN,iG β,12,wa,12,n.wo,λt1 H1 s1 e1=>?_];rw[ab2]at e1;rwa[r,S,a,g.start,t1,g.word.take g.first,2,hR.Δ s1,I.wf,hs,y,e1,by rw[anc];ext,λl1 H2 s2 h2=>?_];let B:=s1.π s2;let G:=n.Δ B;rwa[1212,p,_,m,112,G.ins,aZ T,T.iS,mh β,12,p,_,m,112,G.ins,aZ T,T.kF,lZ β,12,p,_,m,112,G.ins,aZ T,T.jG,mj β,112212,wa,12,G.wo,λt2 H3 s3 e3=>?_];rw[show (g.last:ο)+ 1=((g.last+ 1:η):ο) by ext,Vh β ∅]at e3;let C:=B.π s3;rwa[r,S,a,g.bK,t2,g.word.drop (g.last+ 1),2,hR.Δ C,I.wf,N,y,e3,by rw[anI];ext,λl2 Z V h4=>?_];let D:=C.π V;let X:=n.Δ D;let lx:=rz (by_:=S.by) (ws:=g.word.take g.first) (r:=g.start);let ly:=rz (by_:=S.by) (ws:=g.word.drop (g.last+ 1)) (r:=g.bK);rw[anc]at lx;rw[anI]at ly;rwa[12,p,_,m,112,X.ins,aZ T,T.Eh,QB β,1212,l1,l2,1122,(s3.π V) β h2,h4,5,λM n3=>?_]
  .rw[aD,aD,cK,cK,amT,amT];rwa[amM (show _<=100000 by omega) ⋯]
  rwa[M,12,.ψ {az.of aj,λF Y=>?_}];rw[<-ints_app,<-jU]at Y ⊢;let s5:=au.υ (o:=.Ε (ao (nI ((g.start::cH S.by g.start ı)++(g.bK::cH S.by g.bK (g.word.drop (g.last+ 1))))))) n3;change (g.start::cH S.by g.start ı)++(g.bK::cH S.by g.bK (g.word.drop (g.last+ 1)))=path at *;let U:=s5.π (au.υ (o:=.Θ ś) Y);let e6:υ (υ Z M (.Ε ś)) F (.Θ ś) F=_:=aj;change υ (υ Z M (.Ε ś)) F (.Θ ś)=H6 at U e6 ⊢;rwa[12,p,_,m,112,(U^X.ins),aZ T,T.fN,iG β,(Za4 4),λq nq=>?_];let s7:=au.υ (o:=.Θ [.str (tx [114,117,108,101]),.τ (g.which:ο),?F,.τ (g.first:ο)]) nq;rwa[k q _ (D.π (U.π s7)) (.t aj Τ λj v d b f=>?_)]
  match j,b,f with
  |0,b,f=>ext b;ext f;rwa[.s]
  |1,b,f=>ext b;ext f;rwa[.i]
  |2,b,f=>
   ext b;ext f;rwa[.t (s7^e6) (by rw[aD,cK,amE]) λi u x f1 O=>?_]
   let[z,Τ,t]:=bR f1;unfold nI at t;rw[amQ]at t O
   cases q1:path[i]? with
   |ε=>rw[q1]at t;ext t
   |ι c=>rw[q1]at t O;ext t;ext O;rwa[.i]
  |3,b,f=>ext b;ext f;rwa[.i]
  |j+ 4,b,f=>simp at b
def same_none (s:Đ){b:Zs}(h:I b=ε):H b=ε:=by
 cases e:H b with
 |ε=>rfl
 |ι o=>rw[s^e]at h;ext h
structure KA where
 dx:Zs
 aQ:Zs
 aG:Zs
 aA:Zs
 aW:Zs
def rA (r:Zs)(c:KA)(hd:η):θ (Ι×V):=[(Ê,?r),(í,?c.aQ),(ŕ,?c.aG),(ū,?c.aA),(Ũ,?c.aW),(ϲ,.τ hd)]
def gO (r:Zs)(c:KA)(hd:η):(rA r c hd).lookup (Ê:Ι)\?r:=by kernel_rfl
def QF (r:Zs)(c:KA)(hd:η):(rA r c hd).lookup (í:Ι)\?c.aQ:=by kernel_rfl
def mW (r:Zs)(c:KA)(hd:η):(rA r c hd).lookup (ŕ:Ι)\?c.aG:=by kernel_rfl
def qg (r:Zs)(c:KA)(hd:η):(rA r c hd).lookup (ū:Ι)\?c.aA:=by kernel_rfl
def nZ (r:Zs)(c:KA)(hd:η):(rA r c hd).lookup (Ũ:Ι)\?c.aW:=by kernel_rfl
def xT (r:Zs)(c:KA)(hd:η):(rA r c hd).lookup (ϲ:Ι)\(.τ hd):=by kernel_rfl
def fV {r:Zs}{c:KA}{hd:η}(h:x∉([Ê,í,ŕ,ū,Ũ,ϲ]:Zp)):(rA r c hd).lookup x=ε:=by simp only[amW,anK,apb,not_or]at h;let[e,b,g,d,f,a]:=h;unfold rA;simp only[θ.lookup,anf.mpr e,anf.mpr b,anf.mpr g,anf.mpr d,anf.mpr f,anf.mpr a]
def QG (r:Zs)(c:KA)(hd n:η):bJ ϲ (.τ n) (rA r c hd)=rA r c n:=by kernel_rfl
structure sC (CG:Zs)(H:Hp)(gv:Zb)(gs:Zf)(O:Zs->ν):ν where
 l:@gv=@gs
 n:∀(i:η)(v:V),gv[i]?\v->gs[i]?\ε->v=.non
 s:∀(i:η)(v:V)(g:Gg),gv[i]?\v->gs[i]?\ι g->∃p dx wa,v=?p/\e8 CG H p dx wa g/\O p
 i:∀(i j:η)(p:Zs),gv[i]?\?p->gv[j]?\?p->i=j
structure cN (CG CC:Zs)(H:Hp)(x r:Zs)(c:KA)(gs:Zf)(ag:Zh)(W:bM)(hd:η)(fp:θ (Zg×η))(O:Zs->ν):ν where
 ins:H x\(.ins CC c.dx (rA r c hd))
 hG:∃gv,H c.aG\.Ε gv/\sC CG H gv gs O
 hA:H c.aA\(.Ε (ao (nI ag)))
 wt:qL H c.aW W O
 ne:c.aG≠c.aA
 ox:O x
 oG:O c.aG
 oA:O c.aA
 th:∀b,O b->∃o,H b\o/\(∀xs,o≠.Θ xs)/\(∀kv,o≠.dT kv)/\(∀u v,o≠.dz u v)/\∀ps,o≠.sI ps
section
variable {CG CC:Zs}{H H':Hp}{x r:Zs}{c:KA}{gs:Zf}{ag:Zh}{W:bM}{hd:Nat}{fp:List (Zg×Nat)}{O:Zs->Prop}
def sC.keep (h:sC CG H L gs O)(f:∀b o,O b->H b\o->H' b\o)(ft:∀b a,H b\.Θ a->H' b\.Θ a):sC CG H' L gs O:=by rwa[h.l,h.n,λi v g d k=>?_,h.i];let[p,dx,j,e,q,o]:=h.s i v g d k;rwa[p,dx,j,e,{f β o q.ins,ft^q.wo},o]
def cN.keep (h:Æ)(f:∀b o,O b->H b\o->H' b\o)(ft:∀b a,H b\.Θ a->H' b\.Θ a):cN CG CC H' x r c gs ag W hd fp O:=by let[i,g,g2]:=h.hG;rwa[f β h.ox h.ins,{i,f β h.oG g,g2.keep f ft},f β h.oA h.hA,h.wt.keep f,h.ne,h.ox,h.oG,h.oA,λb d=>?_];let[o,e,q]:=h.th b d;rwa[o,f β d e,q]
def cN.Δ (h:Æ)(s:au H H'):cN CG CC H' x r c gs ag W hd fp O:=h.keep (λb o _ e=>s b o e) (λb o e=>s^e)
def cN.j7 (h:Æ){b:Zs}{a:Zb}(e:H b\.Θ a):¬O b:=λz=>by
 let[o,q,n,_]:=h.th b z
 cbv
def cN.Mu (h:Æ){b:Zs}{kv:θ (Zd×V)}(e:H b\.dT kv):¬O b:=λz=>by
 let[o,q,_,n,_]:=h.th b z
 cbv
def cN.waits (h:Æ){j:bM}{a:Zs->ν}(f:∀b o,(∀kv,o≠.dK kv)->H b\o->H' b\o)(d:∀b,O b->a b)(w:qL H' c.aW j a)(th:∀b,a b->∃o,H' b\o/\(∀s,o≠.Θ s)/\(∀kv,o≠.dT kv)/\(∀u v,o≠.dz u v)/\∀l,o≠.sI l):cN CG CC H' x r c gs ag j hd fp a:=by let[k,n,g2]:=h.hG;rwa[f β (by cbv) h.ins,{k,f β (by cbv) n,g2.l,g2.n,λi v g t m=>?_,g2.i},f β (by cbv) h.hA,w,h.ne,d _ h.ox,d _ h.oG,d _ h.oA,th];let[p,dx,y,e,q,o]:=g2.s i v g t m;rwa[p,dx,y,e,{f β (by cbv) q.ins,f β (by cbv) q.wo},d _ o]
def cN.agenda (h:Æ)(a:Zh):cN CG CC (υ H c.aA (.Ε (ao (nI a)))) x r c gs a W hd fp O:=by
 let[f,l,g2]:=h.hG;let k:∀b o,b≠c.aA->H b\o->υ H c.aA (.Ε (ao (nI a))) b\o:=λb o n e=>by rw[aq n];rwa[e]
 let kn:∀b o,(∀m,o≠.Ε m)->H b\o->υ H c.aA (.Ε (ao (nI a))) b\o:=λb o n e=>k b o (λz=>by rw[z,h.hA]at e;cbv) e
 rwa[kn β (by cbv) h.ins,{f,k β h.ne l,g2.l,g2.n,λi v g s j=>?_,g2.i},aj,5,h.ne,h.ox,h.oG,h.oA,λb d=>?_]
 .let[p,dx,t,e,q,o]:=g2.s i v g s j;rwa[p,dx,t,e,{kn β (by cbv) q.ins,kn β (by cbv) q.wo},o]
 .let[D,E,k1,k2]:=h.wt;rwa[D,E,k1.keep λb o d e=>by let[kv,q]:=k1.there d;cbv,k2]
 .cases e:b=c.aA
  .rwa[_,[e]▸aj,(by cbv),(by cbv),(by cbv),by cbv]
  .let[o,q,n]:=h.th b d;rwa[o,k β e q,n]
end
def Bt (O:Zs->ν)(H a:Hp):ν:=∀b o,¬O b->H b\o->a b\o
def Bt.π {O a:Zs->ν}(h:Bt O H I)(c:Bt a I J)(f:∀b,a b->O b\/H b=ε):Bt O H J:=λb o n e=>c b o (λz=>(f b z).Κ n λq=>by cbv) (h b o n e)
def Bt.of {O:Zs->ν}(s:Đ):Bt O H I:=λb o _ e=>s b o e
inductive Mw (CR CG CC:Zs)(vs:Zb)(H:Hp)(Q:VK)(E_:XK):ν
 |mk (x r:Zs)(c:KA)(gs:Zf)(ag:Zh)(W:bM)(hd:η)(fp:θ (Zg×η))(O:Zs->ν)(n m:η)(s:ο):vs=[?x,.τ n,.τ m,.τ s]->cN CG CC H x r c gs ag W hd fp O->m<100000->n<100000->(-1000<=s/\s<=1000)->(∀O' H',Bt O H H'->(∀b o,(∀kv,o≠.dK kv)->H b\o->H' b\o)->(∀b,O b->O' b)->(∀b,O' b->O b\/H b=ε)->cN CG CC H' x r c gs ag (addW W m s n) hd fp O'->Q .non H')->Mw CR CG CC vs H Q E_
structure lD (H:Hp)(O:Zs->ν)(H1:Hp)(O1:Zs->ν):ν where
 f:∀b o,(∀kv,o≠.dK kv)->H b\o->H1 b\o
 bt:Bt O H H1
 le:∀b,O b->O1 b
 nw:∀b,O1 b->O b\/H b=ε
 th:∀b,O1 b->∃o,H1 b\o/\(∀xs,o≠.Θ xs)/\(∀kv,o≠.dT kv)/\(∀u v,o≠.dz u v)/\∀ps,o≠.sI ps
def lD.new {O a:Zs->ν}(h:lD H O I a){p:Zs}{kv:θ (Key×V)}(c:I p=ε):lD H O (υ I p (.dK kv)) a:=by let s:=au.υ (o:=.dK kv) c;rwa[λb o n e=>s^h.f b o n e,λb o n e=>s^h.bt b o n e,h.le,h.nw,λb d=>?_];let[o,e,q]:=h.th b d;rwa[o,s^e,q]
def lD.put {O a:Zs->ν}(h:lD H O I a){d:Zs}(hd:a d){kv kv':θ (Key×V)}(ed:I d\.dK kv):lD H O (υ I d (.dK kv')) a:=by
 let k:∀b o,b≠d->I b\o->υ I d (.dK kv') b\o:=λb o n e=>by rw[aq n];rwa[e]
 rwa[λb o n e=>k β (λz=>by have:=h.f b o n e;cbv) (h.f b o n e),λb o n e=>k β (λz=>?_) (h.bt b o n e),h.le,h.nw,λb c=>?_]
 .rcases h.nw d hd with q|q
  .cbv
  cbv
 .cases e:b=d
  .rwa[_,by rw[e];rwa[aj],(by cbv),(by cbv),(by cbv),by cbv]
  .let[o,q,m]:=h.th b c;rwa[o,k β e q,m]
def lD.or1 {O a:Zs->ν}(h:lD H O I a){p:Zs}(d:H p=ε){o:HO}(k:I p\o)(g:∀i,o≠.Θ i)(c:∀kv,o≠.dT kv)(j:∀u v,o≠.dz u v)(f:∀e,o≠.sI e):lD H O I (Li a p):=by
 rwa[h.f,h.bt,λb z=>.ψ (h.le b z),λb z=>z.Κ (h.nw b) λq=>.Ζ ([q]▸d),λb z=>?_];rcases z with z|z
 .rwa[h.th b z]
 .rw[z];rwa[o,k,g,c,j,f]
def lD.no {O b:Zs->ν}(h:lD H O I b){p:Zs}(a:I p=ε):H p=ε:=by
 cases e:H p with
 |ε=>rfl
 |ι o=>
  cases q:O p
  .let[d,c,_]:=h.th p (h.le p q);cbv
  .rw[h.bt p o q e]at a;ext a
def cN.mid {x r:Zs}{c:KA}{gs:Zf}{W:bM}{hd:η}{d:θ (Zg×η)}{O:Zs->ν}(h:cN a b H x r c gs B W hd d O):lD H O H O:={λ_ _ _ e=>e,λ_ _ _ e=>e,λ_ z=>z,λ_ z=>.ψ z,h.th}
theorem qh:T.lg.Ok mg P w base 1 (Mw A.aI A.aT A.aL):=by
 rwa[T.lg.on lC (λX AA I s H vs Q E Y h=>?_)]
 .let[x,r,c,gs,ag,W,hd,fp,O,n,m,s,Τ,h,hm,hn,hs,k]:=h;let G:=iZ Y
  erw[_,{{bL (bH 4 lC.nd (pV (0<<<1) (pv 2) eK {2222})),bL (bH 5 lC.nd (pV (pv 4) (pv 3) eK {2222})),jx G (pv 5) (pv 1) iw Τ}}]
  rwa[cF ?_];intro dA V
  let' t:St->Hp->ν:=λ f L=>∃d C,f=#v[?x,.τ (n:ο),.τ (m:ο),.τ s,?d,ε]/\lD H O L C/\gu L c.aW W C m d
  erw[t,5]
  .rwa[bV ?_];intro N;rwa[12,x,_,c.dx,112,h.ins,aS T,T.lj,nZ^_,c.aW,2,h.wt.sM,12,λp a=>?_];let[b,g,u,q,J]:=h.wt.room a (c:=(m:ο)) ∅;rwa[b,Sum.ψ (m:ο),g,2,u,λv j=>?_,λj=>?_]
   .let[d,Τ,w]:=q v j;rwa[d,O,2,h.mid.new a,w]
   .let w:=J j;let R:O c.aW:=by let[D,E,_,z]:=h.wt;rwa[z.o _ (.ψ Τ)]
    rwa[p,12,((h.mid.new a).put R g).or1 a ([aq (λz=>by rw[z]at a;let[o,e,_]:=h.th _ R;rw[a]at e;ext e)]▸aj) s!"" s!"" (by intro _ _ z;ext z) s!"",w]
  rintro f L ⟨d,C,Τ,B,F⟩
  let' l:St->Hp->ν:=λ f M=>∃e y,f=#v[?x,.τ (n:ο),.τ (m:ο),.τ s,?d,?e]/\lD H O M y/\rS M c.aW W y m s e
  erw[l,5]
  .rwa[bV ?_];intro N;rwa[12,d,2,F.sM,12,λp a=>?_];let[b,g,u,q,J]:=F.cell a hs;rwa[b,Sum.ψ s,g,2,u,λv j=>?_,λj=>?_]
   .let[e,Τ,w]:=q v j;rwa[e,C,2,B.new a,w]
   .let w:=J j;let hd:=F.own;rwa[p,12,((B.new a).put hd g).or1 (B.no a) ([aq (λz=>by rw[z]at a;let[o,e,_]:=B.th _ hd;rw[a]at e;ext e)]▸aj) s!"" s!"" (by intro _ _ z;ext z) s!"",w]
  rintro f M ⟨e,y,Τ,U,S⟩;let[b,g,u,q]:=S.put (n:=(n:ο)) ∅;erw[1212,e,12,lL.k (k:=Sum.ψ (n:ο)) g u];let i:=U.put (kv':=putK b (Sum.ψ (n:ο)) (.bl ρ)) S.own g;rwa[k y _ i.bt i.f i.le i.nw (h.waits i.f i.le q i.th)]
inductive Mx (CR CG CC:Zs)(vs:Zb)(H:Hp)(Q:VK)(E_:XK):ν
 |mk (x r:Zs)(c:KA)(gs:Zf)(ag:Zh)(W:bM)(hd:η)(fp:θ (Zg×η))(O:Zs->ν)(m:η)(s:ο):vs=[?x,.τ m,.τ s]->cN CG CC H x r c gs ag W hd fp O->(∀ns:Zh,ns.Nodup->(∀n:η,n∈ns↔W m s n=ρ)->@ag+ @ns<=1000000)->(∀ns H',Bt O H H'->ns.Nodup->(∀n:η,n∈ns↔W m s n=ρ)->cN CG CC H' x r c gs (ag++ns) (hL W m s) hd fp O->Q .non H')->Mx CR CG CC vs H Q E_
theorem gy:T.fM.Ok mg P w base 1 (Mx A.aI A.aT A.aL):=by
 rwa[T.fM.on zh (λb9 AA D s H vs Q E hr h=>?_)]
 .let[x,r,c,gs,ag,W,hd,fp,O,m,s,Τ,h,hz,k]:=h;let C:=iZ hr;erw[_,{{a8 (df amX ap4 ap5 A0 (0<<<1) #[cO (kY Τ) Τ T.ib anF #[wY (oN C (0<<<1) (pv 1) eK {2222}) (pv 2) eK {2222}]])}}]
  let a:∀{i:Hp}{M:bM}{l:Zs}{ns:Zh},cN A.aT A.aL i x r c gs ag M hd fp O->Bt O H i->i l=ε->ns.Nodup->(∀n:η,n∈ns↔W m s n=ρ)->M=hL W m s->zQ (V.Η c.aA) [V.Η l] (υ i l (.Ε (ao (nI ns)))) (λ_ H'=>Q .non H'):=λ{i M l ns} p b2 g R Z eW=>by
   subst eW;let L:=au.υ (o:=.Ε (ao (nI ns))) g;erw[c.aA,l,1122,L^p.hA,aj,5]
   .rw[aD,aD,cK,cK];rwa[amM (hz ns R Z) ⋯]
   .rw[<-ints_app,<-jU];rwa[k ns _ (λb o n e=>[aq (λz=>n ([z]▸h.oA))]▸L^b2 b o n e) R Z ((p.Δ L).agenda (ag++ns))]
  rwa[12,x,_,c.dx,112,h.ins,aS T,T.mS,qg^_,.ψ {21,az.of h.hA},12,x,_,c.dx,112,h.ins,aS T,T.lj,nZ^_,c.aW,2,h.wt.sM,12,λX J=>?_];generalize y:υ H X _=Y;let[s1,S]:=cW y J;let F:=h.Δ s1;let[o,g1,g2]:=F.wt.get (c:=(m:ο));erw[o,g1];rcases g2 with ⟨rfl,no⟩|⟨d,Τ,w⟩
  .rwa[X,Τ,.ψ {_,.ψ S},_,Τ,λu j=>?_];generalize y:υ Y u _=i;let[f,N]:=cW y j;rwa[[],Sum.ψ s,f^S,2,(λv q=>by ext q),λ_=>{u,[],2,N,λl g=>?_}];rwa[a (ns:=[]) (F.Δ f) (.of (s1.π f)) g aoA (λn=>{(λz=>by ext z),λz=>by cbv}) (Ac (no s)).Β]
  .rwa[d,2,w.sM,12,λu j=>?_];generalize y:υ Y u _=i;let[f,N]:=cW y j;let p:=F.Δ f;let[t,e1,U,e3]:=(w.Δ f).pop s;rwa[t,Sum.ψ s,e1,2,λv q=>?_,λq=>{u,[],2,N,λl g=>?_}]
   .let[e,I,ns,Τ,G,f1,f2,f3,f4,f5]:=e3 v q;rwa[e,I,2,[aq G]▸f1,λl g=>?_];let B:=(p.mid.put (kv':=fP t Ò) w.own e1);rw[f2];rwa[a (p.waits B.f B.le f5 B.th) (Bt.π (.of (s1.π f)) B.bt λb z=>.ψ z) g f3 f4 Τ]
   .rwa[a (ns:=[]) p (.of (s1.π f)) g aoA (λn=>{(λz=>by ext z),λz=>by rw[U q]at z;ext z}) (Ac (U q)).Β]
def _root_.Lake.L2.CI.Yl {bs:θ (η×Zg×η)}{gs:Zf}{W:bM}{d:η->ο->ν}{x:Zi}(h:CI S bs gs B W d x){m:η}{s:ο}{ns:Zh}(nd:ns.Nodup)(c:∀n:η,n∈ns↔W m s n=ρ):@ns+ yy S.q @gs (hL W m s)<=yy S.q @gs W:=by
 cases ns with
 |nil=>
  have:∀n,W m s n=χ:=λn=>by
   cases q:W m s n with
   |χ=>rfl
   |ρ=>
    let[_,b,_,e,_]:=h.en γ q
    cbv
  rw[Ac ω,ank,aqn];rwa[amK _]
 |cons n r=>
  let[k,b,l,_,a,_,f,_]:=h.en γ ((c n).mp (amR ..));let a:m<S.q:=∅
  let i:=UJ (G:=@gs) (W:=W) a f
  let g:=Lj (P:=λn:η=>W m s n) (G:=@gs) nd λn a=>by let w:=(c n).mp a;let[_,b,_,e,_,j,_]:=h.en γ w;rwa[3,w]
  ext
def _root_.Lake.L2.CI.two {bs:θ (η×Zg×η)}{gs:Zf}{W:bM}{a:η->ο->ν}{x:Zi}(h:CI S bs gs B W a x):yy S.q @gs W<=2* @gs:=UL λn=>by let[p,q,e,_]:=h.sl n;rwa[p,q,e]
def _root_.Lake.L2.gu.keys {k:Zs}{W:bM}{O:Zs->ν}(h:gu H k W O z d):∃(a:θ (Key×V))(zs:Zg),H d\.dK a/\a.Α (λkv=>kV kv.1)=ao zs/\@zs<=2001/\∀s n,W z s n=ρ->s∈zs:=by
 let[D,E,j,o,hd]:=h;let[a,g,m,b,c]:=j.O9 hd
 let p:@a<=2001:=yx (n:=2001) (lo:=-1000) m b c λi v l=>by
  cases e:E z i with
  |ε=>rw[e]at l;ext l
  |ι x=>have:=o.e z i x e;ext
 let ex:∃zs:Zg,a.Α (·.1)=zs.Α Sum.ψ:=by
  clear g m c p
  induction a with
  |nil=>rwa[[],2]
  |cons kv r q=>
   let[zs,e]:=q λx f=>b x (amZ _ f)
   let[i,t]:=b kv (amR ..);rwa[i::zs,by cbv]
 let[zs,e]:=ex;rwa[a,zs,g,55,λs n w=>?_]
 .rw[show (λkv:Key×V=>kV kv.1)=kV ∘ (·.1) from rfl,<-anu,e,anu];rfl
 .have:=an7 θ.Ξ e;rw[amE,amE]at ω;ext
 .let[x,f]:=j.se γ w;have:Sum.ψ s∈a.Α (·.1):=GD (v:=?x) (by rw[c,f];rfl)
  cbv
structure mX (CG CC:Zs)(S:RS)(bs:θ (η×Zg×η))(gs:Zf)(W0:bM)(Ex:η->ο->ν)(B:η)(x r:Zs)(c:KA)(hd:η)(fp:θ (Zg×η))(O:Zs->ν)(H:Hp)(ag:Zh)(W:bM):ν where
 c:cN CG CC H x r c gs ag W hd fp O
 i:CI S bs gs ag W Ex ε
 s:∀r s n,W r s n=ρ->W0 r s n=ρ
 b:@ag+ yy S.q @gs W<=B
def mX.wake {bs:θ (η×Zg×η)}{gs:Zf}{f:bM}{g:η->ο->ν}{x r:Zs}{c:KA}{hd:η}{e:θ (Zg×η)}{O:Zs->ν}{W:bM}(h:mX a b S bs gs f g n x r c hd e O H B W){m:η}{s:ο}{ns:Zh}(nd:ns.Nodup)(i:∀d:η,d∈ns↔W m s d=ρ)(q:cN a b I x r c gs (B++ns) (hL W m s) hd e O):mX a b S bs gs f g n x r c hd e O I (B++ns) (hL W m s):={q,h.i.wake i,λr s d w=>h.s γ (dC.mp w).1,by have:=h.i.Yl nd i;have:=h.b;rw[amG];ext}
def mX.fits {bs:θ (η×Zg×η)}{gs:Zf}{e:bM}{f:η->ο->ν}{x r:Zs}{c:KA}{hd:η}{g:θ (Zg×η)}{O:Zs->ν}{W:bM}(h:mX a b S bs gs e f n x r c hd g O H B W)(j:n<=1000000){m:η}{s:ο}:∀ns:Zh,ns.Nodup->(∀d:η,d∈ns↔W m s d=ρ)->@B+ @ns<=1000000:=λns nd i=>by have:=h.i.Yl nd i;have:=h.b;ext
inductive G6 (CR CG CC:Zs)(vs:Zb)(H:Hp)(Q:VK)(E_:XK):ν
 |mk (x r:Zs)(c:KA)(S:RS)(a:RA)(bs:θ (η×Zg×η))(gs:Zf)(ag:Zh)(W:bM)(Ex:η->ο->ν)(B hd:η)(fp:θ (Zg×η))(O:Zs->ν)(m:η):vs=[?x,.τ m]->mX CG CC S bs gs W Ex B x r c hd fp O H ag W->B<=1000000->aB CR H r S a->S.Wf->(∀b,a.own r b->¬O b)->m<S.q->S.ay m<S.q->(∀jP W' H',Bt O H H'->mX CG CC S bs gs W Ex B x r c hd fp O H' jP W'->(∀s n,W' m s n=χ)->(∀s n,W' (S.ay m) s n=ρ->S.by (S.ay m) s=ε)->Q .non H')->G6 CR CG CC vs H Q E_
def tG:T.kc.Ok mg P w base 2 (G6 A.aI A.aT A.aL):=by
 rwa[T.kc.on fU (λb9 AA outer s H vs Q E hr h=>?_)]
 .let[x,r,c,S,a,bs,gs,ag,W,Ex,B,hd,fp,O,m,Τ,h,hB,hR,wf,dj,hm,he,k]:=h;let qH:=iZ hr
  erw[_,{{bU am5 Τ (cD (cO (kY Τ) Τ T.ib anF #[oN qH (0<<<1) (pv 1) eK {2222}])) (du 2 fU.nd)
   {{a8 (pm (pv 0) (aS T) T.fM (gy T) hr #[1,2])}},bH 3 fU.nd (pm (0<<<1) (aO T) T.iR (jK T) hr #[1]),bU am5 Τ (cD (cO (kY Τ) Τ T.ib anF #[oN qH (0<<<1) (pv 3) eK {2222}])) (du 2 fU.nd)
    {{bL (bI (aX zO (pm (0<<<1) (aO T) T.jk (iU T) hr #[3,2]) dJ (bh _))
     {{a8 (pm (pv 0) (aS T) T.fM (gy T) hr #[3,2])}}
     bp)}}}}]
  rwa[cF ?_];intro dA eD;let rk:∀{F:Hp},Bt O H F->aB A.aI F r S a:=λ{F} b=>hR.keep (λb' o hb e=>b b' o (dj b' hb) e) (λb' xs e=>b b' _ (h.c.j7 e) e)
  let get:∀{U:Hp}{ag1:Zh}{W1:bM}(m1:η),mX A.aT A.aL S bs gs W Ex B x r c hd fp O U ag1 W1->∀N,U N=ε->∃(o:Zc)(d:Zs)(y:θ (Key×V))(J:Zg),dB (υ U N (.dK [])) c.aW (.τ (m1:ο)) o/\o.Λ ?N=?d/\υ U N (.dK []) d\.dK y/\y.Α (λkv=>kV kv.1)=ao J/\∀s n,W1 m1 s n=ρ->s∈J:=λ{U ag1 W1} m1 h1 N I=>by
   let s1:=au.υ (o:=.dK []) I;let[o,Y,g2]:=(h1.c.Δ s1).wt.get (c:=(m1:ο));rcases g2 with ⟨rfl,no⟩|⟨d,Τ,w⟩
   .rwa[ε,N,[],[],Y,Τ,aj,Τ,λs n z=>by cbv]
   .let[y,J,e1,e2,_,e4]:=w.keys;rwa[_,d,y,J,Y,2,e1,e2,e4]
  rwa[12,x,_,c.dx,112,h.c.ins,aS T,T.lj,nZ^_,c.aW,2,h.c.wt.sM,12,λN I=>?_];let[o,d,y,J,Y,g2,g3,g4,RD]:=get m h N I;rwa[o,Y,d,y,(by rw[g2]),g3,λl nl=>?_];rw[g4];let s1:=(au.υ (o:=.dK []) I).π (au.υ (o:=.Ε (ao J)) nl);let hl:υ (υ H N (.dK [])) l (.Ε (ao J)) l\(.Ε (ao J)):=aj;replace nl:=same_none (au.υ (o:=.dK []) I) nl;change υ (υ H N (.dK [])) l (.Ε (ao J))=U at s1 hl ⊢;clear Y g2 g3 g4;let nol:¬O l:=λz=>by let[o,e,_]:=h.c.th l z;cbv
  let h1:mX A.aT A.aL S bs gs W Ex B x r c hd fp O U ag W:={h.c.Δ s1,h.i,h.s,h.b};erw[l,2,{_,az.of hl}]
  let' jo:η->St->Hp->ν:=λi R F=>∃u L v2,R=#v[?x,.τ (m:ο),v2,ε]/\Bt O U F/\mX A.aT A.aL S bs gs W Ex B x r c hd fp O F u L/\∀(j:η)(s:ο),j<i->J[j]?\s->∀n,L m s n=χ
  refine cS (xs:=ao J) jo
   {ag,W,ε,2,λ_ _ _ e=>e,h1,λj s D=>absurd D ∅} (λi R F _ ζ=>by let[_,_,_,_,b2,_]:=ζ;rwa[az.of (b2 β nol hl)]) ?_ ?_
  .intro i v R F hi g;rwa[bu ?_];intro G;let[u,L,v2,Τ,b2,p,D]:=g;dsimp only[G];clear G;dsimp only[cU];rwa[bV ?_];intro ic;let[s,Τ,hs]:=bR hi;rwa[12,x,c.dx,12,p.c.ins,fV ⋯,1212,x,r,c,gs,u,L,hd,fp,O,m,s,2,p.c,p.fits hB,λns H3 b3 nd hn h3=>?_];rwa[1112,b2.π b3 λb z=>.ψ z,p.wake nd hn h3,λj s' f e n=>?_]
   cases q:hL L m s m s' n with
   |χ=>rfl
   |ρ=>
    let[q1,q2]:=dC.mp q
    cbv
  intro R F g;rwa[bu ?_];intro G;let[u,L,v2,Τ,b2,p,D]:=g;dsimp only[G];clear G;rw[aD]at D;let Ym:Bt O H F:=Bt.π (.of s1) b2 λb z=>.ψ z
  let off:∀s n,L m s n=χ:=λs n=>by
   cases q:L m s n with
   |χ=>rfl
   |ρ=>let[j,f,e]:=apL.mp (RD s n (p.s γ q));rw[D j s f (by rw[amB f,e]) n]at q;ext q
  clear D RD hl nol h1;let R2:=rk Ym;erw[12,x,_,c.dx,112,p.c.ins,aS T,T.fO,gO^_,r,a.dx,12,R2.ins,cY γ ⋯,12,r,S,a,m,S.ay m,2,R2,pH ([wf.e]▸hm)];change S.ay m=e at he k ⊢;rwa[12,x,_,c.dx,112,p.c.ins,aS T,T.lj,nZ^_,c.aW,2,p.c.wt.sM,12,λp2 zq=>?_];let[o2,d2,afc,C,Y,g2,g3,g4,afd]:=get e p p2 zq;rwa[o2,Y,d2,afc,(by rw[g2]),g3,λl2 Ew=>?_];rw[g4];let s3:=(au.υ (o:=.dK []) zq).π (au.υ (o:=.Ε (ao C)) Ew);let A8:υ (υ F p2 (.dK [])) l2 (.Ε (ao C)) l2\(.Ε (ao C)):=aj;replace Ew:=same_none (au.υ (o:=.dK []) zq) Ew;change υ (υ F p2 (.dK [])) l2 (.Ε (ao C))=H3 at s3 A8 ⊢;clear Y g2 g3 g4;let afe:¬O l2:=λz=>by let[o,e,_]:=p.c.th l2 z;cbv
  let h3:mX A.aT A.aL S bs gs W Ex B x r c hd fp O H3 u L:={p.c.Δ s3,p.i,p.s,p.b};erw[l2,2,{_,az.of A8}]
  let' xU:η->St->Hp->ν:=λi R Z=>∃M W4 v2,R=#v[?x,.τ (m:ο),v2,.τ (e:ο)]/\Bt O H3 Z/\mX A.aT A.aL S bs gs W Ex B x r c hd fp O Z M W4/\(∀r s n,W4 r s n=ρ->L r s n=ρ)/\∀(j:η)(s:ο),j<i->C[j]?\s->∀n,W4 e s n=ρ->S.by e s=ε
  refine cS (xs:=ao C) xU
   {u,L,12,λ_ _ _ q=>q,h3,λ_ _ _ q=>q,λj s D=>absurd D ∅} (λi R Z _ ζ=>by let[_,_,_,_,b4,_]:=ζ;rwa[az.of (b4 β afe A8)]) ?_ ?_
  .intro i v R Z hi g;rwa[bu ?_];intro G;let[M,W4,v4,Τ,b4,X,t,D]:=g;dsimp only[G];clear G;dsimp only[cU];rwa[bV ?_];intro ic;let[s,Τ,hs]:=bR hi;let b04:Bt O H Z:=Ym.π (Bt.π (.of s3) b4 λb z=>.ψ z) λb z=>.ψ z
   let R4:=rk b04;rwa[15,λ_ _ z=>z];erw[12,x,_,c.dx,112,X.c.ins,aS T,T.fO,gO^_,r,a.dx,12,R4.ins,cY γ ⋯,1212,r,S,a,e,s,2,R4,[wf.w]▸he]
   cases eb:S.by e s with
   |ε=>
    erw[212];rwa[cw (λz=>absurd z ⋯) (λ_=>?_)];rwa[1112,b4,X,t,λj s' f q n w=>?_]
    cbv
   |ι d=>
    rw[show (Ο.Α (λn:η=>V.τ (n:ο)) (ι d)).Λ V.non=V.τ (d:ο) from rfl];erw[212];rwa[cw (λ_=>?_) (λz=>absurd Τ z)];rwa[12,x,c.dx,12,X.c.ins,fV ⋯,1212,x,r,c,gs,M,W4,hd,fp,O,e,s,2,X.c,X.fits hB,λns H5 b5 nd hn h5=>?_];rwa[1112,b4.π b5 λb z=>.ψ z,X.wake nd hn h5,λr s n w=>t γ (dC.mp w).1,λj s' f q n w=>?_];let[w1,w2]:=dC.mp w
    cbv
  intro R Z g;rwa[bu ?_];intro G;let[M,W4,v4,Τ,b4,X,t,D]:=g;dsimp only[G];clear G;rw[aD]at D;rwa[k M W4 Z (Ym.π (Bt.π (.of s3) b4 λb z=>.ψ z) λb z=>.ψ z) X (λs n=>?_) λs n w=>?_]
  .cbv
  .let[j,f,q]:=apL.mp (afd s n (t γ w));rwa[D j s f (by rw[amB f,q]) n w]
def cN.ab3 {x r:Zs}{c:KA}{gs:Zf}{W:bM}{hd:η}{l:θ (Zg×η)}{O:Zs->ν}(h:cN a b H x r c gs B W hd l O)(F:∀(n:η) (g:Gg) (p dx j:Zs),gs[n]?\ι g->e8 a H p dx j g->p≠x)(n:η):cN a b (υ H x (.ins b c.dx (rA r c n))) x r c gs B W n l O:=by
 let kn:∀f o,(∀C d fs,o≠.ins C d fs)->H f\o->υ H x (.ins b c.dx (rA r c n)) f\o:=λf o q e=>by rw[aq (λz=>by rw[z,h.ins]at e;cbv)];rwa[e]
 let[t,u,g2]:=h.hG;rwa[aj,{t,kn β (by cbv) u,g2.l,g2.n,λi v g y s=>?_,g2.i},kn β (by cbv) h.hA,5,h.ne,h.ox,h.oG,h.oA,λf k=>?_]
 .let[p,dx,j,e,q,o]:=g2.s i v g y s;rwa[p,dx,j,e,{[aq (F i g p dx j s q)]▸q.ins,kn β (by cbv) q.wo},o]
 .let[D,E,k1,k2]:=h.wt;rwa[D,E,k1.keep λf o k e=>by let[kv,q]:=k1.there k;rw[q]at e;ext e;rwa[kn β (by cbv) q],k2]
 .cases e:f=x
  .rwa[_,[e]▸aj,(by cbv),(by cbv),(by cbv),by cbv]
  .let[o,q,m]:=h.th f k;rwa[o,[aq e]▸q,m]
def EG {x r:Zs}{c:KA}{d:Zf}{W:bM}{hd:η}{f:θ (Zg×η)}{O:Zs->ν}(h:cN a b H x r c d B W hd f O){p j i:Zs}{g:Gg}(q:e8 a H p j i g):p≠x:=λz=>by have:=q.ins;rw[z,h.ins]at ω;let e:=an7 (λo:Ο HO=>match o with|ι (.ins β fs)=>@fs|_=>0) ω;rwa[absurd (show 6=7 from e) ⋯]
def S0 (S:RS)(hd:η):η->ο->ν:=λr _=>∃m∈S.bq.drop hd,r=m\/r=S.ay m
inductive My (CR CG CC:Zs)(vs:Zb)(H:Hp)(Q:VK)(E_:XK):ν
 |mk (x r:Zs)(c:KA)(S:RS)(a:RA)(R:Za2)(bs:θ (η×Zg×η))(gs:Zf)(ag:Zh)(W:bM)(B hd:η)(fp:θ (Zg×η))(O:Zs->ν):vs=[?x]->mX CG CC S bs gs W (S0 S hd) B x r c hd fp O H ag W->B<=1000000->hd<=@S.bq->aB CR H r S a->Good S [] R->(∀m∈S.bq,m<S.q)->(∀b,a.own r b->¬O b)->(∀jP W' H',Bt O H H'->mX CG CC S bs gs W gI B x r c @S.bq fp O H' jP W'->Q .non H')->My CR CG CC vs H Q E_
def zv:T.pw.Ok mg P w base 3 (My A.aI A.aT A.aL):=by
 rwa[T.pw.on zi (λb9 AA L s H vs Q E N h=>?_)]
 .let[x,r,c,S,a,R,bs,gs,ag,W,B,hd,fp,O,Τ,h,hB,Y,hR,J,X,dj,k]:=h
  refine{_,{{bL (ja am5 (aX nL (0<<<1) (((0<<<1)<<<1)<<<0) (bh _))
   {{a8 (pm (pv 0) (aS T) T.kc (tG T) N #[((0<<<1)<<<1)|||(0<<<1)]),ck (pv 0) (aK cZ (0<<<1) ak) Τ}})}},?_}
  let rk:∀{u:Hp},Bt O H u->aB A.aI u r S a:=λ{u} b=>hR.keep (λF o hb e=>b F o (dj F hb) e) (λF xs e=>b F _ (h.c.j7 e) e)
  rwa[λ fH H'=>Q .non H',5,λ_ _ q=>q];erw[λm σ u=>∃d j G,m=@S.bq - d/\σ=#v[?x]/\d<=@S.bq/\Bt O H u/\mX A.aT A.aL S bs gs W (S0 S d) B x r c d fp O u j G,⟨_,hd,ag,W,22,Y,λ_ _ _ e=>e,h⟩];intro m σ u I;rwa[bu ?_];intro q_;let[d,j,G,Τ,Τ,A8,U,i]:=I;dsimp only[q_];clear q_;let R2:=rk U;let t:=R2.ins;erw[12,x,_,c.dx,112,i.c.ins,aS T,T.pC,xT^_,12,x,_,c.dx,112,i.c.ins,aS T,T.fO,gO^_,r,_,a.dx,112,t,aO T,T.uE,vi^_,a.aN,12,.ψ (az.of R2.hN),112212];rwa[cw (λq=>?_) (λq=>?_)]
  .let q:(d:ο)<(@(ao Ŭ):ο):=ane q;rw[aD,cK]at q;let f:d<@S.bq:=∅
   let D:S.bq[d]?\(S.bq[d]'f):=amB f
   change S.bq[d]'f=m at D;let y:=X m (amD D);erw[_,λ_ _ z=>z];erw[12,x,c.dx,12,i.c.ins,fV ⋯,12,x,_,c.dx,112,i.c.ins,aS T,T.fO,gO^_,r,_,a.dx,112,t,aO T,T.uE,vi^_,12,x,_,c.dx,112,i.c.ins,aS T,T.pC,xT^_,a.aN,11,.τ (m:ο),22,az.of R2.hN,cG (bT (kT D))];rwa[x,r,c,S,a,bs,gs,j,G,S0 S d,B,d,fp,O,m,2,{i.c,i.i,λ_ _ _ z=>z,i.b},hB,R2,J.wf,dj,y,J.lt y,λM W3 H3 b3 l w1 w2=>?_];erw[12,x,_,c.dx,112,l.c.ins,aS T,T.pC,xT^_,112212,x,_,c.dx,12,l.c.ins,aS T,T.pC,(by show 6<1000;decide)];rw[show V.τ ((d:ο)+ 1)=V.τ ((d+ 1:η):ο) from rfl,QG];let c4:=l.c.ab3 (λn g p dx wa _ z=>EG l.c z) (d+ 1);rwa[@S.bq - (d+ 1),3,d+ 1,M,W3,22,f,5,c4,l.i.ex λr' s n w N ex=>?_,λr s n w=>i.s γ (l.s γ w),l.b]
   .rwa[(U.π b3 λb z=>.ψ z).π (λb o n e=>by rw[aq (λz=>n ([z]▸l.c.ox))];rwa[e]:Bt O H3 _) λb z=>.ψ z]
   .let[Z,v,C]:=ex;rw[aoY f]at v;rcases amW.mp v with z|z
    .let em:Z=m:=by rw[z];rw[amB f]at D;rwa[Za0 D]
     subst em;rcases C with C|C
     .rw[C,w1]at w;ext w
     .subst C;rwa[.ψ {(J.el _ y).2,w2 s n w}]
    .rwa[.Ζ {Z,z,C}]
  .let q:¬(d:ο)<(@(ao Ŭ):ο):=λz=>q (anh z)
   rw[aD,cK]at q;let e:d=@S.bq:=∅
   subst e;rwa[k j G u U {i.c,i.i.ex λr' s n w N ex=>?_,i.s,i.b}];let[Z,v,_]:=ex
   cbv
def BF {h:Ze}(g:Good S h R)(o:∀a z b,R a z b->z∈l)(r:S.q<=100000)(m:@l<=100000)(s:@S.rows<=1000000)(p:@S.bq<=1000000):zp S:=by
 rwa[g.wf,λc i=>g.lt i,λc z d e=>(g.st c z d e).2.1,λc n t=>g.cb c n t,λc _=>{g.kn c,λq j=>(g.st c q.1 q.2 (ky (g.kn c) j)).2.1,λq j _=>?_},{r,λf k=>?_,s,p,λf k=>?_}]
 .rw[g.sy c q.1 q.2 (ky (g.kn c) j)];rfl
 .let[c,i]:=ant k;have:S.way c=f:=by unfold RS.way;rw[amH,i];rfl
  rw[<-ω];rwa[amM (g.KY o c) m]
 .let[c,i]:=ant k;have:S.cM c=f:=by unfold RS.cM;rw[amH,i];rfl
  rw[<-ω];rwa[amM (g.Xb c) ∅]
def EH (S:RS):S.stand<=S.q:=by unfold RS.stand;rwa[amM θ.countP_le_length (by cbv)]
def Yn (R:Za2)(m L B f M:η)(e:Zg)(d:RS)(c:Ze)(S:RS)(a:Ze):ν:=Good S a R/\S.q=m/\S.L=L/\@S.rows+ S.stand<=B/\@S.bq+ S.stand<=f/\mu @e S a<=M/\∀b,lT S a b->lT d c b
def QH {T:RS}{M:η}{r:Ze}(p:∀a z b,R a z b->z∈l)(J:m<=100000)(s:@l<=100000)(N:i<=1000000)(L:j<=1000000)(I:M<=1000000)(S:RS)(pend:Ze)(w:Way)(h:Yn R m n i j M l T r S (pend++[w])):
 zp S/\w.1<S.q/\w.2.2<S.q/\@pend<=1000000/\Yn R m n i j M l T r (S.takeIn pend w).1 (S.takeIn pend w).2/\mu @l (S.takeIn pend w).1 (S.takeIn pend w).2<mu @l S (pend++[w]):=by
 let[g,D,v,E,H,o,t]:=h;let[F,G,u,B,q]:=g.take p;let hw:=g.pl w ħ;rwa[BF g p ∅ s ∅ ∅,hw.1,hw.2,5,{F,by rw[u,D],by rw[B,v],553,λC d=>t C (.take d)},G]
 .unfold mu at o;rw[amG]at o;ext
 .rcases q with ⟨e,k,f⟩|⟨e,c,z,x,y,_,_,_,_,_,k,f,_⟩
  .rw[e,k];rwa[E]
  .rw[k,amG];have:@([iO c z Ô Ψ]:θ Dt)=1:=rfl;ext
 .rcases q with ⟨e,k,f⟩|⟨e,c,z,x,y,_,_,_,_,_,k,f,_⟩
  .rw[e,f];rwa[H]
  .rw[f,amG];have:@([max x y]:Zh)=1:=rfl;ext
def ie:z∈bE (2* n)↔z≠0/\z.natAbs<=n:=by
 unfold bE;rw[anm];constructor
 .rintro ⟨i,a,rfl⟩;rwa[M12.rX (anj.mp a)]
 .rintro ⟨d,c⟩;cases b:0<z
  .erw[2* (z.toNat - 1),anj.mpr ∅];unfold M12.st;rw[am1 ∅];ext
  .erw[2* (z.natAbs - 1)+ 1,anj.mpr ∅];unfold M12.st;rw[amY ∅];ext
structure kJ (CR:Zs)(H:Hp)(r:Zs)(S:RS)(a:RA)(R:Za2)(ks:Zg)(B:η):ν where
 at_:aB CR H r S a
 g:Good S [] R
 w:fQ S
 k:∀a z b,R a z b->z∈ks
 m:S.q<=2000
 l:@ks<=400
 rb:@S.rows+ S.stand<=B
 wb:@S.bq+ S.stand<=900000
def kJ.keep {CR r:Zs}(h:kJ CR H r S O R l n)(k:∀b o,O.own r b->H b\o->I b\o)(c:∀b a,H b\.Θ a->I b\.Θ a):kJ CR I r S O R l n:={h.at_.keep k c,h.g,h.w,h.k,h.m,h.l,h.rb,h.wb}
def kJ.Δ {CR r:Zs}(h:kJ CR H r S O R l n)(s:Đ):kJ CR I r S O R l n:=h.keep (λb o _ e=>s^e) (λb o e=>s^e)
def Az {r:Zs}(h:Ϭ){b:Zs}{d:θ (Zd×V)}(e:H b\.dT d):¬O.own r b:=λz=>by
 rcases z with z|z|z
 .rw[z,h.ins]at e;ext e
 .let[c,q]:=h.RL z;cbv
 .let[c,q]:=h.sM z;cbv
def QI (w:η)(p:Zh)(k:η)(h:@p<=100000):oO (oj w p k):=by
 rwa[.t (by show 4<=100000;decide) λd hd=>?_]
 simp only[amW,anK,apb]at hd;rcases hd with rfl|rfl|rfl|rfl
 .rwa[.s]
 .rwa[.i]
 .rwa[.t (by rw[amE];rwa[h]) λd hd=>?_]
  let[c,_,Τ]:=anm.mp hd;rwa[.i]
 .rwa[.i]
inductive Mz (CR CG CC:Zs)(vs:Zb)(H:Hp)(Q:VK)(E_:XK):ν
 |mk (x r p dx wa:Zs)(c:KA)(S:RS)(a:RA)(R:Za2)(ks:Zg)(B:η)(ws:Za3)(nr:η)(bs:θ (η×Zg×η))(gs:Zf)(ag:Zh)(W:bM)(fp:θ (Zg×η))(O:Zs->ν)(n:η)(g:Gg):vs=[?x,?p]->cN CG CC H x r c gs ag W @S.bq fp O->kJ CR H r S a R ks B->B<900000->(∀b,a.own r b->¬O b)->CI S bs gs ag W gI (ι n)->gs[n]?\ε->bs[n]?\(g.which,g.word,g.start)->e8 CG H p dx wa g->¬O p->¬a.own r p->GI S g->g.first=g.last->S.ay g.start=g.start->S.ay g.front=g.front->S.ay g.bK=g.bK->ws[g.which]?\g.word->(g.which<nr\/g.start=0)->(∀z∈g.word,z∈ks/\-z∈ks)->@g.word<=1000->@ag+ 2* @gs<=1000000->(∀S' a' R' jP W' H',(∀b o,¬O b->¬a.own r b->H b\o->H' b\o)->cN CG CC H' x r c gs jP W' @S'.bq fp O->kJ CR H' r S' a' R' ks (B+ 1)->(∀b,a'.own r b->a.own r b\/H b=ε)->CI S' bs gs jP W' gI ε->@jP<=@ag+ 2* @gs->(∀a z b,R a z b->R' a z b)->S'.q=S.q->S'.L=S.L->Tr ws nr S S'->Q .non H')->Mz CR CG CC vs H Q E_
def AB:T.qv.Ok mg P w base 6 (Mz A.aI A.aT A.aL):=by
 rwa[T.qv.on rh (λb9 AA outer s H vs Q E U h=>?_)]
 .let[x,r,p,t,wa,c,S,a,R,ks,B,ws,nr,bs,I,ag,W,fp,O,n,g,Τ,Z,f,hB,dj,ci,hgn,MA,v,EI,Yj,i,F,es,ef,er,EJ,Yo,hks,pI,L,k]:=h
  refine{_,{{bH 2 rh.nd ((1<<<1)&&&(1<<<1)),bI (aX dI (pm (0<<<1) (aO T) T.jk (iU T) U #[1<<<1,2]) (1<<<1) (bh _))
    {{zL}}
    bp,a8 (pm (0<<<1) (aO T) T.uz (EA T) U #[1<<<1,2,1<<<1,pm (pv 1) (aZ T) T.uy (EF T) U #[0<<<1]]),a8 (pm (pv 0) (aS T) T.fM (gy T) U #[1<<<1,2]),a8 (pm (pv 0) (aS T) T.fM (gy T) U #[1<<<1,fx dN (pv 2)]),a8 (DN (pv 0) (aS T) T.pw (zv T) U)}},?_}
  rwa[xg ?_];intro rn pG jn dA eD;let hz:=Gg.sN (g:=g) ([F]▸i.ll);let sN:pS (ao g.word) (g.first:ο)\(.τ g.z1):=cG (bT hz);let gd:=f.g;erw[12,p,_,t,112,v.ins,aZ T,T.kF,lZ β,12,p,_,t,112,v.ins,aZ T,T.fN,iG β,wa,11,.τ g.z1,22,bD.of v.wo,sN];erw[12,x,_,c.dx,112,Z.ins,aS T,T.fO,gO^_,r,a.dx,12,f.at_.ins,cY γ ⋯,12,p,_,t,112,v.ins,aZ T,T.iE,l0 β,12,r,S,a,g.front,g.z1,2,f.at_,[gd.wf.w]▸i.f,12,p,_,t,112,v.ins,aZ T,T.iS,mh β]
  let fin:S.by g.front g.z1=ι g.bK->Q .non H:=λj=>by rwa[k S a R ag W H (λ_ _ _ _ e=>e) Z {f.at_,f.g,f.w,f.k,f.m,f.l,by have:=f.rb;ext,f.wb} (λb z=>.ψ z) (ci.done hgn λb eb=>?_) ∅ (λ_ _ _ z=>z) Τ Τ (.refl S)];rw[MA]at eb;obtain rfl:=Za0 eb;rwa[.Ζ (i.whole F es ef er j)]
  cases j:S.by g.front g.z1=ι g.bK
  .rw[j];erw[212];rwa[cw (λ_=>fin j) (λz=>absurd (anh Τ) z)]
  let N:N7 (((S.by g.front g.z1).Α λn:η=>V.τ (n:ο)).Λ .non) (.τ (g.bK:ο))=ρ/\decide ((((S.by g.front g.z1).Α λn:η=>V.τ (n:ο)).Λ .non)=V.τ (g.bK:ο))=χ:=by
   cases q:S.by g.front g.z1 with
   |ε=>rwa[2,anG f!""]
   |ι d=>rwa[2,anG (λz=>j (by rw[q];have:=V.τ.inj z;congr 1;omega))]
  erw[N.1,12];rw[N.2];rwa[dc ?_];clear fin N;rwa[12,x,_,c.dx,112,Z.ins,aS T,T.fO,gO^_,r,a.dx,12,f.at_.ins,cY γ ⋯,12,p,_,t,112,v.ins,aZ T,T.iE,l0 β,1212,p,_,t,112,v.ins,aZ T,T.iS,mh β,12,p,t,12,v.ins,SX ⋯,12,x,_,c.dx,112,Z.ins,aS T,T.fO,gO^_,p,t,wa,r,g,S,a,R,2,v,f.at_,gd,i.s,i.r,i.ll,pI,λq H1 s1 dt=>?_];let lx:=rz (by_:=S.by) (ws:=g.word.take g.first) (r:=g.start);let ly:=rz (by_:=S.by) (ws:=g.word.drop (g.last+ 1)) (r:=g.bK);rw[anc]at lx;rw[anI]at ly;let f1:=i.wf;let f2:=i.wr;rw[es,ef]at f1;rw[es,er,<-F]at f2;rw[<-F]at dt ly;let ra:Dw ws nr S g.which g.word g.start g.first g.front g.bK g.z1:={EJ,Yo,{i.s,es},hz,f1,f2,{i.f,ef},{i.r,er},j}
  let C:∀a y b,fX R g.front g.z1 g.bK a y b->y∈ks:=by
   have:=hks g.z1 (amD hz);rintro a y b (z|⟨_,e,_⟩|⟨_,e,_⟩)
   .rwa[f.k γ z]
   .rw[e];rwa[ω.1]
   .rw[e];rwa[ω.2]
  let stl:=EH S
  let SW:mu @ks (rQ S g.which g.word g.start g.first g.bK) [(g.front,g.z1,g.bK)]<=1000000:=by unfold mu;let h1:(rQ S g.which g.word g.start g.first g.bK).stand=S.stand:=rfl;have:S.stand* (@ks+ 1)<=2000* 401:=apO (by have:=f.m;omega) (by have:=f.l;omega);rw[h1];show S.stand* (@ks+ 1)+ 1<=_;ext
  let gl:=gd.lay g.z1 i.f i.r (rQ S g.which g.word g.start g.first g.bK).rows;rwa[r,q,S,a,g.front,g.bK,g.z1,_,Yn (fX R g.front g.z1 g.bK) S.q S.L (B+ 1) 900000 1000000 ks (rQ S g.which g.word g.start g.first g.bK) [(g.front,g.z1,g.bK)],mu @ks,2,f.at_.Δ s1,by have:=f.rb;ext,dt,QI γ (by rw[amG,amT,amT];omega),{gl,225,f.wb,SW,λ_ z=>z},QH C (by have:=f.m;omega) (by have:=f.l;omega) ∅ ⋯ ⋯,λu a' H2 b2 h2 i2 o2=>?_]
  .show @(S.rows++[_])+ S.stand<=_;rw[amG];have:=f.rb;show _+ 1+ _<=_;ext
  let[g2,em,eL,rb2,wb2,_,re]:=i2;let lay:=re u (.nil u);let[_,w2,_,_,l,el]:=lay.all gl C ({f.w.a,f.w.b,f.w.c}:fQ (rQ S g.which g.word g.start g.first g.bK));let el:u.bq=S.bq++l:=el;let D:∀b o,¬a.own r b->H b\o->H2 b\o:=λb o nb e=>b2 b o nb (s1^e)
  let o02:∀b,a'.own r b->a.own r b\/H b=ε:=λb z=>(o2 b z).Ρ id (same_none s1)
  let M:∀b,a'.own r b->¬O b:=λb z y=>by
   rcases o02 b z with q|q
   .rwa[dj b q y]
   .let[o,e,_]:=Z.th b y;cbv
  let X:cN A.aT A.aL H2 x r c I ag W @S.bq fp O:=Z.keep (λb o j e=>D b o (λz=>dj b z j) e) (λb xs e=>D b _ (f.at_.vj e) e);let p2:e8 A.aT H2 p t wa g:={D β Yj v.ins,D β (f.at_.vj v.wo) v.wo};let lt:=Later.of gd g2 jh (apW em.Β)
  let EK:=ci.lay hgn gd g2 em f.w w2 el i.f ef i.r er λb eb=>by
   rw[MA]at eb;obtain rfl:=Za0 eb;show u.ay g.start≠g.start\/wk u.by g.start g.word=ι g.start;cases Y:u.ay g.start=g.start
   .right
    let h1:=lt.wk f1;let h3:=lt.wk f2;let hbb:=g2.tZ.mpr {g.front,g.bK,lQ,22};rw[Y]at h1 h3;have:g.word=g.word.take g.first++(g.z1::g.word.drop (g.first+ 1)):=by rw[<-drop_cons hz,an2]
    rw[ω,oQ h1,iP hbb];rwa[h3]
   .rwa[.ψ Y]
  let MB:mX A.aT A.aL u bs I W _ (@ag+ 2* @I) x r c @S.bq fp O H2 ag W:={X,EK,λ_ _ _ z=>z,by have:=EK.two;ext};rwa[12,x,c.dx,12,X.ins,fV ⋯,12,p,_,t,112,p2.ins,aZ T,T.iE,l0 β,12,x,r,c,I,ag,W,@S.bq,fp,O,g.front,g.z1,2,X,MB.fits L,λns H3 b3 nd hn c3=>?_];let wk1:=MB.wake nd hn c3;let p3:e8 A.aT H3 p t wa g:={b3 β EI p2.ins,b3 β (X.j7 p2.wo) p2.wo};rwa[12,x,c.dx,12,c3.ins,fV ⋯,12,p,_,t,112,p3.ins,aZ T,T.iS,mh β,1212,x,r,c,I,11,@S.bq,fp,O,g.bK,-g.z1,2,c3,wk1.fits L,λns2 H4 b4 nd2 S8 c4=>?_];let wk2:=wk1.wake nd2 S8 c4;let G:Bt O H2 H4:=b3.π b4 λb z=>.ψ z
  let R4:aB A.aI H4 r u a':=h2.keep (λb o j e=>G b o (M b j) e) (λb xs e=>G b _ (X.j7 e) e)
  let i4:CI u bs I (ag++ns++ns2) (hL (hL W g.front g.z1) g.bK (-g.z1)) (S0 u @S.bq) ε:=wk2.i.ex λr' s n' w U ex=>by
   let[w1,n1]:=dC.mp w;let[w2,n2]:=dC.mp w1;rcases ex with ⟨Y,e2⟩|⟨Y,e2⟩|⟨m,hm,e⟩
   .rwa[absurd {by rw[Y],e2} n2]
   .rwa[absurd {by rw[Y],e2} n1]
   .rwa[.Ζ {m,by cbv,e}]
  rwa[_,Τ,x,c.dx,_,Τ,c4.ins,fV (by decide),x,r,c,u,a',_,bs,I,_,_,_,@S.bq,fp,O,Τ,{c4,i4,λ_ _ _ z=>z,wk2.b},L,by rw[el,amG];ext,R4,g2,w2.c,M,λYp W5 H5 b5 h5=>?_];let J:Bt O H2 H5:=G.π b5 λb z=>.ψ z
  rwa[k u a' _ Yp W5 H5 (λb o n1 n2 e=>J b o n1 (D b o n2 e)) h5.c {h2.keep (λb o j e=>J b o (M b j) e) (λb xs e=>J b _ (X.j7 e) e),g2,w2,C,[em]▸f.m,f.l,rb2,wb2} o02 h5.i (by have:=h5.b;omega) jh em eL (.step (.refl S) ra lay)]
def ab4 {x:V}{A B:ν}(h:x=q)(k:B):if (!decide (x=q))=ρ then A else B:=by cbv
section
variable {CG CC:Zs}{H H':Hp}{x r:Zs}{c:KA}{gs:Zf}{ag:Zh}{W:bM}{hd:Nat}{fp:List (Zg×Nat)}{O:Zs->Prop}{gv:Zb}{n:Nat}{p dx wa:Zs}{g g':Gg}
def cN.ab5 (h:Æ)(hG:H c.aG\.Ε gv)(j:sC CG H gv gs O)(I:gv[n]?\?p)(M:O p)(q:e8 CG H p dx wa g)(f:∀b o,b≠p->H b\o->H' b\o)(L:e8 CG H' p dx wa g'):cN CG CC H' x r c ϥ ag W hd fp O/\sC CG H' gv ϥ O:=by
 let kn:∀b o,(∀C d fs,o≠.ins C d fs)->H b\o->H' b\o:=λb o w e=>f b o (λz=>by rw[z,q.ins]at e;cbv) e
 let a:sC CG H' gv ϥ O:=by
  rwa[[am7]▸j.l,λi v y l=>?_,λi v u y l=>?_,j.i]
  .rcases fK l with ⟨_,z⟩|⟨_,z⟩
   .ext z
   .rwa[j.n i v y z]
  .rcases fK l with ⟨z1,z⟩|⟨z1,z⟩
   .cbv
   .let[F,t,s,e,B,J]:=j.s i v u y z;let G:F≠p:=λz=>z1 (j.i i n p (by cbv) I)
    rwa[F,t,s,e,{f β G B.ins,kn β (by cbv) B.wo},J]
 rwa[{f β (EG h q).Β h.ins,{gv,kn β (by cbv) hG,a},kn β (by cbv) h.hA,5,h.ne,h.ox,h.oG,h.oA,λb k=>?_},a]
 .let[D,E,k1,k2]:=h.wt;rwa[D,E,k1.keep λb o k e=>by let[kv,q]:=k1.there k;cbv,k2]
 .cases e:b=p
  .rwa[_,[e]▸L.ins,(by cbv),(by cbv),(by cbv),by cbv]
  .let[o,q,m]:=h.th b k;rwa[o,f β e q,m]
theorem cN.G7 (h:Æ)(hG:H c.aG\.Ε gv)(f:sC CG H gv gs O)(M:gv[n]?\?p)(q:e8 CG H p dx wa g):cN CG CC (υ H c.aG (.Ε (gv.set n .non))) x r c (gs.set n ε) ag W hd fp (λb=>O b/\b≠p):=by
 let k:∀b o,b≠c.aG->H b\o->υ H c.aG (.Ε (gv.set n .non)) b\o:=λb o n e=>by rw[aq n];rwa[e]
 let kn:∀b o,(∀s,o≠.Ε s)->H b\o->υ H c.aG (.Ε (gv.set n .non)) b\o:=λb o w e=>k b o (λz=>by cbv) e
 let I:∀{b s},H b\.Ε s->b≠p:=λ{b s} e z=>by rw[z,q.ins]at e;ext e
 rwa[kn β (by cbv) h.ins,{_,aj,[am7,am7]▸f.l,λi v l d=>?_,λi v u l d=>?_,λi j Q l d=>?_},k β h.ne.Β h.hA,5,h.ne,{h.ox,(EG h q).Β},{h.oG,I hG},{h.oA,I h.hA},λb a=>?_]
 .rcases fK l with ⟨z1,z⟩|⟨z1,z⟩
  .rwa[z]
  .rcases fK d with ⟨t,_⟩|⟨_,y⟩
   .rwa[absurd t z1]
   .rwa[f.n i v z y]
 .rcases fK d with ⟨_,z⟩|⟨z1,z⟩
  .ext z
  .rcases fK l with ⟨t,_⟩|⟨_,y⟩
   .rwa[absurd t z1]
   .let[G,C,B,e,F,N]:=f.s i v u y z;let L:G≠p:=λw=>z1 (f.i i n p (by cbv) M)
    rwa[G,C,B,e,{kn β (by cbv) F.ins,kn β (by cbv) F.wo},N,L]
 .rcases fK l with ⟨_,z⟩|⟨_,z⟩
  .ext z
  .rcases fK d with ⟨_,y⟩|⟨_,y⟩
   .ext y
   .rwa[f.i i j Q z y]
 .let[D,E,k1,k2]:=h.wt;rwa[D,E,k1.keep λb o a e=>by let[kv,q]:=k1.there a;cbv,λb a=>{k2.o b a,λz=>?_},k2.d,k2.e,k2.w];let[kv,J]:=k1.there a;rw[z,q.ins]at J;ext J
 .cases e:b=c.aG
  .rwa[_,[e]▸aj,(by cbv),(by cbv),(by cbv),by cbv]
  .let[o,q,m]:=h.th b a.1;rwa[o,k β e q,m]
end
structure EL (ws:Za3)(nr:η)(ks:Zg)(bs:θ (η×Zg×η)):ν where
 w:∀b∈bs,ws[b.1]?\b.2.1
 n:∀b∈bs,b.1<nr\/b.2.2=0
 l:∀b∈bs,@b.2.1<=1000
 k:∀b∈bs,∀z∈b.2.1,z∈ks/\-z∈ks
 c:@bs<100000
def live (a:Zf):η:=a.countP (·.isSome)
def ER {a:Zf}{g:Gg}(h:a[n]?\ι g):(∀u:Gg,live (a.set n (ι u))=live a)/\live (a.set n ε)+ 1=live a:=by
 unfold live
 induction a generalizing n with
 |nil=>simp at h
 |cons y r c=>
  cases n with
  |zero=>
   have:y\g:=by simpa using h
   subst ω;simp[θ.countP_cons]
  |succ n=>let[b,d]:=c (n:=n) (by simpa using h);simp only[θ.set_cons_succ,θ.countP_cons];rwa[λu=>by rw[b u],3]
inductive MC (CR CG CC:Zs)(vs:Zb)(H:Hp)(Q:VK)(E_:XK):ν
 |mk (x r:Zs)(c:KA)(S:RS)(a:RA)(R:Za2)(ks:Zg)(B:η)(ws:Za3)(nr:η)(bs:θ (η×Zg×η))(gs:Zf)(ag:Zh)(W:bM)(fp:θ (Zg×η))(O:Zs->ν)(n:η):vs=[?x,.τ n]->cN CG CC H x r c gs ag W @S.bq fp O->kJ CR H r S a R ks B->B<900000->(∀b,a.own r b->¬O b)->CI S bs gs (ag++[n]) W gI ε->EL ws nr ks bs->@ag+ 2* @gs<=1000000->(∀S' a' R' i7 jP W' O' B' H',(∀b o,¬O b->¬a.own r b->H b\o->H' b\o)->cN CG CC H' x r c i7 jP W' @S'.bq fp O'->kJ CR H' r S' a' R' ks B'->(∀b,a'.own r b->a.own r b\/H b=ε)->(∀b,O' b->O b\/H b=ε)->(∀b,a'.own r b->¬O' b)->CI S' bs i7 jP W' gI ε->(∀a z b,R a z b->R' a z b)->S'.q=S.q->S'.L=S.L->Tr ws nr S S'->(live i7=live gs/\@jP=@ag/\B'=B)\/(live i7+ 1=live gs/\@jP<=@ag+ 2* @gs/\B'<=B+ 1)->Q .non H')->MC CR CG CC vs H Q E_
theorem xV:T.nh.Ok mg P w base 7 (MC A.aI A.aT A.aL):=by
 rwa[T.nh.on pE (λb9 AA outer s H vs Q E hr h=>?_)]
 .let[x,r,c,S,a,R,ks,B,ws,nr,bs,F,ag,W,fp,O,n,Τ,h,J,hB,Z,ci,m,hag,k]:=h
  refine{_,{{bH 2 pE.nd ((0<<<1)|||1),bI ğ
    {{zL}}
    bp,bI (aX j3 (pm (0<<<1) (aO T) T.iR (jK T) hr #[2<<<1]) (2<<<1) (bh _))
    {{jS dJ (kQ (0<<<1) (pv 1) set_list),zL}}
    bp,a8 (pm (pv 2) (aZ T) T.m4 (xS T) hr #[0<<<1]),bL (bI (aX nL (2<<<1) (2<<<1) (bh _))
    {{a8 (pm (pv 0) (aS T) T.lg (qh T) hr #[1,2<<<1,(2<<<1)&&&(2<<<1)]),a8 (pm (pv 0) (aS T) T.lg (qh T) hr #[1,2<<<1,fx dN ((2<<<1)&&&(2<<<1))])}}
    {{jS dJ (kQ (0<<<1) (pv 1) set_list),a8 (pm (pv 0) (aS T) T.qv (AB T) hr #[2])}})}},?_}
  rwa[xc ?_];intro pG jn dA eD;let U:n<@F:=ci.ab n (amN _ (amI.mpr Τ));let[I,hG,hs]:=h.hG;let hv:I[n]?\(I[n]'([hs.l]▸U)):=amB _
  change I[n]'(by cbv)=v at hv;let gd:=J.g;erw[12,x,_,c.dx,112,h.ins,aS T,T.kH,mW^_,12,c.aG,11,v,22,az.of hG,cG hv];let f:F[n]?\(F[n]'U):=amB U
  change F[n]'U=og at f
  cases og with
  |ε=>obtain rfl:=hs.n n v hv f;rwa[12212,gC ?_];rwa[k S a R F ag W O B H (λ_ _ _ _ e=>e) h J (λb z=>.ψ z) (λb z=>.ψ z) Z (ci.pop.done f λb eb=>ci.de n b f (by cbv) eb) (λ_ _ _ z=>z) Τ Τ (.refl S) (.ψ {222})]
  |ι g=>
   let[p,i,wa,Τ,N,op]:=hs.s n v g hv f;let[MA,gi,_]:=ci.al n g f;let D:=amD MA;let pI:@g.word<=1000:=m.l _ D;let V:¬a.own r p:=λz=>Z p z op
   rwa[12212,dc ?_];erw[12,x,_,c.dx,112,h.ins,aS T,T.fO,gO^_,r,a.dx,12,J.at_.ins,cY γ ⋯,12,p,_,i,112,N.ins,aZ T,T.sr,xR β,r,S,a,g.start,S.ay g.start,2,J.at_,pH ([gd.wf.e]▸gi.s),12,p,_,i,112,N.ins,aZ T,T.sr,xR β,212];let Y:∀b,a.own r b->¬(O b/\b≠p):=λb z y=>Z b z y.1
   cases es:S.ay g.start=g.start
   .rwa[ab4 (by rw[es]) ?_];rwa[12,p,i,12,N.ins,SX ⋯,12,x,_,c.dx,112,h.ins,aS T,T.fO,gO^_,p,i,wa,r,g,S,a,R,2,N,J.at_,gd,gi,V,pI,λd j f1 l ad=>?_];let R1:kJ A.aI j r S a R ks B:=J.keep (λb o hb e=>f1 b o (λz=>V (z ▸ hb)) e) (λb xs e=>f1 b _ (bF e N.ins (by cbv)) e);let[c1,gs1]:=h.ab5 hG hs hv op N f1 l;let hG1:j c.aG\(.Ε I):=f1 β (bF hG N.ins (by cbv)) hG;let t:=ad.gi;let Yk:=t.ll;let rB:=t.fl;let aff:@d.word<=1000:=by rw[ad.wo];rwa[pI]
    let z1:=Gg.sN (g:=d) ∅;let z2:=Gg.at2 (g:=d) Yk;let ald:(F.set n (ι d))[n]?\(ι d):=anv U
    let lv:=ER f;let lm:=J.m;rwa[λ_ H'=>Q .non H',5,λ_ _ q=>q];erw[12,p,_,i,112,l.ins,aZ T,T.fN,iG β,12,p,_,i,112,l.ins,aZ T,T.jG,mj β,112212];rwa[cw (λq=>?_) (λq=>?_)]
    .let q:(d.first:ο)<(d.last:ο):=ane q;let bw:∀z∈d.word,-1000<=z/\z<=1000:=λz hz=>ci.bd _ D z (by rw[<-ad.wo];rwa[hz])
     let b1:=bw _ (amD z1);let b2:=bw _ (amD z2);let hf:=t.f;let Yq:=t.r;let hnb:n<100000:=by have:=ci.len;have:=m.c;ext
     rwa[12,x,c.dx,12,c1.ins,fV ⋯,1212,p,_,i,112,l.ins,aZ T,T.iE,l0 β,12,p,_,i,112,l.ins,aZ T,T.kF,lZ β,12,p,_,i,112,l.ins,aZ T,T.fN,iG β,wa,11,.τ d.z1,22,bD.of l.wo,cG (bT z1),x,r,c,_,ag,W,@S.bq,fp,O,n,d.front,d.z1,2,c1,3,hnb,b1,λO2 H2 bt2 f2 Ta wz u=>?_];let L:e8 A.aT H2 p i wa d:={f2 β (by cbv) l.ins,f2 β (by cbv) l.wo};rwa[12,x,c.dx,12,u.ins,fV ⋯,1212,p,_,i,112,L.ins,aZ T,T.iS,mh β,12,p,_,i,112,L.ins,aZ T,T.kF,lZ β,12,p,_,i,112,L.ins,aZ T,T.jG,mj β,wa,11,.τ (-d.z2),22,bD.of L.wo,cG (bT z2),12,x,r,c,_,ag,_,@S.bq,fp,O2,n,d.bK,d.z2,(by cbv),u,3,hnb,3,λO3 H3 bt3 f3 le3 nw3 c3=>?_]
     let afg:∀b,O3 b->O b\/j b=ε:=λb z=>by
      rcases nw3 b z with y|y
      .rwa[wz b y]
      .cases w:O b
       .rwa[.ψ w]
       .rwa[.Ζ ?_]
        cases e:j b with
        |ε=>rfl
        |ι o=>rw[bt2 b o w e]at y;ext y
     let nw:∀b,O3 b->O b\/H b=ε:=λb z=>by
      rcases afg b z with y|y
      .rwa[.ψ y]
      .cases w:b=p
       .cbv
       .rwa[.Ζ ?_]
        cases e:H b with
        |ε=>rfl
        |ι o=>rw[f1 b o w e]at y;ext y
     let C:Bt O j H3:=bt2.π bt3 wz
     let dj3:∀b,a.own r b->¬O3 b:=λb z y=>by
      rcases nw b y with w|w
      .rwa[Z b z w]
      .let[o,e]:=J.at_.there z;cbv
     rwa[k S a R _ ag _ O3 B H3 (λb o G _ e=>C b o G (f1 b o (λz=>G ([z]▸op)) e)) c3 (R1.keep (λb o hb e=>C b o (Z b hb) e) (λb xs e=>C b _ (c1.j7 e) e)) (λb z=>.ψ z) nw dj3 (ci.pop.waits f ad ∅) (λ_ _ _ z=>z) Τ Τ (.refl S) (.ψ {lv.1 d,22})]
    .let q:¬(d.first:ο)<(d.last:ο):=λz=>q (anh z)
     let efl:d.first=d.last:=∅
     erw[12,x,_,c.dx,112,c1.ins,aS T,T.kH,mW^_,12,c.aG,11,n,22,hG1,jL ([hs.l]▸U)];let u:=c1.G7 hG1 gs1 hv l;let kn:∀b o,(∀xs,o≠.Ε xs)->j b\o->υ j c.aG (.Ε (I.set n .non)) b\o:=λb o w e=>by rw[aq (λz=>by cbv)];rwa[e]
     let L:e8 A.aT (υ j c.aG (.Ε (I.set n .non))) p i wa d:={kn β (by cbv) l.ins,kn β (by cbv) l.wo};let X:¬a.own r c.aG:=λz=>Z _ z h.oG
     let R2:kJ A.aI (υ j c.aG (.Ε (I.set n .non))) r S a R ks B:=R1.keep (λb o hb e=>[aq (λz=>X (by cbv))]▸e) (λb xs e=>kn β (by cbv) e);let ess:(F.set n (ι d)).set n ε=F.set n ε:=θ.set_set ..;rw[ess]at u;let Yr:∀b o,¬O b->H b\o->υ j c.aG (.Ε (I.set n .non)) b\o:=λb o G e=>by rw[aq (λz=>G ([z]▸h.oG))];cbv
     let M:∀b,υ j c.aG (.Ε (I.set n .non)) b=ε->H b=ε:=λb z=>by
      cases e:H b with
      |ε=>rfl
      |ι o=>
       cases w:O b
       .cases y:b=p
        .rw[y,L.ins]at z;ext z
        .let[o2,e2,_]:=u.th b {w,y};cbv
       .rw[Yr b o w e]at z;ext z
     change υ j c.aG _=H2 at u L R2 Yr M ⊢;rwa[12,x,c.dx,12,u.ins,fV ⋯,12,x,r,p,i,wa,c,S,a,R,ks,B,ws,nr,bs,F.set n ε,ag,W,fp,_,n,d,2,u,R2,hB,Y,ci.pop.kill,anv U,by rw[MA,ad.wh,ad.wo,ad.st],L,(λz=>z.2 Τ),V,t,efl,[ad.st]▸es,ad.ef,ad.er,[ad.wh,ad.wo]▸m.w _ D,[ad.wh,ad.st]▸m.n _ D,[ad.wo]▸m.k _ D,aff,[am7]▸hag,λS' a' R' jP W' H' f3 c3 R3 o3 Ys la rr em eL tr=>?_];let o03:∀b,a'.own r b->a.own r b\/H b=ε:=λb z=>(o3 b z).Ρ id (M b)
     rw[am7]at la;rwa[k S' a' R' _ jP W' _ (B+ 1) H' (λb o G n2 e=>f3 b o (λz=>G z.1) n2 (Yr b o G e)) c3 R3 o03 (λb z=>.ψ z.1) (λb z y=>?_) Ys rr em eL tr (.Ζ {lv.2,la,amK _})];rcases o3 b z with w|w
     .rwa[Y b w y]
     .let[o2,e2,_]:=u.th b y;cbv
   .rwa[cw (λ_=>?_) (λz=>absurd (by cbv) z)];erw[12,x,_,c.dx,112,h.ins,aS T,T.kH,mW^_,12,c.aG,11,n,22,hG,jL (by cbv)];let u:=h.G7 hG hs hv N;let X:¬a.own r c.aG:=λz=>Z _ z h.oG
    rwa[k S a R _ ag W _ B _ (λb o G _ e=>[aq (λz=>G ([z]▸h.oG))]▸e) u (J.keep (λb o hb e=>[aq (λz=>X (by cbv))]▸e) (λb xs e=>[aq (λz=>by cbv)]▸e)) (λb z=>.ψ z) (λb z=>.ψ z.1) Y (ci.pop.kill.done (anv U) λb eb=>?_) (λ_ _ _ z=>z) Τ Τ (.refl S) (.Ζ {(ER f).2,33})]
    cbv
def _root_.Lake.L2.Tr.π {T:RS}{ws:Za3}{c:RS}(h:Tr ws n S T)(k:Tr ws n T c):Tr ws n S c:=by
 induction k with
 |refl=>exact h
 |step _ a b d=>exact .step d a b
inductive EV (CR CG CC:Zs)(vs:Zb)(H:Hp)(Q:VK)(E_:XK):ν
 |mk (x r:Zs)(c:KA)(S:RS)(a:RA)(R:Za2)(ks:Zg)(B:η)(ws:Za3)(nr:η)(bs:θ (η×Zg×η))(gs:Zf)(ag:Zh)(W:bM)(fp:θ (Zg×η))(O:Zs->ν):vs=[?x]->cN CG CC H x r c gs ag W @S.bq fp O->kJ CR H r S a R ks B->B+ live gs<900000->(∀b,a.own r b->¬O b)->CI S bs gs ag W gI ε->EL ws nr ks bs->live gs* (2* @bs+ 1)+ @ag+ 2* @bs<=1000000->(∀S' a' R' i7 W' O' B' H',(∀b o,¬O b->¬a.own r b->H b\o->H' b\o)->cN CG CC H' x r c i7 [] W' @S'.bq fp O'->kJ CR H' r S' a' R' ks B'->(∀b,a'.own r b->a.own r b\/O b\/H b=ε)->(∀b,O' b->O b\/a.own r b\/H b=ε)->(∀b,a'.own r b->¬O' b)->CI S' bs i7 [] W' gI ε->(∀a z b,R a z b->R' a z b)->S'.q=S.q->S'.L=S.L->Tr ws nr S S'->B'+ live i7<=B+ live gs->Q .non H')->EV CR CG CC vs H Q E_
theorem nK:T.jD.Ok mg P w base 8 (EV A.aI A.aT A.aL):=by
 rwa[T.jD.on vI (λb9 AA outer s H vs Q E hr h=>?_)]
 .let[x,r,c,S,a,R,ks,B,ws,nr,bs,gs,ag,W,fp,O,Τ,h,hR,hB,dj,ci,hbs,hm,k]:=h
  refine{_,{{bL (ja am5 (CK (0<<<1) (λ_=>rfl))
   {{a8 (pm (pv 0) (aS T) T.nh (xV T) hr #[J9 amX PySem.F.slot_list_pop PySem.F.type_list_pop Ka (0<<<1)])}})}},?_}
  let Tc:=ci.len;rwa[λ_ H'=>Q .non H',5,λ_ _ q=>q];erw[λm σ g=>∃j a2 R2 f d Y L J,m=live f* (2* @bs+ 1)+ @d/\σ=#v[?x]/\(∀b o,¬O b->¬a.own r b->H b\o->g b\o)/\cN A.aT A.aL g x r c f d Y @j.bq fp L/\kJ A.aI g r j a2 R2 ks J/\(∀b,a2.own r b->a.own r b\/O b\/H b=ε)/\(∀b,L b->O b\/a.own r b\/H b=ε)/\(∀b,a2.own r b->¬L b)/\CI j bs f d Y gI ε/\(∀a z b,R a z b->R2 a z b)/\j.q=S.q/\j.L=S.L/\Tr ws nr S j/\J+ live f<=B+ live gs/\live f* (2* @bs+ 1)+ @d+ 2* @bs<=1000000,⟨_,S,a,R,gs,ag,W,O,B,22,λ_ _ _ _ e=>e,h,hR,λb z=>.ψ z,λb z=>.ψ z,dj,ci,λ_ _ _ z=>z,22,.refl S,amK _,hm⟩];intro m σ g EB;rwa[bu ?_];intro q_;let[j,a2,R2,f,d,Y,L,J,Τ,Τ,f2,i,r2,C,l,v,F,Z,X,M,V,U,G4]:=EB;dsimp only[q_];clear q_;erw[12,x,_,c.dx,112,i.ins,aS T,T.mS,qg^_,!(ao (nI d)).isEmpty,.ψ {_,az.of i.hA,2}];cases p:d=[]
  .subst p;rwa[dc ?_];rwa[k j a2 R2 f Y L J g f2 i r2 C l v F Z X M V U]
  .let D:=aos p;change d.getLast p=n at D;change d.dropLast=pre at D;subst D;rw[show (!(ao (nI (pre++[n]))).isEmpty)=ρ by unfold ao nI;simp];rwa[gC ?_];erw[_,λ_ _ z=>z];erw[12,x,c.dx,12,i.ins,fV ⋯,12,x,_,c.dx,112,i.ins,aS T,T.mS,qg^_,.ψ {21,az.of i.hA},c.aA,_,.τ (n:ο),22,i.hA,5]
   .rw[aD,cK,amG];rwa[bT (kT (by show (pre++[n])[@pre+ 1 - 1]?\n;rw[η.add_sub_cancel,amU Φ,aoi];rfl))]
   let Yc:(ao (nI (pre++[n]))).dropLast=ao (nI pre):=by rw[jU,ints_app];rwa[θ.dropLast_concat]
   rw[Yc];let c3:=i.agenda pre;let noA:¬a2.own r c.aA:=λz=>v _ z i.oA
   let f3:∀b o,b≠c.aA->g b\o->υ g c.aA (.Ε (ao (nI pre))) b\o:=λb o I e=>by rw[aq I];rwa[e]
   let r3:kJ A.aI (υ g c.aA (.Ε (ao (nI pre)))) r j a2 R2 ks J:=r2.keep (λb o hb e=>f3 b o (λz=>noA (by rw[<-z];rwa[hb])) e) (λb xs e=>f3 b _ (λz=>by rw[z,i.hA]at e;ext e) e)
   let t:∀b,υ g c.aA (.Ε (ao (nI pre))) b=ε->g b=ε:=λb z=>by
    cases e:b=c.aA
    .rw[e,aj]at z;ext z
    .rw[aq e]at z;rwa[z]
   change υ g c.aA _=H3 at c3 f3 r3 t ⊢;let ln2:=F.len;rw[amG]at G4;have:@([n]:Zh)=1:=rfl
   let N:∀b,g b=ε->a.own r b\/O b\/H b=ε:=λb z=>by
    cases w:a.own r b
    .rwa[.ψ w]
    .cases w2:O b
     .rwa[.Ζ (.ψ w2)]
     .rwa[.Ζ (.Ζ ?_)]
      cases e:H b with
      |ε=>rfl
      |ι o=>rw[f2 b o w2 w e]at z;ext z
   rwa[x,r,c,j,a2,R2,ks,J,ws,nr,bs,f,pre,Y,fp,L,n,2,c3,r3,3,v,F,hbs,3,λS4 a4 R4 u ag4 W4 O4 B4 H4 f4 c4 r4 ow4 oo4 dj4 G8 rr4 em4 eL4 tr4 ms=>?_];let ow:∀b,a4.own r b->a.own r b\/O b\/H b=ε:=λb z=>(ow4 b z).Κ (C b) λw=>N b (t b w)
   let oo:∀b,O4 b->O b\/a.own r b\/H b=ε:=λb z=>(oo4 b z).Κ (l b) λw=>by
    rcases N b (t b w) with y|y|y
    .rwa[.Ζ (.ψ y)]
    .rwa[.ψ y]
    .rwa[.Ζ (.Ζ y)]
   let G:B4+ live u<=B+ live gs/\live u* (2* @bs+ 1)+ @ag4<live f* (2* @bs+ 1)+ @(pre++[n]):=by
    rw[amG];rcases ms with ⟨e1,e2,e3⟩|⟨e1,e2,e3⟩
    .rw[e1,e2,e3];rwa[U,3]
    .rw[<-e1,apA];rwa[33]
   rwa[_,G.2,S4,a4,R4,u,ag4,W4,O4,B4,22,λb o I n2 e=>?_,c4,r4,ow,oo,dj4,G8,λa z b q=>rr4 γ (Z γ q),em4.π X,eL4.π M,V.π tr4,G.1,by have:=G.2;rw[amG]at ω;ext];rwa[f4 b o (λz=>?_) (λz=>?_) (f3 b o (λz=>I ?_) (f2 b o I n2 e))]
   .rcases l b z with w|w|w
    .rwa[I w]
    .rwa[n2 w]
    .rw[w]at e;ext e
   .rcases C b z with w|w|w
    .rwa[n2 w]
    .rwa[I w]
    .rw[w]at e;ext e
   .subst z;rcases l c.aA i.oA with w|w|w
    .rwa[w]
    .rwa[absurd w n2]
    .rw[w]at e;ext e
theorem _root_.Lake.L2.CI.begin {bs:θ (η×Zg×η)}{gs:Zf}{W:bM}{t:η->ο->ν}(h:CI S bs gs B W t ε){which m:η}{word:Zg}(D:word≠[])(l:m<S.q)(x:∀z∈word,-1000<=z/\z<=1000):CI S (bs++[(which,word,m)]) (gs++[ι (BE which word m)]) (B++[@gs]) W t ε:=by
 let E:=θ.length_pos_iff.mpr D
 let old:∀{k:η}{y:Ο Gg},(gs++[ι (BE which word m)])[k]?\y->(k<@gs/\gs[k]?\y)\/(k=@gs/\y\BE which word m):=λ{k y} e=>by
  cases a:k<@gs
  .rw[amP a]at e;rwa[.ψ {a,e}]
  .rw[amU ∅]at e;have:=(amF.mp e).1;let f:k=@gs:=by simp at ω;ext
   subst f;rw[aoi]at e;rwa[.Ζ {2,(Za0 e).Β}]
 let c:∀{k:η},k<@gs->(bs++[(which,word,m)])[k]?=bs[k]?:=λ{k} a=>amP (by rw[<-h.len];rwa[a])
 rwa[by rw[amG,amG,h.len];rfl,λk g e=>?_,λk b e G o=>?_,λk a=>?_,λr s k q=>?_,λk=>?_,λb n=>?_]
 .rcases old e with ⟨a,e⟩|⟨a,e⟩
  .let[j,i,F]:=h.al k g e;rwa[[c a]▸j,i,F.Ρ (amV _) id]
  .ext e;rwa[5,{ani _,by show @word - 1<@word;ext,l,l,l,25},.ψ (amN _ (amI.mpr a))]
   .rw[amU ([a,h.len]▸amK _),a,h.len,aoi];rfl
   .show wk S.by _ (word.drop (@word - 1+ 1))=_;rw[show @word - 1+ 1=@word by ext,θ.drop_length];rfl
 .rcases old e with ⟨a,e⟩|⟨a,e⟩
  .rw[c a]at o;rwa[h.de k b e G o]
  .ext e
 .rw[amG];rcases amO.mp a with q|q
  .have:=h.ab k q;show k<_+ 1;ext
  .rw[amI.mp q];show _<_+ 1;ext
 .let[v,d,H,C,I,J,u]:=h.en r s k q;rwa[v,d,H,C,I,by rw[amG];show d<_+ 1;ext,u]
 .cases a:k<@gs
  .let[p,q,j,i]:=h.sl k;rwa[p,q,j,λg e=>i g ?_];rw[amP a]at e;rwa[e]
  .rwa[((BE which word m).front,(BE which word m).z1),((BE which word m).bK,(BE which word m).z2),λr s w=>?_,λg e=>?_]
   .let[_,d,_,e,_,E,_]:=h.en r s k w;ext
   cbv
 .rcases amO.mp n with q|q
  .rwa[h.bd b q]
  .rw[amI.mp q];rwa[x]
def cN.ab6 {x r:Zs}{l:KA}{gs:Zf}{W:bM}{hd:η}{R:θ (Zg×η)}{O:Zs->ν}{dx:Zs}{g:Gg}(h:cN a b H x r l gs B W hd R O)(hG:H l.aG\.Ε L)(t:sC a H L gs O)(np:H c=ε)(s:Đ)(q:e8 a I c dx d g):cN a b (υ I l.aG (.Ε (L++[?c]))) x r l (gs++[ι g]) B W hd R (Li O c):=by
 let k:∀f o,f≠l.aG->I f\o->υ I l.aG (.Ε (L++[?c])) f\o:=λf o n e=>by rw[aq n];rwa[e]
 let kn:∀f o,(∀Z,o≠.Ε Z)->I f\o->υ I l.aG (.Ε (L++[?c])) f\o:=λf o w e=>k f o (λz=>by rw[z,s^hG]at e;cbv) e
 let fresh:∀(i:η),L[i]?≠ι ?c:=λi e=>by
  let C:i<@gs:=by rw[<-t.l];rwa[(amF.mp e).1]
  cases X:gs[i]? with
  |ε=>cbv
  |ι y=>
   cases y with
   |ε=>cases t.n i _ e X
   |ι u=>let[U,_,_,G,J,_]:=t.s i _ u e X;ext G;have:=J.ins;cbv
 let old:∀{i:η}{v:V},(L++[?c])[i]?\v->(i<@L/\L[i]?\v)\/(i=@L/\v=?c):=λ{i v} e=>by
  cases S:i<@L
  .rw[amP S]at e;rwa[.ψ {S,e}]
  .rw[amU ∅]at e;have:=(amF.mp e).1;let M:i=@L:=by simp at ω;ext
   subst M;rw[aoi]at e;rwa[.Ζ {2,(Za0 e).Β}]
 rwa[kn β (by cbv) (s^h.ins),{_,aj,by rw[amG,amG,t.l];rfl,λi v G p=>?_,λi v u G p=>?_,λi j p' G p=>?_},k β h.ne.Β (s^h.hA),5,h.ne,.ψ h.ox,.ψ h.oG,.ψ h.oA,λf F=>?_]
 .rcases old G with ⟨C,e⟩|⟨C,e⟩
  .rw[amP (by rw[<-t.l];rwa[C])]at p;rwa[t.n i v e p]
  .rw[C,t.l,amU Φ,aoi]at p;cases Za0 p
 .rcases old G with ⟨C,e⟩|⟨C,e⟩
  .rw[amP (by rw[<-t.l];rwa[C])]at p;let[U,Q,N,e3,J,Y]:=t.s i v u e p;rwa[U,Q,N,e3,{kn β (by cbv) (s^J.ins),kn β (by cbv) (s^J.wo)},.ψ Y]
  .rw[C,t.l,amU Φ,aoi]at p;cases Za0 p;rwa[c,dx,d,e,{kn β (by cbv) q.ins,kn β (by cbv) q.wo},.Ζ Τ]
 .rcases old G with ⟨C,e⟩|⟨C,e⟩
  .rcases old p with ⟨hj,T⟩|⟨hj,T⟩
   .rwa[t.i i j p' e T]
   cbv
  cbv
 .let[D,E,k1,k2]:=h.wt;rwa[D,E,(k1.Δ s).keep λf o F e=>by let[kv,q]:=(k1.Δ s).there F;cbv,λf F=>.ψ (k2.o f F),k2.d,k2.e,k2.w]
 .rcases F with F|F
  .cases e:f=l.aG
   .rwa[_,by rw[e];rwa[aj],(by cbv),(by cbv),(by cbv),by cbv]
   .let[o,q,m]:=h.th f F;rwa[o,k β e (s^q),m]
  .rw[F];rwa[_,kn β (by cbv) q.ins,(by cbv),(by cbv),(by cbv),by cbv]
def nz (b:η)(a:Zg)(m:η):θ (η×Zg×η):=if a=[] then [] else [(b,a,m)]
inductive G9 (CR CG CC:Zs)(vs:Zb)(H:Hp)(Q:VK)(E_:XK):ν
 |mk (x r wa:Zs)(c:KA)(S:RS)(bs:θ (η×Zg×η))(gs:Zf)(ag:Zh)(W:bM)(hd:η)(fp:θ (Zg×η))(O:Zs->ν)(Ex:η->ο->ν)(which m:η)(word:Zg):vs=[?x,.τ which,?wa,.τ m]->cN CG CC H x r c gs ag W hd fp O->CI S bs gs ag W Ex ε->H wa\.Θ (ao word)->@word<=1000->(∀z∈word,-1000<=z/\z<=1000)->m<S.q->@bs<100000->@ag<=@bs->(∀i7 jP O' H',Bt O H H'->(∀b,O b->O' b)->(∀b,O' b->O b\/H b=ε)->cN CG CC H' x r c i7 jP W hd fp O'->CI S (bs++nz which word m) i7 jP W Ex ε->@jP<=@(bs++nz which word m)->Q .non H')->G9 CR CG CC vs H Q E_
def pJ:T.j5.Ok mg P w base 3 (G9 A.aI A.aT A.aL):=by
 rwa[T.j5.on xM (λb9 AA I s H vs Q E hr h=>?_)]
 .let[x,r,X,c,S,bs,l,j,W,hd,fp,O,Ex,d,m,a,Τ,h,ci,g,D,F,hm,Z,N,k]:=h
  refine{_,{{bL (bI (aX pR (2<<<0) ak (bh _))
   {{a8 (df amX am2 am3 bS (0<<<1) #[(0<<<1)<<<0]),a8 (df amX am2 am3 bS (0<<<1) #[u9 (xJ T) (vN T) hr.Za5 Τ T.U9 T.hU.b .nil jV #[1,2,3]])}}
   bp)}},?_}
  let Tc:=ci.len;rwa[λ_ H'=>Q .non H',5,λ_ _ q=>q];erw[12,X,12,.Ζ (bD.of g),112212];rwa[cw (λq=>?_) (λq=>?_)]
  .let q:(0:ο)<(@(ao a):ο):=ane q;rw[aD]at q;let f:a≠[]:=λz=>by cbv
   let[gv,hG,hs]:=h.hG;erw[12,x,_,c.dx,112,h.ins,aS T,T.mS,qg^_,.ψ {21,az.of h.hA},12,x,_,c.dx,112,h.ins,aS T,T.kH,mW^_,c.aG,12,.ψ (az.of hG),c.aA,1122,h.hA,5]
   .rw[aD,cK];rwa[amS (show @j<=100000 by omega) ⋯]
   let ea:ao (nI j)++[V.τ (@gv:ο)]=ao (nI (j++[@l])):=by rw[jU,ints_app,hs.l];rfl
   rw[ea];let B:=h.agenda (j++[@l]);let C:∀b o,b≠c.aA->H b\o->υ H c.aA (.Ε (ao (nI (j++[@l])))) b\o:=λb o n e=>by rw[aq n];rwa[e]
   let Y:∀b,υ H c.aA (.Ε (ao (nI (j++[@l])))) b=ε->H b=ε:=λb z=>by
    cases e:b=c.aA
    .rw[e,aj]at z;ext z
    .rw[aq e]at z;rwa[z]
   change υ H c.aA _=L at B C Y ⊢;let v:=C β (bF g h.hA (by cbv)) g;let[gv1,i,t]:=B.hG;rwa[12,x,_,c.dx,112,B.ins,aS T,T.kH,mW^_,.ψ {21,az.of i},121212,λp R y G J=>?_];let U:au L (υ (υ L R (.own p)) p (.ins A.aT R [])):=(au.υ G).π (au.υ ([aq J.Β]▸y));rwa[p,R,X,d,m,a,2,aj,U^v,3,D,λH3 f3 g3=>{25}];let M:au L H3:=λb o e=>f3 b o (U^e) (ax e y)
   erw[c.aG,1122,M^i,([t.l]▸amS (show @l<=100000 by omega) ⋯)];let u:nz d a m=[(d,a,m)]:=amY f;rwa[k β (Li O p) _ (λb o n e=>?_) (λb z=>.ψ z) (λb z=>z.Ρ id λw=>[w]▸Y p y) (B.ab6 i t y M g3) ([u]▸ci.begin f hm F) (by rw[u,amG,amG];show _+ 1<=_+ 1;omega)];rw[aq (λz=>n ([z]▸h.oG))];rwa[M^(C b o (λz=>n ([z]▸h.oA)) e)]
  .let q:¬(0:ο)<(@(ao a):ο):=λz=>q (anh z)
   rw[aD]at q;let f:a=[]:=θ.length_eq_zero_iff.mp ∅;let u:nz d a m=[]:=am1 f;rwa[k l j O H (λ_ _ _ e=>e) (λb z=>z) (λb z=>.ψ z) h ([u,am9]▸ci) ([u,am9]▸N)]
def ig (a:θ (Zg×η))(m:η):θ (η×Zg×η):=a.flatMap λp=>nz p.2 p.1 m
def Td (w:η)(u:Zg)(m:η):@(nz w u m)<=1:=by
 unfold nz;split
 .rwa[ani _]
 .rwa[amK _]
theorem sE (m:η):∀a:θ (Zg×η),@(ig a m)<=@a
 |[]=>amK _
 |p::l=>by have:=sE m l;have:=Td p.2 p.1 m;unfold ig at *;rw[aoz,amG,amT];ext
def MD {a:θ (Zg×η)}{p:Zg×η}(h:a[i]?\p)(m:η):ig (a.take (i+ 1)) m=ig (a.take i) m++nz p.2 p.1 m:=by unfold ig;rw[anD,h,aoy];show _++(nz p.2 p.1 m++[])=_;rw[am9]
def Yt {a:θ (Zg×η)}{b:Zd×V}(h:(jO a)[i]?\b):∃p,a[i]?\p/\b=(p.1.Α Sum.ψ,.τ p.2):=by
 unfold jO at h
 cbv
inductive MF (CR CG CC:Zs)(vs:Zb)(H:Hp)(Q:VK)(E_:XK):ν
 |mk (x r:Zs)(c:KA)(S:RS)(bs:θ (η×Zg×η))(gs:Zf)(ag:Zh)(W:bM)(hd:η)(fp:θ (Zg×η))(O:Zs->ν)(Ex:η->ο->ν)(m:η):vs=[?x,.τ m]->cN CG CC H x r c gs ag W hd fp O->H c.aQ\.dT (jO fp)->CI S bs gs ag W Ex ε->(∀p∈fp,@p.1<=1000/\∀z∈p.1,-1000<=z/\z<=1000)->m<S.q->@bs+ @fp<100000->@ag<=@bs->(∀i7 jP O' H',Bt O H H'->(∀b,O b->O' b)->(∀b,O' b->O b\/H b=ε)->cN CG CC H' x r c i7 jP W hd fp O'->CI S (bs++ig fp m) i7 jP W Ex ε->@jP<=@(bs++ig fp m)->Q .non H')->MF CR CG CC vs H Q E_
def j0:T.fS.Ok mg P w base 4 (MF A.aI A.aT A.aL):=by
 rwa[T.fS.on gN (λb9 AA outer s H vs Q E hr h=>?_)]
 .let[x,r,c,S,bs,gs,ag,W,hd,f,O,Ex,m,Τ,h,C,ci,Yu,hm,Te,Hc,k]:=h
  refine{_,{{Gz (bU am5 Τ (abH (0<<<1) Τ Τ) (oy Τ (dM (du 2 gN.nd) (dM (du 3 gN.nd) lH)))
   {{a8 (pm (pv 0) (aS T) T.j5 (pJ T) hr #[3,2,1])}})}},?_}
  let nQ:¬O c.aQ:=h.Mu C;let nxQ:x≠c.aQ:=bF h.ins C f!"";rwa[c.aQ,_,C,trivial,12,x,_,c.dx,112,h.ins,aS T,T.Ei,QF^_,c.aQ,jO f,2,C,λY=>?_];let k0:∀b o,b≠c.aQ->H b\o->υ H c.aQ (.dz Y (.dT (jO f))) b\o:=λb o n e=>by rw[aq n];rwa[e]
  let h0:cN A.aT A.aL (υ H c.aQ (.dz Y (.dT (jO f)))) x r c gs ag W hd f O:=h.keep (λb o L e=>k0 b o (λz=>nQ (by rw[<-z];rwa[L])) e) (λb xs e=>k0 b _ (bF e C f!"") e)
  let' R:η->St->Hp->ν:=λi σ B=>∃g a v v2 v3,σ=#v[?x,.τ (m:ο),v2,v3]/\B c.aQ\.dz Y (.dT (jO f))/\(∀b o,b≠c.aQ->¬O b->H b\o->B b\o)/\(∀b,O b->v b)/\(∀b,v b->O b\/H b=ε)/\cN A.aT A.aL B x r c g a W hd f v/\CI S (bs++ig (f.take i) m) g a W Ex ε/\@a<=@(bs++ig (f.take i) m)
  refine Xd (d:=c.aQ) (o:=Y) (kvs:=jO f) R
   {gs,ag,O,ε,ε,2,aj,λb o n _ e=>k0 b o n e,λb z=>z,λb z=>.ψ z,h0,by rw[θ.take_zero];show CI S (bs++[]) δ _;rw[am9];rwa[ci],by rw[θ.take_zero];show _<=@(bs++[]);rw[am9];rwa[Hc]} (λi σ B _ ζ=>by let[_,_,_,_,_,_,q,_]:=ζ;rwa[q]) ?_ ?_
  .intro i kv σ B t kp hkv nt F J;rwa[bu ?_];intro N;let[g,a,v,v2,v3,Τ,V,Z,D,j,c5,u,l]:=J;dsimp only[N];clear N;let[p,hp,Τ]:=Yt hkv;let hi:=(amF.mp hp).1
   replace F:B kp\(.Θ (ao p.1)):=by rw[F];show ι (HO.Θ (((p.1.Α (Sum.ψ:ο->Key)).Α kV)))=_;rw[anu];rfl
   let G:=au.υ (o:=.Θ [?kp,.τ (p.2:ο)]) nt;erw[t,12,bD.of aj,21121122];change υ B t _=H6 at G ⊢;let L:=Yu p (amD hp);let bl:=sE m (f.take i);rw[anc]at bl;let c6:=c5.Δ G;rwa[12,x,c.dx,12,c6.ins,fV ⋯,121212,x,r,kp,c,S,_,g,a,W,hd,f,v,Ex,p.2,m,p.1,2,c6,u,G^F,L.1,L.2,hm,by rw[amG];ext,l,λgs7 ag7 O7 H7 X le7 nw7 c7 M U=>?_];let I:¬v c.aQ:=λz=>(j _ z).Κ nQ λq=>by rw[C]at q;ext q
   rw[ans,<-MD hp]at M U;rwa[gs7,ag7,O7,112,X β I (G^V),λb o n1 n2 e=>X b o (λz=>(j b z).Κ n2 λq=>by rw[q]at e;ext e) (G^Z b o n1 n2 e),λb z=>le7 b (D b z),λb z=>?_,c7,M,U];rcases nw7 b z with w|w
   .rwa[j b w]
   .cases y:O b
    .rwa[.ψ y]
    .rwa[.Ζ ?_]
     cases e:H b with
     |ε=>rfl
     |ι o=>
      cases y2:b=c.aQ
      .rw[y2,G^V]at w;ext w
      .rw[G^Z b o y2 y e]at w;ext w
  .intro σ B J;rwa[bu ?_];intro N;let[g,a,v,v2,v3,Τ,V,Z,D,j,c5,u,l]:=J;dsimp only[N];clear N;rw[show @(jO f)=@f by unfold jO;rw[amE],anJ]at u l;let I:¬v c.aQ:=λz=>(j _ z).Κ nQ λq=>by rw[C]at q;ext q
   rwa[Y,V,k g a v _ (λb o n e=>?_) D j (c5.keep (λb o L e=>[aq (λz=>I (by rw[<-z];rwa[L]))]▸e) (λb xs e=>[aq (λz=>by rw[z,V]at e;ext e)]▸e)) u l];cases z:b=c.aQ
   .rw[z,aj,<-C,<-z];rwa[e]
   .rw[aq z];rwa[Z b o z n e]
def Yv (r:Zs):θ (Ι×V):=[(Ê,?r)]
def Yw (r q:Zs):θ (Ι×V):=[(Ê,?r),(í,?q)]
def Yx (r q g:Zs):θ (Ι×V):=[(Ê,?r),(í,?q),(ŕ,?g)]
def Yy (r q g e:Zs):θ (Ι×V):=[(Ê,?r),(í,?q),(ŕ,?g),(ū,?e)]
def Yz (r q g e w:Zs):θ (Ι×V):=[(Ê,?r),(í,?q),(ŕ,?g),(ū,?e),(Ũ,?w)]
def cy6 (r q g e w:Zs)(n:ο):θ (Ι×V):=[(Ê,?r),(í,?q),(ŕ,?g),(ū,?e),(Ũ,?w),(ϲ,.τ n)]
def cz2 (r q:Zs):bJ í ?q (Yv r)=Yw r q:=eM (by kernel_rfl)
def cz3 (r q g:Zs):bJ ŕ ?g (Yw r q)=Yx r q g:=eM (by kernel_rfl)
def cz4 (r q g e:Zs):bJ ū ?e (Yx r q g)=Yy r q g e:=eM (by kernel_rfl)
def cz5 (r q g e w:Zs):bJ Ũ ?w (Yy r q g e)=Yz r q g e w:=eM (by kernel_rfl)
def cz6 (r q g e w:Zs)(n:ο):bJ ϲ (.τ n) (Yz r q g e w)=cy6 r q g e w n:=eM (by kernel_rfl)
def kat_nil {k:Zs}(h:H k\.dK []):eU H k (λ_=>ε) (λ_ _=>ε) (λ_ _ _=>χ):={{[],h,by simp,(λa z=>by ext z),λ_=>rfl},(λ_ _ z=>by ext z),(λ_ _ _ z=>by ext z),(λ_ _ _ z=>by ext z),(λ_ _ _ z=>by ext z),(λ_ _ z=>by ext z),(λ_ _ _ z=>by ext z),(λ_ _ _ z=>by ext z),(λ_ _ _ _ z=>by ext z),(λ_ _ _ _ _ z=>by ext z)}
def dE (S:RS):Zh:=(~~~S.q).filter λc=>decide (S.bj[c]?\c)
def dW (a:θ (Zg×η))(st:Zh):θ (η×Zg×η):=st.flatMap λm=>ig a m
def gA (a:Za3)(b i:η):θ (η×Zg×η):=(~~~i).flatMap λj=>nz (b+ j) (a.Λ j []) 0
theorem n9 (a:θ (Zg×η)):∀st:Zh,@(dW a st)<=@st* @a
 |[]=>ani _
 |m::st=>by have:=n9 a st;have:=sE m a;unfold dW at *;rw[aoz,amG,amT,apA];ext
theorem uJ (a:Za3)(b:η):∀i,@(gA a b i)<=i
 |0=>amK _
 |i+ 1=>by have:=uJ a b i;have:=Td (b+ i) (a.Λ i []) 0;unfold gA at *;rw[aon,aoy,amG];show _+ @(nz β 0++[])<=_;rw[am9];ext
def uK:bM:=λ_ _ _=>χ
def YB:CI S [] [] [] uK gI ε:={2,(λn g e=>by simp at e),(λn b e=>by simp at e),(λn z=>by ext z),(λr s n z=>by ext z),λn=>{(0,0),(0,0),(λr s z=>by ext z),λg e=>by simp at e},(λb z=>by ext z)}
inductive MG (CR CG CC:Zs)(vs:Zb)(H:Hp)(Q:VK)(E_:XK):ν
 |mk (x dx r ru pa:Zs)(S:RS)(a:RA)(R:Za2)(rs ps:Za3):vs=[?x,?r,?ru,?pa]->H x\.ins CC dx []->aB CR H r S a->Good S [] R->0<S.q->S.q<=2000->¬a.own r x->bz H ru rs->bz H pa ps->@rs<=400->@ps<=400->(∀u∈rs++ps,@u<=1000/\∀z∈u,-1000<=z/\z<=1000)->(∀fp,Ay rs fp->S.q* @fp+ @ps<50000)->(∀c gs ag fp O H',(∀b o,H b\o->b≠x->H' b\o)->cN CG CC H' x r c gs ag uK @S.bq fp O->H' c.aQ\.dT (jO fp)->(∀b,O b->b=x\/H b=ε)->CI S (dW fp (dE S)++gA ps @rs @ps) gs ag uK gI ε->@ag<=@(dW fp (dE S)++gA ps @rs @ps)->Ay rs fp->Q .non H')->MG CR CG CC vs H Q E_
structure StX (H H0 H1:Hp)(x:Zs)(o:HO):ν where
 s:H1 x\o
 o:∀b o,H b\o->b≠x->H1 b\o
 k:∀b o,b≠x->H0 b\o->H1 b\o
 n:∀b,H1 b=ε->H0 b=ε
def stx {H0:Hp}{x:Zs}{u o:HO}(h:H0 x\u)(f:∀b o,H b\o->b≠x->H0 b\o):StX H H0 (υ H0 x o) x o:={aj,λb o e n=>by rw[aq n];rwa[f b o e n],λb o n e=>by rw[aq n];rwa[e],λb z=>by
 cases e:b=x
 .rw[e,aj]at z;ext z
 .rw[aq e]at z;rwa[z]}
def tH:T.fL.Ok mg P w base 5 (MG A.aI A.aT A.aL):=by
 rwa[T.fL.on fT (λb9 AA outer s H vs Q E hr h=>?_)]
 .let[x,M,r,ru,pa,S,a,R,rs,ps,Τ,hx,hR,gd,Tf,hm,EW,MH,EX,ro,jZ,hwb,EY,k]:=h
  refine{_,{{ck (pv 0) (pv 1) Τ,ck (pv 0) (pc T.pf (zu T) hr #[2]) Τ,ck (pv 0) Ϙ Τ,ck (pv 0) Ϙ Τ,ck (pv 0) eK Τ,ck (pv 0) ((1<<<1)<<<0) Τ,bU am5 Τ (cD (DN (pv 1) (aO T) T.jE (nJ T) hr)) (du 4 fT.nd)
    {{a8 (pm (pv 0) (aS T) T.fS (j0 T) hr #[4])}},bU am5 Τ (Lh Τ T.mC (pv 3) (2<<<0) Τ Τ) (oy Τ (dM (du 5 fT.nd) (dM (du 6 fT.nd) lH)))
    {{a8 (pm (pv 0) (aS T) T.j5 (pJ T) hr #[5,6,ak])}}}},?_}
  rwa[xi ?_];intro By zo rn pG jn dA eD;let[Tg,EZ,zx]:=id MH;let[I,E0,MJ]:=id EX;let o0:∀b o,H b\o->b≠x->H b\o:=λb o e _=>e
  let YC:ru≠x:=bF EZ hx (by cbv);let YD:pa≠x:=bF E0 hx (by cbv);erw[1212,x,_,M,12,hx,aS T,T.fO,(by show 0<1000;decide)];rw[show bJ Ê ?r []=Yv r from rfl];let S1:=stx (o:=.ins A.aL M (Yv r)) hx o0;change υ H x _=H1 at S1 ⊢;let wr1:bz H1 ru rs:={Tg,S1.o β EZ YC,zx.1,λi q u e1 e2=>S1.o β (zx.2 i q u e1 e2) (bF (zx.2 i q u e1 e2) hx f!"")};rwa[12,ru,rs,2,wr1,3,λq d H2 s2 nq hq YF=>?_];let x2:=s2^S1.s;let o2:∀b o,H b\o->b≠x->H2 b\o:=λb o e n=>s2^S1.o b o e n
  let n2:∀b,H2 b=ε->H b=ε:=λb z=>S1.n b (same_none s2 z)
  erw[12,x,_,M,12,x2,aS T,T.Ei,(by show 1<1000;decide)];rw[cz2];let MK:q≠x:=bF hq x2 (by cbv);let S3:=stx (o:=.ins A.aL M (Yw r q)) x2 o2;change υ H2 x _=Y at S3 ⊢;let q3:=S3.k β MK hq;rwa[ani _,λg ng=>?_];let N:=au.υ (o:=.Ε []) ng;let g4:υ Y g (.Ε []) g\(.Ε []):=aj;let n4:∀b,υ Y g (.Ε []) b=ε->H b=ε:=λb z=>n2 b (S3.n b (same_none N z))
  let ng0:=n2 g (S3.n g ng);change υ Y g _=H4 at N g4 n4 ⊢;erw[12,x,_,M,12,N^S3.s,aS T,T.kH,(by show 2<1000;decide)];rw[cz3];let S5:=stx (o:=.ins A.aL M (Yx r q g)) (N^S3.s) (λb o e n=>N^S3.o b o e n);change υ H4 x _=H5 at S5 ⊢;let ML:g≠x:=bF g4 (N^S3.s) f!"";let q5:=S5.k β MK (N^q3);let g5:=S5.k β ML g4;rwa[ani _,λe ne=>?_];let s6:=au.υ (o:=.Ε []) ne;let e6:υ H5 e (.Ε []) e\(.Ε []):=aj;let n6:∀b,υ H5 e (.Ε []) b=ε->H b=ε:=λb z=>n4 b (S5.n b (same_none s6 z))
  let ne0:=n4 e (S5.n e ne);let nge:g≠e:=ax g5 ne;change υ H5 e _=H6 at s6 e6 n6 ⊢;erw[12,x,_,M,12,s6^S5.s,aS T,T.mS,(by show 3<1000;decide)];rw[cz4];let S7:=stx (o:=.ins A.aL M (Yy r q g e)) (s6^S5.s) (λb o e n=>s6^S5.o b o e n);change υ H6 x _=H7 at S7 ⊢;let vY:e≠x:=bF e6 (s6^S5.s) f!"";let q7:=S7.k β MK (s6^q5);let g7:=S7.k β ML (s6^g5);let e7:=S7.k β vY e6;rwa[λw nw=>?_]
  let Z:=au.υ (o:=.dK []) nw;let w8:υ H7 w (.dK []) w\(.dK []):=aj;let n8:∀b,υ H7 w (.dK []) b=ε->H b=ε:=λb z=>n6 b (S7.n b (same_none Z z))
  let Ti:=n6 w (S7.n w nw);change υ H7 w _=H8 at Z w8 n8 ⊢;erw[12,x,_,M,12,Z^S7.s,aS T,T.lj,(by show 4<1000;decide)];rw[cz5];let S9:=stx (o:=.ins A.aL M (Yz r q g e w)) (Z^S7.s) (λb o e n=>Z^S7.o b o e n);change υ H8 x _=H9 at S9 ⊢;let YG:w≠x:=bF w8 (Z^S7.s) f!"";let R9:aB A.aI H9 r S a:=hR.keep (λb o hb e=>S9.o b o e (λz=>EW (by rw[<-z];rwa[hb]))) (λb xs e=>S9.o b _ e (bF e hx f!""));erw[12,r,_,a.dx,112,R9.ins,aO T,T.uE,vi^_,a.aN,12,.ψ (az.of R9.hN),12,x,_,M,12,S9.s,aS T,T.pC,(by show 5<1000;decide)];rw[aD,cK,cz6];let Sa:=stx (o:=.ins A.aL M (cy6 r q g e w @S.bq)) S9.s S9.o;change υ H9 x _=Ha at Sa ⊢;let up:∀b o,b≠x->H8 b\o->Ha b\o:=λb o n z=>Sa.k b o n (S9.k b o n z)
  let cA:cN A.aT A.aL Ha x r ⟨M,q,g,e,w⟩ [] [] uK @S.bq d (λb=>b=x\/b=g\/b=e\/b=w):=by
   rwa[Sa.s,{[],up β ML (Z^g7),2,(λi v z=>by simp at z),(λi v u z=>by simp at z),(λi j p z=>by simp at z)},up β vY (Z^e7),{11,kat_nil (up β YG w8),{λb hb=>?_,(λ_ _ z=>by ext z),(λ_ _ _ z=>by ext z),(λ_ _ _ z=>by ext z)}},nge,.ψ Τ,.Ζ (.ψ Τ),.Ζ (.Ζ (.ψ Τ)),λb hb=>?_]
   .rcases hb with z|⟨_,z⟩|⟨_,_,z⟩
    .rwa[.Ζ (.Ζ (.Ζ z))]
    .ext z
    .ext z
   .rcases hb with z|z|z|z
    .rw[z];rwa[_,Sa.s,s!"",s!"",(by intro _ _ z;ext z),s!""]
    .rw[z];rwa[_,up β ML (Z^g7),s!"",s!"",(by intro _ _ z;ext z),s!""]
    .rw[z];rwa[_,up β vY (Z^e7),s!"",s!"",(by intro _ _ z;ext z),s!""]
    .rw[z];rwa[_,up β YG w8,s!"",s!"",(by intro _ _ z;ext z),s!""]
  let qa:=up β MK (Z^q7)
  let Oa:∀b,(b=x\/b=g\/b=e\/b=w)->b=x\/H b=ε:=λb z=>by
   rcases z with z|z|z|z
   .rwa[.ψ z]
   .rw[z];rwa[.Ζ ng0]
   .rw[z];rwa[.Ζ ne0]
   .rw[z];rwa[.Ζ Ti]
  let Ra:aB A.aI Ha r S a:=hR.keep (λb o hb e=>Sa.o b o e (λz=>EW (by rw[<-z];rwa[hb]))) (λb xs e=>Sa.o b _ e (bF e hx f!""));let nA:∀b,Ha b=ε->H b=ε:=λb z=>n8 b (S9.n b (Sa.n b z))
  obtain⟨O,eO⟩:∃O:Zs->ν,O=λb=>b=x\/b=g\/b=e\/b=w:={12}
  rw[<-eO]at cA;replace Oa:∀b,O b->b=x\/H b=ε:=by rw[eO];rwa[Oa]
  clear eO;generalize ec:({M,q,g,e,w}:KA)=c at cA;let qa:Ha c.aQ\(.dT (jO d)):=by rw[<-ec];rwa[qa]
  clear g7 e7 w8 S9 Z n8 S7 s6 n6 e6 S5 N g4 n4 S3 S1 x2 o2 n2 up q7 q5 q3 g5 R9 Ti ne0 ng0 nw ne ng nge vY ML YG hq nq s2 MK wr1;let hfb:∀p∈d,@p.1<=1000/\∀z∈p.1,-1000<=z/\z<=1000:=λp hp=>hwb _ (amV _ (amD (YF.a p hp)))
  let EY:=EY d YF;rwa[12,r,a.dx,12,Ra.ins,cY γ ⋯,r,S,a,2,Ra,gd.wf,3,λl nl=>?_];let sl:@(dE S)<=S.q:=amM (anN β) (by cbv);let stm:∀m∈dE S,m<S.q:=λm hm=>anj.mp (anA.mp hm).1
  let hmf:@(dE S)* @d<=S.q* @d:=an1 _ sl;let sb:=au.υ (o:=.Ε Z4) nl;let hl:υ Ha l (.Ε Z4) l\(.Ε Z4):=aj;show ∃a_1,_;rw[show (~~~S.q).filter (λc=>decide (S.bj[c]?\c))=dE S from rfl];let nl0:=nA l nl;let nlO:¬O l:=λz=>by let[o,e,_]:=cA.th l z;cbv
  change υ Ha l _=Hb at sb hl ⊢;let cB:=cA.Δ sb;erw[l,2,{_,az.of hl}]
  let' jo:η->St->Hp->ν:=λi σ H2=>∃X D O2 v4,σ=#v[?x,?r,?ru,?pa,v4,ε,ε]/\(∀b o,¬O b->Hb b\o->H2 b\o)/\(∀b,O b->O2 b)/\(∀b,O2 b->O b\/Hb b=ε)/\cN A.aT A.aL H2 x r c X D uK @S.bq d O2/\CI S (dW d ((dE S).take i)) X D uK gI ε/\@D<=@(dW d ((dE S).take i))
  refine cS (xs:=ao (nI (dE S))) jo
   {[],[],O,ε,2,λ_ _ _ e=>e,λb z=>z,λb z=>.ψ z,cB,YB,amK _} (λi σ H2 _ ζ=>by let[_,_,_,_,_,f,_]:=ζ;rwa[az.of (f β nlO hl)]) ?_ ?_
  .intro i v σ H2 hi J;rwa[bu ?_];intro q_;let[X,D,O2,v4,Τ,f2,Ta,wz,c2,EK,MN]:=J;dsimp only[q_];clear q_;dsimp only[cU];rwa[bV ?_];intro ic;let[z,Τ,hz]:=bR hi
   obtain⟨m,YH,rfl⟩:∃m,(dE S)[i]?\m/\z=(m:ο):=by
    unfold nI at hz
    cbv
   let L:=(amF.mp YH).1;let nQ:¬O c.aQ:=cA.Mu qa;let q2:=f2 β nQ (sb^qa);let ll:=n9 d ((dE S).take i);rw[anc,aom ∅]at ll;let li:(i+ 1)* @d<=@(dE S)* @d:=an1 _ L;rw[apA]at li;rwa[12,x,c.dx,12,c2.ins,fV ⋯,12,x,r,c,S,_,X,D,uK,@S.bq,d,O2,gI,m,2,c2,q2,EK,hfb,stm m (amD YH),3,MN,λC B O3 Y b3 le3 U c3 F G=>?_]
   let es:dW d ((dE S).take (i+ 1))=dW d ((dE S).take i)++ig d m:=by unfold dW;rw[anD,YH,aoy];show _++(ig d m++[])=_;rw[am9]
   rw[<-es]at F G;rwa[C,B,O3,12,λb o n e=>b3 b o (λz=>(wz b z).Κ n λy=>by cbv) (f2 b o n e),λb z=>le3 b (Ta b z),λb z=>?_,c3,F,G];rcases U b z with y|y
   .rwa[wz b y]
   .cases y2:O b
    .rwa[.ψ y2]
    .rwa[.Ζ ?_]
     cases e:Hb b with
     |ε=>rfl
     |ι o=>rw[f2 b o y2 e]at y;ext y
  intro σ H2 J;rwa[bu ?_];intro q_;let[X,D,O2,v4,Τ,f2,Ta,wz,c2,EK,MN]:=J;dsimp only[q_];clear q_;rw[aD,cK,anJ]at EK MN;let ll:=n9 d (dE S);let YJ:Hb pa\(.Ε (I.Α V.Η)):=sb^Sa.o β E0 YD;let EI:∀{b o},H b\o->b≠x->¬O b:=λ{b o} e n z=>(Oa b z).Κ n λy=>by cbv
  let afh:=f2 β (EI E0 YD) YJ;let afi:=f2 β (EI EZ YC) (sb^Sa.o β EZ YC);let lr:@(Tg.Α V.Η)=@rs:=by rw[amE,zx.1]
  erw[1212,ru,12,.ψ (az.of afi),pa,(@(Tg.Α V.Η):ο),2233,{_,az.of afh}];rw[lr]
  let' xU:η->St->Hp->ν:=λi σ Y=>∃C B O3 v5 v6,σ=#v[?x,?r,?ru,?pa,v4,v5,v6]/\(∀b o,¬O b->Hb b\o->Y b\o)/\(∀b,O3 b->O b\/Hb b=ε)/\cN A.aT A.aL Y x r c C B uK @S.bq d O3/\CI S (dW d (dE S)++gA ps @rs i) C B uK gI ε/\@B<=@(dW d (dE S)++gA ps @rs i)
  refine yq (xs:=I.Α V.Η) xU
   {X,D,O2,ε,ε,2,f2,wz,c2,by show CI S (_++[]) δ _;rw[am9];rwa[EK],by show _<=@(_++[]);rw[am9];rwa[MN]} (λi σ Y _ ζ=>by let[_,_,_,_,_,_,f,_]:=ζ;rwa[az.of (f β (EI E0 YD) YJ)]) ?_ ?_
  .intro i v σ Y t hi nt J;rwa[bu ?_];intro q_;let[C,B,O3,v5,v6,Τ,f3,U,c3,F,G]:=J;dsimp only[q_];clear q_
   let L:i<@I:=by have:=(amF.mp hi).1;rw[amE]at ω;rwa[ω]
   let YK:i<@ps:=by rw[<-MJ.1];rwa[L]
   let g1:I[i]?\(I[i]'L):=amB L
   let g2:ps[i]?\(ps[i]'YK):=amB YK
   rw[amQ,g1]at hi;obtain rfl:V.Η (I[i]'L)=v:=Za0 hi;change I[i]'L=wa at g1;change ps[i]'YK=u at g2;let YL:=MJ.2 i wa u g1 g2;let hwx:wa≠x:=bF YL hx (by cbv);let afj:=f3 β (EI YL hwx) (sb^Sa.o β YL hwx);let N:=au.υ (o:=.Θ [.τ ((@rs:ο)+ (i:ο)),?wa]) nt;erw[t,12,bD.of aj,21121122];change υ Y t _=H4 at N ⊢;let c4:=c3.Δ N;let pl:=uJ ps @rs i;let hub:=hwb u (amN _ (amD g2));rwa[12,x,c.dx,12,c4.ins,fV ⋯,1212,x,r,wa,c,S,_,C,B,uK,@S.bq,d,O3,gI,@rs+ i,(0),u,2,c4,F,N^afj,hub.1,hub.2,Tf,by rw[amG];ext,G,λgs5 Yp O5 H5 b5 le5 nw5 c5 MP al5=>?_]
   let ep:gA ps @rs (i+ 1)=gA ps @rs i++nz (@rs+ i) u 0:=by unfold gA;rw[aon,aoy];show _++(nz (@rs+ i) (ps.Λ i []) 0++[])=_;rw[am9,amH,g2];rfl
   rw[ans,<-ep]at MP al5;rwa[gs5,Yp,O5,112,λb o n e=>b5 b o (λz=>(U b z).Κ n λy=>by cbv) (N^f3 b o n e),λb z=>?_,c5,MP,al5];rcases nw5 b z with y|y
   .rwa[U b y]
   .cases y2:O b
    .rwa[.ψ y2]
    .rwa[.Ζ ?_]
     cases e:Hb b with
     |ε=>rfl
     |ι o=>rw[N^f3 b o y2 e]at y;ext y
  .intro σ Y J;rwa[bu ?_];intro q_;let[C,B,O3,v5,v6,Τ,f3,U,c3,F,G]:=J;dsimp only[q_];clear q_;rw[amE,MJ.1]at F G;rwa[k c C B d O3 Y (λb o e n=>f3 b o (EI e n) (sb^Sa.o b o e n)) c3 (f3 β (cA.Mu qa) (sb^qa)) (λb z=>?_) F G YF];rcases U b z with y|y
   .rwa[Oa b y]
   .rwa[.Ζ (nA b (same_none sb y))]
def E3 {rs:Za3}{b:θ (Zg×η)}(h:Ay rs b):@b<=@rs:=by
 let c:(b.Α (·.2)).Nodup:=by
  have:=h.n;unfold θ.Nodup at ω ⊢;rw[aor]at ω ⊢
  exact ω.imp_of_mem λ{p q} a d n e=>n (by
   let i:=h.a p a;let g:=h.a q d
   cbv)
 have:=nS @rs _ c λn f=>by let[p,a,Τ]:=anm.mp f;rwa[(amF.mp (h.a p a)).1]
 rw[amE]at ω;rwa[ω]
def zy {b:η×Zg×η}{w:η}(h:b∈nz w l m):b=(w,l,m)/\l≠[]:=by
 unfold nz at h
 cbv
def Jt {w:η}(h:l≠[]):(w,l,m)∈nz w l m:=by unfold nz;cbv
def Vi {c:θ (Zg×η)}{st:Zh}{a:Za3}{b:η×Zg×η}(h:b∈dW c st++gA a n @a):(∃p∈c,b.1=p.2/\b.2.1=p.1/\b.2.2∈st)\/∃j u,a[j]?\u/\b=(n+ j,u,0):=by
 rcases amO.mp h with q|q
 .let[m,e,q]:=anS.mp q;let[p,d,q]:=anS.mp q;let[Τ,_]:=zy q;rwa[.ψ {p,d,22,e}]
 .let[j,f,q]:=anS.mp q;let[Τ,_]:=zy q
  cbv
def ends {bs:θ (η×Zg×η)}{d:Zf}{W:bM}(ci:CI S bs d [] W gI ε)(x:Good S [] R){b:η×Zg×η}(p:b∈bs)(a:S.ay b.2.2=b.2.2):Lg S b.2.2 b.2.1:=by
 let[n,f]:=ant p;let B:n<@d:=by rw[ci.len];rwa[(amF.mp f).1]
 cases q:d[n]? with
 |ε=>cbv
 |ι y=>
  cases y with
  |ε=>
   rcases ci.de n b q (by cbv) f with z|z
   .rwa[absurd a z]
   .rwa[.ψ z]
  |ι g=>
   let[e,c,z]:=ci.al n g q;rw[f]at e;obtain rfl:=Za0 e;rcases z with z|z|⟨lt,l,v⟩
   .ext z
   .ext z
   .let[o,_,k,_,_,_,_,f1]:=ci.en γ l;let[s,_,j,_,_,_,_,f2]:=ci.en γ v;let k:o=g.front:=∅
    let j:s=g.bK:=∅
    subst k j;rcases f1 with ⟨t,u⟩|f1
    .rcases f2 with ⟨m,r⟩|f2
     .let i:=c.wf;let h:=c.wr;let a:S.ay g.start=g.start:=a;rw[a,t]at i;rw[a,m]at h;rwa[.Ζ {g.first,g.last,g.front,g.bK,g.z1,-g.z2,lt,Gg.sN (by have:=c.ll;omega),Gg.at2 c.ll,i,u,h,[aov]▸r}]
     .rwa[f2.Κ]
    .rwa[f1.Κ]
def fh (S:RS)(L c:η)(z:ο):ν:=c<S.q/\S.bj[c]?\c/\z∈bE (2* L)/\S.by c z=ε
def He (S:RS)(L c:η)(z:ο):ν:=fh S L c z/\∀a b,fh S L a b->c<=a/\(a=c->M11.pl z<=M11.pl b)
structure GL (S:RS)(L:η):ν where
 wf:S.Wf
 m:S.q<=100000
 l2:L<=200
 gp:∀c,c<S.q->S.bj[c]?\c->S.gap c=(bE (2* L)).filter λz=>(S.by c z).isNone
def GL.mem (g:GL S n)(hc:m<S.q)(c:S.bj[m]?\m){y:ο}:fh S n m y↔y∈S.gap m:=by
 rw[g.gp m hc c,anA];constructor
 .rintro ⟨_,_,b,a⟩;rwa[b,by rw[a];rfl]
 .rintro ⟨b,a⟩;rwa[hc,c,b,by simpa using a]
def xW (S:RS):Zh:=(~~~S.q).filter λc=>decide (S.bj[c]?\c)
def sF:n∈xW S↔n<S.q/\S.bj[n]?\n:=by unfold xW;rw[anA,anj];simp
def Ju (n:η):(bE n).Pairwise λa b=>M11.pl a<M11.pl b:=by unfold bE;rwa[aor.mpr (θ.Pairwise.Ρ (λh=>?_) θ.pairwise_lt_range)];rw[M12.rV,M12.rV];rwa[h]
def YM {pre post:Zh}(g:GL S n)(o:xW S=pre++m::post)(t:∀b∈pre,S.gap b=[])(hz:(S.gap m).head?\z):He S n m z:=by
 let v:m∈xW S:=by rw[o];rwa[amN _ amR]
 let[l,i]:=sF.mp v;let p:(xW S).Pairwise (·< ·):=θ.Pairwise.filter _ θ.pairwise_lt_range;rw[o,θ.pairwise_append]at p;let k:=θ.pairwise_cons.mp p.2.1;let r:(S.gap m).Pairwise λa b=>M11.pl a<M11.pl b:=by rw[g.gp m l i];rwa[θ.Pairwise.filter _ (Ju _)]
 let h:z∈S.gap m:=θ.mem_of_mem_head? hz;rwa[(g.mem l i).mpr h,λj s d=>{5,λe=>?_}]
 .let c:=(g.mem d.1 d.2.1).mp d;let f:=sF.mpr {d.1,d.2.1};rw[o]at f;rcases amO.mp f with q|q
  .rw[t j q]at c;ext c
  .rcases amW.mp q with q|q
   .ext
   .have:=k.1 j q;ext
 .subst e;let c:=(g.mem l i).mp d
  cases e:S.gap j with
  |nil=>rw[e]at c;ext c
  |cons y ys=>
   rw[e]at hz c r;let u:y=z:=Za0 hz;subst u;rcases amW.mp c with q|q
   .rw[q];rwa[amK _]
   .rwa[aoI ((θ.pairwise_cons.mp r).1 s q)]
inductive Jv (C D:Zs)(vs:Zb)(H:Hp)(Q:VK)(E_:XK):ν
 |mk (o dx r:Zs)(S:RS)(a:RA)(L:η):vs=[?o,?r]->H o\.ins D dx []->aB C H r S a->GL S L->((∀c z,¬fh S L c z)->∀H',au H H'->Q .non H')->(∀(c:η)(z:ο),He S L c z->∀t H',au H H'->H' t\.Θ [.τ (c:ο),.τ z]->Q ?t H')->Jv C D vs H Q E_
inductive Hf (C:Zs)(vs:Zb)(H:Hp)(Q:VK)(E_:XK):ν
 |mk (r l:Zs)(S:RS)(a:RA)(cs:Zh):vs=[?r,?l]->aB C H r S a->H l\.Ε (ao (nI cs))->(∀c∈cs,c<@S.gaps)->((∀c∈cs,S.gap c=[])->Q .non H)->(∀(c:η)(z:ο)(pre post:Zh),cs=pre++c::post->(∀b∈pre,S.gap b=[])->(S.gap c).head?\z->∀t,H t=ε->Q ?t (υ H t (.Θ [.τ (c:ο),.τ z])))->Hf C vs H Q E_
def MQ (l:Zg):V:=(l.head?.Α V.τ).Λ .non
inductive YN (C:Zs)(vs:Zb)(H:Hp)(Q:VK)(E_:XK):ν
 |mk (r:Zs)(S:RS)(a:RA)(c:η):vs=[?r,.τ c]->aB C H r S a->c<@S.gaps->Q (MQ (S.gap c)) H->YN C vs H Q E_
def uL:T.lh.Ok mg P w base 1 (YN A.aI):=by
 rwa[T.lh.on mV (λy J m s H I Q E L h=>?_)]
 .let[r,S,a,c,Τ,h,G,k]:=h
  refine{_,{{Gz (bU am5 Τ (abF ((0<<<1)|||1)) (du 2 mV.nd)
   {{bf (pv 2)}}),bf dJ}},?_}
  rwa[lS ?_];intro v;let x:=zl G;let[p,B,hd]:=h.rG.at x;erw[p,.dK ă,hd,True.intro];rwa[12,r,_,a.dx,112,h.ins,aO T,T.uD,vh^_,12,a.aG,11122,az.of h.hG,bW B,p,gK (S.gap c),2,hd,λo=>?_]
  let back:υ (υ H p (.dz o (.dK ă))) p (.dK ă)=H:=by
   rw[T6]
   funext b
   cases t:b=p
   .rw[t,aj,hd]
   .rw[aq t]
  let' g:η->St->Hp->ν:=λi j l=>j=#v[?r,.τ c,ε]/\l=υ H p (.dz o (.dK ă))/\i=0
  rwa[Xc (d:=p) (o:=o) (kvs:=gK (S.gap c)) g {222} (λi j l _ q=>[q.2.1]▸aj) ?_ ?_]
  .rintro i C j l f ⟨rfl,Τ,rfl⟩;dsimp only[cU];rwa[bV ?_];intro F
   let e:∃z,(S.gap c).head?\z/\kV C.1=.τ z:=by
    unfold gK at f;rw[amQ]at f
    cases q:(S.gap c)[0]? with
    |ε=>rw[q]at f;ext f
    |ι z=>rw[q]at f;erw[z,[θ.head?_eq_getElem?]▸q];rw[<-Za0 f];rfl
   let[z,D,n]:=e;rw[n];erw[12,o,aj];rw[back];have:MQ (S.gap c)=.τ z:=by unfold MQ;rw[D];rfl
   rw[<-ω];rwa[k]
  .rintro j l ⟨rfl,Τ,e⟩;erw[o,aj];rw[back];have:S.gap c=[]:=aoF (by unfold gK at e;rw[amE]at e;rwa[e]);let n:MQ (S.gap c)=.non:=by rw[ω];rfl
   show Q V.non H;rw[<-n];rwa[k]
def F5:T.xG.Ok P w base 2 (Hf A.aI):=by
 rwa[T.xG.on qx (λN V p s H U Q E O h=>?_)]
 .let[r,l,S,a,cs,Τ,h,D,u,L,I]:=h
  erw[_,{{bU am5 Τ l7 (du 2 qx.nd)
   {{bH 3 qx.nd (pm (pv 0) (aO T) T.lh (uL T) O #[2]),bI (aX zO (pv 3) dJ (bh _))
    {{bf (bA #[2,3])}}
    bp}},bf dJ}}]
  rwa[lS ?_];intro G;erw[12,l,2,{_,az.of D}];rwa[cS (xs:=ao (nI cs)) (λi j k=>∃v n,j=#v[?r,?l,v,n]/\k=H/\∀c∈cs.take i,S.gap c=[]) ⟨ε,ε,22,λc u=>by ext u⟩ (λi j k _ ζ=>by let[_,_,_,e,_]:=ζ;rwa[[e]▸az.of D]) ?_ ?_]
  .rintro i x j k R ⟨v,n,Τ,Τ,g⟩;let[z,Τ,f]:=bR R
   obtain⟨c,d,rfl⟩:∃c:η,cs[i]?\c/\z=(c:ο):=by
    unfold nI at f;rw[amQ]at f
    cases q:cs[i]? with
    |ε=>rw[q]at f;ext f
    |ι c=>rw[q]at f;rwa[c,2,(Za0 f).Β]
   let o:=amD d;erw[12,r,a.dx,12,h.ins,212,r,S,a,c,2,h,u c o];erw[12212];unfold MQ
   cases C:S.gap c with
   |nil=>
    rwa[ι (.τ c),ι .non,22,λb B=>?_];rw[θ.take_add_one,d]at B;rcases amO.mp B with q|q
    .rwa[g b q]
    .rw[amI.mp q];rwa[C]
   |cons y m=>rwa[1212,Za4 2,λt J=>I c y (cs.take i) (cs.drop (i+ 1)) (by let[M,F]:=amF.mp d;rw[<-F,<-aoY M,an2]) g (by rw[C];rfl) t J]
  .rintro j k ⟨v,n,Τ,Τ,g⟩;rw[aD,cK,anJ]at g;rwa[L g]
def uM:T.qc.Ok mg P w base 3 (Jv A.aI A.dH):=by
 rwa[T.qc.on Eo (λm y d s H x Q E e h=>?_)]
 .let[o,C,r,S,a,L,Τ,B,h,g,j,i]:=h;erw[_,{{bf (pc T.xG (F5 T) e #[1,DN (pv 1) (aO T) T.jE (nJ T) e])}}];rwa[1212,r,a.dx,12,h.ins,2,r,S,a,2,h,g.wf,g.m,λl p=>?_];let s1:au H (υ H l (.Ε (ao (nI (xW S))))):=au.υ p;rwa[r,l,S,a,xW S,2,h.Δ s1,aj,λc v=>[g.wf.g]▸(sF.mp v).1,λq=>j (λc z b=>?_) _ s1,λc z pre post u n k t f=>?_]
  .have:=(g.mem b.1 b.2.1).mp b;rw[q c (sF.mpr {b.1,b.2.1})]at ω;ext ω
  .rwa[i c z (YM g u n k) t _ (s1.π (au.υ f)) aj]
def MR:Zh:=[114,111,111,109,115]
def MS (b:Zs):Sp:=λa H Q _=>a=[.str (tx MR)]/\∀x d,H x=ε->H d=ε->d≠x->Q ?x (υ (υ H d (.own x)) x (.ins b d []))
def F6:T.xF.Ok P w base 1 (MS A.dH):=by
 rwa[T.xF.on F0 (λb i a s H f Q E g h=>?_) (len:=by rintro _ _ _ _ ⟨rfl,_⟩;rfl)]
 .let[Τ,k]:=h
  erw[_,{{bI (aX dI (pv 0) (fD (l:=[114,111,111,109,115]) Τ) (bh _))
   {{bf (Ph T.Qe T.Qg T.Qf Τ T.U4 (by decide))}}
   bp,ou,ou,ou}}]
  rwa[gH ?_];intro c d e;rwa[12212,gC k]
def QJ {r:Zs}(h:Ϭ){d:Zs}{o:HO}(hd:H d\o)(i:∀p q c,o≠.ins p q c)(g:∀b,o≠.Ε b)(j:∀b,o≠.dK b):¬O.own r d:=λf=>by
 rcases f with q|q|q
 .have:=h.ins;cbv
 .let[b,e]:=h.RL q;cbv
 .let[b,e]:=h.sM q;cbv
def Vj {r:Zs}(h:Ϭ){p:Zs}{c:Zb}(b:H p\.Θ c):¬O.own r p:=QJ h b (by cbv) (by cbv) (by cbv)
def Vk {C x:Zs}(nx:H x=ε)(c:H a=ε)(d:a≠x)(k:∀b o,υ (υ H a (.own x)) x (.ins C a []) b\o->b≠x->I b\o)(g:∀b,O.own x b->b=x\/υ (υ H a (.own x)) x (.ins C a []) b=ε):au H I/\∀b,O.own x b->H b=ε:=by let f:au H (υ (υ H a (.own x)) x (.ins C a [])):=(au.υ c).π (au.υ ([aq d.Β]▸nx));rwa[λb o e=>k b o (f^e) (ax e nx),λb z=>(g b z).Κ (λe=>[e]▸nx) (same_none f)]
def gB (p:Zs)(H a:Hp):ν:=∀q o,q≠p->H q\o->a q\o
def gB.π (c:gB a H I)(b:gB a I J):gB a H J:=λq o n e=>b q o n (c q o n e)
def gB.υ {o:HO}:gB a H ć:=λq u n e=>[aq n]▸e
def _root_.Lake.L2.cJ.but {rs:Zn}{rows:Za3}{w:Zs}(h:cJ H rs rows)(b:gB w H I)(c:w∉rs):cJ I rs rows:={h.1,λi r ns a d=>b β (λz=>c (by rw[<-z];rwa[amD a])) (h.2 i r ns a d)}
def E4 {rows:Za3}(h:cJ H F rows){r:Zs}(c:r∈F):∃d,H r\(.Ε (ao d)):=by
 let[i,b,e]:=apL.mp c;let a:i<@rows:=by rw[<-h.1];rwa[b]
 rwa[_,h.2 i r _ (by rw[amB b,e]) (amB a)]
def _root_.Lake.L2.cJ.snoc {rs:Zn}{rows:Za3}{r:Zs}{ns:Zg}(h:cJ H rs rows)(e:H r\.Ε (ao ns)):cJ H (rs++[r]) (rows++[ns]):=by
 rwa[by rw[amG,amG,h.1];rfl,λi q d b a=>?_];cases c:i<@rs
 .rw[amP c]at b;rw[amP (by rw[<-h.1];rwa[c])]at a;rwa[h.2 i q d b a]
 .rw[amU ∅]at b;rw[amU (by rw[<-h.1];omega)]at a;rw[amI.mp ϙ,amI.mp (amD a)];rwa[e]
def bP (S:RS)(k c:η):η:=(S.by c Ż).Λ 0
inductive zA (C:Zs)(vs:Zb)(H:Hp)(Q:VK)(E_:XK):ν
 |mk (r:Zs)(S:RS)(a:RA)(Z:η->ν):vs=[?r]->aB C H r S a->1<=S.L->S.L<=40->S.q<=300->@S.ways=S.q->Z 0->(∀c,Z c->c<S.q/\∀k,k<2* S.L->∃d,S.by c Ż=ι d/\Z d)->(∀l N H',au H H'->H l=ε->TabAt H' l (M24.fY (bP S) (2* S.L) (M24.bC (bP S) (2* S.L) 0 N))->@(M24.bC (bP S) (2* S.L) 0 N)=N->Q ?l H')->zA C vs H Q E_
def xX (a:θ (Key×V))(found:Zh):ν:=@a<=@found/\∀c:η,bG a (Sum.ψ (c:ο))=if c∈found then ι (V.τ (M24.ix found c:ο)) else ε
def xX.one:xX [(Sum.ψ 0,.τ 0)] [0]:={amK _,λc=>by
 cases h:c=0
 .subst h;rfl
 .rw[amY (λq=>h (amI.mp q))];show bG (putK [] (Sum.ψ 0) (.τ 0)) (Sum.ψ (c:ο))=ε;rw[fJ,amY (λq=>by injection q with q;omega)];rfl}
def xX.put {d:θ (Key×V)}{found:Zh}{c:η}(h:xX d found)(nd:found.Nodup)(hc:c∉found):xX (putK d (Sum.ψ (c:ο)) (.τ (@found:ο))) (found++[c]):=by
 let i:(found++[c]).Nodup:=by rw[anC];rwa[nd,by simp,λa j b k=>by cbv]
 rwa[5,λg=>?_]
 .have:=gE d (Sum.ψ (c:ο)) (.τ (@found:ο));have:=h.1;rw[amG,aoc];ext
 rw[fJ];cases e:g=c
 .subst e;rw[am1 Τ,am1 ħ,M24.LN hc]
 .rw[amY (λq=>e (by injection q with q;omega)),h.2];cases f:g∈found
  .rw[am1 f,am1 Z5,M24.yG i f]
  cbv
structure NS (H0 H:Hp)(lf d lr:Zs)(ts:Zn)(kvs:θ (Key×V))(found:Zh)(Tb:Za3):ν where
 Δ:au H0 H
 f1:H lf\(.Ε (ao (nI found)))
 d1:H d\(.dK kvs)
 nm:xX kvs found
 r1:H lr\(.Ε (ts.Α V.Η))
 r2:cJ H ts Tb
 un:(lf::lr::ts).Nodup
 new:∀x∈lf::lr::ts,H0 x=ε
 dn:H0 d=ε
section
variable {H0 H H':Hp}{lf d lr:Zs}{ts:Zn}{kvs:List (Key×V)}{found:Zh}{Tb:Za3}
def NS.more (h:ÿ)(s:au H H'):NS H0 H' lf d lr ts kvs found Tb:={h.Δ.π s,s^h.f1,s^h.d1,h.nm,s^h.r1,h.r2.Δ s,h.un,h.new,h.dn}
def NS.ne (h:ÿ):lf≠lr/\lf∉ts/\lr∉ts/\ts.Nodup:=by
 let a:=anq.mp h.un
 cbv
def NS.add (h:ÿ)(nd:found.Nodup){c:η}(hc:c∉found):NS H0 (υ (υ H d (.dK (putK kvs (Sum.ψ (c:ο)) (.τ (@found:ο))))) lf (.Ε (ao (nI found)++[.τ (c:ο)]))) lf d lr ts (putK kvs (Sum.ψ (c:ο)) (.τ (@found:ο))) (found++[c]) Tb:=by
 let[j,k,n,m]:=h.ne;let dl:∀b g,H b\.Ε g->b≠d:=λb g e=>bF e h.d1 (by cbv)
 rwa[λb o e=>?_,55,h.nm.put nd hc,5,{h.r2.1,λi q ns f l=>?_},h.un,h.new,h.dn]
 .rw[aq (ax e (h.new lf amR)),aq (ax e h.dn)];rwa[h.Δ^e]
 .rw[aj,jU,ints_app];rfl
 .rw[aq (an5 (dl lf _ h.f1)),aj]
 .rw[aq (an5 j),aq (dl lr _ h.r1)];rwa[h.r1]
 .let a:=h.r2.2 i q ns f l;rw[aq (λe=>k (by rw[<-e];rwa[amD f])),aq (dl q _ a)];rwa[a]
def NS.row (h:ÿ){q:Zs}{row:Zg}(f:H q\.Ε (ao row))(p:H0 q=ε)(c:q∉lf::lr::ts):NS H0 (υ H lr (.Ε ((ts++[q]).Α V.Η))) lf d lr (ts++[q]) kvs found (Tb++[row]):=by
 let[g,k,m,i]:=h.ne;simp only[amW,not_or]at c;let[j,l,n]:=c;rwa[λb o e=>?_,55,h.nm,aj,55,λx a=>?_,h.dn]
 .rw[aq (ax e (h.new lr (amZ _ amR)))];rwa[h.Δ^e]
 .rw[aq g];rwa[h.f1]
 .rw[aq (bF h.d1 h.r1 (by cbv))];rwa[h.d1]
 .rwa[cJ.but (w:=lr) (h.r2.snoc f) gB.υ ?_]
  cbv
 .cbv
 .rw[<-apc,<-apc]at a;rcases amO.mp a with a|a
  .rwa[h.new x a]
  cbv
end
def F7:T.numbered.Ok P w base 2 (zA A.aI):=by
 rwa[T.numbered.on gM (λb9 AA outer s H vs Q E hr h=>?_)]
 .let[r,S,a,Z,Τ,hR,qe,Bx,hm,hw,hZ0,hZ,k]:=h;let qH:=iZ hr
  erw[_,{{bH 1 gM.nd (pc T.pj (qy T) hr #[0<<<1]),bH 2 gM.nd (bN #[ak]),bH 3 gM.nd (zX (wX ak ak zW) Τ Τ (by simp) ⋯),bH 4 gM.nd Ϙ,bL (ja am5 (aX nL (4<<<0) (2<<<0) (bh _))
    {{mw (iy:=5) gM.nd Τ ź (fns:=[ķ,Ê,"found"]) (ixs:=[4,0,2]) (cl:=_) Τ l7 (b0 [(_,_),(_,_),(_,_)] Τ {222222222222222,True.intro} Τ) (λC s H ex=>(pm (pv 2) (aO T) T.jk (iU T) hr #[aU (j9 (K:=K) Τ) (pv 3) (aY (sL (K:=K) Τ) Τ T.cq ang #[1]) (λ_ _=>rfl),0])),bU am5 Τ (cD (pv 5)) (du 6 gM.nd)
     {{bL (bI (tK (mJ qH (pv 6) (pv 3)))
      {{jx qH (pv 3) (pv 6) (2<<<0) Τ,a8 (df amX am2 am3 bS (pv 2) #[6])}}
      bp)}},a8 (df amX am2 am3 bS (pv 4) #[eP (fns:=["numbers"]) (ixs:=[3]) (cl:=_) Τ (cD (pv 5)) (b0 [(_,_)] Τ {22222,True.intro} Τ) (λC s H ex=>(lO qH (pv 1) (pv 0) (λ_ _=>rfl)))])}}),bf (pv 4)}}]
  rwa[xg ?_];intro rn pG jn dA eD;rwa[12,r,_,a.dx,112,hR.ins,aO T,T.uB,yu^_,S.L,2,qe,3,λsl H1 s1 Tj=>?_];rwa[Za4 1,λu BG=>?_];generalize e_:υ H1 u _=H2;obtain⟨s2,MT⟩:_/\_\(.Ε (ao (nI [0]))):=cW e_ BG;intro d hd;erw[aj,[(Sum.ψ 0,.τ 0)],2,by show 1<=15;decide];generalize DG:υ (υ H2 d (.dK [])) d _=H3;let wC:H3 d\(.dK [(Sum.ψ 0,.τ 0)]):=by rw[<-DG,aj];rfl
  let s3:au H2 H3:=λb o e=>by rw[<-DG,aq Ů,aq Ů];rwa[e]
  clear DG;rwa[ani _,λp YP=>?_];generalize e_:υ H3 p _=H4;obtain⟨s4,hr4⟩:_/\_\(.Ε (([]:Zn).Α V.Η)):=cW e_ YP
  let B4:NS H1 H4 u d p [] [(Sum.ψ 0,.τ 0)] (M24.bC (bP S) (2* S.L) 0 0) (M24.lV (bP S) (2* S.L) 0 0):=by
   let nlr:H2 p=ε:=s3.free YP;let e:u≠p:=λz=>by cbv
   rwa[(s2.π s3).π s4,(s3.π s4) β MT,s4^wC,xX.one,hr4,{2,λi r ns h1=>by simp at h1},by simp[e],λx hx=>?_,s2.free hd];simp only[amW,anK,apb]at hx;rcases hx with e|e
   .rw[e];rwa[BG]
   .rw[e];rwa[s2.free nlr]
  clear s2 s3 s4 MT wC hr4 BG hd YP
  let Mq:∀y i,Z y->i<2* S.L->Z (bP S i y):=λy i hy B=>by let[d,e1,e2]:=(hZ y hy).2 i B;unfold bP;rw[e1];rwa[e2]
  let oZ:∀n,∀z∈M24.bC (bP S) (2* S.L) 0 n,Z z:=M24.qO hZ0 Mq;let Y:∀n,@(M24.bC (bP S) (2* S.L) 0 n)<=300:=λn=>amM (M11.et S.q _ (M24.jj γ n) λz R=>(hZ z (oZ n z R)).1) hm
  erw[λ fH H'=>∃(N:η)(G:Zn)(f:θ (Key×V))(v5 M:Zc),fH=#v[?r,?sl,?u,?d,?p,v5,M]/\NS H1 H' u d p G f (M24.bC (bP S) (2* S.L) 0 N) (M24.lV (bP S) (2* S.L) 0 N)/\@(M24.bC (bP S) (2* S.L) 0 N)=N,5]
  .erw[λm σ H'=>∃(n:η)(G:Zn)(f:θ (Key×V))(v5 M:Zc),m=300 - n/\σ=#v[?r,?sl,?u,?d,?p,v5,M]/\NS H1 H' u d p G f (M24.bC (bP S) (2* S.L) 0 n) (M24.lV (bP S) (2* S.L) 0 n)/\n<=@(M24.bC (bP S) (2* S.L) 0 n),⟨_,(0),[],_,ε,ε,22,B4,ani _⟩];rintro m σ H5 ⟨n,G,f,v5,M,Τ,Τ,O,hn⟩;let hop:=Y n
   let U:@G=n:=by rw[O.r2.1];unfold M24.lV;rw[amE,anc];ext
   erw[12,p,12,.ψ (az.of O.r1),12,u,12,.ψ (az.of O.f1),112212];rwa[cw (λh=>?_) (λh=>?_)]
   .let vV:n<@(M24.bC (bP S) (2* S.L) 0 n):=by let h':(@(G.Α V.Η):ο)<(@(ao (nI (M24.bC (bP S) (2* S.L) 0 n))):ο):=ane h;rw[aD,cK,amE,U]at h';ext
    clear h;let F:=amB vV;change (M24.bC (bP S) (2* S.L) 0 n)[n]=c at F;let YQ:=oZ n c (amD F);let hcm:=(hZ c YQ).1;erw[_,λ fH H' h=>h];let R5:aB A.aI H5 r S a:=hR.Δ (s1.π O.Δ);let D:=O.Δ^Tj;erw[12,sl,2,{_,az.of D}];rwa[iq (ao ((~~~(2* S.L)).Α M12.st)) (λv=>match v with|.τ z=>.τ (((S.by c z).Λ 0:η):ο)|v=>v) (iL (az.of D)) (gb (az.of D)) (fi (az.of D)) ([aD,amE,anp]▸amM (show 2* S.L<=1000 by omega) ⋯) (λi v hv Rr J=>?_) (λlo YR=>?_)]
    .let[z,Τ,R]:=bR hv
     let B:i<2* S.L:=by have:=(amF.mp R).1;rw[amE,anp]at ω;rwa[ω]
     let ez:M12.st i=z:=Za0 ((ri B).Β.π R);let[dd,e1,e2]:=(hZ c YQ).2 i B;rw[ez]at e1;erw[12,r,a.dx,12,R5.ins,cY γ ⋯,1212,p,12,.ψ (az.of O.r1),u,11122,az.of O.f1,([amE,U]▸cG (bT (kT F))),12,r,S,a,c,z,2,R5,[hw]▸hcm]
     cbv
    let eo:(ao ((~~~(2* S.L)).Α M12.st)).Α (λv=>match v with|.τ z=>V.τ (((S.by c z).Λ 0:η):ο)|v=>v)=ao (nI ((~~~(2* S.L)).Α λi=>bP S i c)):=by unfold ao nI;rw[anu,anu,anu,anu];rfl
    rw[eo];clear eo;generalize e_:υ H5 lo _=H6;let[s6,ho6]:=cW e_ YR;let n1:lo≠u:=λz=>by rw[z,O.f1]at YR;ext YR
    let hod:∀i,i<2* S.L->((~~~(2* S.L)).Α λi=>bP S i c)[i]?\(bP S i c):=λi B=>by rw[amQ,an3 B];rfl
    erw[12,lo,2,{_,az.of ho6}];rwa[cS (xs:=ao (nI ((~~~(2* S.L)).Α λi=>bP S i c))) (λi σ X=>∃(f:θ (Key×V))(M:Zc),σ=#v[?r,?sl,?u,?d,?p,?lo,M]/\NS H1 X u d p G f (M24.eQ (bP S) c (M24.bC (bP S) (2* S.L) 0 n) i) (M24.lV (bP S) (2* S.L) 0 n)/\X lo\.Ε (ao (nI ((~~~(2* S.L)).Α λi=>bP S i c)))) {f,M,2,O.more s6,ho6} (λi σ X _ ζ=>by let[_,_,_,_,h]:=ζ;rwa[az.of h]) ?_ ?_]
    .rintro i y σ X B ⟨f,M,Τ,g,l⟩
     let hi':i<2* S.L:=by have:=(amF.mp B).1;rw[aD,cK,amE,anp]at ω;rwa[ω]
     rw[bT (kT (hod i hi'))]at B;let ey:=Za0 B;subst ey
     let Hc:@(M24.eQ (bP S) c (M24.bC (bP S) (2* S.L) 0 n) i)<=300:=amM (M11.et S.q _ (M24.vo (M24.jj γ n) i) λz R=>by
      rcases M24.lU.mp R with q|⟨j,hj,rfl⟩
      .rwa[(hZ z (oZ n z q)).1]
      .rwa[(hZ _ (Mq c j YQ (by omega))).1]) hm
     let MV:(M24.eQ (bP S) c (M24.bC (bP S) (2* S.L) 0 n) i).Nodup:=M24.vo (M24.jj γ n) i;let YT:=M24.kA (bP S) c (M24.bC (bP S) (2* S.L) 0 n) i;change M24.eQ (bP S) c (M24.bC (bP S) (2* S.L) 0 n) i=come at YT g Hc MV;rw[YT];clear YT;change bP S i c=o;rwa[15,λ_ _ h=>h];erw[1212,d,12,dB.k (k:=Sum.ψ (o:ο)) g.d1,12];rw[g.nm.2 o];cases L:o∈come
     .rw[am1 L];rwa[dc {f,125,l}];unfold M24.add;rw[am1 L];rwa[g]
     .rw[amY L];rwa[gC ?_];let B8:=g.add MV L;let afk:(@(ao (nI come)):ο)=(@come:ο):=by rw[aD,cK]
      erw[12,u,12,.ψ (az.of g.f1),1212,d,12,lL.k (k:=Sum.ψ (o:ο)) g.d1 (amS (show @f<=300 by have:=g.nm.1;omega) ⋯)];let Tn:υ X d (.dK (putK f (Sum.ψ (o:ο)) (.τ (@(ao (nI come)):ο)))) u\(.Ε (ao (nI come))):=by rw[aq (bF g.f1 g.d1 (by cbv))];rwa[g.f1]
      erw[12,.ψ {21,az.of Tn},12,u,1122,Tn,5]
      .rw[aD,cK];rwa[amS Hc ⋯]
      rw[afk];erw[putK f (Sum.ψ (o:ο)) (.τ (@come:ο)),125]
      .unfold M24.add;rw[amY L];rwa[B8]
      .rw[aq n1,aq (bF l g.d1 (by cbv))];rwa[l]
    .rintro σ X ⟨f,M,Τ,g,l⟩;rw[aD,cK,amE,anp,<-M24.gL F]at g;let ak6:=Y (n+ 1);let[t,ht]:=M24.xo (bP S) (2* S.L) 0 n;let wx:n+ 1<=@(M24.bC (bP S) (2* S.L) 0 (n+ 1)):=by rw[ht,amG];ext
     let To:∀i,i<2* S.L->bP S i c∈M24.bC (bP S) (2* S.L) 0 (n+ 1):=λi B=>by rw[M24.gL F];rwa[M24.lU.mpr (.Ζ {i,B,2})]
     erw[12,.ψ {21,az.of g.r1},12,lo,2,{_,az.of l}];rwa[iq (ao (nI ((~~~(2* S.L)).Α λi=>bP S i c))) (λv=>match v with|.τ z=>.τ ((M24.ix (M24.bC (bP S) (2* S.L) 0 (n+ 1)) z.toNat:η):ο)|v=>v) (iL (az.of l)) (gb (az.of l)) (fi (az.of l)) ([aD,cK,amE,anp]▸amM (show 2* S.L<=1000 by omega) ⋯) (λi v hv Rr J=>?_) (λlq I=>?_)]
     .let[z,Τ,R]:=bR hv
      let B:i<2* S.L:=by have:=(amF.mp R).1;rw[cK,amE,anp]at ω;rwa[ω]
      let ez:((bP S i c:η):ο)=z:=Za0 ((kT (hod i B)).Β.π R);subst ez;let J:Rr (.τ ((M24.ix (M24.bC (bP S) (2* S.L) 0 (n+ 1)) (((bP S i c:η):ο)).toNat:η):ο)) X:=J;rw[anb]at J;rwa[1212,d,125,J];have:=dB.k (k:=Sum.ψ ((bP S i c:η):ο)) g.d1;rw[g.nm.2,am1 (To i B)]at ω;rwa[ω]
     let eo:(ao (nI ((~~~(2* S.L)).Α λi=>bP S i c))).Α (λv=>match v with|.τ z=>V.τ ((M24.ix (M24.bC (bP S) (2* S.L) 0 (n+ 1)) z.toNat:η):ο)|v=>v)=ao ((~~~(2* S.L)).Α λi=>((M24.ix (M24.bC (bP S) (2* S.L) 0 (n+ 1)) (bP S i c):η):ο)):=by unfold ao nI;rw[anu,anu,anu,anu];rfl
     rw[eo];clear eo;generalize e_:υ X lq _=H8;let[s8,hq8]:=cW e_ I
     let nq:lq∉u::p::G:=by
      simp only[amW,not_or];rwa[λz=>?_,λz=>?_,λz=>?_]
      .rw[z,g.f1]at I;ext I
      .rw[z,g.r1]at I;ext I
      .let[ns,e]:=E4 g.r2 z
       cbv
     let B8:=(g.more s8).row hq8 (g.Δ.free I) nq;rw[<-M24.Bq F]at B8;erw[p,1122,s8^g.r1,5]
     .rw[amE,U];rwa[amS (show n<=300 by omega) ⋯]
     rw[am8]at B8;rwa[300 - (n+ 1),3,n+ 1,G++[lq],f,1122,B8,wx]
   .erw[n,G,f,112,O];let h':¬(@(G.Α V.Η):ο)<(@(ao (nI (M24.bC (bP S) (2* S.L) 0 n))):ο):=λq=>h (anh q)
    rw[aD,cK,amE,U]at h';ext
  rintro fH H' ⟨N,G,f,v5,M,Τ,B',hN⟩;rwa[12,k p N H' (s1.π B'.Δ) (s1.free (B'.new p (amZ _ amR))) {G,B'.r1,5} hN];rw[<-M24.DR hN];rwa[B'.r2]
structure CS (CR CG CC:Zs)(H:Hp)(x r:Zs)(q:KA)(S:RS)(a:RA)(R:Za2)(ks:Zg)(B:η)(rs ps:Za3)(fp:θ (Zg×η))(bs:θ (η×Zg×η))(gs:Zf)(ag:Zh)(W:bM)(O:Zs->ν):ν where
 c:cN CG CC H x r q gs ag W @S.bq fp O
 q:H q.aQ\(.dT (jO fp))
 rm:kJ CR H r S a R ks B
 dj:∀b,a.own r b->¬O b
 ci:CI S bs gs ag W gI ε
 bo:EL (rs++ps) @rs ks bs
 pl:Ay rs fp
 br:∀b∈bs,b.2.2<S.q
 ra:∀w∈rs,w≠[]->∀c,c<S.q->S.ay c=c->∃n,(n,w,c)∈bs
 pa:∀w∈ps,w≠[]->∃n,(n,w,0)∈bs
 ln:@bs<=S.q* @fp+ @ps
 wb:∀u∈rs++ps,@u<=1000/\∀z∈u,(-1000<=z/\z<=1000)/\z∈ks/\-z∈ks
def CS.YV {CR x r:Zs}{q:KA}{rs m:Za3}{o:θ (Zg×η)}{bs:θ (η×Zg×η)}{gs:Zf}{W:bM}{d:Zs->ν}(h:CS CR a b H x r q S O R l n rs m o bs gs [] W d)(p:0<S.q):Ab rs m S:=by
 rwa[λw i c hc k=>?_,λw i=>?_]
 .cases g:w=[]
  .rw[g];rwa[.ψ Τ]
  .let[e,j]:=h.ra w i g c hc k;rwa[ends (b:=(e,w,c)) h.ci h.rm.g j k]
 .cases g:w=[]
  .rw[g];rwa[.ψ Τ]
  .let[e,j]:=h.pa w i g;rwa[ends (b:=(e,w,0)) h.ci h.rm.g j (by have:=(h.rm.g.el 0 p).1;rwa[η.le_zero.mp ω])]
inductive Hg (CR CG CC:Zs)(vs:Zb)(H:Hp)(Q:VK)(E_:XK):ν
 |mk (x r:Zs)(q:KA)(S:RS)(a:RA)(R:Za2)(B:η)(rs ps:Za3)(fp:θ (Zg×η))(bs:θ (η×Zg×η))(gs:Zf)(W:bM)(O:Zs->ν)(c:η)(z:ο):vs=[?x,.τ c,.τ z]->CS CR CG CC H x r q S a R (bE (2* S.L)) B rs ps fp bs gs [] W O->1<=S.L->S.L<=200->c<S.q->S.ay c=c->S.by c z=ε->z∈bE (2* S.L)-> -z∈bE (2* S.L)->S.q<1000->(S.q+ 1)* @fp+ @ps<=700->B<800000->@S.bq+ S.stand<=800000->(∀S' a' R' bs' i7 W' O' B' H',(∀b o,¬O b->¬a.own r b->H b\o->H' b\o)->CS CR CG CC H' x r q S' a' R' (bE (2* S.L)) B' rs ps fp bs' i7 [] W' O'->(∀b,a'.own r b\/O' b->a.own r b\/O b\/H b=ε)->Tr (rs++ps) @rs (S.make c z (bE (2* S.L))) S'->S'.q=S.q+ 1->S'.L=S.L->B'<=B+ 702->Q .non H')->Hg CR CG CC vs H Q E_
def zB:T.pq.Ok mg P w base 9 (Hg A.aI A.aT A.aL):=by
 rwa[T.pq.on zg (λb9 AA outer s H vs Q E hr h=>?_)]
 .let[x,r,q,S,a,R,B,rs,ps,i,bs,gs,W,O,c,z,Τ,h,qe,Bx,hc,ec,d,hz,D,hm,EY,hB,hwn,k]:=h
  refine{_,{{a8 (pm (pv 0) (aS T) T.fS (j0 T) hr #[pm (0<<<1) (aO T) T.sk (Cm T) hr #[1,2]]),a8 (pm (pv 0) (aS T) T.fM (gy T) hr #[1,2]),a8 (DN (pv 0) (aS T) T.jD (nK T) hr)}},?_}
  rwa[cF ?_];intro dA eD;let l:=h.rm.g;let rb:=h.rm.rb;let ok:=BF l h.rm.k ∅ (by have:=h.rm.l;omega) ∅ ∅;rwa[12,x,q.dx,12,h.c.ins,fV ⋯,12,x,_,q.dx,112,h.c.ins,aS T,T.fO,gO^_,r,a.dx,12,h.rm.at_.ins,cY γ ⋯,1212,r,S,a,c,z,2,h.rm.at_,l.wf,qe,Bx,hc,33,ok.sm.w,λa1 H1 V sN X=>?_];let oth:∀b,O b->∃o,H b\o:=λb y=>by let[o,e,_]:=h.c.th b y;rwa[o,e]
  let tno:∀b Z,H b\.Θ Z->H1 b\(.Θ Z):=λb Z e=>V b _ (λy=>Vj h.rm.at_ e y) e
  let c1:=h.c.keep (λb o y e=>V b o (λw=>h.dj b w y) e) tno;let q1:H1 q.aQ=_:=V β (Az h.rm.at_ h.q) h.q;let ci1:=h.ci.make l hc ec d h.br (bE (2* S.L))
  let Y:∀b,a1.own r b->¬O b:=λb y w=>by
   rcases X b y with v|v
   .rwa[h.dj b v w]
   cbv
  let rB:@bs+ @i<=700:=by have:=h.ln;rw[apA,η.one_mul]at EY;ext
  rwa[x,r,q,S.make c z (bE (2* S.L)),bs,gs,[],W,@S.bq,i,O,_,S.q,2,c1,q1,ci1,λp hp=>?_,aoo _,3,ani _,λf j L H2 u Ta G c2 J MN=>?_]
  .have:=h.wb p.1 (amV _ (amD (h.pl.a p hp)));rwa[ω.1,λy hy=>(ω.2 y hy).1]
  let bl:=sE S.q i;let l2:@(bs++ig i S.q)<=700:=by rw[amG];ext
  let bo2:EL (rs++ps) @rs (bE (2* S.L)) (bs++ig i S.q):=by
   let nw:∀b∈ig i S.q,(rs++ps)[b.1]?\b.2.1/\b.1<@rs:=λb d=>by
    let[p,hp,d]:=anS.mp d;let[Τ,_]:=zy d;let h1:=h.pl.a p hp
    cbv
   rwa[λb d=>?_,λb d=>?_,λb d=>?_,λb d=>?_,3]
   .rwa[(amO.mp d).Κ (h.bo.w b) λy=>(nw b y).1]
   .rwa[(amO.mp d).Κ (h.bo.n b) λy=>.ψ (nw b y).2]
   .rwa[(amO.mp d).Κ (h.bo.l b) λy=>(h.wb _ (amD (nw b y).1)).1]
   .rwa[(amO.mp d).Κ (h.bo.k b) λy z' D=>((h.wb _ (amD (nw b y).1)).2 z' D).2]
  let g2:@f<=700:=by rw[J.len];rwa[l2]
  let MB:mX A.aT A.aL (S.make c z (bE (2* S.L))) (bs++ig i S.q) f W (λr s=>r=c/\s=z) (@j+ 2* @f) x r q @S.bq i L H2 j W:={c2,J,λ_ _ _ z=>z,by have:=J.two;ext};rwa[12,x,q.dx,12,c2.ins,fV ⋯,1212,x,r,q,f,j,W,@S.bq,i,L,c,z,2,c2,MB.fits ∅,λns H3 t nd3 hn3 c3=>?_];let N:=MB.wake nd3 hn3 c3;let Ys:CI (S.make c z (bE (2* S.L))) (bs++ig i S.q) f (j++ns) (hL W c z) gI ε:=N.i.ex λr' s' n' w' _ e=>absurd {an7 η.cast e.1,e.2} (dC.mp w').2
  let dj2:∀b,a1.own r b->¬L b:=λb y w=>by
   rcases G b w with v|v
   .rwa[Y b y v]
   .let[o,e]:=sN.there y;cbv
  let rm1:kJ A.aI H1 r (S.make c z (bE (2* S.L))) a1 Ϗ (bE (2* S.L)) (B+ 2):=by
   let es:=IB (c:=c) (z:=z) (g:=bE (2* S.L)) l.wf;let M:(S.make c z (bE (2* S.L))).bq=S.bq:=rfl;rwa[sN,l.make hc ec d _,uc h.rm.w l.wf γ,λa y b e=>?_,by show S.q+ 1<=_;ext,h.rm.l,5,by rw[M];ext]
   .rcases e with e|⟨_,e,_⟩|⟨_,e,_⟩
    .rwa[h.rm.k γ e]
    .rw[e];rwa[hz]
    .rw[e];rwa[D]
   .show @(S.rows++[_])+ _<=_;rw[amG,es];show @S.rows+ 1+ _<=_;ext
  let rm3:=(rm1.keep (λb o y e=>u b o (Y b y) e) (λb Z e=>u b _ (c1.j7 e) e)).keep (λb o y e=>t b o (dj2 b y) e) (λb Z e=>t b _ (c2.j7 e) e);let lv:live f<=700:=amM θ.countP_le_length g2;let hmul:live f* (2* @(bs++ig i S.q)+ 1)<=700* 1401:=apO lv ∅;let hag:@(j++ns)<=2100:=by have:=N.b;ext
  rwa[12,x,q.dx,12,c3.ins,fV ⋯,x,r,q,S.make c z (bE (2* S.L)),a1,fX R c z S.q,bE (2* S.L),B+ 2,rs++ps,@rs,bs++ig i S.q,f,j++ns,hL W c z,i,L,2,c3,rm3,3,dj2,Ys,bo2,3,λS' a' R' i7 W' O' B' H' f' c' r' ow oo dj' ci' rr em eL tr SQ=>?_];let I:S'.q=S.q+ 1:=em
  let out:∀{b o},¬O b->¬a.own r b->H b\o->H' b\o:=λ{b o} C F e=>by
   let U:=V b o F e;let e2:=u b o C U;let n3:¬L b:=λy=>(G b y).Κ C λv=>by cbv
   rwa[f' b o n3 (λy=>(X b y).Κ F λv=>by cbv) (t b o n3 e2)]
  let non:∀b,a1.own r b\/L b\/H3 b=ε->a.own r b\/O b\/H b=ε:=λb y=>by
   cases F:a.own r b
   .rwa[.ψ F]
   cases C:O b
   .rwa[.Ζ (.ψ C)]
   rwa[.Ζ (.Ζ ?_)]
   cases e:H b with
   |ε=>rfl
   |ι o=>
    exfalso
    let U:=V b o F e;let n3:¬L b:=λy=>(G b y).Κ C λv=>by cbv
    rcases y with y|y|y
    .cbv
    .rwa[n3 y]
    .rw[t b o n3 (u b o C U)]at y;ext y
  let lt:=Later.of l (l.make hc ec d (bE (2* S.L))) jh (aqu _);let lt2:=Later.of rm1.g r'.g rr (apW em.Β);let YW:∀b,b<S.q->(S.make c z (bE (2* S.L))).ay b=S.ay b:=λb vV=>(gk l.wf c z (bE (2* S.L)) b).π (amY ∅)
  rwa[k S' a' R' (bs++ig i S.q) i7 W' O' B' H' (λb o C F e=>out C F e) {c',out (h.c.Mu h.q) (Az h.rm.at_ h.q) h.q,r',dj',ci',bo2,h.pl,λb d=>?_,λw M m b d eb=>?_,λw M m=>?_,5,h.wb} (λb y=>?_) tr I (eL.π Τ) ∅]
  .rw[I];rcases amO.mp d with y|y
   .have:=h.br b y;ext
   .let[p,_,d]:=anS.mp y;let[Τ,_]:=zy d;rwa[aoo _]
  .cases e:b<S.q
   .let U:=lt2.el b (by show b<S.q+ 1;omega);rw[YW b e,eb]at U;let l1:=(l.el b e).1;let l2:=(r'.g.el (S.ay b) ∅).1;let[n,hn]:=h.ra w M m b e ∅
    cbv
   .let e:b=S.q:=∅
    subst e;let[n,hn]:=h.pl.b w M;rwa[n,amN _ (anS.mpr {(w,n),hn,Jt m})]
  .let[n,hn]:=h.pa w M m
   cbv
  .have:=h.ln;rw[amG,I,apA,η.one_mul];ext
  cbv
def Tp:Iw K A.bQ:={T.Jl,T.Jm,T.Jn,T.Jo,T.Jp,T.Jq}
def YX (n:η)(l:Zs):θ (Ι×V):=[(Ć,.τ n),(ķ,?l)]
inductive Tq (C:Zs)(vs:Zb)(H:Hp)(Q:VK)(E_:XK):ν
 |mk (x l:Zs)(n:η)(xs:Zb):vs=[?x,.τ n,?l]->H x\XO x C ε ρ->n<100000->H l\.Ε xs->@xs<=1000000->(∀d l2 H',H d=ε->H l2=ε->d≠x->(∀b o,b≠x->H b\o->H' b\o)->H' x\XO x C (ι d) ρ->H' d\XD d (YX n l2)->H' l2\.Ε xs->l2≠x->Q .non H')->Tq C vs H Q E_
def tI:T.eR.Ok mg P w base 1 (Tq A.bQ):=by
 rwa[T.eR.on tE (λL X C s H U Q E Y h=>?_)]
 .let[x,l,n,N,Τ,u,Z,F,I,k]:=h
  refine{_,{{a8 (Px (GJ T.zf T.eR.m.at_) {T.aeT,T.aeU,T.aeV} Τ T.FY #[0,A6 (jy (ve (pv 1)) (jy (fD (l:=[32,114,111,111,109,115,32,119,101,114,101,32,109,97,100,101,44,32,97,110,100,32,116,104,101,114,101,32,97,114,101,32,103,97,112,115,32,108,101,102,116]) Τ) Kp))] (by decide) Τ Τ Τ),GH (pv 0) (pv 1) Τ,GH (pv 0) (cO (gZ) Τ T.ib anF #[2]) Τ}},?_}
  rwa[cF ?_];intro S J;let hd:=rL (n:=(n:ο)) ∅ ∅;erw[1212,(n:ο),2312,by show 0+ _<=1000000;ext,1255,x,ε,12,u]
  .rw[ao4];let e:∀m:η,m<=100->@(C0 (n:ο))+ m<=1000000:=λm O=>∅
   rwa[e _ ⋯]
  .rw[ao4,amG];let e:∀m:η,m<=100->@(C0 (n:ο))+ m<=1000000:=λm O=>∅
   rwa[e _ ⋯]
  rwa[1212,x,A.bQ,ε,ρ,2,u,Tp T,T.Vb,λd p=>?_];let a:d≠x:=(ax u p).Β;let c:υ (υ H d (XD d [(Ć,V.τ n)])) x ú x\ú:=aj;let g:υ (υ H d (XD d [(Ć,V.τ n)])) x ú d\(XD d [(Ć,V.τ n)]):=by rw[aq a,aj]
  let B:∀b o,b≠x->H b\o->υ (υ H d (XD d [(Ć,V.τ n)])) x ú b\o:=λb o v e=>by rw[aq v,aq (ax e p)];rwa[e]
  let v:∀b,υ (υ H d (XD d [(Ć,V.τ n)])) x ú b=ε->H b=ε:=λb e=>by
   cases q:b=x
   .cbv
   .rw[aq q]at e;cases G:b=d
    .rw[G];rwa[p]
    .rw[aq G]at e;rwa[e]
  change υ (υ H d (XD d [(Ć,V.τ n)])) x ú=M at c g B v ⊢;let D:l≠x:=bF F u f!"";rwa[12,l,N,2,.ψ (az.of (B β D F)),λi f=>?_];generalize R:υ M i _=H2;let[t,y]:=cW R f;let j:i≠x:=(ax c f).Β;let r:i≠d:=(ax g f).Β;erw[12,x,A.bQ,ι d,ρ,2,t^c,Tp T,T.Vc,_,a,t^g,by show 1<1000;decide];rw[show bJ ķ (V.Η i) [(Ć,V.τ n)]=YX n i from eM (by kernel_rfl)];rwa[k d i _ p (v _ f) a (λb o q e=>?_) ?_ aj ?_ j]
  .rw[aq (ax e p)];rwa[t^B b o q e]
  .rw[aq a.Β];rwa[t^c]
  .rw[aq r];rwa[y]
inductive Fl (rs ps:Za3)(L lim:η):RS->ν
 |start {S:RS}:Tr (rs++ps) @rs (RS.new L (bE (2* L))) S->Ab rs ps S->Fl rs ps L lim S
 |next {S S':RS} {c:η} {z:ο}:Fl rs ps L lim S->S.q<lim->He S L c z->Tr (rs++ps) @rs (S.make c z (bE (2* L))) S'->Ab rs ps S'->Fl rs ps L lim S'
def E5 (L:η)(u:Zg):ν:=@u<=1000/\∀z∈u,z≠0/\z.natAbs<=L
def pK (d:n<=200){u:Zg}(h:E5 n u):@u<=1000/\∀z∈u,(-1000<=z/\z<=1000)/\z∈bE (2* n)/\-z∈bE (2* n):=by rwa[h.1,λz c=>?_];let[b,a]:=h.2 z c;rwa[3,ie.mpr {b,a},ie.mpr {33}]
def lE (h:S.bj[n]?\n):S.ay n=n:=by unfold RS.ay;rw[amH,h];rfl
def Fl.ys {rs a:Za3}(h:Fl rs a n m S)(b:∀u∈rs++a,∀z∈u,z∈bE (2* n)/\-z∈bE (2* n)):∃R,YS S n (bE (2* n)) R:=by
 induction h with
 |start t _=>let[R,y,_]:=YS.new.tr t b;rwa[R,y]
 |next _ _ l t _ i=>let[R,y]:=i;let[f,d,c,e]:=l.1;let[k,o]:=ie.mp c;let[j,g,_]:=(y.make f (lE d) e c (ie.mpr {33})).tr t b;rwa[j,g]
def _root_.Lake.L2.YS.gl (y:YS S n (bE (2* n)) R)(a:S.q<=100000)(d:n<=200):GL S n:={y.g.wf,a,d,λc hc b=>y.gi.fin y.g (L8 _) hc (lE b)}
def Ans (S:RS)(L:η)(H:Hp)(v:V):ν:=(v=.non/\∀c z,¬fh S L c z)\/∃(c:η)(z:ο)(t:Zs),v=?t/\He S L c z/\H t\(.Θ [.τ (c:ο),.τ z])
def Ts (H:Hp)(l:Zs)(S:RS):ν:=∃a:Zn,H l\.Ε (a.Α V.Η)/\Each (λp d=>cy H 4 ?p d) a S.rows/\@S.rows<=1000000
inductive MX (cT:Zs)(vs:Zb)(H:Hp)(Q:VK)(E:XK):ν
 |mk (ru pa:Zs)(L lim:η)(rs ps:Za3):vs=[.τ L,?ru,?pa,.τ lim,.str (tx MR)]->1<=L->L<=40->1<=lim->lim<=300->bz H ru rs->bz H pa ps->(∀u∈rs++ps,E5 L u)->lim* @rs+ @ps<=700->@rs<=400->@ps<=400->(∀t tb pp S N H',au H H'->Fl rs ps L lim S->(∀c z,¬fh S L c z)->H' t\.Θ [?tb,?pp]->TabAt H' tb (M24.fY (bP S) (2* S.L) (M24.bC (bP S) (2* S.L) 0 N))->@(M24.bC (bP S) (2* S.L) 0 N)=N->Ts H' pp S->Q ?t H')->(∀d pp S H',au H H'->Fl rs ps L lim S->S.q=lim->(∃c z,fh S L c z)->H' d\XD d (YX S.q pp)->Ts H' pp S->E ?cT (ι d) H')->MX cT vs H Q E
section
variable {CR CG CC:Zs}{H H':Hp}{x r:Zs}{q:KA}{S:RS}{a:RA}{R:Za2}{ks:Zg}{B:Nat}{rs ps:Za3}{fp:List (Zg×Nat)}{bs:List (Nat×Zg×Nat)}{gs:Zf}{ag:Zh}{W:bM}{O:Zs->Prop}
def CS.keep (h:CS CR CG CC H x r q S a R ks B rs ps fp bs gs ag W O)(f:au H H'):CS CR CG CC H' x r q S a R ks B rs ps fp bs gs ag W O:={h.c.Δ f,f^h.q,h.rm.Δ f,h.dj,h.ci,h.bo,h.pl,h.br,h.ra,h.pa,h.ln,h.wb}
end
structure zC (A:sX)(H0 H:Hp)(x r:Zs)(L lim:η)(rs ps:Za3)(S:RS):ν where
 k:au H0 H
 cs:∃q a R B fp bs gs W O,CS A.aI A.aT A.aL H x r q S a R (bE (2* L)) B rs ps fp bs gs [] W O/\(∀b,a.own r b\/O b->H0 b=ε)/\B<=702* S.q
 f:Fl rs ps L lim S
 m:S.q<=lim
 l:S.L=L
def zC.kp {H0:Hp}{x r:Zs}{rs b:Za3}(h:zC A H0 H x r n m rs b S)(k:Đ):zC A H0 I x r n m rs b S:=by let[q,a,R,B,c,bs,gs,W,O,cs,e,d]:=h.cs;rwa[h.k.π k,{q,a,R,B,c,bs,gs,W,O,cs.keep k,e,d},h.f,h.m,h.l]
theorem AF(T:Txt K mg A):eG P w K mg base Õ 11 A.LX A.LY [É,í,"part",ϱ,"order"] (MX A.bQ):=by
 rwa[T.fill.Lx om (λvs H Q E h=>?_) (λb9 AA outer s H vs Q E hr h=>?_)]
 .let[ru,pa,L,i,rs,f,Τ,_]:=h;rfl
 .let[ru,pa,L,i,rs,f,Τ,qe,Bx,RG,A8,MH,EX,a0,EY,ro,jZ,kq,ke]:=h
  erw[_,{{bH 5 om.nd (pc T.xF (F6 T) hr #[4]),bH 6 om.nd (u9 (xI T) (vM T) hr.Za5 Τ T.U6 T.hV.b .nil jV #[0]),bH 7 om.nd (u9 (su T) (tH T) hr.Za5 Τ T.L7 T.fL.b .nil jV #[6,1,2]),a8 (DN (pv 7) (aS T) T.jD (nK T) hr),bH 8 om.nd (pm (pv 5) (Ek T) T.qc (uM T) hr #[6]),bL (ja PassesOwn.leaving (aX zO (pv 8) dJ (bh _))
    {{bI (aX Rg (6<<<1) (pv 3) (bh _))
     {{Lz (E:=E) (tI T) hr.Za5 T.eR.b Τ Τ T.Bv (GJ T.zf T.eR.m.at_) T.eR.m.fn T.Jk #[6<<<1,DN (pv 6) (aO T) T.mB (rq T) hr] lvD Τ (by decide) (by decide) Τ Τ}}
     bp,a8 (pm (pv 7) (aS T) T.pq (zB T) hr #[8&&&ak,8&&&ak]),bH 8 om.nd (pm (pv 5) (Ek T) T.qc (uM T) hr #[6])}}),bf (bA #[pc T.numbered (F7 T) hr #[6],DN (pv 6) (aO T) T.mB (rq T) hr])}}]
  rwa[xh ?_];intro zo rn pG jn dA eD;let Tt:∀u∈rs++f,∀z∈u,z∈bE (2* L)/\-z∈bE (2* L):=λu hu z hz=>((pK ∅ (a0 u hu)).2 z hz).2
  suffices main:∀o d G,au H G->G o\.ins A.dH d []->eD { nx:=λ_ H'=>Q .non H',rt:=Q } #v[.τ L,?ru,?pa,.τ i,.str (tx MR),?o,ε,ε,ε] G from
   {122,λx d nx nd X=>main x d _ ((au.υ nd).π (au.υ ([aq X.Β]▸nx))) aj}
  intro o dO G s1 ho;replace MH:=MH.Δ s1;replace EX:=EX.Δ s1;rwa[12,λr Z nx U X=>{r,Z,L,2,aj,qe,3,λra H2 k2 h2 MY=>{25}}];let[s2,YY]:=Vk (C:=A.aI) nx U X k2 MY;clear k2 MY nx U X;rwa[121212,λx Z nx U X=>?_];let Y:au H2 (υ (υ H2 Z (.own x)) x (.ins A.aL Z [])):=(au.υ U).π (au.υ ([aq X.Β]▸nx));let Tv:υ (υ H2 Z (.own x)) x (.ins A.aL Z []) x\(.ins A.aL Z []):=aj;let EW:¬ra.own r x:=λz=>by let[o,e]:=h2.there z;rw[nx]at e;ext e
  let n0:∀b,υ (υ H2 Z (.own x)) x (.ins A.aL Z []) b=ε->H2 b=ε:=λb z=>same_none Y z
  change υ (υ H2 Z (.own x)) x (.ins A.aL Z [])=H3 at Y Tv n0 ⊢;let gd:=rO L (bE (2* L))
  let fit:∀D,Ay rs D->1* @D+ @f<=700:=λD h=>by have:=an1 @rs RG;have:=E3 h;ext
  let sl:0+ (RS.new L (bE (2* L))).stand<=1:=by rw[aqn];rwa[EH (RS.new L (bE (2* L)))]
  let y0:=YS.new (L:=L) (ks:=bE (2* L));let rm0:kJ A.aI H2 r (RS.new L (bE (2* L))) ra (λ_ _ _=>False) (bE (2* L)) 1:={h2,gd,y0.w,y0.k,by show 1<=2000;decide,by rw[vu];ext,sl,amM sl ⋯};rwa[x,Z,r,ru,pa,RS.new L (bE (2* L)),ra,λ_ _ _=>False,rs,f,2,Tv,h2.Δ Y,gd,η.one_pos,by show 1<=2000;decide,EW,(MH.Δ s2).Δ Y,(EX.Δ s2).Δ Y,ro,jZ,λu hu=>{(pK ∅ (a0 u hu)).1,λz hz=>((pK ∅ (a0 u hu)).2 z hz).1},λD h=>by have:=fit D h;show 1* @D+ @f<50000;ext,λq gs ag D O H4 f4 c4 q4 o4 G8 al4 hp=>{25}];let hf:=fit D hp;let sd:@(dE (RS.new L (bE (2* L))))<=1:=amM (anN β) ([anp]▸amK _);let hmf:@(dE (RS.new L (bE (2* L))))* @D<=1* @D:=an1 _ sd;let l1:=n9 D (dE (RS.new L (bE (2* L))));let l2:=uJ f @rs @f;let Te:@(dW D (dE (RS.new L (bE (2* L))))++gA f @rs @f)<=1* @D+ @f:=by rw[amG];ext
  let hlv:live gs<=@(dW D (dE (RS.new L (bE (2* L))))++gA f @rs @f):=by rw[<-G8.len];rwa[θ.countP_le_length]
  let r4:kJ A.aI H4 r (RS.new L (bE (2* L))) ra (λ_ _ _=>False) (bE (2* L)) 1:=(rm0.Δ Y).keep (λb o M e=>f4 b o e (λz=>EW (by rw[<-z];rwa[M]))) (λb xs e=>f4 b _ e (bF e Tv f!""))
  let dj:∀b,ra.own r b->¬O b:=λb z y=>by
   let[o,e]:=(h2.Δ Y).there z;rcases o4 b y with w|w
   .rwa[EW (by rw[<-w];rwa[z])]
   .rw[w]at e;ext e
  let bin:∀b∈dW D (dE (RS.new L (bE (2* L))))++gA f @rs @f,((rs++f)[b.1]?\b.2.1/\(b.1<@rs\/b.2.2=0))/\b.2.2<1:=λb M=>by
   rcases Vi M with ⟨p,Xv,e1,J,e3⟩|⟨j,u,hj,rfl⟩
   .let h1:=hp.a p Xv;let h2:=(amF.mp h1).1;rw[e1,J,amP h2];rwa[{h1,.ψ h2},anj.mp (anA.mp e3).1]
   .rwa[{by show (rs++f)[@rs+ j]?=_;rw[amU ∅,η.add_sub_cancel_left];rwa[hj],.Ζ Τ},η.one_pos]
  let I:EL (rs++f) @rs (bE (2* L)) (dW D (dE (RS.new L (bE (2* L))))++gA f @rs @f):={λb M=>(bin b M).1.1,λb M=>(bin b M).1.2,λb M=>(a0 _ (amD (bin b M).1.1)).1,λb M z hz=>Tt _ (amD (bin b M).1.1) z hz,3}
  let YZ:∀w∈rs,w≠[]->∃n,(n,w,0)∈dW D (dE (RS.new L (bE (2* L))))++gA f @rs @f:=λw hw yo=>by let[n,hn]:=hp.b w hw;let hcs:0∈dE (RS.new L (bE (2* L))):=anA.mpr {anj.mpr η.one_pos,anh Τ};rwa[n,amV _ (anS.mpr {(0),hcs,anS.mpr {(w,n),hn,Jt yo}})]
  let Y0:∀w∈f,w≠[]->∃n,(n,w,0)∈dW D (dE (RS.new L (bE (2* L))))++gA f @rs @f:=λw hw yo=>by let[j,hj]:=ant hw;rwa[@rs+ j,amN _ (anS.mpr {j,anj.mpr (amF.mp hj).1,5})];rw[amH,hj];rwa[Jt yo]
  change dW D (dE (RS.new L (bE (2* L))))++gA f @rs @f=bs at G8 al4 Te hlv bin I YZ Y0;let hmul:live gs* (2* @bs+ 1)<=700* 1401:=apO ∅ ∅;clear l1 l2 hmf sd;rwa[12,x,q.dx,12,c4.ins,fV ⋯,x,r,q,RS.new L (bE (2* L)),ra,λ_ _ _=>False,bE (2* L),(1),rs++f,@rs,bs,gs,ag,uK,D,O,2,c4,r4,3,dj,G8,I,3,λS' a' R' i7 W' O' B' H5 f5 c5 r5 ow oo dj5 MP rr em eL tr hb5=>?_];let Tw:S'.q=1:=em
  let RW:∀b o,G b\o->H5 b\o:=λb o e=>by
   let J:=s2^e
   let nO:¬O b:=λy=>by
    rcases o4 b y with w|w
    .rw[w,nx]at J;ext J
    .rw[Y^J]at w;ext w
   rwa[f5 b o nO (λy=>by rw[YY b y]at e;ext e) (f4 b o (Y^J) (ax J nx))]
  let U5:∀b,a'.own r b\/O' b->G b=ε:=λb y=>by
   let nn:ra.own r b\/O b\/H4 b=ε->G b=ε:=λy=>by
    rcases y with y|y|y
    .rwa[YY b y]
    .cases e:G b with
     |ε=>rfl
     |ι u=>
      let J:=s2^e;rcases o4 b y with w|w
      .rw[w,nx]at J;ext J
      .rw[Y^J]at w;ext w
    .cases e:G b with
     |ε=>rfl
     |ι u=>let J:=s2^e;rw[f4 b u (Y^J) (ax J nx)]at y;ext y
   rcases y with y|y
   .rwa[nn (ow b y)]
   .rcases oo b y with v|v|v
    .rwa[nn (.Ζ (.ψ v))]
    .rwa[nn (.ψ v)]
    .rwa[nn (.Ζ (.Ζ v))]
  let Y1:CS A.aI A.aT A.aL H5 x r q S' a' R' (bE (2* L)) B' rs f D bs i7 [] W' O':=by
   rwa[c5,f5 β (c4.Mu q4) (Az r4.at_ q4) q4,r5,dj5,MP,I,hp,λb M=>by rw[Tw];rwa[(bin b M).2],λw hw yo c hc _=>?_,Y0,by rw[Tw];rwa[Te],λu hu=>pK (by omega) (a0 u hu)];have:c=0:=∅
   subst ω;rwa[YZ w hw yo]
  let fl5:zC A G H5 x r L i rs f S':={RW,{q,a',R',B',D,bs,i7,W',O',Y1,U5,by rw[Tw];ext},.start tr (Y1.YV ∅),3,eL.π Τ};clear Y1 U5 RW hmul Y0 YZ I bin dj r4 hlv Te hf rm0 y0 sl c5 r5 ow oo dj5 MP rr f5 hb5 Tw em eL tr c4 q4 o4 G8 al4 hp f4 Tv EW n0 Y gd fit
  let look:∀{H5:Hp}{S:RS}{σ:St}{Qv:VK},zC A G H5 x r L i rs f S->σ[5]?\ι ?o->σ[6]?\ι ?r->(∀v H6,zC A G H6 x r L i rs f S->Ans S L H6 v->Qv v H6)->yi A.dH "gap" (Jv A.aI A.dH) [] (λ_ _ _=>False) (CB 5) (u0 (CB 6) tO) σ H5 Qv:=λ{H5 S σ Qv} F e5 e6 kk=>by let[Ry,y]:=F.f.ys Tt;let[q,a,R,B,D,bs,gs,W,O,cs,_]:=F.cs;rwa[_,e5,o,dO,[],2,F.k^ho,21,e6,o,dO,r,S,a,L,2,F.k^ho,cs.rm.at_,y.gl (by have:=F.m;omega) ∅,λhn H' k1=>kk β (F.kp k1) (.ψ {2,hn}),λc z hl t H' k1 ht=>kk β (F.kp k1) (.Ζ {c,z,t,2,hl,ht})]
  rwa[look fl5 Τ Τ λv H6 fl6 an=>?_]
  clear fl5
  let' QK:St->Hp->ν:=λ fH H'=>∃S,fH=#v[.τ L,?ru,?pa,.τ i,.str (tx MR),?o,?r,?x,ι .non]/\zC A G H' x r L i rs f S/\∀c z,¬fh S L c z
  erw[QK,5]
  .rwa[bV ?_];intro ic;erw[λm σ H'=>∃S v,m=i+ 1 - S.q/\σ=#v[.τ L,?ru,?pa,.τ i,.str (tx MR),?o,?r,?x,ι v]/\zC A G H' x r L i rs f S/\Ans S L H' v,⟨_,S',v,22,fl6,an⟩];clear fl6 an;intro m σ H7 EB;rwa[bu ?_];intro q_;let[S,v,Τ,Τ,F,an]:=EB;dsimp only[q_];clear q_;erw[12212];rcases an with ⟨rfl,hn⟩|⟨c,z,t,Τ,hl,ht⟩
   .rwa[nM Τ {S,Τ,F,hn}]
   rwa[cw (λ_=>?_) (λh=>absurd Τ h)];erw[_,λ fH H' h=>h];let[Ry,y]:=F.f.ys Tt;let[q,a,R,B,D,bs,gs,W,O,cs,n0,hB]:=F.cs;let hm:=F.m;let eL:=F.l;let rb:=cs.rm.rb;let wr:=y.wr;let hBm:B<=702* 300:=amM hB (apU _ ∅);erw[12,r,_,a.dx,112,cs.rm.at_.ins,aO T,T.q8,vf^_,12112212];rwa[cw (λh=>?_) (λh=>?_)]
   .let h:(i:ο)<=(S.q:ο):=ane h;rwa[12,r,_,a.dx,112,cs.rm.at_.ins,aO T,T.q8,vf^_,12,r,a.dx,12,cs.rm.at_.ins,cY γ ⋯,r,S,a,2,cs.rm.at_,3,λp d hd e=>(y.d d hd).low e,λl qs H8 s8 nl hl8 DM=>?_];intro xx nxx;let s9:=au.υ (o:=XO xx A.bQ ε ρ) nxx;let Y2:@(qs.Α V.Η)<=1000000:=by rw[amE,DM.1];ext
    rwa[xx,l,S.q,qs.Α V.Η,2,aj,3,s9^hl8,Y2,λd l2 H9 nd Ew U f9 hx9 hd9 hl9 nlx=>{2,ι d,hx9,5}]
    let s89:au H8 (del H9 xx):=λb u e=>by let nb:=ax e nxx;rw[qM nb];rwa[f9 b u nb (s9^e)]
    rwa[ke d l2 S _ (λb u e=>s89^(s8^(F.k b u (s1^e)))) F.f ∅ {11,hl.1} ([qM U]▸hd9) {qs,[qM nlx]▸hl9,DM.Ρ (λp d _ _ e=>e.Δ s89),3}]
   let h:S.q<i:=η.lt_of_not_le λw=>h (anh ∅)
   let[g1,g2,g3,g4]:=hl.1;let[z1,z2]:=ie.mp g3;let rB:@D<=@rs:=E3 cs.pl;let SW:(S.q+ 1)* @D<=i* @rs:=apO h rB;rw[<-eL]at cs;rwa[12,x,q.dx,12,cs.c.ins,fV ⋯,12,t,11122,bD.of ht,212,t,11122,bD.of ht,2,x,r,q,S,a,R,B,rs,f,D,bs,gs,W,O,c,z,2,cs,33,g1,lE g2,g4,[eL]▸g3,ie.mpr {33},3333,λS2 a2 R2 bs2 gs2 W2 O2 B2 H8 f8 Y3 ow8 tr8 em8 el8 hb8=>?_]
   let fl8:zC A G H8 x r L i rs f S2:=by
    rw[eL]at Y3 tr8;rwa[λb u e=>f8 b u (λw=>by rw[n0 b (.Ζ w)]at e;ext e) (λw=>by rw[n0 b (.ψ w)]at e;ext e) (F.k b u e),⟨q,a2,R2,B2,D,bs2,gs2,W2,O2,Y3,λb w=>?_,by rw[em8];ext⟩,.next F.f h hl tr8 (Y3.YV ∅),3,el8.π eL];rcases ow8 b w with v|v|v
    .rwa[n0 b (.ψ v)]
    .rwa[n0 b (.Ζ v)]
    .cases e:G b with
     |ε=>rfl
     |ι u=>rw[F.k b u e]at v;ext v
   rwa[look fl8 Τ Τ λv H9 fl9 an=>{i+ 1 - S2.q,3,S2,v,22,fl9,an}]
  rintro σ H7 ⟨S,Τ,F,hn⟩;let[Ry,y]:=F.f.ys Tt;let[q,a,R,B,D,bs,gs,W,O,cs,n0,hB]:=F.cs;let hm:=F.m;let eL:=F.l;let rb:=cs.rm.rb;let g:=y.g;let hBm:B<=702* 300:=amM hB (apU _ ∅);rwa[12,r,S,a,λc=>c<S.q/\S.ay c=c,2,cs.rm.at_,333,g.wf.w,{y.m,by have:=(g.el 0 y.m).1;ext},λc hc=>{hc.1,λk hk=>?_},λtb N H8 s8 nt h8 hN=>?_]
  .cases e:S.by c Ż with
   |ι d=>let[_,d2,_,d4]:=g.st γ e;rwa[d,2,d2,d4]
   |ε=>rw[eL]at hk;rwa[absurd {hc.1,5,amD (ri hk),e} (hn c _)];rw[pH ([g.wf.e]▸hc.1),hc.2]
  rwa[12,r,a.dx,12,(cs.rm.at_.Δ s8).ins,cY γ ⋯,r,S,a,2,cs.rm.at_.Δ s8,3,λp d hd e=>(y.d d hd).low e,λpp qs H9 s9 np hp9 DM=>?_];rwa[Za4 2,λt nt=>?_];let sA:=au.υ (o:=.Θ [?tb,?pp]) nt;rwa[kq t tb pp S N _ (λb u e=>sA^(s9^(s8^(F.k b u (s1^e))))) F.f hn aj ((h8.Δ s9).Δ sA) hN {qs,sA^hp9,DM.Ρ (λp d _ _ e=>e.Δ sA),3}]
def gw (g:η->η->η)(w:Zg)(p:η):η:=w.foldl (λp s=>g þ p) p
def eJ (g:η->η->η)(w u:Zg)(i:η):gw g (w++u) i=gw g u (gw g w i):=ao6 ..
structure Mv (rs ps:Za3)(L:η)(D:η->ν)(g:η->η->η)(x:η):ν where
 o:D x
 d:∀p k,D p->k<2* L->D (g k p)
 b:∀p k,D p->k<2* L->g (M11.flip k) (g k p)=p
 r:∀w∈rs,∀p,D p->gw g w p=p
 p:∀w∈ps,gw g w x=x
def vw (h:z≠0):M12.st Ø=z:=by
 unfold M11.pl M12.st;split
 .rw[am1 ∅];ext
 .rw[amY ∅];ext
def jr {v:Zg}(b:M11.aH n l)(a:M11.aH n v):M11.aH n (l++v):=λs c=>(amO.mp c).Κ (b s) (a s)
section
variable {rs ps:Za3}{L lim x:Nat}{S:RS}{D:Nat->Prop}{g:Nat->Nat->Nat}
def oh (h:z∈bE (2* L)):M11.pl z<2* L/\M11.pl (-z)=M11.flip Ø/\-z∈bE (2* L):=by let[a,b]:=ie.mp h;rwa[M11.gR {a,b},M11.vk a,ie.mpr {33}]
theorem Mv.inj (m:ã):∀(w:Zg){p q:η},(∀z∈w,z∈bE (2* L))->D p->D q->gw g w p=gw g w q->p=q
 |[],_,_,_,_,_,e=>e
 |z::w,p,q,h,a,b,e=>by let hz:=(oh (h z amR)).1;have:=m.inj w (λy c=>h y (amZ _ c)) (m.d p _ a hz) (m.d q _ b hz) e;rw[<-m.b p _ a hz,ω,m.b q _ b hz]
theorem Mv.uw (m:ã):∀{w:Zg}{p q:η},UW (λp z q=>D p/\z∈bE (2* L)/\q=g Ø p) p w q->q=gw g w p/\(D p->D q)/\(D q->D p)
 |[],p,q,h=>by rw[show p=q from h];rwa[2,id,id]
 |z::w,p,q,⟨r,⟨c,d,f⟩,e⟩=>by let[a,b,_]:=m.uw e;rw[f]at a b;rwa[a,λ_=>b (m.d p _ c (oh d).1),λ_=>c]
def Mv.md (m:ã)(G:∀u∈rs++ps,∀z∈u,z∈bE (2* L)/\-z∈bE (2* L))(i:η->η)(M:η)(v:i 0=x)(C:∀c,c<M->D (i c)):Xl (rs++ps) @rs M i λp z q=>D p/\z∈bE (2* L)/\q=g Ø p:=by
 rwa[λp z q ⟨f,k,l⟩=>?_,λp z q O ζ ξ=>by let[_,_,h]:=ζ;let[_,_,E]:=ξ;rwa[h.π E.Β],λwhich word start n c d z f k l r F I=>?_]
 .let[a,b,c]:=oh k;rw[l];rwa[m.d p _ f a,c,by rw[b,m.b p _ f a]]
 let ps:=C start l
 let e:gw g word (i start)=i start:=by
  cases j:which<@rs
  .rw[amP j]at f;rwa[m.r word ŷ _ ps]
  .rw[amU ∅]at f;rw[k.resolve_left j,v];rwa[m.p word ŷ]
 let s:=G _ ŷ;let[J,N,_]:=m.uw F;let[t,_,B]:=m.uw I;let hz:=(s z (amD r)).1;let o:=N ps;rwa[o,hz,m.inj (word.drop (n+ 1)) (λy H=>(s y (θ.mem_of_mem_drop H)).1) (B ps) (m.d β o (oh hz).1) ?_];let q:gw g (word.take n++(z::word.drop (n+ 1))) (i start)=i start:=by rw[<-drop_cons r,an2];rwa[e]
 rw[eJ,<-J]at q;rwa[t.Β.π q.Β]
def Fl.mv (m:ã)(l:∀u∈rs++ps,∀z∈u,z∈bE (2* L)/\-z∈bE (2* L))(h:Fl rs ps L lim S):∃ f:η->η,f 0=x/\∀c z d,S.by c z=ι d->D (f c)/\z∈bE (2* L)/\f d=g Ø (f c):=by
 suffices ∃(f:η->η)(R:Za2),f 0=x/\(∀c,c<S.q->D (f c))/\0<S.q/\Good S [] R/\fQ S/\(∀a z b,R a z b->z∈bE (2* L))/\∀a z b,R a z b->D (f a)/\z∈bE (2* L)/\f b=g Ø (f a) by let[f,R,s,v,_,j,_,_,u]:=ω;rwa[f,s,λc z d q=>Dy (U:=λp z q=>D p/\z∈bE (2* L)/\q=g Ø p) j (m.md l f _ s v).fn u q]
 induction h with
 |start t _=>
  let[R,g,w,e,_,_,k,u]:=t.sound (R:=λ_ _ _=>False) (m.md l (λ_=>x) 1 Τ λ_ _=>m.o) l (rO L _) YS.new.w Φ (λ_ _ _ q=>q.Κ) λ_ _ _ q=>q.Κ
  let e:_=1:=e;rwa[λ_=>x,R,2,λ_ _=>m.o,3,g,w,k,u]
 | @next i Z c z _ _ gp t _ Y=>
   let[f,R,s,v,X,j,w,k,u]:=Y;let[B,I,C,Q]:=gp.1;let[z1,z2,V]:=oh C;let E:=v c B;let dq:=m.d β E z1;let e:∀a,a<i.q->(if a=i.q then g Ø (f c) else f a)=f a:=λa G=>amY ∅
   let o:∀a,a<i.q+ 1->D (if a=i.q then g Ø (f c) else f a):=λa G=>by
    split
    .rwa[dq]
    .rwa[v a ∅]
   let n:(if 0=i.q then g Ø (f c) else f 0)=x:=by rw[e 0 X];rwa[s]
   let md:=m.md l (λa=>if a=i.q then g Ø (f c) else f a) (i.q+ 1) n o;let J:D (f c)/\z∈bE (2* L)/\g Ø (f c)=g Ø (f c):={E,C,2}
   let[T,M,H,F,_,_,N,O]:=t.sound (R:=fX R c z i.q) md l (j.make B (lE I) Q _) (uc w j.wf γ) Φ (λa y b r=>by
    rcases r with r|⟨_,e,_⟩|⟨_,e,_⟩
    .rwa[k γ r]
    .rw[e];rwa[C]
    .rw[e];rwa[V]) λa y b r=>by
    rcases r with r|⟨rfl,Τ,rfl⟩|⟨rfl,Τ,rfl⟩
    .let[l1,l2,_]:=j.rl γ r;simp only[e a l1,e b l2];rwa[u γ r]
    .simp only[e _ B,aqi];rwa[E,C,True.intro]
    .simp only[e _ B,aqi];rwa[md.sy γ J]
   let F:Z.q=i.q+ 1:=F;rwa[_,T,n,λa G=>o a ∅,3,M,H,N,O]
end
def Fl.cl {rs a:Za3}(h:Fl rs a n m S):Ab rs a S:=by cases h <;> ext
structure FT (rs ps:Za3)(L N:η)(T:Za3):ν where
 t:M11.Tab L T
 f:M12.Fc (2* L) T.flatten @T
 n:@T=N
 s:∀w∈rs++ps,M11.aH L w
 r:∀w∈rs,∀i,i<N->M11.walk T w i=i
 p:∀w∈ps,M11.walk T w 0=0
 c:∀i,i<N->∃u,M11.aH L u/\M11.walk T u 0=i
 u:∀D g x,Mv rs ps L D g x->∃ φ:η->η,φ 0=x/\∀i,i<N->D (φ i)/\∀k,k<2* L->φ (M11.nx T k i)=g k (φ i)
def Fl.ft {rs M:Za3}(h:Fl rs M n m S)(E:∀u∈rs++M,∀z∈u,z∈bE (2* n)/\-z∈bE (2* n))(hn:∀c z,¬fh S n c z)(G:S.q<=300)(U:1<=n)(Z:n<=40)(hN:@(M24.bC (bP S) (2* n) 0 i)=i):
 i<=S.q/\FT rs M n i (M24.fY (bP S) (2* n) (M24.bC (bP S) (2* n) 0 i)):=by
 let[R,y]:=h.ys E;let g:=y.g
 let st:∀c k,c<S.q/\S.ay c=c->k<2* n->∃d,S.by c Ż=ι d/\bP S k c=d/\d<S.q/\S.ay d=d:=λc k hc C=>by
  cases e:S.by c Ż with
  |ι d=>let[_,d2,_,d4]:=g.st γ e;rwa[d,2,by unfold bP;rw[e];rfl,d2,d4]
  |ε=>exact absurd {hc.1,by rw[pH ([g.wf.e]▸hc.1),hc.2],amD (ri C),e} (hn c _)
 let d0:0<S.q/\S.ay 0=0:={y.m,by have:=(g.el 0 y.m).1;ext}
 let fw:∀(u:Zg){c:η},M11.aH n u->c<S.q/\S.ay c=c->∃d,wk S.by c u=ι d/\d<S.q/\S.ay d=d:=λu=>by
  induction u with
  |nil=>exact λ_ hc=>{12,hc}
  |cons s u Y=>intro c F hc;let v:=F s amR;let[d,B,_,hd]:=st c _ hc (M11.gR v);rw[vw v.1]at B;rw[iP B];rwa[Y (λt L=>F t (amZ _ L)) hd]
 let all:=M24.qO (f:=bP S) (k:=2* n) (x0:=0) (P:=λc=>(c<S.q/\S.ay c=c)/\∃u,M11.aH n u/\wk S.by 0 u=ι c) ⟨d0,[],λ_ z=>(by ext z),2⟩ (λc k ζ C=>by
  let[hc,u,v,Q]:=ζ
  let[d,B,e,h3]:=st c k hc C;rw[e];rwa[h3,u++[M12.st k],jr v (λs F=>[amI.mp F]▸M12.rX C),[oQ Q]▸Lc B]) i
 let T:i<=S.q:=by rw[<-hN];rwa[M11.et S.q _ (M24.jj γ i) λc hc=>(all c hc).1.1]
 let O:(M24.bC (bP S) (2* n) 0 i)[0]?\0:=by let[t,L]:=M24.GW (bP S) (2* n) 0 0 i;rw[aqn]at L;rw[L];rfl
 let X:1<=i:=by have:=(amF.mp O).1;ext
 let at_:∀o,o<i->∃c,(M24.bC (bP S) (2* n) 0 i)[o]?\c/\(c<S.q/\S.ay c=c)/\∃u,M11.aH n u/\wk S.by 0 u=ι c:=λo J=>{_,amB ∅,all _ (aph _)}
 let tb:=M55.XS hN (λc hc j hj=>by let[d,B,I,Q]:=st c j (all c hc).1 hj;let q:=g.sy γ B;rw[I];unfold bP;rw[show M12.st (M11.flip j)= -M12.st j by unfold M11.flip M12.st;split <;> split <;> ext,q];rfl) U Z X ∅
 let wt:∀{u:Zg}{o c d:η},M11.aH n u->(M24.bC (bP S) (2* n) 0 i)[o]?\c->wk S.by c u=ι d->(M24.bC (bP S) (2* n) 0 i)[M11.walk (M24.fY (bP S) (2* n) (M24.bC (bP S) (2* n) 0 i)) u o]?\d:=λ{u}=>by
  induction u with
  |nil=>exact λ_ hc e=>by rw[<-Za0 e];rwa[hc]
  |cons s u Y=>intro o c d F hc e;let[f,B,I]:=iM e;let v:=F s amR;let q:=M55.rZ hN (M11.gR v) hc;rw[show bP S þ c=f by unfold bP;rw[vw v.1,B];rfl]at q;rwa[Y (λt L=>F t (amZ _ L)) q I]
 let inj:∀{o j c:η},(M24.bC (bP S) (2* n) 0 i)[o]?\c->(M24.bC (bP S) (2* n) 0 i)[j]?\c->o=j:=λ{o j c} a b=>(apH (amF.mp a).1 (M24.jj γ i)).mp (a.π b.Β)
 let p:∀w∈rs++M,M11.aH n w:=λw h z hz=>ie.mp (E w h z hz).1
 let rd:∀{w:Zg}{c:η},w∈rs++M->c<S.q/\S.ay c=c->Lg S c w->wk S.by c w=ι c:=λ{w c} G hc h=>by
  rcases h with h|⟨o,j,f,r,y,z',_,J,_,w1,n1,_⟩
  .rwa[h]
  .let[d,e,hd]:=fw (w.take o) (λs F=>p w G s (aoZ F)) hc;rw[w1]at e;rw[<-Za0 e]at hd;let hy:=p w G y (amD J);let[_,I,_]:=st f _ hd (M11.gR hy);rw[vw hy.1,n1]at I;ext I
 rwa[T,tb,M55.fc hN,by unfold M24.fY;rw[amE,hN],p,λw E o J=>?_,λw E=>?_,λo J=>?_,λD g x l=>?_]
 .let[c,hc,N,_]:=at_ o J;let G:=amV M E;rwa[inj (wt (p w G) hc (rd G N (h.cl.r w E c N.1 N.2))) hc]
 .let G:=amN rs E;rwa[inj (wt (p w G) O (rd G d0 (h.cl.p w E))) O]
 .let[c,hc,_,u,v,Q]:=at_ o J;rwa[u,v,inj (wt v O Q) hc]
 .let[H,p0,ph]:=h.mv l E;let V:∀{o c:η},(M24.bC (bP S) (2* n) 0 i)[o]?\c->(M24.bC (bP S) (2* n) 0 i).Λ o 0=c:=λ{o c} h=>by rw[amH,h];rfl
  rwa[λo=>H ((M24.bC (bP S) (2* n) 0 i).Λ o 0),(an7 H (V O)).π p0,λo J=>?_];let[c,hc,N,_]:=at_ o J
  let main:∀k,k<2* n->D (H c)/\H ((M24.bC (bP S) (2* n) 0 i).Λ (M11.nx (M24.fY (bP S) (2* n) (M24.bC (bP S) (2* n) 0 i)) k o) 0)=g k (H c):=λk C=>by let[d,B,I,_]:=st c k N C;let[a,_,b]:=ph γ B;rw[M12.rV]at b;rw[V (M55.rZ hN C hc),I];rwa[a,b]
  show D (H _)/\∀k,k<2* n->H _=g k (H _);rw[V hc];rwa[(main 0 ∅).1,λk C=>(main k C).2]
def Fl.mL {rs d:Za3}(h:Fl rs d n m S)(b:∀u∈rs++d,∀z∈u,z∈bE (2* n)/\-z∈bE (2* n))(p:1<=m):S.q<=m/\S.L=n:=by
 rwa[5,by let[R,y]:=h.ys b;rwa[y.l]]
 cases h with
 |start t _=>let[_,_,a,_]:=YS.new.tr t b;let a:S.q=1:=a;ext
 | @next g _ c z f o l t _=>let[R,y]:=f.ys b;let[k,i,e,j]:=l.1;let[_,_,a,_]:=(y.make k (lE i) j e (oh e).2.2).tr t b;let a:S.q=g.q+ 1:=a;ext
def _root_.Lake.L2.Good.QL (g:Good S [] R){a b:η}{z:ο}(r:R a z b):S.by (S.ay a) z=ι (S.ay b):=g.tZ.mpr {a,b,r,22}
def _root_.Lake.L2.Later.r {T:RS}(l:Later S T)(g:Good S [] R){a b:η}{z:ο}(r:R a z b):T.by (T.ay a) z=ι (T.ay b):=by let h:=l.by_ γ (g.QL r);let[d,c,_]:=g.rl γ r;rw[l.el a d,l.el b c]at h;rwa[h]
theorem E6 {T:RS}{rs i:Za3}{F:RS}{R1:Za2}(t:Tr (rs++i) @rs S T)(o:∀w∈rs++i,∀z∈w,z∈l/\-z∈l)(g:Good S [] R1)(w:fQ S)(k:∀a z b,R1 a z b->z∈l)(r:Good F [] R)(m:Ab rs i F)(n:0<F.q)(s:S.q<=F.q)(h:∀a z b,R1 a z b->F.by (F.ay a) z=ι (F.ay b)):Later T F:=by
 let md:=Xq r m n (λ_ h=>h) λ_ h=>h
 let[f,j,_,x,_,_,_,u]:=t.sound md o g w s k h;rwa[λc v=>?_,λc z d e=>Dy j md.fn u e];rwa[(Dx (U:=λp z q=>F.by p z=ι q) md.fn u (j.cg c v)).Β]
def MZ {T:RS}(e:∀m z,fh S n m z↔fh T n m z)(h:He S n m z)(c:He T n i y):m=i/\z=y:=by
 let a:=h.2 i y ((e β).mpr c.1);let b:=c.2 m z ((e β).mp h.1);let d:m=i:=∅
 erw[d];let q:M11.pl z=M11.pl y:=η.le_antisymm (a.2 d.Β) (b.2 d);rw[<-vw (ie.mp h.1.2.2.1).1,q,vw (ie.mp c.1.2.2.1).1]
def E7 {T:RS}{i:Za2}(g:Good S [] R)(f:Good T [] i)(em:S.q=T.q)(l:Later S T)(j:Later T S):(∀c,c<S.q->S.ay c=T.ay c)/\∀c z,S.by c z=T.by c z:=by
 let half:∀{S T:RS}{R i:Za2},Good S [] R->Good T [] i->S.q=T.q->Later S T->∀c,c<S.q->T.ay c<=S.ay c:=λ{S T R i} g f e l c h=>by rw[<-l.el c h];rwa[(f.el _ (by rw[<-e];rwa[g.lt h])).1]
 let a:∀c,c<S.q->S.ay c=T.ay c:=λc h=>η.le_antisymm (half f g em.Β j c ∅) (half g f em l c h)
 let b:∀{S T:RS}{R:Za2},Good S [] R->Later S T->(∀c,c<S.q->S.ay c=T.ay c)->∀c z d,S.by c z=ι d->T.by c z=ι d:=λ{S T R} g l a c z d e=>by let[o,m,p,k]:=g.st γ e;have:=l.by_ γ e;rw[<-a c o,<-a d m,p,k]at ω;rwa[ω]
 rwa[a,λc z=>?_]
 cases e:S.by c z with
 |ι d=>exact(b g l a c z d e).Β
 |ε=>
  cases n:T.by c z with
  |ε=>rfl
  |ι d=>rw[b f j (λc h=>(a c ∅).Β) c z d n]at e;ext e
def M0 {T:RS}{k:Za2}(g:Good S [] R)(f:Good T [] k)(em:S.q=T.q)(h:(∀c,c<S.q->S.ay c=T.ay c)/\∀c z,S.by c z=T.by c z)(c:η)(z:ο):fh S n c z↔fh T n c z:=by
 let d:∀{S T:RS},S.Wf->T.Wf->S.q=T.q->(∀c,c<S.q->S.ay c=T.ay c)->(∀c z,S.by c z=T.by c z)->fh S n c z->fh T n c z:=λ{S T} w i e a b ζ=>by let[m,j,o,l]:=ζ;rwa[3,by rw[pH (by rw[i.e];omega),<-a c m,lE j],o,by rw[<-b];rwa[l]]
 rwa[d g.wf f.wf em h.1 h.2,d f.wf g.wf em.Β (λc p=>(h.1 c ∅).Β) λc z=>(h.2 c z).Β]
theorem Fl.later {rs H:Za3}(g:∀u∈rs++H,∀z∈u,z∈bE (2* n)/\-z∈bE (2* n)):∀(d:η){B l:η}{S F:RS},Fl rs H n B S->Fl rs H n l F->S.q=d->F.q=d->Later S F:=by
 intro d
 induction d with
 |zero=>intro _ _ S F h _ e _;let[R,y]:=h.ys g;have:=y.m;ext
 |succ d T=>
  intro _ _ S F h I e eF;let[RF,p]:=I.ys g;let M:=I.cl
  cases h with
  |start t _=>exact E6 (R1:=λ_ _ _=>False) t g (rO n _) YS.new.w (λ_ _ _ q=>q.Κ) p.g M p.m p.m λ_ _ _ q=>q.Κ
  | @next C _ c z f0 _ O t _=>
    let[R0,j]:=f0.ys g;let[g1,X,V,Z]:=O.1;let v:=j.make g1 (lE X) Z V (oh V).2.2;let[_,_,m,_]:=v.tr t g;let m:S.q=C.q+ 1:=m
    cases I with
    |start D _=>let[_,_,o,_]:=YS.new.tr D g;let o:F.q=1:=o;have:=j.m;ext
    | @next N _ c' z' i _ k D _=>
      let[Y,f]:=i.ys g;let[G,L,s,E]:=k.1;let[R2,x,o,sub,_]:=(f.make G (lE L) E s (oh s).2.2).tr D g;let o:F.q=N.q+ 1:=o;let U:=T f0 i ∅ ∅;let l2:=T i f0 ∅ ∅;let[Τ,Τ]:=MZ (M0 j.g f.g ∅ (E7 j.g f.g ∅ U l2)) O k;let J:=Later.of f.g x.g (λa z b r=>sub γ (jh a z b r)) ∅;rwa[E6 t g v.g v.w v.k p.g M p.m (by show C.q+ 1<=_;omega) ?_];let Q:C.q=N.q:=∅
      rintro a y b (r|⟨rfl,Τ,rfl⟩|⟨rfl,Τ,rfl⟩)
      .let[h1,h2,_]:=j.g.rl γ r;have:=J.by_ γ (U.r j.g r);rw[J.el a ∅,J.el b ∅]at ω;rwa[ω]
      .rw[Q];rwa[x.g.QL (sub γ lQ)]
      .rw[Q];rwa[x.g.sy γ (x.g.QL (sub γ lQ))]
def Fl.one {T:RS}{rs b:Za3}(a:∀u∈rs++b,∀z∈u,z∈bE (2* n)/\-z∈bE (2* n))(h:Fl rs b n m S)(d:Fl rs b n i T)(em:S.q=T.q):(∀c z,fh S n c z↔fh T n c z)/\∀c z,S.by c z=T.by c z:=by let[R,y]:=h.ys a;let[g,f]:=d.ys a;let e:=E7 y.g f.g em (Fl.later a _ h d Τ em.Β) (Fl.later a _ d h Τ em);rwa[M0 y.g f.g em e,e.2]
def Fl.most {T:RS}{rs d:Za3}(b:∀u∈rs++d,∀z∈u,z∈bE (2* n)/\-z∈bE (2* n))(h:Fl rs d n m S)(p:∀c z,¬fh S n c z)(k:Fl rs d n i T):T.q<=S.q:=by
 induction k with
 |start t _=>let[_,_,a,_]:=YS.new.tr t b;let[R,y]:=h.ys b;rw[a];rwa[y.m]
 | @next e T c z f0 _ f t _ v=>
   let[s,r]:=f0.ys b;let[o,j,g,l]:=f.1;let[_,_,a,_]:=(r.make o (lE j) l g (oh g).2.2).tr t b;let a:T.q=e.q+ 1:=a;rcases apz e.q S.q with q|q
   .ext
   .rwa[absurd (((h.one b f0 (by omega)).1 c z).mpr f.1) (p c z)]
inductive Y4 (K:Za1)(vs:Zb)(H:Hp)(Q:VK)(E_:XK):ν
 |mk (a:Zs)(ns:Zg)(k:η):vs=[?a,.τ k]->az K H a (ao ns)->k<=1000->(∀z,Q (.τ z) H)->Y4 K vs H Q E_
def ab7:Sp:=λa H Q _=>∃(z p:ο),a=[.τ z,.τ p]/\0<=p/\p<=1000/\∀r:ο,0<=r->Q (.τ r) H
def Jw:T.Av.Ok P w base 1 (Y4 K):=by
 rwa[T.Av.on Js (λi l c s H j Q E m h=>?_)]
 .let[a,b,n,Τ,d,o,k]:=h
  erw[_,{{bI (aX nL (pv 1) (0<<<0) (bh _))
   {{bf (0|||1)}}
   bp,bf (aK cZ (aK jc ak (pv 1)) ak)}}]
  rwa[lS ?_];intro f;erw[1212,a,12,.ψ d,112212];rwa[cw (λh=>?_) (λh=>?_)]
  .let g:(n:ο)<(@(ao b):ο):=ane h;rw[aD]at g;let e:b[n]?=ι b[n]:=amB ∅
   rwa[1212,a,11122,d,cG (bT e),k _]
  .rwa[121122,.ψ {44},1122,k _]
def wD:T.si.Ok P w base 1 ab7:=by
 rwa[T.si.on iT (λq C c s H B Q E F h=>?_) (len:=by rintro _ _ _ _ ⟨z,p,Τ,_⟩;rfl)]
 .let[z,p,Τ,D,m,k]:=h
  erw[_,{{bI (aX Rg (pv 0) (aK JR ak ak) (bh _))
   {{bH 0 iT.nd (aK fI (aK CY (pv 0) (aK JR ak ak)) ak),bU am5 Τ (jb Τ T.fE #[aK cP (pv 1) ak]) (du 2 iT.nd)
    {{bH 0 iT.nd (aK CY (pv 0) ak)}},bf Ţ}}
   bp,bH 3 iT.nd (aK cP (aK jc (aK cZ (aK cZ Ţ (pv 1)) ak) (aK cZ (aK jc (aK jc ak (pv 1)) (pv 1)) ak)) ak),bH 3 iT.nd (aK cP (aK jc (pv 3) (pv 3)) ak),bf (aK cP (aK jc (pv 3) Q2) ak)}}]
  rwa[gH ?_];intro r u j;erw[121122,{444},112212];rwa[cw (λh=>?_) (λh=>?_)]
  .erw[121122,{444},1122,{4,PyProof.noPylong_of_log2 ⋯},1122];erw[121122,(by show (0:ο)<61;decide),(p % 61),233];rwa[ik (lo:=0) (n:=(p % 61).toNat) (λi d e=>∃(y:ο)(v:Zc),d=#v[.τ y,.τ p,v,ε]/\e=H) ⟨_,ε,22⟩ ?_ ?_]
   .rintro i d e I ⟨y,v,Τ,rfl⟩;erw[121122,{4,PyProof.noPylong_of_log2 ⋯}];rwa[1122]
   .rintro d e ⟨y,v,Τ,rfl⟩;rwa[121122,(by show (0:ο)<2147483648;decide),k _ (apB _ ⋯)]
  .let x:=apB z (show (2147483629:ο)≠0 by decide);let G:=aqe z (show (0:ο)<2147483629 by decide);erw[121122,(by show (0:ο)<2147483629;decide),1211221122121122,.ψ {44},121122,.Ζ {33},11221122,.ψ {33},1122,(by show (0:ο)<2147483647;decide)];change ((z % 2147483629+ p+ 1)* (8* p* p+ 48271))=a;let o:=apB a (show (2147483647:ο)≠0 by decide);let t:=aqe a (show (0:ο)<2147483647 by decide);change a % 2147483647=f at o t ⊢;erw[12121122,.ψ {33},1122,(by show (0:ο)<2147483587;decide)];change f* f=b;let l:=apB b (show (2147483587:ο)≠0 by decide);let g:=aqe b (show (0:ο)<2147483587 by decide);change b % 2147483587=J at l g ⊢;erw[121211221122,.ψ {33},1122,(by show (0:ο)<2147483579;decide)];rwa[k _ (apB _ ⋯)]
def E8 (u v:Zg):M11.back (u++v)=M11.back v++M11.back u:=by unfold M11.back;rw[θ.reverse_append,am8]
def uN (u:Zg):M11.back (M11.back u)=u:=by unfold M11.back;rw[<-apS,θ.reverse_reverse,anu];rwa[(an4 λz _=>aov z).π (θ.map_id' u)]
section
variable {rs:Za3}{L N M:Nat}{T F:Za3}
def FT.bk {e:Za3}(f:FT rs e L N T){u:Zg}(d:M11.aH L u){i:η}(b:i<N):M11.walk T (M11.back u) (M11.walk T u i)=i/\M11.walk T u (M11.walk T (M11.back u) i)=i:=by rw[<-f.n]at b;let c:=M11.mM f.t d b;let a:=M11.mM f.t (M11.eX d) b;rw[M11.gJ]at c a;rw[uN]at a;rwa[c,a]
def FT.lt {b:Za3}(f:FT rs b L N T){u:Zg}(c:M11.aH L u){i:η}(a:i<N):M11.walk T u i<N:=by rw[<-f.n]at a ⊢;rwa[M11.iQ f.t c a]
def FT.pos {a:Za3}(f:FT rs a L N T):0<N:=by have:=f.t.pos;rw[f.n]at ω;rwa[ω]
def FT.mv {g:Za3}(f:FT rs g L M F)(c:Za3){x:η}(h:x<M)(e:∀w∈c,M11.walk F w x=x):Mv rs c L (λi=>i<M) Ė x:=by rwa[h,λp k a b=>?_,λp k a b=>f.t.back p k ([f.n]▸a) b,λw d p a=>f.r w d p a,e];have:=f.t.lt p k ([f.n]▸a) b;rw[f.n]at ω;ext
def FT.go {d:Za3}(f:FT rs d L N T){D:η->ν}{g:η->η->η}{x:η}(m:Mv rs d L D g x):∃ a:η->η,a 0=x/\∀u i,M11.aH L u->i<N->a (M11.walk T u i)=gw g u (a i):=by
 let[a,l,h]:=f.u D g x m;rwa[a,l,λu=>?_]
 induction u with
 |nil=>exact λi _ _=>rfl
 |cons s u j=>
  intro i c e;let k:M11.aH L [s]:=λt b=>c t ([amI.mp b]▸amR)
  show a (M11.walk T u (M11.nx T þ i))=gw g u (g þ (a i));rw[j (M11.nx T þ i) (λt b=>c t Ő) (f.lt k e),(h i e).2 _ (M11.gR (c s amR))]
end
def kK {T:Za3}(h:TabAt H a T)(g:ϋ)(d:i<@T):∃(rs:Zn)(r:Zs)(row:Zg),H a\.Ε Ĉ/\rs[i]?\r/\H r\.Ε (ao row)/\@row=2* n/\∀k,k<2* n->row[k]?\((M11.nx T k i:η):ο):=by
 let[rs,m,f]:=h;let c:i<@rs:=by rw[f.1];rwa[d]
 let j:rs[i]?=ι rs[i]:=amB c
 let b:T[i]?=ι T[i]:=amB d
 rwa[rs,11,m,j,f.2 i β j b,g.row i _ b,λk l=>?_];let[r,e,o]:=g.val i k d l;rw[b]at e;rw[Za0 e];rwa[o]
def uO {T:Za3}{w:Zg}(h:w[n]?\z):M11.walk T (w.take (n+ 1)) i=M11.nx T Ø (M11.walk T Ř i):=by rw[anD,h];rwa[M11.gJ T Ř [z] i]
def sG {w:Zg}(a:η)(h:M11.aH n w):M11.aH n (w.take a):=λs b=>h s (aoZ b)
def M8 (s:Đ)(h:I a=ε):H a=ε:=by
 cases q:H a with
 |ε=>rfl
 |ι o=>rw[s^q]at h;ext h
def wd (u:Zh):Zg:=u.Α M12.st
structure LW (L:η)(T:Za3)(ws:é):ν where
 lw:M12.Lw L T ws
 ok:∀(i:η)(u:Zh),ws[i]?\u->(∀k∈u,k<2* L)/\M11.walk T (wd u) 0=i/\@u<=300
inductive Hh (vs:Zb)(H:Hp)(Q:VK)(E_:XK):ν
 |mk (a:Zs)(T:Za3)(L:η):vs=[?a]->TabAt H a T->M11.Tab L T->M12.Fc (2* L) T.flatten @T->(∀l ws H',au H H'->H l=ε->bz H' l (ws.Α wd)->LW L T ws->Q ?l H')->Hh vs H Q E_
def zD (u:Zh):@(wd u)=@u:=by unfold wd;rw[amE]
def pL (h:∀k∈B,k<2* n):M11.aH n (wd B):=λs a=>by unfold wd at a;let[k,b,Τ]:=anm.mp a;rwa[M12.rX (h k b)]
def E9 (u v:Zh):wd (u++v)=wd u++wd v:=by unfold wd;cbv
def qz (a:θ (Key×V))(b:Zn):ν:=@a<=@b/\∀i:η,bG a (Sum.ψ (i:ο))=(b[i]?).Α V.Η
def qz.one (p:Zs):qz [(Sum.ψ 0,?p)] [p]:=by
 rwa[amK _,λi=>?_]
 cases i with
 |zero=>exact cV rfl
 |succ i=>rw[cR (λz=>by injection z with z;omega)];rfl
def qz.put {a:θ (Key×V)}(h:qz a F)(p:Zs):qz (putK a (Sum.ψ (@F:ο)) ?p) (F++[p]):=by
 let b:bG a (Sum.ψ (@F:ο))=ε:=by rw[h.2,ana Φ];rfl
 rwa[5,λi=>?_]
 .rw[lK _ b,amG,amG];have:=h.1;simp only[amT,ank];ext
 .rw[fJ];cases e:i=@F
  .subst e;rw[am1 Τ,amU Φ,aoi];rfl
  .rw[amY (λz=>e (by injection z with z;omega)),h.2];cases c:i<@F
   .rw[amP c]
   .rw[ana (show @F<=i by omega),ana (by rw[amG];simp only[amT,ank];omega)]
def qz.get {b:θ (Key×V)}(h:qz b F)(hd:H d\.dK b)(c:F[i]?\a):dB H d (.τ (i:ο)) (ι ?a):=by have:=dB.k (k:=Sum.ψ (i:ο)) hd;rw[h.2 i,c]at ω;rwa[ω]
def xY (n:η):Zb:=(~~~n).Α λi:η=>V.τ (i:ο)
def pM (n:η):@(xY n)=n:=by unfold xY;cbv
def Hi (h:i<n):(xY n)[i]?\(V.τ (i:ο)):=by unfold xY;rw[amQ,an3 h];rfl
def F8 {d:TE}{Q:VK}(g:η->V)(j:n<=1000)(l:∀i:η,i<n->∀R:VK,R (g i) H->d (ι (.τ (i:ο))::D) H R)(f:∀a,H a=ε->Q ?a (υ H a (.Ε ((~~~n).Α g)))):qF d D Q (Gj 0 n) H:=by
 rwa[iq (xY n) (λv=>match v with|.τ z=>g z.toNat|v=>v) (λi b=>by rw[pM]at b;rwa[b]) (λi x o b y=>?_) ([pM]▸amK _) ([pM]▸amM j ⋯) (λi x c R m=>?_) (λa h=>?_)]
 .rw[pM]at b;let[k,p]:=y;erw[k];rw[Hi b]
  cbv
 .let b:i<n:=by have:=(amF.mp c).1;rw[pM]at ω;rwa[ω]
  rw[Hi b]at c;let ex:=Za0 c;subst ex;rwa[l i b R ?_];have:R (g ((i:ο)).toNat) H:=m;rw[anb]at ω;rwa[ω]
 .let e:((xY n).Α λv=>match v with|.τ z=>g z.toNat|v=>v)=(~~~n).Α g:=by unfold xY;rw[anu];rfl
  rw[e];rwa[f a h]
def Jx (a:Zn):((θ.range @a).Α λi=>V.Η (a.Λ i 0))=a.Α V.Η:=by
 apply θ.ext_getElem
 .simp
 .intro i b c;simp[amH]at b ⊢;rw[amB b];rfl
seal L2.PE L2.PS L2.iY L2.PA L2.PT
def ny:T.k6.Ok P w base 2 Hh:=by
 rwa[T.k6.on fq (λb9 AA outer s H vs Q E hr h=>?_)]
 .let[a,j,L,Τ,zE,y,hF,k]:=h;let J:=iZ hr
  erw[_,{{bH 1 fq.nd (pc T.pj (qy T) hr #[aK dF ((0|||ak)<<<0) ak]),bH 2 fq.nd (zX (wX ak (bA ah) zW) Τ Τ (by simp) ⋯),bU am5 Τ Ϝ (oy Τ (dM (du 3 fq.nd) (dM (du 4 fq.nd) lH)))
    {{bU am5 Τ (WV Τ T.abZ #[1,4] Τ Τ) (oy Τ (dM (du 5 fq.nd) (dM (du 6 fq.nd) lH)))
     {{bL (bI (tK (mJ J (pv 6) (pv 2)))
      {{jx J (pv 2) (pv 6) (aK je (lO J (pv 2) (pv 3) (λ_ _=>rfl)) (bA #[5])) Τ}}
      bp)}}}},bf (eP (fns:=[Ķ]) (ixs:=[2]) (cl:=_) Τ (jb Τ T.fE #[0<<<0]) (b0 [(_,_)] Τ {22222,True.intro} Τ) (λC s H ex=>(lO J (pv 1) (pv 0) (λ_ _=>rfl))))}}]
  rwa[gH ?_];intro jn dA eD;let xZ:=y.top;let h40:=y.Ae;let qe:=y.let1;let[rs0,r0,Jy,g1,g2,g3,g4,g5]:=kK zE y y.pos;let eL:(@(ao Jy):ο) / 2=(L:ο):=by rw[aD,g4];ext
  erw[12,a,11,?r0,22,az.of g1,bW (i:=0) g2,r0,12,.ψ (az.of g3),1122,{44}];rwa[L,by rw[<-eL];rfl,qe,3,λsl H1 s1 Tj=>?_];intro d hd;rwa[ani _,λq0 F=>?_];erw[(au.υ F) β aj,[(Sum.ψ 0,?q0)],2,by show 1<=15;decide];let hdq:q0≠d:=λz=>by rw[z,aj]at F;ext F
  let Ml:H1 q0=ε:=by rw[aq hdq]at F;rwa[F]
  generalize X:υ (υ (υ H1 d (.dK [])) q0 (.Θ [])) d _=H2;let hd2:H2 d\(.dK [(Sum.ψ 0,?q0)]):=by rw[<-X,aj];rfl
  let Ez:H2 q0\(.Θ (ao (wd []))):=by rw[<-X,aq hdq,aj];rfl
  let s2:au H1 H2:=λb o e=>by rw[<-X,aq Ů,aq (ax e Ml),aq Ů];rwa[e]
  clear X
  let WU:bO H2 [q0] ([[]].Α wd):={2,λi p w h1 h2=>by rw[amI.mp (amD h1),amI.mp (amD h2)];rwa[Ez]}
  let[rs,M9,Y]:=zE.Δ s1;let hlen:(@(rs.Α V.Η):ο)=(@j:ο):=by rw[amE,Y.1]
  erw[12,a,2,{_,az.of (s2^M9)}]
  let' jo:η->St->Hp->ν:=λi Z H3=>∃(f:Zn)(ws:é)(c:θ (Key×V))(v3 v4 v5 v6:Zc),Z=#v[?a,?sl,?d,v3,v4,v5,v6]/\au H1 H3/\H3 d\.dK c/\qz c f/\bO H3 f (ws.Α wd)/\M13.Part L j ws (i* (2* L))
  refine yq (xs:=rs.Α V.Η) jo
   {[q0],[[]],_,ε,ε,ε,ε,2,s2,hd2,qz.one q0,WU,[η.zero_mul]▸M13.Part.start y hF} (λi Z H3 _ ζ=>by let[_,_,_,_,_,_,_,_,s,_]:=ζ;rwa[az.of (s^M9)]) ?_ ?_
  .intro i v Z H3 p hi hp l;rwa[bu ?_];intro B;let[f,ws,c,v3,v4,v5,v6,Τ,s3,wC,Y5,zt,x]:=l;dsimp only[B];clear B;rw[amQ]at hi
   let vW:i<@rs:=by
    cases e:rs[i]? with
    |ε=>rw[e]at hi;ext hi
    |ι r=>cbv
   let q1:rs[i]?=ι rs[i]:=amB vW
   rw[q1]at hi;let ey:V.Η rs[i]=v:=Za0 hi;subst ey;change rs[i]=rr at q1;let G:i<@j:=by rw[<-Y.1];rwa[vW]
   let q2:j[i]?=ι j[i]:=amB G
   change j[i]=row at q2;let Yq:=Y.2 i rr row q1 q2;let ro:=y.row i row q2;let U:=au.υ (o:=.Θ [.τ (i:ο),?rr]) hp;erw[p,12,bD.of aj,21121122];change υ H3 p _=H4 at U ⊢;let s4:=s3.π U;erw[1212,sl,rr,2,{_,az.of (s4^Tj)},{_,az.of (s4^Yq)}]
   let' xU:η->St->Hp->ν:=λn Z H5=>∃(f:Zn)(ws:é)(c:θ (Key×V))(v5 v6:Zc),Z=#v[?a,?sl,?d,.τ (i:ο),?rr,v5,v6]/\au H1 H5/\H5 d\.dK c/\qz c f/\bO H5 f (ws.Α wd)/\M13.Part L j ws (i* (2* L)+ n)
   refine Us (K:=K) (a:=sl) (b:=rr) (xs:=ao ((~~~(2* L)).Α M12.st)) (ys:=ao row) xU
    (by rw[aD,aD,amE,anp,ro]) {f,ws,c,v5,v6,2,s4,U^wC,Y5,zt.Δ U,x} (λn Z H5 _ ζ=>by let[_,_,_,_,_,_,s,_]:=ζ;rwa[az.of (s^Tj),az.of (s^Yq)]) ?_ ?_
   .intro n v u Z H5 q hv I hq l;rwa[bu ?_];intro B;let[f,ws,c,v5,v6,Τ,s5,Hj,m,N,g]:=l;dsimp only[B];clear B
    let S:n<2* L:=by have:=(amF.mp hv).1;rw[aD,amE,anp]at ω;rwa[ω]
    rw[show (ao ((~~~(2* L)).Α M12.st))[n]?=ι (V.τ (M12.st n)) from bT (ri S)]at hv;let ev:=Za0 hv;subst ev;let[r',e1,e2]:=y.val i n G S;let er:row=r':=Za0 (q2.Β.π e1);subst er;rw[bT e2]at I;let eu:=Za0 I;subst eu;let[Y6,Lk]:=M13.Part.step y hF g G S;let hle:=M13.Part.le y hF g G S;let M:=au.υ (o:=.Θ [.τ (M12.st n),.τ ((M11.nx j n i:η):ο)]) hq;erw[q,12,bD.of aj,21121122];change υ H5 q _=H6 at M ⊢;let s6:=s5.π M;let O:=M^Hj;let Mm:=N.Δ M;let jZ:@f=@ws:=by have:=N.1;rw[amE]at ω;rwa[ω]
    rwa[15,λ_ _ h=>h];erw[1212,d,12,dB.k (k:=Sum.ψ ((M11.nx j n i:η):ο)) O,12];rw[m.2];cases Nb:M11.nx j n i=@ws
    .rw[ana (show @f<=M11.nx j n i by omega)];rwa[gC ?_];let hiw:=g.has y hF G rfl;let I:ws[i]?=ι ws[i]:=amB hiw
     change ws[i]=u at I;let t:f[i]?\(f[i]'∅):=amB ∅
     change f[i]'∅=pa at t;let EX:=Mm.2 i pa (wd u) t (by rw[amQ,I];rfl);let Yb:=(g.ok i u I).2.2;let ale:=g.top;rwa[1212,d,12,m.get O t,12,Za4 1,λq7 hq7=>?_];let Fb:au H6 (υ H6 q7 (.Θ [.τ (M12.st n)])):=au.υ hq7;let Y7:υ H6 q7 (.Θ [.τ (M12.st n)]) q7\(.Θ (ao (wd [n]))):=aj;change υ H6 q7 _=H7 at Fb Y7 ⊢;rwa[pa,q7,1122,Fb^EX,Y7,5,λp3 H8 s78 h8=>?_]
     .rw[aD,aD,zD,zD];rwa[amM (show @u+ 1<=400 by omega) ⋯]
     rw[<-ints_app,<-E9]at h8;let Y8:=Fb.π s78;let hd8:=Y8^O;erw[1212,d,12,lL.k (k:=Sum.ψ ((M11.nx j n i:η):ο)) hd8 (amS (show @c<=300 by have:=m.1;omega) ⋯)]
     let kp:∀p xs,H8 p\.Θ xs->υ H8 d (.dK (putK c (Sum.ψ ((M11.nx j n i:η):ο)) ?p3)) p\(.Θ xs):=λp xs e=>by rw[aq (bF e hd8 f!"")];rwa[e]
     rwa[f++[p3],ws++[u++[n]],1112,λb o e=>?_,aj,55,Lk Nb u I]
     .rw[aq Ů];rwa[Y8^s6^e]
     .have:=m.put p3;rw[jZ,<-Nb]at ω;rwa[ω]
     .rw[am8];rwa[((Mm.Δ Y8).snoc h8).keep kp]
    .let hpx:f[M11.nx j n i]?\(f[M11.nx j n i]'∅):=amB ∅
     rw[hpx];rwa[dc {f,ws,c,112,s6,O,m,Mm,Y6 Nb}]
   .intro Z H5 l;rwa[bu ?_];intro B;let[f,ws,c,v5,v6,Τ,s5,Hj,m,N,g]:=l;dsimp only[B];clear B;rw[aD,amE,anp]at g;rwa[f,ws,c,11112,s5,Hj,m,N,[aqm]▸g]
  .intro Z H3 l;rwa[bu ?_];intro B;let[f,ws,c,v3,v4,v5,v6,Τ,s3,wC,Y5,zt,x]:=l;dsimp only[B];clear B;rw[amE,Y.1]at x;let hLw:=M13.Part.end_ y hF x;let jZ:@f=@j:=by have:=zt.1;rw[amE,hLw.1]at ω;rwa[ω]
   erw[12,a,12,.ψ (az.of (s3^M9)),(@j:ο),by rw[<-hlen],33];rw[anb];rwa[F8 (λi=>V.Η (f.Λ i 0)) ∅ (λi hi R hR=>?_) (λD hD=>?_)]
   .let t:f[i]?\(f[i]'∅):=amB ∅
    rw[amH,t]at hR;rwa[1212,d,12,Y5.get wC t,hR]
   .rw[<-jZ,Jx];rwa[k D ws _ ((s1.π s3).π (au.υ hD)) ((s1.π s3).free hD) {f,aj,zt.Δ (au.υ hD)} {hLw,λi u I=>?_}];let[a1,a2,a3]:=x.ok i u I;let hi:=(amF.mp I).1;have:=x.top;rwa[a1,a2,3]
unseal L2.PE L2.PS L2.iY L2.PA L2.PT
def QM (p:η):(θ.replicate p [V.τ 0]).flatten=ao (θ.replicate p (0:ο)):=by
 unfold ao;rw[θ.map_replicate]
 induction p with
 |zero=>rfl
 |succ n a=>rw[aoN,apD,a,aoN];rfl
def QN {a:Za3}(h:bO H F a){w:Zs}{c:Zb}{o:HO}(b:H w\.Ε c):bO (υ H w o) F a:=h.keep λp d e=>by rw[aq (bF e b (by cbv))];rwa[e]
def Vl:Sp:=λa H Q _=>∃s:ο,a=[.τ s]/\s≠0/\s.natAbs<=1000/\Q (.τ þ) H
def mE:T.lY.Ok P w base 1 Vl:=by
 rwa[T.lY.on FZ (λc j b s H g Q E i h=>?_) (len:=by rintro _ _ _ _ ⟨s,Τ,_⟩;rfl)]
 .let[s,Τ,d,e,k]:=h
  erw[_,{{bI (aX pR (pv 0) ak (bh _))
   {{bf (aK fI (aK jc ak (pv 0)) ak)}}
   bp,bf (aK fI (aK jc (fx dN ak) (pv 0)) ak)}}]
  rwa[lS ?_];intro f;erw[12112212];rwa[cw (λh=>?_) (λh=>?_)]
  .let a:(0:ο)<s:=ane h;erw[121122,.ψ {44},1122];unfold M11.pl at k;rw[am1 a,show ((2* s.natAbs - 2:η):ο)=2* s - 2 by ext]at k;rwa[k]
  .let a:¬(0:ο)<s:=λz=>h (anh z)
   erw[12121122,.ψ {44},1122];unfold M11.pl at k;rw[amY a,show ((2* s.natAbs - 1:η):ο)= -2* s - 1 by ext]at k;rwa[k]
def Fe {f:Zn}{d e:Za3}(h:bO H F d)(c:bO H f e):bO H (F++f) (d++e):=by
 rwa[by rw[amG,amG,h.1,c.1],λi p w b a=>?_];cases g:i<@F
 .rw[amP g]at b;rw[amP (by rw[<-h.1];rwa[g])]at a;rwa[h.2 i p w b a]
 .rw[amU ∅]at b;rw[amU (by rw[<-h.1];omega),<-h.1]at a;rwa[c.2 _ p w b a]
def F9 {K:Za1}{t:TE}{Q:VK}{rs:Zn}{us:Za3}(f:Zg->Zg)(j:H a\.Ε Ĉ)(n:bO H rs us)(hz:@us<=1000)(J:∀(c:Hp) (r:Zs) (u:Zg) (R:VK),au H c->u∈us->c r\.Θ (ao u)->(∀l k,au c k->k l\.Θ (ao (f u))->R ?l k)->t (ι ?r::D) c R)(z:∀b c g,au H c->c b=ε->bO c g (us.Α f)->Q ?b (υ c b (.Ε l5))):qF t D Q (yd K a) H:=by
 let I:=n.1;erw[λi m ys c=>m=@rs - i/\i<=@rs/\∃g:Zn,ys=g.Α V.Η/\au H c/\bO c g ((us.take i).Α f),⟨@rs,by simp,ani _,[],2,λ_ _ e=>e,{by simp,λi r L E=>by simp at E}⟩];rintro i m ys c ⟨rfl,N,g,Τ,s2,h⟩;let o:@g=i:=by have:=h.1;rw[amE,anc]at ω;ext
 cases d:i<@rs
 .let v:rs[i]?=ι rs[i]:=amB d
  let q:i<@us:=∅
  let p:us[i]?=ι us[i]:=amB q
  let G:=n.2 i β v p;rwa[.Ζ {iL (az.of (s2^j)) i ([amE]▸d),[amE,o]▸amS (show i<=1000 by omega) ⋯,λx k F=>?_}];let[Τ,y]:=gb (az.of (s2^j)) i x k ([amE]▸d) F;rw[amQ,v]at y;let ex:V.Η rs[i]=x:=Za0 y;subst ex;rwa[J k γ s2 (amD p) (s2^G) λl M s C=>?_]
  erw[@rs - (i+ 1),32,d,g++[l],by rw[am8];rfl,s2.π s];let e:(us.take (i+ 1)).Α f=(us.take i).Α f++[f us[i]]:=by rw[anD,p,am8];rfl
  rw[e];rwa[(h.Δ s).snoc C]
 .let e:i=@rs:=∅
  rwa[.ψ {5,[amE,o]▸amM (show i<=1000 by omega) ⋯,λb B=>?_}]
  .have:=fi (K:=K) (az.of (s2^j));rw[amE,<-e]at ω;rwa[ω]
  .rw[anE ∅]at h;rwa[z b c g s2 B h]
def qi {Im:Za3}{w:Zg}(h:w[n]?\z):M18.fill Im (w.take (n+ 1))=M18.fill Im Ř++M18.ji Im z:=by unfold M18.fill;rw[anD,h,aoy];simp
def kh (w:Zg)(n:η):(θ.replicate n (ao w)).flatten=ao ((θ.replicate n w).flatten):=by
 induction n with
 |zero=>rfl
 |succ n a=>rw[aoN,apD,a,aoN,apD,ints_app]
def QO {w:Zg}(h:z∈(θ.replicate n w).flatten):z∈w:=by
 let[u,a,b]:=θ.mem_flatten.mp h
 cbv
def BH (w:Zg)(n:η):(θ.replicate n w).flatten.Ξ=@w* n:=by
 induction n with
 |zero=>rfl
 |succ n a=>cbv
def Y9 {T:Za3}{d a:é}(q:ϋ)(s:M12.Fc (2* n) T.flatten @T)(h:M12.Lw n T d)(c:M12.Lw n T a):d=a:=by
 let B:=q.let1
 let f:∀j,j<@T->d[j]?=a[j]?:=by
  intro j
  induction j using η.strongRecOn with
  |_ j y=>
   intro g;cases o:j=0
   .subst o;rw[h.2.1,c.2.1]
   .let[p,z,l,k]:=s.2 j ∅ g;let[u,m,v]:=h.2.2 j p ∅ g l k;let[C,r,t]:=c.2.2 j p ∅ g l k
    let b:p / (2* n)<j:=by rw[η.div_lt_iff_lt_mul ∅];rwa[z]
    let e:=y _ b ∅;rw[m,r]at e;rw[v,t,Za0 e]
 rwa[aox λi=>?_]
 cases x:i<@T
 .rwa[f i x]
 .rw[ana (by rw[h.1];omega),ana (by rw[c.1];omega)]
open M11 in
def bY (T:Za3)(w:Zg):Zg:=(θ.range @T).Α λi=>((M11.walk T w i:η):ο)
inductive BI (vs:Zb)(H:Hp)(Q:VK)(E_:XK):ν
 |mk (a wa:Zs)(T:Za3)(L:η)(w:Zg):vs=[?a,?wa]->TabAt H a T->M11.Tab L T->H wa\.Θ (ao w)->M11.aH L w->(∀l H',au H H'->H l=ε->H' l\.Ε (ao (bY T w))->Q ?l H')->BI vs H Q E_
def jt (T:Za3)(w:Zg):@(bY T w)=@T:=by unfold bY;rw[amE,anp]
def ml {T:Za3}{w:Zg}(h:i<@T):(bY T w)[i]?\((M11.walk T w i:η):ο):=by unfold bY;rw[amQ,an3 h];rfl
def Nc {b:Za3}{ws:Zg}(h:ws[n]?\z):(bY b Ħ).Α (λa=>((M11.nx b Ø a.toNat:η):ο))=bY b (ws.take (n+ 1)):=by
 unfold bY;rw[anu];rwa[an4 λi _=>?_]
 show ((M11.nx b Ø ((M11.walk b Ħ i:η):ο).toNat:η):ο)=_;rw[anb,uO h]
def QP (a:Za3):bY a []=mF 0 @a:=by
 unfold bY mF;rwa[an4 λi _=>?_]
 show ((i:η):ο)=0+ (i:ο);rw[ap3]
theorem Jz:T.Au.Ok P w base 2 BI:=by
 rwa[T.Au.on lz (λb9 AA U s H vs Q E hr h=>?_)]
 .let[a,wa,b,L,ws,Τ,B,F,t,m,k]:=h
  erw[_,{{bH 2 lz.nd (BU Τ Τ T.ib Τ T.fE #[0<<<0] Τ Τ),bU am5 Τ (iK (pv 1)) (du 3 lz.nd)
    {{bH 4 lz.nd (pc T.lY (mE T) hr #[3]),mw (iy:=2) lz.nd Τ ź (fns:=[ù,"place"]) (ixs:=[0,4]) (cl:=_) Τ (cD (pv 2)) (b0 [(_,_),(_,_)] Τ {2222222222,True.intro} Τ) (λC s H ex=>(aU (j9 (K:=K) Τ) (aU (j9 (K:=K) Τ) (pv 1) (pv 0) (λ_ _=>rfl)) (pv 2) (λ_ _=>rfl)))}},bf (pv 2)}}]
  rwa[cF ?_];intro dA eD;let[rs,O,J]:=id B;let j:=F.top;let S:=F.Ae;let hlen:(@(rs.Α V.Η):ο)=(@b:ο):=by rw[amE,J.1]
  rwa[12,a,12,.ψ (az.of O),@b,by rw[<-hlen],3,λl hl=>?_];let X:au H (υ H l (.Ε (ao (mF 0 @b)))):=au.υ hl;let g:υ H l (.Ε (ao (mF 0 @b))) l\(.Ε (ao (bY b (ws.take 0)))):=by rw[aj,θ.take_zero,QP]
  change υ H l _=H0 at X g ⊢;erw[12,wa,2,{_,bD.of (X^t)}]
  let' p:η->St->Hp->ν:=λn G d=>∃(l:Zs)(M Z:Zc),G=#v[?a,?wa,?l,M,Z]/\au H d/\H l=ε/\d l\(.Ε (ao (bY b Ħ)))
  rwa[cS (xs:=ao ws) p {l,ε,ε,2,X,hl,g} (λn G d _ ζ=>by let[_,_,_,_,s,_]:=ζ;rwa[bD.of (s^t)]) ?_ ?_]
  .intro n y G d hn f;rwa[bu ?_];intro u;let[l,M,Z,Τ,s2,q,c]:=f;dsimp only[u];clear u;dsimp only[cU];rwa[kb ?_];intro ic Ey;let[z,Τ,hz]:=bR hn;let hs:=m z (amD hz);let o:=B.Δ s2;erw[12,z,2,hs.1,amM hs.2 (amM S ⋯)];erw[12,l,2,{_,az.of c}];rwa[iq (ao (bY b Ħ)) (λv=>match v with|.τ N=>.τ ((M11.nx b Ø N.toNat:η):ο)|v=>v) (iL (az.of c)) (gb (az.of c)) (fi (az.of c)) ([aD,jt]▸amM j ⋯) (λi x hx R hR=>?_) (λD hD=>?_)]
   .let hi:i<@b:=by have:=(amF.mp hx).1;rw[aD,jt]at ω;rwa[ω]
    rw[bT (ml hi)]at hx;let ex:=Za0 hx;subst ex;let I:=M11.iQ F (sG n m) hi;let[rs,r,row,h1,h2,h3,h4,h5]:=kK o F I
    let Y:R (V.τ ((M11.nx b Ø (M11.walk b Ħ i):η):ο)) d:=by have:R (V.τ ((M11.nx b Ø ((M11.walk b Ħ i:η):ο).toNat:η):ο)) d:=hR;rw[anb]at ω;rwa[ω]
    rwa[1212,a,11122,az.of h1,bW h2,12,r,11122,az.of h3,cG (bT (h5 _ (M11.gR hs))),Y]
   .let e:((ao (bY b Ħ)).Α λv=>match v with|.τ N=>V.τ ((M11.nx b Ø N.toNat:η):ο)|v=>v)=ao (bY b (ws.take (n+ 1))):=by rw[<-Nc hz];unfold ao;rw[anu,anu];rfl
    rw[e];rwa[D,112,s2.π (au.υ hD),M8 s2 hD,aj]
  .intro G d f;rwa[bu ?_];intro u;let[l,M,Z,Τ,s2,q,c]:=f;dsimp only[u];clear u;rw[aD,anJ]at c;rwa[12,k l d s2 q c]
def eY (T:Za3)(ws:é):Za3:=ws.Α λu=>bY T (wd u)
def wy (ws:é)(r:η):Zg:=wd (ws.Λ r [])
def bX (a:Zh):Zg:=a.Α λr=>((r:η):ο)
inductive Hk (vs:Zb)(H:Hp)(Q:VK)(E_:XK):ν
 |mk (a:Zs)(T:Za3)(L:η):vs=[?a]->TabAt H a T->M11.Tab L T->M12.Fc (2* L) T.flatten @T->(∀l ws H',au H H'->LW L T ws->TabAt H' l Z3->Q ?l H')->Hk vs H Q E_
def Vm {T:Za3}{c:é}(b:ϋ)(o:M12.Fc (2* n) T.flatten @T)(hw:M12.Lw n T c){j:η}(d:0<j)(f:j<@T):∃(r k:η)(u:Zh),r<j/\k<2* n/\c[r]?\u/\c[j]?\(u++[k])/\M11.nx T k r=j:=by
 let x:=b.let1;let[q,v,g,i]:=o.2 j d f;let[u,h,t]:=hw.2.2 j q d f g i
 let s:q / (2* n)<j:=by rw[η.div_lt_iff_lt_mul ∅];rwa[v]
 let a:q % (2* n)<2* n:=η.mod_lt _ ∅;let[r,m,p]:=b.val (q / (2* n)) (q % (2* n)) ∅ a;let e:=M12.vm (W:=2* n) ∅ b.row m a;let l:q / (2* n)* (2* n)+ q % (2* n)=q:=by rw[apu];rwa[η.div_add_mod β]
 rw[l,g,p]at e;rwa[11,u,s,a,h,t,by have:=Za0 e;ext]
def Nf (T:Za3)(w:Zg)(s:ο):(bY T w).Α (λz=>((M11.nx T þ z.toNat:η):ο))=bY T (w++[s]):=by
 unfold bY;rw[anu];rwa[an4 λi _=>?_]
 show ((M11.nx T þ ((M11.walk T w i:η):ο).toNat:η):ο)=_;rw[anb,M11.gJ];rfl
def pN:T.iD.Ok P w base 3 Hk:=by
 rwa[T.iD.on cz (λb9 AA outer s H vs Q E hr h=>?_)]
 .let[a,TT,L,Τ,zE,m,hF,k]:=h
  erw[_,{{bH 1 cz.nd (pc T.k6 (ny T) hr #[0]),bH 2 cz.nd (bN #[pc T.Au (Jz T) hr #[0,bA ah]]),bU am5 Τ (mG Τ T.fE #[ak,0<<<0]) (du 3 cz.nd)
    {{bH 4 cz.nd ((1|||3)&&&(fx dN ak)),bH 5 cz.nd (2|||((0|||3)|||(pc T.lY (mE T) hr #[fx dN (pv 4)]))),bH 6 cz.nd (pc T.lY (mE T) hr #[4]),a8 (df amX am2 am3 bS (pv 2) #[eP (fns:=[ù,"place"]) (ixs:=[0,6]) (cl:=_) Τ (cD (pv 5)) (b0 [(_,_),(_,_)] Τ {2222222222,True.intro} Τ) (λC s H ex=>(aU (j9 (K:=K) Τ) (aU (j9 (K:=K) Τ) (pv 1) (pv 0) (λ_ _=>rfl)) (pv 2) (λ_ _=>rfl)))])}},bf (pv 2)}}]
  rwa[gH ?_];intro jn dA eD;let Z:=m.top;let h40:=m.Ae;rwa[12,a,TT,L,2,zE,m,hF,λlw ws X s1 nlw hWa S=>?_];let O:=S.lw;let pI:@ws=@TT:=O.1;let g:=zE.Δ s1;rwa[12,ani _,λq0 hq0=>?_];let J:au X (υ X q0 (.Θ [])):=au.υ hq0;let Ez:υ X q0 (.Θ []) q0\(.Θ (ao [])):=aj;change υ X q0 _=H2 at J Ez ⊢;rwa[a,q0,TT,L,[],2,g.Δ J,m,Ez,(λs hs=>by ext hs),λU H3 s23 nt0 zt=>?_];rwa[Za4 1,λlt d=>?_];let I:au H3 (υ H3 lt (.Ε [?U])):=au.υ d;let h4:υ H3 lt (.Ε [?U]) lt\(.Ε ([U].Α V.Η)):=aj;let nt:lt≠U:=λe=>by rw[e,zt]at d;ext d
  let Ng:=J.π s23;let nlt:X lt=ε:=Ng.free d;change υ H3 lt _=H4 at I h4 ⊢;let s14:=Ng.π I;let e0:ws[0]?\[]:=O.2.1
  let aac:=m.pos
  let R4:cJ H4 [U] ((eY TT ws).take 1):=by
   let ef:(eY TT ws).take 1=[bY TT (wd [])]:=by unfold eY;rw[anD,amQ,e0];rfl
   rw[ef];rwa[2,λi r ns g1 g2=>?_];rw[amI.mp (amD g1),amI.mp (amD g2)];rwa[I^zt]
  let[rs0,afl,afm]:=id (g.Δ s14);let hlen:(@(rs0.Α V.Η):ο)=(@TT:ο):=by rw[amE,afm.1]
  erw[12,a,12,.ψ (az.of afl),(1),(@TT:ο),by rw[<-hlen],{3333}]
  let' jo:η->St->Hp->ν:=λi σ f=>∃(j:Zn)(v3 v4 v5 v6:Zc),σ=#v[?a,?lw,?lt,v3,v4,v5,v6]/\au X f/\f lt\.Ε (j.Α V.Η)/\cJ f j ((eY TT ws).take (1+ i))/\lt∉j
  refine ik (lo:=1) (n:=((@TT:ο) - 1).toNat) jo
   {[U],ε,ε,ε,ε,2,s14,h4,R4,by simpa using nt} ?_ ?_
  .intro i σ f hi M;rwa[bu ?_];intro q_;let[j,v3,v4,v5,v6,Τ,l,B,Y,N]:=M;dsimp only[q_];clear q_;dsimp only[cU];rwa[OX ?_];intro ic w_3 w_2 Ey;let hj:1+ i<@TT:=∅
   let[r,c,u,hrj,G,hu,hju,Nb]:=Vm m hF O (show 0<1+ i by omega) hj;let F:=g.Δ l;let ej:(1:ο)+ (i:ο)=((1+ i:η):ο):=∅
   let[y,EJ,Nh]:=hWa.Δ l;let afn:@y=@ws:=by have:=Nh.1;rw[amE]at ω;rwa[ω]
   let g1:y[1+ i]?\(y[1+ i]'∅):=amB ∅
   change y[1+ i]'∅=wp at g1;let hwp:=Nh.2 (1+ i) wp (wd (u++[c])) g1 (by rw[amQ,hju];rfl);rw[E9,ints_app]at hwp;let hat:pS (ao (wd u)++ao (wd [c])) (-(1:ο))\(V.τ (M12.st c)):=Oe β;let p:=M12.rX G;erw[1212,lw,11,?wp,22,az.of EJ,([ej]▸bW g1),12,wp,11122,bD.of hwp,hat];let[rs,rp,row,t1,t2,t3,t4,t5]:=kK F m hj;let rB:=M11.GO G;let jZ:M11.pl (-(M12.st c))=M11.flip c:=by rw[M11.vk p.1,M12.rV]
   let hbk:M11.nx TT (M11.flip c) (1+ i)=r:=by have:=m.back r c ∅ G;rw[Nb]at ω;rwa[ω]
   let Kw:(eY TT ws)[r]?\Ś:=by unfold eY;rw[amQ,hu];rfl
   let htl:@j=1+ i:=by have:=Y.1;rw[anc]at ω;unfold eY at ω;rw[amE]at ω;ext
   let g3:j[r]?\(j[r]'∅):=amB ∅
   change j[r]'∅=ap at g3;let t:=Y.2 r ap Ś g3 ([apo,am1 ∅]▸Kw);erw[121212,a,11,?rp,22,az.of t1,([ej]▸bW t2),1212,-(M12.st c),2,by have:=p.1;ext,by rw[ο.natAbs_neg];ext];rw[jZ];erw[rp,11122,az.of t3,cG (bT (t5 _ rB))];rw[hbk];erw[lt,11,?ap,22,az.of B,bW g3];erw[12,M12.st c,2,p.1,3];erw[12,.ψ {21,az.of B},12,ap,2,{_,az.of t}];let hus:M11.aH L (wd u):=pL (S.ok r u hu).1;rwa[iq (ao Ś) (λv=>match v with|.τ z'=>.τ ((M11.nx TT Ń z'.toNat:η):ο)|v=>v) (iL (az.of t)) (gb (az.of t)) (fi (az.of t)) ([aD,jt]▸amM Z ⋯) (λi' x hx R hR=>?_) (λD hD=>?_)]
   .let hi:i'<@TT:=by have:=(amF.mp hx).1;rw[aD,jt]at ω;rwa[ω]
    rw[bT (ml hi)]at hx;let ex:=Za0 hx;subst ex;let d:=M11.iQ m hus hi;let[rs,r,row,h1,h2,h3,h4,B]:=kK F m d
    let hR':R (V.τ ((M11.nx TT Ń (M11.walk TT (wd u) i'):η):ο)) f:=by have:R (V.τ ((M11.nx TT Ń ((M11.walk TT (wd u) i':η):ο).toNat:η):ο)) f:=hR;rw[anb]at ω;rwa[ω]
    rwa[1212,a,11122,az.of h1,bW h2,12,r,11122,az.of h3,cG (bT (B _ (M11.gR p))),hR']
   let e:((ao Ś).Α λv=>match v with|.τ z'=>V.τ ((M11.nx TT Ń z'.toNat:η):ο)|v=>v)=ao (bY TT (wd (u++[c]))):=by rw[E9];show _=ao (bY TT (wd u++[M12.st c]));rw[<-Nf];unfold ao;rw[anu,anu];rfl
   rw[e];let q:au f (υ f D (.Ε (ao (bY TT (wd (u++[c])))))):=au.υ hD;let Hl:υ f D (.Ε (ao (bY TT (wd (u++[c]))))) D\(.Ε (ao (bY TT (wd (u++[c]))))):=aj;let nD:D≠lt:=λz=>by rw[z,B]at hD;ext hD
   change υ f D _=H6 at q Hl ⊢;erw[lt,1122,q^B,5]
   .rw[amE,htl];rwa[amS (show 1+ i<=300 by omega) ⋯]
   erw[j++[D],11112,λb o e=>[aq (ax e nlt)]▸q^l^e,by rw[aj,am8];rfl,5]
   .let ef:(eY TT ws).take (1+ (i+ 1))=(eY TT ws).take (1+ i)++[bY TT (wd (u++[c]))]:=by rw[show 1+ (i+ 1)=(1+ i)+ 1 by ext,anD];unfold eY;rw[amQ,hju];rfl
    rw[ef];rwa[cJ.but (w:=lt) ((Y.Δ q).snoc Hl) gB.υ λz=>?_]
    rcases amO.mp z with z|z
    .rwa[N z]
    .rwa[nD (amI.mp z).Β]
   .intro z;rcases amO.mp z with z|z
    .rwa[N z]
    .rwa[nD (amI.mp z).Β]
  .intro σ f M;rwa[bu ?_];intro q_;let[j,v3,v4,v5,v6,Τ,l,B,Y,N]:=M;dsimp only[q_];clear q_;rw[anE (by unfold eY;rw[amE];omega)]at Y;rwa[12,k lt ws f (s1.π l) S {j,B,Y}]
def zF:¬((Ē:Ι)=ü):=⋯
def Ga:¬((Ē:Ι)=Ŗ):=⋯
def Ff:¬((ü:Ι)=Ŗ):=⋯
def QQ (x y z:V):@(bJ (ü:Ι) y (bJ (Ē:Ι) x []))=2:=by show @(if (Ē:Ι)=ü then _ else ((Ē:Ι),x)::bJ (ü:Ι) y [])=2;rw[amY zF];rfl
inductive Ni (C:Zs)(vs:Zb)(H:Hp)(Q:VK)(E_:XK):ν
 |mk (x dx a:Zs)(T:Za3)(L:η):vs=[?x,?a]->H x\.ins C dx []->TabAt H a T->M11.Tab L T->M12.Fc (2* L) T.flatten @T->(∀(fs:θ (Ι×V))(fl d:Zs)(ws:é)(H':Hp),(∀b o,H b\o->b≠x->H' b\o)->H' x\.ins C dx fs->fs.lookup (Ē:Ι)\.τ @T->fs.lookup (ü:Ι)\?fl->fs.lookup (Ŗ:Ι)\?d->fs.lookup (ϖ:Ι)=ε->H' d\.dK []->H d=ε->TabAt H' fl Z3->LW L T ws->Q .non H')->Ni C vs H Q E_
def Vn:¬((ϖ:Ι)=Ē):=by decide
def QR:¬((ϖ:Ι)=ü):=by decide
def Nj:¬((ϖ:Ι)=Ŗ):=by decide
def vO:T.hY.Ok mg P w base 4 (Ni A.bB):=by
 rwa[T.hY.on vL (λb9 AA X s H vs Q E hr h=>?_)]
 .let[x,f,a,TT,L,Τ,hx,zE,hT,hF,k]:=h
  refine{_,{{ck (pv 0) (1<<<0) Τ,ck (pv 0) (pc T.iD (pN T) hr #[1]) Τ,ck (pv 0) eK Τ}},?_}
  rwa[cF ?_];intro dA eD;let[rs,t,m]:=id zE;let nxa:a≠x:=bF t hx f!"";let hlen:(@(rs.Α V.Η):ο)=(@TT:ο):=by rw[amE,m.1]
  erw[12,a,12,.ψ (az.of t),12,x,A.bB,f,[],2,hx,fm T,T.Ej,(by show 0<1000;decide)];rw[hlen];let c:∀b o,H b\o->b≠x->υ H x (.ins A.bB f (bJ Ē (.τ (@TT:ο)) [])) b\o:=λb o e n=>by rw[aq n];rwa[e]
  let G:υ H x (.ins A.bB f (bJ Ē (.τ (@TT:ο)) [])) x\(.ins A.bB f (bJ Ē (.τ (@TT:ο)) [])):=aj;change υ H x _=H1 at c G ⊢
  let C:TabAt H1 a TT:={rs,c β t nxa,m.1,λi r R U N=>by have:=m.2 i r R U N;rwa[c β ω (bF ω hx f!"")]}
  rwa[12,a,TT,L,2,C,hT,hF,λy ws J u qj O=>?_];let B:=u^G;erw[12,x,A.bB,f,12,B,fm T,T.vr,(by show 1<1000;decide)];let g:∀b o,J b\o->b≠x->υ J x (.ins A.bB f (bJ ü ?y (bJ Ē (.τ (@TT:ο)) []))) b\o:=λb o e n=>by rw[aq n];rwa[e]
  let l:υ J x (.ins A.bB f (bJ ü ?y (bJ Ē (.τ (@TT:ο)) []))) x\(.ins A.bB f (bJ ü ?y (bJ Ē (.τ (@TT:ο)) []))):=aj;change υ J x _=M at g l ⊢;intro d hd;let j:au M (υ M d (.dK [])):=au.υ hd;let v:υ M d (.dK []) d\(.dK []):=aj;change υ M d _=S at j v ⊢;let F:=j^l;erw[12,x,A.bB,f,12,F,fm T,T.sv,(by rw[QQ^(?d)];show 2<1000;decide)];let I:∀b o,S b\o->b≠x->υ S x (.ins A.bB f (bJ Ŗ ?d (bJ ü ?y (bJ Ē (.τ (@TT:ο)) [])))) b\o:=λb o e n=>by rw[aq n];rwa[e]
  rwa[k _ y d ws _ (λb o e n=>I β (j^(g β (u^c β e n) n)) n) aj ?_ ?_ ?_ ?_ ?_ ?_ ?_ qj]
  .rw[di,amY Ga,di,amY zF,di,am1 Τ]
  .rw[di,amY Ff,di,am1 Τ]
  .rw[di,am1 Τ]
  .rw[di,amY Nj,di,amY QR,di,amY Vn];rfl
  .rw[aq (bF v F f!"")];rwa[v]
  .cases q:H d with
   |ε=>rfl
   |ι o=>
    exfalso
    cases p:d=x
    .rw[p,l]at hd;ext hd
    .rw[g β (u^c β q p) p]at hd;ext hd
  .let[fs,Y,D]:=O
   let kq:∀b Z,J b\.Ε Z->υ S x (.ins A.bB f (bJ Ŗ ?d (bJ ü ?y (bJ Ē (.τ (@TT:ο)) [])))) b\(.Ε Z):=λb Z e=>by let n:b≠x:=bF e B f!"";rwa[I β (j^g β e n) n]
   rwa[fs,kq^Y,D.1,λi r R U N=>kq^D.2 i r R U N]
def Vo (h:(bX B)[i]?\z):∃r,B[i]?\r/\z=((r:η):ο):=by
 unfold bX at h;rw[amQ]at h
 cases e:B[i]? with
 |ε=>rw[e]at h;ext h
 |ι r=>rw[e]at h;rwa[r,2,(Za0 h).Β]
def x3 {r:η}(h:B[i]?\r):(bX B)[i]?\((r:η):ο):=by unfold bX;rw[amQ,h];rfl
def ki (a:Zh):@(bX a)=@a:=by unfold bX;rw[amE]
def Fg (F:Zh)(j:η):bX (F++[j])=bX F++[((j:η):ο)]:=by unfold bX;rw[am8];rfl
def Vp (C:Zs):Sp:=λa H Q E=>∃r n:η,a=[.τ r,.τ n]/\1<=r/\r<=1000/\n<=1000/\(M20.cap r n<=5000->Q .non H)/\(5000<M20.cap r n->E ?C ε H)
inductive Hm (vs:Zb)(H:Hp)(Q:VK)(E_:XK):ν
 |mk (a:Zs)(r:Zg)(p:η):vs=[?a]->H a\.Ε (ao r)->M11.Pm p r->p<=1000->(∀l t H',au H H'->H l=ε->H' l\.Ε (ao t)->M11.yD p r t->Q ?l H')->Hm vs H Q E_
def afo:Sp:=λc H Q _=>∃(a:Zs)(w:Zg),c=[?a]/\H a\.Θ (ao w)/\@w<=1000/\∀b,au H b->Q (.τ ((M20.gl w:η):ο)) b
def MvD (H:Hp)(d:Zs)(T:Za3)(c:é)(e:Zs->ν):ν:=∃(a:θ (Key×V))(rs:Zh),H d\.dK a/\rs.Nodup/\(∀r∈rs,r<@T)/\@a=@rs/\∀i:η,(i∉rs/\bG a (Sum.ψ (i:ο))=ε)\/∃b,bG a (Sum.ψ (i:ο))\?b/\H b\.Ε (ao (bY T (M11.back (wy c i))))/\¬e b
structure eH (C:Zs)(H:Hp)(m d:Zs)(T:Za3)(ws:é)(av:Zs->ν):ν where
 ins:∃(dx fl:Zs)(fs:θ (Ι×V))(bZ:Zn),H m\.ins C dx fs/\fs.lookup (Ē:Ι)\.τ @T/\fs.lookup (ü:Ι)\?fl/\fs.lookup (Ŗ:Ι)\?d/\H fl\.Ε (bZ.Α V.Η)/\cJ H bZ Z3/\¬av fl/\fs.lookup (ϖ:Ι)=ε/\∀r∈bZ,¬av r
 dct:MvD H d T ws av
def Im (b:é)(a:Zh):Za3:=a.Α (wy b)
inductive aae (C:Zs)(vs:Zb)(H:Hp)(Q:VK)(E_:XK):ν
 |mk (av:Zs->ν)(m ha d:Zs)(T:Za3)(L:η)(ws:é)(hs:Zh)(z:ο):vs=[?m,?ha,.τ z]->eH C H m d T ws av->(∀q,av q->∃o,H q\o)->M11.Tab L T->LW L T ws->H ha\.Ε (ao (bX hs))->z≠0->z.natAbs<=@hs->(∀r∈hs,r<@T)->(∀l H',gB d H H'->eH C H' m d T ws av->H' l\.Ε (ao (bY T (M18.ji (Im ws hs) z)))->Q ?l H')->aae C vs H Q E_
inductive Hn (C:Zs)(vs:Zb)(H:Hp)(Q:VK)(E_:XK):ν
 |mk (av:Zs->ν)(m ha ra d:Zs)(T:Za3)(L:η)(ws:é)(hs:Zh)(w:Zg):vs=[?m,?ha,?ra]->eH C H m d T ws av->(∀q,av q->∃o,H q\o)->M11.Tab L T->LW L T ws->H ha\.Ε (ao (bX hs))->H ra\.Θ (ao w)->M11.aH @hs w->@w<=1000->(∀r∈hs,r<@T)->(∀H',gB d H H'->eH C H' m d T ws av->Q (.bl (M20.Good T (wy ws) hs w)) H')->Hn C vs H Q E_
def QS (H a:Hp)(l:Zs)(rows:Za3):ν:=∃rs:Zn,a l\.Ε Ĉ/\cJ a rs rows/\H l=ε/\∀r∈rs,H r=ε
inductive Fh (C:Zs)(vs:Zb)(H:Hp)(Q:VK)(E_:XK):ν
 |mk (la da m d:Zs)(T:Za3)(L n:η)(ws ls:é)(due:Za3):vs=[?la,?da,?m]->TabAt H la (ls.Α bX)->bz H da due->(eH C H m d T ws (λ_=>False))->M11.Tab L T->LW L T ws->(∀h∈ls,@h=n/\∀x∈h,x<@T)->n<=1000->@ls* @T<=5000->@due<=1000->(∀r∈due,M11.aH (n+ 1) r/\@r<=1000)->(∀l H',gB d H H'->eH C H' m d T ws (λ_=>False)->QS H H' l ((M20.sQ T (wy ws) @T ls due).Α bX)->Q ?l H')->Fh C vs H Q E_
inductive BJ (C:Zs)(vs:Zb)(H:Hp)(Q:VK)(E_:XK):ν
 |mk (m ra d:Zs)(T:Za3)(L n:η)(ws:é)(rules:Za3):vs=[?m,.τ n,?ra]->bz H ra rules->(eH C H m d T ws (λ_=>False))->M11.Tab L T->LW L T ws->n<=900->M20.cap @T n<=5000->@rules<=1000->(∀r∈rules,M11.aH n r/\@r<=1000)->(∀l H',gB d H H'->QS H H' l ((M20.qN T (wy ws) @T rules n).Α bX)->Q ?l H')->BJ C vs H Q E_
theorem AG:T.qu.Ok P w base 1 Hm:=by
 rwa[T.qu.on jI (λb9 AA O s H vs Q E hr h=>?_)]
 .let[a,r,p,Τ,I,l,hp,k]:=h
  refine{_,{{bH 1 jI.nd (aK Wk (bN #[ak]) (0<<<0)),bU am5 Τ Ϝ (oy Τ (dM (du 2 jI.nd) (dM (du 3 jI.nd) lH)))
    {{jS (pv 2) (kQ (pv 1) (pv 3) set_list)}},bf (pv 1)}},?_}
  rwa[cF ?_];intro dA eD;rwa[Za4 1,λq hq=>?_];let F:au H (υ H q (.Ε [.τ 0])):=au.υ hq;let m:υ H q (.Ε [.τ 0]) q\(.Ε [.τ 0]):=aj;change υ H q _=D at F m ⊢;let hlen:(@(ao r):ο)=(p:ο):=by rw[aD,l.len]
  rwa[12,a,12,.ψ (az.of (F^I)),q,1122,m,335,λt Y=>?_]
  .show 1* (@(ao r):ο).toNat<=sizeLine;rw[hlen,anb];rwa[amM (show 1* p<=1000 by omega) ⋯]
  rw[hlen,anb,QM];let st:au D (υ D t (.Ε (ao (θ.replicate p (0:ο))))):=au.υ Y;let C:υ D t (.Ε (ao (θ.replicate p (0:ο)))) t\(.Ε (ao (θ.replicate p (0:ο)))):=aj;change υ D t _=H4 at st C ⊢;let J:=F.π st;let U:H t=ε:=F.free Y
  let N:a≠t:=λz=>by have:=I;rw[z,U]at ω;ext ω
  erw[12,a,2,{_,az.of (J^I)}]
  let' x:η->St->Hp->ν:=λn G i=>∃(u:Zg)(S M:Zc),G=#v[?a,?t,S,M]/\gB t H4 i/\i t\.Ε (ao u)/\M11.vl p r u n
  refine yq (xs:=ao r) x
   {1112,λ_ _ _ e=>e,C,θ.length_replicate ..,λk j hk=>∅} (λn G i _ ζ=>by let[_,_,_,_,b,_]:=ζ;rwa[az.of (b β N (J^I))]) ?_ ?_
  .intro n v G i Z hn X d;rwa[bu ?_];intro B;let[u,S,M,Τ,L,g,c]:=d;dsimp only[B];clear B;let[z,Τ,hz]:=bR hn;let R:n<p:=by rw[<-l.len];rwa[(amF.mp hz).1]
   let[j,hj,y]:=l.at R;let ez:z=(j:ο):=Za0 (hz.Β.π hj);subst ez;let f:=au.υ (o:=.Θ [.τ (n:ο),.τ (j:ο)]) X;erw[Z,12,bD.of aj,21121122];change υ i Z _=H6 at f ⊢;erw[121212,t,11,j,22,f^g,jL ([aD,c.1]▸y)];rw[ints_set];rwa[1112,(L.π (λq o _ e=>f^e)).π gB.υ,aj,c.step l hj y]
  .intro G i d;rwa[bu ?_];intro B;let[u,S,M,Τ,L,g,c]:=d;dsimp only[B];clear B;rw[aD,l.len]at c;rwa[12,k t u _ (λb o e=>L β (ax e U) (J^e)) U g (c.all l)]
def ab8 (w:Zg):tU (w.Α λy=>((y.natAbs:η):ο))=((M20.gl w:η):ο):=by
 let a:∀(r:Zg)(m:η),(r.Α λy=>((y.natAbs:η):ο)).foldl (λm x=>if x > m then x else m) ((m:η):ο)=((r.foldl (λm s=>max m s.natAbs) m:η):ο):=by
  intro r
  induction r with
  |nil=>intro m;rfl
  |cons s r b=>
   intro m;rw[an0,aoO,aoO,<-b]
   congr 1
   cases z:((s.natAbs:η):ο) > (m:ο)
   .rw[am1 z];ext
   .rw[amY z];ext
 cases w with
 |nil=>rfl
 |cons s r=>show (r.Α λy=>((y.natAbs:η):ο)).foldl (λm x=>if x > m then x else m) ((s.natAbs:η):ο)=_;rw[a];unfold M20.gl;rw[aoO,η.zero_max]
def uP:T.k8.Ok P w base 1 afo:=by
 rwa[T.k8.on uF (λg o d s H n Q E q h=>?_) (len:=by rintro _ _ _ _ ⟨a,ws,Τ,_⟩;rfl)]
 .let[a,ws,Τ,b,c,k]:=h;erw[_,{{bf (Ut Τ Τ T.Jc (eP (fns:=[]) (ixs:=[]) (cl:=[]) Τ l3 (b0 [] Τ True.intro Τ) (λC s H ex=>(aY oC Τ T.zb aoW #[0]))) Τ Τ)}}];erw[12,a,2,{_,bD.of b}];rwa[iq (ao ws) (λv=>match v with|.τ y=>.τ ((y.natAbs:η):ο)|v=>v) (CQ ŭ) (zR ŭ) (wU ŭ) ([aD]▸amM c ⋯) (λi x l R m=>?_) (λD f=>?_)]
  .let[y,Τ,p]:=bR l;let e:(if y<0 then -y else y)=((y.natAbs:η):ο):=by split <;> ext
   erw[12,y,2];rw[e];rwa[m]
  let e:((ao ws).Α λv=>match v with|.τ y=>V.τ ((y.natAbs:η):ο)|v=>v)=ao (ws.Α λy=>((y.natAbs:η):ο)):=by unfold ao;rw[anu,anu];rfl
  rw[e];erw[D,12,az.of aj];rw[ab8];rwa[k _ (au.υ f)]
def AH:eG P w K mg base Õ 1 A.sY A.sZ [Ê,É] (Vp A.sf):=by
 rwa[T.my.F.Lx jH (λC H Q E h=>?_) (λF N d s H C Q E O h=>?_)]
 .let[r,n,Τ,_]:=h;rfl
 .let[r,n,Τ,f,x,S,k,I]:=h
  erw[_,{{bH 2 jH.nd ak,bU PassesOwn.leaving Τ (jb Τ T.fE #[1]) (du 3 jH.nd)
    {{bH 2 jH.nd (aK jc (pv 2) (pv 0)),bI (aX pR (pv 2) (Ge (v:=.τ 5000) Τ T.uA {12}) (bh _))
     {{Ly (E:=E) Τ Τ T.Je T.Jr (A6 (jy (fD (l:=[116,104,101,114,101,32,97,114,101,32,109,111,114,101,32,116,104,97,110,32]) Τ) (jy (ve (Ge (v:=.τ 5000) Τ T.uA {12})) (jy (fD (l:=[32,108,105,115,116,115,32,111,102,32]) Τ) (jy (ve (pv 1)) (jy (fD (l:=[32,111,117,116,32,111,102,32]) Τ) (jy (ve (pv 0)) (jy (fD (l:=[32,114,111,111,109,115]) Τ) Kp)))))))) lvD Τ Τ (by decide)}}
     bp}}}}]
  rwa[lS ?_];intro y;erw[12,(n:ο),233]
  let' a:η->St->Hp->ν:=λi g o=>∃(b:Zc),g=#v[.τ r,.τ n,.τ ((M20.cap r i:η):ο),b]/\o=H/\M20.cap r i<=5000
  rwa[ik (lo:=0) (n:=((n:ο)).toNat) a {ε,22,by show 1<=5000;decide} ?_ ?_]
  .rintro i g o R ⟨b,Τ,Τ,p⟩;dsimp only[cU];rwa[kb ?_];intro M L;let J:i<n:=∅
   erw[12121122,.ψ {33}];let e:M20.cap r (i+ 1)=min 5001 (M20.cap r i* r):=rfl;obtain⟨m,t⟩:∃m,m=M20.cap r i* r:={12};rw[<-t]at e;let c:((M20.cap r i:η):ο)* (r:ο)=(m:ο):=by rw[t,ο.natCast_mul]
   simp only[c];rwa[12112212,cw (λh=>?_) (λh=>?_)]
   .let B:(5000:ο)<(m:ο):=ane h;let G:=rL (n:=(5000:ο)) ∅ ∅;let u:=rL (n:=(n:ο)) ∅ ∅;let z:=rL (n:=(r:ο)) ∅ ∅;erw[12,by (simp only[amG,amT,ank];omega),12412,by (simp only[amG,amT,ank];omega),12,by (simp only[amG,amT,ank];omega),1212312,by (simp only[amG,amT,ank];omega),12,by (simp only[amG,amT,ank];omega),1212312,by (simp only[amG,amT,ank];omega),12,by (simp only[amG,amT,ank];omega),by (simp only[amG,amT,ank];omega)];rwa[I (M20.DP f (j:=i+ 1) (n:=n) ∅ ∅)]
   .let B:¬(5000:ο)<(m:ο):=λq=>h (anh q)
    let D:M20.cap r (i+ 1)=m:=∅
    rw[<-D];rwa[1223]
  .rintro g o ⟨b,Τ,Τ,p⟩;rw[anb]at p;rwa[k p]
def Ho {T:Za3}{w:Zg}(g:ϋ)(f:M11.aH n w):M11.Pm @T (bY T w):=by
 let bk:∀i,i<@T->M11.walk T Ō (M11.walk T w i)=i:=λi d=>by rw[<-M11.gJ];rwa[M11.mM g f d]
 rwa[jt ..,5,λz j=>?_]
 .unfold bY;rwa[aor.mpr (ao8 ?_ apg)];intro a b k m c z;let h:=bk a (anj.mp k);let l:=bk b (anj.mp m);let e:M11.walk T w a=M11.walk T w b:=∅
  rw[e,l]at h;rwa[c h.Β]
 .unfold bY at j;let[i,d,Τ]:=anm.mp j;have:=M11.iQ g f (anj.mp d);ext
def QT {T:Za3}{w:Zg}(e:ϋ)(c:M11.aH n w){t:Zg}(h:M11.yD @T (bY T w) t):t=bY T Ō:=by
 rwa[M19.inv_one (Ho e c) h {jt ..,λk j d=>?_}];let a:k<@T:=by have:=(amF.mp d).1;rw[jt]at ω;rwa[ω]
 rw[ml a]at d;let f:M11.walk T w k=j:=by have:=Za0 d;ext
 let b:=M11.iQ e c a;rw[f]at b;rw[ml b,<-f,<-M11.gJ,M11.mM e c a]
def eH.keep {T:Za3}{ws:é}{j:Zs->ν}(h:eH a H b d T ws j)(k1:∀c a dx fs,H c\.ins a dx fs->I c\.ins a dx fs)(k2:∀c m,¬j c->H c\.Ε m->I c\.Ε m)(t:∀e,H d\.dK e->I d\.dK e):eH a I b d T ws j:=by
 let[⟨dx,fl,fs,bZ,C,D,u,x,v,o,l,y,k⟩,e,rs,p,z,s,B,q]:=h;rwa[{dx,fl,fs,bZ,k1 δ C,D,u,x,k2 β l v,{o.1,λi r ns f g=>k2 β (k r ŷ) (o.2 i r ns f g)},l,y,k},e,rs,t _ p,z,s,B,λi=>?_];rcases q i with h|⟨c,f,g,n⟩
 .rwa[.ψ h]
 .rwa[.Ζ {c,f,k2 β n g,n}]
def eH.Δ {T:Za3}{ws:é}{c:Zs->ν}(h:eH a H b d T ws c)(s:Đ):eH a I b d T ws c:=h.keep (λ_ _ _ _ e=>s^e) (λ_ _ _ e=>s^e) (λ_ e=>s^e)
def eH.off {T:Za3}{ws:é}{s:Zs->ν}(h:eH a H b d T ws s):eH a H b d T ws (λ_=>False):=by
 let[⟨dx,fl,fs,bZ,u,v,m,o,n,t,y,p,x⟩,e,rs,f,q,k,r,g]:=h;rwa[{dx,fl,fs,bZ,u,v,m,o,n,t,λz=>z,p,λ_ _ z=>z},e,rs,f,q,k,r,λi=>?_];rcases g i with h|⟨c,l,j,B⟩
 .rwa[.ψ h]
 .rwa[.Ζ {c,l,j,λz=>z}]
def eH.on {T:Za3}{ws:é}(h:eH a H b d T ws (λ_=>False))(j:H c=ε):eH a H b d T ws (λf=>f=c):=by
 let[⟨dx,fl,fs,bZ,z,B,s,t,l,m,D,v,C⟩,g,rs,n,x,p,y,o]:=h;rwa[{dx,fl,fs,bZ,z,B,s,t,l,m,ax l j,v,λr u=>?_},g,rs,n,x,p,y,λi=>?_]
 .let[ns,e]:=E4 m u;rwa[ax e j]
 .rcases o i with h|⟨f,q,k,E⟩
  .rwa[.ψ h]
  .rwa[.Ζ {f,q,k,ax k j}]
def aaf {T:Za3}{k:é}{f:Zs->ν}(h:∀q,f q->∃o,H q\o)(c:gB d H I)(M:eH a I b d T k f):∀q,f q->∃o,I q\o:=λq j=>by
 let[o,i]:=h q j;cases e:q=d
 .obtain⟨g,l,hd,-⟩:=M.dct;rwa[_,[e]▸hd]
 .rwa[o,c β e i]
def Tx {T:Za3}{ws:é}(a:LW n T ws){r:η}(g:r<@T):M11.aH n ę/\M11.walk T ę 0=r/\Z3[r]?\(bY T ę):=by
 let f:@ws=@T:=a.lw.1;let b:ws[r]?\(ws[r]'∅):=amB ∅
 let e:wy ws r=wd (ws[r]'∅):=by unfold wy;rw[amH,b];rfl
 let[c,d,h]:=a.ok r _ b;rw[e];erw[pL c,d];unfold eY;rw[amQ,b];rfl
def QV {T:Za3}{e:é}(a:LW n T e){d:Zh}(b:∀r∈d,r<@T):∀w∈Im e d,M11.aH n w:=λw c=>by unfold Im at c;let[r,f,Τ]:=anm.mp c;rwa[(Tx a (b r f)).1]
def x8:T.nk.Ok mg P w base 2 (aae A.bB):=by
 rwa[T.nk.on pF (λb9 AA outer s H vs Q E hr h=>?_)]
 .let[av,m,ha,d,TT,L,ws,X,z,Τ,hM,hav,hT,qj,Fi,hz0,hzl,TB,k]:=h;let D:=iZ hr
  erw[_,{{bH 3 pF.nd (1|||(aK fI (aY oC Τ T.zb aoW #[2]) ak)),bI (aX pR (pv 2) ak (bh _))
    {{bf ((0<<<1)|||3)}}
    bp,bL (bI (tK (mJ D (pv 3) (0<<<1)))
    {{jx D (0<<<1) (pv 3) (pc T.qu (AG T) hr #[(0<<<1)|||3]) Τ}}
    bp),bf (lO D (0<<<1) (pv 3) (λ_ _=>rfl))}}]
  rwa[gH ?_];intro jn dA eD;let xZ:=hT.top;let[G,fl,fs,bZ,C,j,a,f,p,g,naf,nby,nar]:=hM.ins;let pI:@ws=@TT:=qj.lw.1;let ez:(if z<0 then -z else z) - 1=((z.natAbs - 1:η):ο):=by split <;> ext
  let g0:X[z.natAbs - 1]?\(X[z.natAbs - 1]'∅):=amB ∅
  change X[z.natAbs - 1]'∅=r at g0;let V:=TB r (amD g0);let eIm:(Im ws X).Λ (z.natAbs - 1) []=wy ws r:=by unfold Im;rw[amH,amQ,g0];rfl
  let[S,hw0,Kw]:=Tx qj V
  let afp:@bZ=@TT:=by have:=g.1;unfold eY at ω;rw[amE,pI]at ω;rwa[ω]
  let g1:bZ[r]?\(bZ[r]'∅):=amB ∅
  change bZ[r]'∅=O at g1;let Y:=g.2 r O (bY TT ę) g1 Kw;erw[1212,z,21122,ha,11122,az.of Fi,([ez]▸cG (bT (x3 g0)))];rwa[12112212,cw (λh=>?_) (λh=>?_)]
  .let h':0<z:=ane h;erw[12,m,A.bB,G,112,C,fm T,T.vr,a,12,fl,11,?O,22,az.of p,bW g1];rwa[k O H (λ_ _ _ e=>e) hM ?_];unfold M18.ji;rw[am1 h',eIm];rwa[Y]
  .let h':¬ 0<z:=λq=>h (anh q)
   let him:M18.ji (Im ws X) z=M11.back ę:=by unfold M18.ji;rw[amY h',eIm]
   rw[him]at k;let[c,rs,hd,MV,v,hkl,U]:=id hM.dct
   let' N:St->Hp->ν:=λ fH H'=>fH=#v[?m,?ha,.τ z,.τ r]/\gB d H H'/\eH A.bB H' m d TT ws av/\∃c b,H' d\.dK c/\bG c (Sum.ψ (r:ο))\?b/\H' b\(.Ε (ao (bY TT (M11.back ę))))
   erw[N,5]
   .rwa[bV ?_];intro ic;erw[1212,m,A.bB,G,112,C,fm T,T.sv,f,d,12,dB.k (k:=Sum.ψ (r:ο)) hd,12];rcases U r with ⟨Yo,J⟩|⟨b,J,hb,nb⟩
    .rw[J];rwa[gC ?_];rwa[12,m,A.bB,G,112,C,fm T,T.vr,a,12,fl,11,?O,22,az.of p,bW g1,O,_,@TT,2,Y,Ho hT S,3,λl t M u nl h1 hI=>?_]
     let nal:¬av l:=λz=>by let[o,ho]:=hav l z;rw[nl]at ho;ext ho
     rw[QT hT S hI]at h1;let I:=u^hd
     let R:@c<=300:=by have:=M11.et @TT rs MV v;ext
     erw[12,m,A.bB,G,112,u^C,fm T,T.sv,f,12,d,12,lL.k (k:=Sum.ψ (r:ο)) I (amS R ⋯)];let TC:=hM.Δ u
     let kL:∀b xs,M b\.Ε xs->υ M d (.dK (putK c (Sum.ψ (r:ο)) ?l)) b\(.Ε xs):=λb xs e=>by rw[aq (bF e I f!"")];rwa[e]
     let Z:υ M d (.dK (putK c (Sum.ψ (r:ο)) ?l)) d\(.dK (putK c (Sum.ψ (r:ο)) ?l)):=aj;rwa[2,λb o n e=>[aq n]▸u^e,{{G,fl,fs,bZ,5,j,a,f,kL^u^p,{g.1,λi q ns h1 h2=>kL^u^g.2 i q ns h1 h2},naf,nby,nar},putK c (Sum.ψ (r:ο)) ?l,rs++[r],Z,555,λi=>?_},_,l,Z,5,kL^h1]
     .rw[aq (bF (u^C) I f!"")];rwa[u^C]
     .rwa[anC.mpr {MV,by simp,λx B y hy z=>?_}];rw[amI.mp hy]at z;rw[z]at B;rwa[Yo B]
     .intro x B;rcases amO.mp B with B|B
      .rwa[v x B]
      .rw[amI.mp B];rwa[V]
     .rw[lK _ J,amG,amG,hkl];rfl
     .rw[fJ];cases e:i=r
      .subst e;rw[am1 Τ];rwa[.Ζ {l,2,kL^h1,nal}]
      .rw[amY (λz=>e (by injection z with z;omega))];rcases U i with ⟨hni,F⟩|⟨b,F,hbi,nbi⟩
       .exact .ψ {λz=>by
         rcases amO.mp z with z|z
         .rwa[hni z]
         .rwa[e (amI.mp z)],F}
       .rwa[.Ζ {b,F,kL^u^hbi,nbi}]
     .rw[fJ,am1 Τ]
    .rw[J];rwa[dc {2,λ_ _ _ e=>e,hM,c,b,hd,J,hb}]
   intro fH M EB;rwa[bu ?_];intro q_;let[Τ,b1,M1,c,b,hd,J,hb]:=EB;dsimp only[q_];clear q_;obtain⟨G,fl,fs,bZ,C,j,a,f,-⟩:=M1.ins
   let dg:dB M d (.τ (r:ο)) (ι ?b):=by have:=dB.k (k:=Sum.ψ (r:ο)) hd;rw[J]at ω;rwa[ω]
   rwa[12,m,A.bB,G,112,C,fm T,T.sv,f,12,d,12,dg,k b M b1 M1 hb]
def Cp:T.sh.Ok P w base 3 (Hn A.bB):=by
 rwa[T.sh.on gf (λb9 AA outer s H vs Q E hr h=>?_)]
 .let[av,m,ha,X,d,TT,L,r,u,q,Τ,hM,hav,hT,qj,Fi,g,WQ,pI,U,k]:=h;let G:=iZ hr
  erw[_,{{bH 3 gf.nd eK,bU am5 Τ i8 (du 4 gf.nd)
    {{bL (bI (tK (mJ G (pv 4) (pv 3)))
     {{jx G (pv 3) (pv 4) (pm (pv 0) (fm T) T.nk (x8 T) hr #[1,4]) Τ}}
     bp)}},bH 5 gf.nd ak,bU am5 Τ i8 (du 4 gf.nd)
    {{bH 5 gf.nd ((lO G (pv 3) (pv 4) (λ_ _=>rfl))|||5)}},bf (zP dI (pv 5) ak (bh _))}}]
  rwa[xc ?_];intro pG jn dA eD;let hIm:=QV qj U;let TF:@(Im r u)=@u:=by unfold Im;rw[amE]
  intro t ht;let st:au H (υ H t (.dK [])):=au.υ ht;let Z:υ H t (.dK []) t\(.dK []):=aj;change υ H t _=H1 at st Z ⊢;let TC:=hM.Δ st;obtain⟨kvd,rsd,M,-⟩:=id hM.dct;let ntd:t≠d:=λe=>by rw[e,M]at ht;ext ht
  let R:X≠d:=bF g M f!"";let TK:ha≠d:=bF Fi M f!"";erw[12,X,2,{_,bD.of (st^g)}]
  refine cS (xs:=ao q) (λi x B=>∃(a:θ (Key×V))(J:Zc),x=#v[?m,?ha,?X,?t,J,ε]/\gB d H B/\eH A.bB B m d TT r av/\B t\.dK a/\@a<=i/\∀s:ο,(s∉q.take i/\bG a Ò=ε)\/∃b,bG a Ò\?b/\B b\.Ε (ao (bY TT (M18.ji (Im r u) s))))
   {[],ε,2,λb o _ e=>st^e,TC,Z,amK _,λs=>.ψ {by simp,2}} (λi x B _ ζ=>by let[_,_,_,b,_]:=ζ;rwa[bD.of (b β R g)]) ?_ ?_
  .rintro i y x B hi ⟨a,J,Τ,F,M2,p,hkl,c⟩;let[s,Τ,f]:=bR hi;let vW:i<@q:=(amF.mp f).1;let Y:=WQ s ŷ;let uH:q.take (i+ 1)=q.take i++[s]:=by rw[anD,f];rfl
   rwa[15,λ_ _ h=>h];erw[1212,t,12,dB.k (k:=Sum.ψ s) p,12];rcases c s with ⟨hns,D⟩|⟨b,D,hb⟩
   .rw[D];rwa[gC ?_];obtain⟨dx,fl,fs,bZ,hm,_,_,_,_,_,_,nby,-⟩:=M2.ins;rwa[12,m,dx,fs,2,hm,nby,1212,av,m,ha,d,TT,L,r,u,s,2,M2,aaf hav F M2,hT,qj,F β TK Fi,Y.1,Y.2,U,λl v b3 M3 h3=>?_];let O:=b3 β ntd p;erw[1212,t,12,lL.k (k:=Sum.ψ s) O (amS (show @a<=1000 by omega) ⋯)]
    let kL:∀b I,v b\.Ε I->υ v t (.dK (putK a Ò ?l)) b\(.Ε I):=λb I e=>by rw[aq (bF e O f!"")];rwa[e]
    rwa[112,λb o n e=>?_,M3.keep (λb C dx fs e=>?_) (λb I _ e=>kL b I e) (λkv e=>?_),aj,5,λs'=>?_]
    .rw[aq (ax e ht)];rwa[b3 β n (F β n e)]
    .rw[aq (bF e O f!"")];rwa[e]
    .rw[aq (an5 ntd)];rwa[e]
    .rw[lK _ D,amG];simp only[amT,ank];ext
    .rw[fJ];cases e:s'=s
     .subst e;rw[am1 Τ];rwa[.Ζ {l,2,kL^h3}]
     .rw[amY (λz=>e (by injection z))];rcases c s' with ⟨N,j⟩|⟨b,j,S⟩
      .rwa[.ψ {λz=>?_,j}];rw[uH]at z;rcases amO.mp z with z|z
       .rwa[N z]
       .rwa[e (amI.mp z)]
      .obtain⟨kv3,rs3,wC,-⟩:=id M2.dct;rwa[.Ζ {b,j,kL^(b3 β (bF S wC f!"") S)}]
   .rw[D];rwa[dc {a,12,F,M2,p,3,λs'=>?_}];cases e:s'=s
    .subst e;rwa[.Ζ {b,D,hb}]
    .rcases c s' with ⟨N,j⟩|h
     .rwa[.ψ {λz=>?_,j}];rw[uH]at z;rcases amO.mp z with z|z
      .rwa[N z]
      .rwa[e (amI.mp z)]
     .rwa[.Ζ h]
  .rintro x B ⟨a,J,Τ,F,M2,p,hkl,c⟩;rw[aD,anJ]at c;erw[12,X,2,{_,bD.of (F β R g)}]
   refine cS (xs:=ao q) (λi x v=>∃(J:Zc),x=#v[?m,?ha,?X,?t,J,.τ ((M11.walk TT Z6 0:η):ο)]/\v=B)
    {122} (λi x v _ ζ=>by let[_,_,e]:=ζ;rwa[[e]▸bD.of (F β R g)]) ?_ ?_
   .rintro i y x v hi ⟨J,Τ,rfl⟩;let[s,Τ,f]:=bR hi;let vV:=M11.iQ hT (M18.IE hIm:M11.aH L Z6) hT.pos;rcases c s with ⟨hns,D⟩|⟨b,D,hb⟩
    .rwa[absurd ŷ hns]
    let dg:dB v t (.τ s) (ι ?b):=by have:=dB.k (k:=Sum.ψ s) p;rw[D]at ω;rwa[ω]
    erw[1212,t,12,dg,12,b,11122,az.of hb,cG (bT (ml vV))];rw[qi f,M11.gJ];rwa[122]
   .rintro x v ⟨J,Τ,rfl⟩;rw[aD,anJ];erw[122]
    let e:decide (V.τ ((M11.walk TT (M18.fill (Im r u) q) 0:η):ο)=V.τ 0)=M20.Good TT (wy r) u q:=by unfold M20.Good;rw[apQ];rwa[λz=>by injection z with z;rwa[ο.natCast_inj.mp z],λz=>by rw[show M11.walk TT (M18.fill (Im r u) q) 0=0 from z];rfl]
    rw[e];rwa[k v F M2]
def Nk {K:Za1}{o:TE}{Q:VK}{rs:Zn}{us:Za3}(I:Hp->ν)(f:Zg->Μ)(p:I H)(g:∀c,I c->c a\.Ε Ĉ)(j:∀c,I c->bO c rs us)(hz:@us<=1000)(E:∀(c:Hp) (r:Zs) (u:Zg) (R:VK),I c->u∈us->c r\.Θ (ao u)->(∀k,I k->R (.bl (f u)) k)->o (ι ?r::D) c R)(t:∀b c,I c->c b=ε->Q ?b (υ c b (.Ε ((us.Α f).Α V.bl)))):qF o D Q (yd K a) H:=by
 let C:=(j H p).1;erw[λi m ys c=>m=@rs - i/\i<=@rs/\ys=((us.take i).Α f).Α V.bl/\I c,{@rs,by simp,ani _,2,p}];rintro i m ys c ⟨rfl,G,Τ,h⟩;let hlen:@(((us.take i).Α f).Α V.bl)=i:=by rw[amE,amE,anc];ext
 cases d:i<@rs
 .let q:rs[i]?=ι rs[i]:=amB d
  let n:i<@us:=∅
  let l:us[i]?=ι us[i]:=amB n
  let B:=(j c h).2 i β q l;rwa[.Ζ {iL (az.of (g c h)) i ([amE]▸d),[hlen]▸amS (show i<=1000 by omega) ⋯,λx k y=>?_}];let[Τ,s]:=gb (az.of (g c h)) i x k ([amE]▸d) y;rw[amQ,q]at s;let ex:V.Η rs[i]=x:=Za0 s;subst ex;rwa[E k γ h (amD l) B λF z=>{@rs - (i+ 1),32,d,5,z}]
  rw[anD,l,am8,am8];rfl
 .let e:i=@rs:=∅
  rwa[.ψ {5,[hlen]▸amM (show i<=1000 by omega) ⋯,λb v=>?_}]
  .have:=fi (K:=K) (az.of (g c h));rw[amE,<-e]at ω;rwa[ω]
  .rw[anE ∅];rwa[t b c h v]
def Nm {g:Za3}{c:θ (Key×V)}(h:bz H a g)(b:gB d H I)(hd:H d\.dK c):bz I a g:=by let[i,f,j]:=h;rwa[i,b β (bF f hd f!"") f,j.keep λp k e=>b β (bF e hd f!"") e]
def aaj (f:Zg->Μ)(us:Za3):(us.Α f).all id=us.all f:=by rw[θ.all_map];rfl
def QW (T:Za3)(wy:η->Zg)(N:η){ls:é}(due:Za3){i:η}{h:Zh}(a:ls[i]?\h):M20.sQ T wy N (ls.take (i+ 1)) due=M20.sQ T wy N r8 due++(M20.ext N h).filter λh=>due.all (M20.Good T wy h):=by unfold M20.sQ;rw[anD,a,aoy];simp
theorem Hq (T:Za3)(wy:η->Zg)(N:η)(due:Za3):∀ls:θ Zh,@(M20.sQ T wy N ls due)<=@ls* N
 |[]=>by simp[M20.sQ]
 |h::ls=>by let a:=Hq T wy N due ls;unfold M20.sQ at a ⊢;rw[aoz,amG,amT,aqm];have:=anN (λh=>due.all (M20.Good T wy h)) (M20.ext N h);rw[M20.GR]at ω;ext
def Nn (h:Zh)(x:η):ao (bX h)++[V.τ (x:ο)]=ao (bX (h++[x])):=by rw[Fg,ints_app];rfl
def Np:T.longer.Ok P w base 4 (Fh A.bB):=by
 rwa[T.longer.on mU (λb9 AA outer s H vs Q E hr h=>?_)]
 .let[la,da,m,d,TT,L,n,t,ls,due,Τ,hLa,hDa,hM,hT,qj,hls,hn,h5,hdl,hdu,k]:=h
  erw[_,{{bH 3 mU.nd Ϙ,bU am5 Τ l9 (du 4 mU.nd)
    {{bU am5 Τ (jb Τ T.fE #[2<<<1]) (du 5 mU.nd)
     {{bH 6 mU.nd (aK qE (pv 4) (bN #[5])),bL (bI (gS (aY (OJ Τ) Τ T.ab0 PyProof.Rows.boot_all #[eP (fns:=[ė,ų]) (ixs:=[2,6]) (cl:=_) Τ l7 (b0 [(_,_),(_,_)] Τ {2222222222,True.intro} Τ) (λC s H ex=>(pc T.sh (Cp T) hr #[1,2,0]))]))
      {{a8 (df amX am2 am3 bS (pv 3) #[6])}}
      bp)}}}},bf (pv 3)}}]
  rwa[cF ?_];intro dA eD;let xZ:=hT.top;let aac:=hT.pos;obtain⟨kvd,rsd,B,-⟩:=id hM.dct;let[l,J,aak]:=id hLa;let[dps,F,afq]:=id hDa;let alf:@l=@ls:=by have:=aak.1;rw[amE]at ω;rwa[ω]
  rwa[ani _,λc v=>?_];let s1:au H (υ H c (.Ε [])):=au.υ v;let h1:υ H c (.Ε []) c\(.Ε (([]:Zn).Α V.Η)):=aj;change υ H c _=H1 at s1 h1 ⊢;let nld:la≠d:=bF J B f!"";let ndd:da≠d:=bF F B f!"";let nfd:c≠d:=λe=>by rw[e,B]at v;ext v
  let TC:=(hM.on v).Δ s1;let alg:∀q,q=c->∃o,H1 q\o:=λq e=>by rw[show q=c from e];rwa[_,h1]
  erw[12,la,2,{_,az.of (s1^J)}]
  refine cS (xs:=l.Α V.Η) (λi σ Z=>∃(a:Zn)(v4 v5 v6:Zc),σ=#v[?la,?da,?m,?c,v4,v5,v6]/\gB d H Z/\eH A.bB Z m d TT t (λb=>b=c)/\Z c\.Ε (a.Α V.Η)/\cJ Z a ((M20.sQ TT (wy t) @TT r8 due).Α bX)/\c∉a/\∀p∈a,H p=ε)
   {[],ε,ε,ε,2,λb o _ e=>s1^e,TC,h1,{2,λi r ns g1=>by simp at g1},by simp,λp hp=>by simp at hp} (λi σ Z _ ζ=>by let[_,_,_,_,_,b,_]:=ζ;rwa[az.of (b β nld J)]) ?_ ?_
  .rintro i y σ Z hi ⟨a,v4,v5,v6,Τ,b2,M2,h2,R2,nf2,fr2⟩;rw[amQ]at hi
   let vW:i<@l:=by
    cases e:l[i]? with
    |ε=>rw[e]at hi;ext hi
    |ι r=>exact(amF.mp e).1
   let q1:l[i]?=ι l[i]:=amB vW
   rw[q1]at hi;let ey:V.Η l[i]=y:=Za0 hi;subst ey;change l[i]=rp at q1;let q2:ls[i]?\(ls[i]'∅):=amB ∅
   change ls[i]'∅=g at q2;let[hh1,hh2]:=hls g (amD q2);let aap:=aak.2 i rp (bX g) q1 (by rw[amQ,q2];rfl);let nrd:rp≠d:=bF aap B f!"";obtain⟨dx,fl,fs,bZ,hm,JA,-⟩:=M2.ins;rw[QW TT (wy t) @TT due q2];let ab9:=Hq TT (wy t) @TT due r8
   let Yk:@(ls.take i)* @TT+ @TT<=5000:=by rw[anc,aom ∅,<-aqm];rwa[amM (an1 _ ∅) h5]
   change M20.sQ TT (wy t) @TT r8 due=got at R2 ab9;erw[12,m,A.bB,dx,112,hm,fm T,T.Ej,JA,(@TT:ο),233]
   refine ik (lo:=0) (n:=((@TT:η):ο).toNat) (λj σ O=>∃(a:Zn)(v5 v6:Zc),σ=#v[?la,?da,?m,?c,?rp,v5,v6]/\gB d H O/\eH A.bB O m d TT t (λb=>b=c)/\O c\.Ε (a.Α V.Η)/\cJ O a ((got++((~~~j).Α λx=>g++[x]).filter λh=>due.all Ċ).Α bX)/\c∉a/\∀p∈a,H p=ε)
    {a,112,b2,M2,h2,by rw[θ.range_zero];show cJ Z a ((got++[]).Α bX);rw[am9];rwa[R2],nf2,fr2} ?_ ?_
   .rintro j σ O hj ⟨a,v5,v6,Τ,b3,M3,h3,R3,M,X⟩;let hjT:j<@TT:=∅
    rw[ap3];rwa[1212,Za4 1,λq hq=>?_];let I:au O (υ O q (.Ε [.τ (j:ο)])):=au.υ hq;let hq4:υ O q (.Ε [.τ (j:ο)]) q\(.Ε [.τ (j:ο)]):=aj;change υ O q _=H4 at I hq4 ⊢;rwa[rp,q,1122,I^b3 β nrd aap,hq4,5,λf N=>?_]
    .rw[aD,ki,hh1];rwa[amM (show n+ 1<=2000 by omega) ⋯]
    rw[Nn];let s45:au H4 (υ H4 f (.Ε (ao (bX (g++[j]))))):=au.υ N;let S:υ H4 f (.Ε (ao (bX (g++[j])))) f\(.Ε (ao (bX (g++[j])))):=aj;change υ H4 f _=H5 at s45 S ⊢;let U:=I.π s45;let M5:=M3.Δ U;let b5:gB d H H5:=λb o n e=>U^b3 β n e
    obtain⟨kv5,rs5,Hj,-⟩:=id M5.dct;let hl5:=U^h3;let nhl:f≠c:=λe=>by rw[e,I^h3]at N;ext N
    let TK:f≠d:=bF S Hj f!""
    let frh:H f=ε:=by
     cases qq:H f with
     |ε=>rfl
     |ι o=>rw[I^b3 β TK qq]at N;ext N
    rwa[15,λ_ _ h=>h];erw[12,da,2,{_,az.of (b5 β ndd F)}];rwa[Nk (λH6=>gB d H5 H6/\eH A.bB H6 m d TT t (λb=>b=c)) (M20.Good TT (wy t) (g++[j])) {λ_ _ _ e=>e,M5} (λH6 i6=>i6.1 β ndd (b5 β ndd F)) (λH6 i6=>afq.keep λp xs e=>i6.1 β (bF e B f!"") (b5 β (bF e B f!"") e)) hdl (λH6 r u R i6 hu hr hR=>?_) (λD H6 i6 hD=>?_)]
    .let[b6,M6]:=i6;rwa[121212,λb=>b=c,m,f,r,d,TT,L,t,g++[j],u,2,M6,(λq e=>[show q=c from e]▸{_,b6 β nfd hl5}),hT,qj,b6 β TK S,hr,5,(hdu u hu).2,λx hx=>?_,λH7 b7 M7=>hR H7 {b6.π b7,M7}]
     .rw[amG,hh1];rwa[(hdu u hu).1]
     .rcases amO.mp hx with hx|hx
      .rwa[hh2 x hx]
      .rw[amI.mp hx];rwa[hjT]
    let[b6,M6]:=i6;let Fb:=au.υ (o:=.Ε ((due.Α (M20.Good TT (wy t) (g++[j]))).Α V.bl)) hD;erw[D,12,az.of aj,12];rw[aaj];change υ H6 D _=H7 at Fb ⊢;let b57:gB d H5 H7:=λb o n e=>Fb^b6 β n e
    let b7:gB d H H7:=b5.π b57;let M7:=M6.Δ Fb;let Y:=b57 β nfd hl5;let G:∀p xs,H5 p\.Ε xs->H7 p\(.Ε xs):=λp xs e=>b57 β (bF e Hj f!"") e
    let R7:cJ H7 a ((got++((~~~j).Α λx=>g++[x]).filter λh=>due.all Ċ).Α bX):={R3.1,λi r ns g1 g2=>G^U^R3.2 i r ns g1 g2};let hh7:=G^S;let uH:((~~~(j+ 1)).Α λx=>g++[x])=((~~~j).Α λx=>g++[x])++[g++[j]]:=by rw[aon,am8];rfl
    let rB:@a<=5000:=by let e1:=R3.1;rw[amE,amG]at e1;let e2:=anN (λh=>due.all Ċ) ((~~~j).Α λx=>g++[x]);rw[amE,anp]at e2;ext
    cases hg:due.all (M20.Good TT (wy t) (g++[j])) with
    |ρ=>
     rwa[gC ?_];erw[12,.ψ {21,az.of Y},12,c,1122,Y,5]
     .rw[amE];rwa[amS rB ⋯]
     let kU:∀b o,H7 b\o->b≠c->υ H7 c (.Ε (a.Α V.Η++[V.Η f])) b\o:=λb o e n=>by rw[aq n];rwa[e]
     erw[a++[f],112,λb o n e=>kU β (b7 β n e) (ax e v),5,by rw[aj,am8];rfl,55]
     .rwa[M7.keep (λb C dx fs e=>kU β e (bF e Y f!"")) (λb xs n e=>kU β e n) (λkv e=>kU β e (an5 nfd))]
     .rw[uH,aoj,<-ans,am8];let ef:(([g++[j]].filter λh=>due.all Ċ).Α bX)=[bX (g++[j])]:=by rw[aod,hg];rfl
      rw[ef];rwa[cJ.but (w:=c) (R7.snoc hh7) gB.υ λz=>?_]
      rcases amO.mp z with z|z
      .rwa[M z]
      .rwa[nhl (amI.mp z).Β]
     .intro z;rcases amO.mp z with z|z
      .rwa[M z]
      .rwa[nhl (amI.mp z).Β]
     .intro p hp;rcases amO.mp hp with hp|hp
      .rwa[X p hp]
      .rw[amI.mp hp];rwa[frh]
    |χ=>
     rwa[dc {a,112,b7,M7,Y,5,M,X}];let ef:([g++[j]].filter λh=>due.all Ċ)=[]:=by rw[aod,hg];rfl
     rw[uH,aoj,ef,am9];rwa[R7]
   .rintro σ O ⟨a,v5,v6,Τ,b3,M3,h3,R3,M,X⟩;rw[anb]at R3;rwa[a,1112,b3,M3,h3,R3,M,X]
  .rintro σ Z ⟨a,v4,v5,v6,Τ,b2,M2,h2,R2,nf2,fr2⟩;rw[amE,anE ∅]at R2;rwa[12,k c Z b2 M2.off {a,h2,R2,v,fr2}]
def Nq {K:Za1}{z:TT}{t:TE}{Q:VK}{rs:Zn}{us:Za3}(p:Zg->Μ)(h:H a\.Ε Ĉ)(j:bO H rs us)(hz:@us<=1000)(C:∀(c:Hp) (r:Zs) (u:Zg) (R:Μ->Hp->ν),au H c->u∈us->c r\.Θ (ao u)->(∀l,au c l->R (p u) l)->z (ι ?r::D) c R)(N:∀(c:Hp) (r:Zs) (R:VK),R ?r c->t (ι ?r::D) c R)(E:∀b c d,au H c->c b=ε->bO c d (us.filter p)->Q ?b (υ c b (.Ε (d.Α V.Η)))):w6 z t D Q (yd K a) H:=by
 let M:=j.1;erw[λi m ys c=>m=@rs - i/\i<=@rs/\∃d:Zn,ys=d.Α V.Η/\au H c/\bO c d ((us.take i).filter p),⟨@rs,by simp,ani _,[],2,λ_ _ e=>e,{by simp,λi r S I=>by simp at I}⟩];rintro i m ys c ⟨rfl,T,d,Τ,s2,g⟩
 let O:@d<=i:=by let U:=g.1;let J:=anN p (us.take i);rw[anc]at J;ext
 cases f:i<@rs
 .let v:rs[i]?=ι rs[i]:=amB f
  let q:i<@us:=∅
  let o:us[i]?=ι us[i]:=amB q
  let y:=j.2 i β v o;rwa[.Ζ {iL (az.of (s2^h)) i ([amE]▸f),[amE]▸amS (show @d<=1000 by omega) ⋯,λx l L=>?_}];let[Τ,B]:=gb (az.of (s2^h)) i x l ([amE]▸f) L;rw[amQ,v]at B;let ex:V.Η rs[i]=x:=Za0 B;subst ex;rwa[C l γ s2 (amD o) (s2^y) λG k=>?_]
  let e:us.take (i+ 1)=us.take i++[us[i]]:=by rw[anD,o];rfl
  cases s:p us[i]with
  |ρ=>
   rwa[N G β {@rs - (i+ 1),32,f,d++[rs[i]],by rw[am8];rfl,s2.π k,5}];let n:([us[i]].filter p)=[us[i]]:=by rw[aod,s];rfl
   rw[e,aoj,n];rwa[(g.Δ k).snoc (k^s2^y)]
  |χ=>
   erw[@rs - (i+ 1),32,f,d,2,s2.π k];let n:([us[i]].filter p)=[]:=by rw[aod,s];rfl
   rw[e,aoj,n,am9];rwa[g.Δ k]
 .let e:i=@rs:=∅
  rwa[.ψ {5,[amE]▸amM (show @d<=1000 by omega) ⋯,λb F=>?_}]
  .have:=fi (K:=K) (az.of (s2^h));rw[amE,<-e]at ω;rwa[ω]
  .rw[anE ∅]at g;rwa[E b c d s2 F g]
def Fj {T:Za3}{i:é}{j:Zs->ν}(f:gB d H I)(M:eH a I b d T i j)(g:I c=ε):H c=ε:=by
 cases e:H c with
 |ε=>rfl
 |ι o=>
  obtain⟨h,k,hd,-⟩:=M.dct;let n:c≠d:=λz=>by rw[z,hd]at g;ext g
  rw[f β n e]at g;ext g
def Gb:T.xH.Ok P w base 5 (BJ A.bB):=by
 rwa[T.xH.on jY (λb9 AA outer s H vs Q E a h=>?_)]
 .let[m,ra,d,TT,L,n,y,rules,Τ,hRa,hM,hT,qj,hn,afr,X,x,k]:=h
  erw[_,{{bH 3 jY.nd (bN #[bN ah]),bU am5 Τ (mG Τ T.fE #[ak,aK cZ (pv 1) ak]) (du 4 jY.nd)
    {{BZ (iy:=5) jY.nd Τ ź (fns:=["letter"]) (ixs:=[4]) (cl:=_) Τ (cD (pv 2)) (b0 [(_,_)] Τ {22222,True.intro} Τ) (λC s H ex=>(aX dI (pc T.k8 (uP T) a #[0]) (pv 1) (bh _))) (λC s H ex=>(pv 0)) (by intro _;rfl) Τ (by trivial),bH 3 jY.nd (pc T.longer (Np T) a #[3,5,0])}},bf (pv 3)}}]
  rwa[cF ?_];intro dA eD;let f:=hT.pos;let zG:∀r∈rules,∀s∈r,s≠0:=λr a s hs=>((x r a).1 s hs).1
  obtain⟨kvd,rsd,hdd,-⟩:=id hM.dct;rwa[ani _,λg U=>?_];let s0:au H (υ H g (.Ε [])):=au.υ U;let h0:υ H g (.Ε []) g\(.Ε (ao (bX []))):=aj;change υ H g _=H0 at s0 h0 ⊢;rwa[Za4 1,λJ I=>?_];let s1:au H0 (υ H0 J (.Ε [?g])):=au.υ I;let h1:υ H0 J (.Ε [?g]) J\(.Ε ([g].Α V.Η)):=aj;change υ H0 J _=H1 at s1 h1 ⊢;let Hr:=s0.π s1;erw[121122,(1),(n:ο)+ 1,2,{3333}]
  let' S:η->St->Hp->ν:=λi σ G=>∃(F:Zs)(v4 v5:Zc),σ=#v[?m,.τ n,?ra,?F,v4,v5]/\gB d H G/\eH A.bB G m d TT y (λ_=>False)/\QS H G F ((M20.qN TT (wy y) @TT rules i).Α bX)
  refine ik (lo:=1) (n:=((n:ο)+ 1 - 1).toNat) S
   {J,ε,ε,2,λb o _ e=>Hr^e,hM.Δ Hr,[g],h1,{2,λi r ns g1 g2=>?_},s0.free I,λr a=>[amI.mp a]▸U} ?_ ?_
  .let e2:ns=bX []:=amI.mp (amD g2);rw[amI.mp (amD g1),e2];rwa[s1^h0]
  .intro i σ G hi v;rwa[bu ?_];intro M;let[F,v4,v5,Τ,b2,M2,Nr,h2,R2,Ew,TL]:=v;dsimp only[M];clear M;dsimp only[cU];rwa[kb ?_];intro ic Ey;let To:i<n:=∅
   let Z:=Nm hRa b2 hdd;let[Tg,p,afs]:=id Z;erw[12,ra,2,{_,az.of p}];rwa[Nq (λu=>decide (M20.gl u=i+ 1)) p afs X (λB r u R s3 hu a hR=>?_) (λB r R hR=>{12,hR}) (λD B q s3 hD hdt=>?_)]
   .rwa[12,r,u,2,a,(x u hu).2,λH4 s4=>{122,decide (M20.gl u=i+ 1),5,hR H4 s4}];rwa[an7 V.bl ?_];rw[apQ];rwa[λz=>by injection z with z;ext,λz=>by rw[z];congr 1;ext]
   let t:au B (υ B D (.Ε (q.Α V.Η))):=au.υ hD;let Y:bz (υ B D (.Ε (q.Α V.Η))) D (M20.vn rules (i+ 1)):={q,aj,hdt.Δ t};change υ B D _=H4 at t Y ⊢;let c:=s3.π t;let M4:=M2.Δ c;let b4:gB d H H4:=λb o n e=>c^b2 β n e
   let RV:M20.cap @TT (i+ 1)<=5000:=by
    cases z:M20.cap @TT (i+ 1)<=5000
    .rwa[z]
    .have:=M20.DP f (j:=i+ 1) (n:=n) ∅ ∅;ext
   let Hc:=M20.DQ f RV;let aau:@(M20.oS @TT (i+ 1))=@(M20.oS @TT i)* @TT:=M20.xm β;let hfe:=M20.yE (T:=TT) (wy:=wy y) (N:=@TT) zG i;let rB:@(M20.qN TT (wy y) @TT rules i)<=@(M20.oS @TT i):=by rw[hfe];rwa[anN β]
   rwa[121212,F,D,m,d,TT,L,i,y,M20.qN TT (wy y) @TT rules i,M20.vn rules (i+ 1),2,{Nr,c^h2,R2.Δ c},Y,M4,hT,qj,λh hh=>?_,35,amM (anN β) X,λr a=>?_,λl H5 b5 M5 hN=>?_]
   .rw[hfe]at hh;rwa[M20.oT (anA.mp hh).1]
   .rwa[amM (an1 _ rB) ∅]
   .let[O,zx]:=anA.mp a;let e:=ane zx;rwa[λs hs=>{zG r O s hs,(M20.Cr r (i+ 1)).mp ∅ s hs},(x r O).2]
   .let[aft,f1,f2,f3,f4]:=hN;rwa[l,112,b4.π b5,M5,aft,f1,f2,Fj b4 M4 f3,λr a=>Fj b4 M4 (f4 r a)]
  .intro σ G v;rwa[bu ?_];intro M;let[F,v4,v5,Τ,b2,M2,hN]:=v;dsimp only[M];clear M;rw[show ((n:ο)+ 1 - 1).toNat=n by ext]at hN;rwa[12,k F G b2 hN]
def Fm {a:θ PySem.Expr}{p:PySem.Pos}{b:θ PySem.Expr}{env:PySem.Env}:PySem.starEach (.Tuple a j p::b) env=(χ,PySem.eval (.Tuple a j p) env)::PySem.starEach b env:=rfl
seal L2.PE L2.PS L2.iY L2.PA L2.PT
unseal L2.PE L2.PS L2.iY L2.PA L2.PT
inductive Nt (vs:Zb)(H:Hp)(Q:VK)(E_:XK):ν
 |mk (a wa:Zs)(T:Za3)(L i:η)(w:Zg):vs=[?a,.τ i,?wa]->TabAt H a T->M11.Tab L T->i<@T->H wa\.Θ (ao w)->M11.aH L w->Q (.τ (M11.walk T w i)) H->Nt vs H Q E_
def Nu:T.led.Ok P w base 2 Nt:=by
 rwa[T.led.on El (λD R l s H N Q E F h=>?_)]
 .let[a,q,J,L,i,ws,Τ,m,j,I,c,b,k]:=h
  refine{_,{{bU am5 Τ i8 (du 3 El.nd)
   {{bH 1 El.nd ((0|||1)|||(pc T.lY (mE T) F #[3]))}},bf (pv 1)}},?_}
  rwa[lS ?_];intro u;erw[12,q,2,{_,bD.of c}];rwa[cS (xs:=ao ws) (λn d f=>∃v:Zc,d=#v[?a,.τ (M11.walk J Ħ i),?q,v]/\f=H) ⟨ε,22⟩ (λn d f _ ζ=>by let[_,_,e]:=ζ;rwa[[e]▸bD.of c]) ?_ ?_]
  .rintro n y d f M ⟨v,Τ,rfl⟩;let[z,Τ,o]:=bR M;let p:=b z (amD o);let g:=M11.iQ j (sG n b) I;let[S,r,row,B,t,G,O,C]:=kK m j g;let x:=j.Ae;erw[1212,a,11122,az.of B,bW t,12,z,2,p.1,3];erw[r,11122,az.of G,cG (bT (C _ (M11.gR p)))];rwa[_,by rw[uO o];rfl,2]
  .rintro d f ⟨v,Τ,rfl⟩;rw[aD,anJ];rwa[12,k]
def Vq:Sp:=λc H Q _=>∃(a:Zs)(ns:Zg),c=[?a]/\H a\.Θ (ao ns)/\@ns<=2000/\∀l b,au H b->b l\.Θ (ao ϣ)->Q ?l b
def aav:V->V
 |.τ z=>.τ (-z)
 |v=>v
def Vr:T.back.Ok P w base 1 Vq:=by
 rwa[T.back.on Vd (λj q c s H p Q E r h=>?_) (len:=by rintro _ _ _ _ ⟨a,ns,Τ,_⟩;rfl)]
 .let[a,ns,Τ,b,hlen,k]:=h;erw[_,{{bf (cO fZ Τ T.jF anV #[eP (fns:=[]) (ixs:=[]) (cl:=[]) Τ (Wq Τ T.Jd #[0] Τ) (b0 [] Τ True.intro Τ) (λC s H ex=>(fx dN (pv 0)))])}}];let g:(ao ns).reverse.Ξ<=sizeLine:=by rw[aow,aD];rwa[amM hlen ⋯]
  erw[12,a,ao ns,2,bD.of b];rwa[iq (ao ns).reverse aav (Wr ŭ) (Uj ŭ) (Ol (bD.of (K:=K) b)) g (λi x d R o=>?_) (λD f=>?_)]
  .let[z,Τ,_]:=bR (ns:=ns.reverse) (by unfold ao at d ⊢;rw[apS];rwa[d]);rwa[12,z,2,o]
  .rwa[D,12,.ψ {az.of aj,λl m=>?_}]
   let e:((ao ns).reverse.Α aav)=ao ϣ:=by unfold ao M11.back;rw[<-apS,anu,anu];rfl
   rwa[k l _ ((au.υ f).π (au.υ m)) (by rw[aj,e])]
theorem BK {us:Za3}(n:η)(h:bO H F us):bO H (F.take n) (us.take n):=by
 rwa[by rw[anc,anc,h.1],λi p w a b=>?_];rw[apo]at a b;split at a
 .rename_i c;rw[am1 c]at b;rwa[h.2 i p w a b]
 .ext a
def x9 (w:Zg):@(M11.back w)=@w:=by unfold M11.back;rw[amE,aow]
inductive Fn (vs:Zb)(H:Hp)(Q:VK)(E_:XK):ν
 |mk (wa ia:Zs)(w:Zg)(Im:Za3):vs=[?wa,?ia]->H wa\.Θ (ao w)->bz H ia Im->M11.aH @Im w->@w<=1000->(∀u∈Im,@u<=300)->@Im<=1000->(∀l H',au H H'->H' l\.Θ (ao ġ)->Q ?l H')->Fn vs H Q E_
def Hs {Im:Za3}{s:ο}(h:∀u∈Im,@u<=300):@(M18.ji Im s)<=300:=by
 let a:@(Im.Λ (s.natAbs - 1) [])<=300:=by
  rw[amH]
  cases e:Im[s.natAbs - 1]? with
  |ε=>exact ani _
  |ι w=>exact h w Ÿ
 unfold M18.ji;split
 .rwa[a]
 .rw[x9];rwa[a]
def Fo {Im:Za3}{w:Zg}(h:∀u∈Im,@u<=300):@(M18.fill Im w)<=300* @w:=by
 induction w with
 |nil=>exact ani _
 |cons s w a=>have:=Hs (s:=s) h;show @(M18.ji Im s++M18.fill Im w)<=_;rw[amG,amT,η.mul_succ];ext
def Fp:T.uv.Ok P w base 2 Fn:=by
 rwa[T.uv.on lu (λb9 AA M s H vs Q E hr h=>?_)]
 .let[wa,Z,w,Im,Τ,j,I,J,pI,c,hIn,k]:=h
  erw[_,{{bH 2 lu.nd Ϙ,bU am5 Τ l3 (du 3 lu.nd)
    {{bH 4 lu.nd (1|||(aK fI (aY oC Τ T.zb aoW #[3]) ak)),a8 (df amX ap4 ap5 Ie (pv 2) #[Wu (N3 (aX pR (pv 3) ak (bh _)) (pv 4) (pc T.back (Vr T) hr #[4]))])}},bf (cO fZ Τ T.jF anV #[2])}}]
  rwa[cF ?_];intro dA eD;let[B,U,p]:=id I;let jZ:@B=@Im:=p.1;rwa[ani _,λa i=>?_];let N:au H (υ H a (.Ε [])):=au.υ i;let Y:υ H a (.Ε []) a\(.Ε (ao (M18.fill Im (w.take 0)))):=aj;change υ H a _=H0 at N Y ⊢;erw[12,wa,2,{_,bD.of (N^j)}]
  let' g:η->St->Hp->ν:=λn C d=>∃G S:Zc,C=#v[?wa,?Z,?a,G,S]/\au H d/\d a\(.Ε (ao (M18.fill Im Ř)))
  rwa[cS (xs:=ao w) g {ε,ε,2,N,Y} (λn C d _ ζ=>by let[_,_,_,s,_]:=ζ;rwa[bD.of (s^j)]) ?_ ?_]
  .rintro n y C d hn ⟨G,S,Τ,s2,f⟩;dsimp only[cU];rwa[kb ?_];intro ic Ey;let[z,Τ,O]:=bR hn;let hs:=J z (amD O);let wx:n<@w:=(amF.mp O).1;let x:Im[z.natAbs - 1]?\(Im[z.natAbs - 1]'∅):=amB ∅
   let R:B[z.natAbs - 1]?\(B[z.natAbs - 1]'∅):=amB ∅
   change Im[z.natAbs - 1]'∅=im at x;change B[z.natAbs - 1]'∅=X at R;let r:=p.2 γ R x;let vW:=c im (amD x);let ez:(if z<0 then -z else z) - 1=((z.natAbs - 1:η):ο):=by split <;> ext
   erw[1212,z,21122,Z,11,?X,22,az.of (s2^U),([ez]▸bW R)];let e1:Im.Λ (z.natAbs - 1) []=im:=by rw[amH,x];rfl
   let m:=Fo (w:=w.take n) c;rw[anc]at m;let t:@(M18.fill Im Ř)<=300000:=amM m (amM (apU 300 (show min n @w<=1000 by omega)) ⋯);erw[12,.ψ {21,az.of f},λv u=>∃(q:Zs),v=?q/\au d u/\u q\.Θ (ao (M18.ji Im z)),5]
   .rwa[12112212,cw (λh=>?_) (λh=>?_)]
    .let L:(0:ο)<z:=ane h;erw[12,X,2,λ_ _ e=>e];unfold M18.ji;rw[am1 L,e1];rwa[s2^r]
    .let L:¬(0:ο)<z:=λq=>h (anh q)
     rwa[12,X,im,2,s2^r,3,λl u D h3=>{l,2,D,5}];unfold M18.ji;rw[amY L,e1];rwa[h3]
   rintro v u ⟨q,Τ,D,hq⟩;let F:=Hs (s:=z) c;erw[a,q,1122,D^f,hq,5]
   .rw[aD,aD];rwa[amM (η.add_le_add t F) ⋯]
   erw[112,λb o e=>[aq (ax e i)]▸D^s2^e];rw[aj,<-ints_app,qi O]
  .rintro C d ⟨G,S,Τ,s2,f⟩;rw[aD,anJ]at f;rwa[12,a,12,.ψ {az.of f,λl hl=>k l _ (s2.π (au.υ hl)) aj}]
def Rh (T:Za3)(b:é)(a:Zh)(i j:η):ν:=∃r∈a,j=M11.walk T (wy b r) i
inductive Nv (C:Zs)(vs:Zb)(H:Hp)(Q:VK)(E_:XK):ν
 |mk (m ha dx fl:Zs)(fs:θ (Ι×V))(T:Za3)(L:η)(ws:é)(hs:Zh):vs=[?m,?ha]->H m\.ins C dx fs->fs.lookup (Ē:Ι)\.τ @T->fs.lookup (ü:Ι)\?fl->TabAt H fl Z3->M11.Tab L T->LW L T ws->H ha\.Ε (ao (bX hs))->(∀r∈hs,r<@T)->@hs<=1000->(∀F H',au H H'->M19.Sf 0 (Rh T ws hs) F->Q (.bl (decide (@F=@T))) H')->Nv C vs H Q E_
structure Fs (T:Za3)(ws:é)(hs F:Zh)(kvs:θ (Key×V)):ν where
 nd:F.Nodup
 lt:∀i∈F,i<@T
 z:0∈F
 mn:∀P:η->ν,P 0->(∀x y,P x->Rh T ws hs x y->P y)->∀x∈F,P x
 kl:@kvs<=@F
 kv:∀i:η,bG kvs (Sum.ψ (i:ο))=ε↔i∉F
def Fs.add {T:Za3}{ws:é}{F:Zh}{d:θ (Key×V)}(h:Fs T ws B F d){i j:η}(n:i∈F)(hR:Rh T ws B i j)(k:j<@T)(g:j∉F):Fs T ws B (F++[j]) (putK d (Sum.ψ (j:ο)) (.bl ρ)):=by
 rwa[?_,λx c=>?_,amV _ h.z,λP f B x c=>?_,?_,λx=>?_]
 .rw[anC];rwa[h.nd,by simp,λa l b m=>by rw[amI.mp m];rwa[λz=>g (by rw[<-z];rwa[l])]]
 .rcases amO.mp c with c|c
  .rwa[h.lt x c]
  .rw[amI.mp c];rwa[k]
 .rcases amO.mp c with c|c
  .rwa[h.mn P f B x c]
  .rw[amI.mp c];rwa[B i j (h.mn P f B i n) hR]
 .rw[lK _ ((h.kv j).mpr g),amG,amG];have:=h.kl;simp only[amT,ank];ext
 .rw[fJ];cases e:x=j
  .subst e;rw[am1 Τ];simp
  .rw[amY (λz=>e (by injection z with z;omega)),h.kv];simp[e]
theorem zH:T.pk.Ok P w base 1 (Nv A.bB):=by
 rwa[T.pk.on dU (λb9 AA outer s H vs Q E hr h=>?_)]
 .let[m,ha,dx,fl,fs,TT,L,ws,M,Τ,hm,JA,aaw,hFa,hT,qj,Fi,TB,TN,k]:=h;let qH:=iZ hr
  erw[_,{{bH 2 dU.nd (bN #[ak]),bH 3 dU.nd (zX (wX ak iw zW) Τ Τ (by simp) ⋯),bH 4 dU.nd ak,bL (ja am5 (aX nL (pv 4) (2<<<0) (bh _))
    {{bU am5 Τ l7 (du 5 dU.nd)
     {{bH 6 dU.nd (((0<<<1)|||5)|||(2|||4)),bL (bI (tK (mJ qH (pv 6) (pv 3)))
      {{jx qH (pv 3) (pv 6) iw Τ,a8 (df amX am2 am3 bS (pv 2) #[6])}}
      bp)}},bH 4 dU.nd (aK cZ (pv 4) ak)}}),bf (zP dI (2<<<0) (0<<<1) (bh _))}}]
  rwa[xc ?_];intro pG jn dA eD;let xZ:=hT.top;let aac:=hT.pos;let pI:@ws=@TT:=qj.lw.1;rwa[Za4 1,λg BG=>?_];let s0:au H (υ H g (.Ε [.τ 0])):=au.υ BG;let h0:υ H g (.Ε [.τ 0]) g\(.Ε (ao (bX [0]))):=aj;change υ H g _=H0 at s0 h0 ⊢;intro d hd;erw[aj,[(Sum.ψ 0,.bl ρ)],2,by show 1<=15;decide];generalize hH1:υ (υ H0 d (.dK [])) d _=H1;let Kv:H1 d\(.dK [(Sum.ψ 0,.bl ρ)]):=by rw[<-hH1,aj];rfl
  let s1:au H0 H1:=λb o e=>by rw[<-hH1,aq Ů,aq Ů];rwa[e]
  clear hH1;let Hr:=s0.π s1;let h1:=s1^h0;let nld:H d=ε:=s0.free hd
  let F1:Fs TT ws M [0] [(Sum.ψ 0,.bl ρ)]:={by simp,λi O=>by rw[amI.mp O];ext,by simp,λP h0 _ x hx=>[amI.mp hx]▸h0,amK _,λi=>by
   cases e:i=0
   .subst e;rw[show bG [((Sum.ψ 0:Key),V.bl ρ)] (Sum.ψ ((0:η):ο))=ι (.bl ρ) from cV Τ];simp
   .rw[cR (λz=>e (by injection z with z;omega))];simp[e];rfl}
  let go:∀i r,i<@TT->r∈M->M11.walk TT ę i<@TT/\∃u,ws[r]?\u/\wy ws r=wd u:=λi r O hr=>by
   let ro:=TB r hr;let hu:ws[r]?\(ws[r]'∅):=amB ∅
   let ew:wy ws r=wd (ws[r]'∅):=by unfold wy;rw[amH,hu];rfl
   rwa[51,hu,ew];rw[ew];rwa[M11.iQ hT (pL (qj.ok r _ hu).1) O]
  let' QK:St->Hp->ν:=λ Y R=>∃(F:Zh)(a:θ (Key×V))(B p:Zc)(at_:ο),Y=#v[?m,?ha,?g,?d,.τ at_,B,p]/\au H R/\R g\.Ε (ao (bX F))/\R d\.dK a/\Fs TT ws M F a/\∀i∈F,∀j,Rh TT ws M i j->j∈F
  erw[QK,5]
  .rwa[bV ?_];intro ic
   erw[λms σ R=>∃(F:Zh)(a:θ (Key×V))(B p:Zc)(n:η),ms=300 - n/\σ=#v[?m,?ha,?g,?d,.τ (n:ο),B,p]/\au H R/\R g\.Ε (ao (bX F))/\R d\.dK a/\Fs TT ws M F a/\n<=@F/\∀i∈F.take n,∀j,Rh TT ws M i j->j∈F,⟨_,[0],_,ε,ε,(0),22,Hr,h1,Kv,F1,ani _,λi O=>by simp at O⟩]
   intro ms σ H2 C;rwa[bu ?_];intro S;let[F,a,B,p,n,Τ,Τ,s2,U,hd2,l,S8,Z]:=C;dsimp only[S];clear S;let hFl:@F<=300:=amM (M11.et @TT F l.nd l.lt) xZ;erw[1212,g,12,.ψ (az.of U),112212];rwa[cw (λh=>?_) (λh=>?_)]
   .let wx:n<@F:=by let h':(n:ο)<(@(ao (bX F)):ο):=ane h;rw[aD,ki]at h';ext
    let gn:F[n]?=ι F[n]:=amB wx
    change F[n]=N at gn;let hi0:=amD gn;erw[λ Y R=>∃(F:Zh)(a:θ (Key×V))(B p:Zc)(n':η),Y=#v[?m,?ha,?g,?d,.τ (n':ο),B,p]/\au H R/\R g\.Ε (ao (bX F))/\R d\.dK a/\Fs TT ws M F a/\n'<=@F/\(∀i∈F.take n',∀j,Rh TT ws M i j->j∈F)/\n'=n+ 1/\n<300,λ Y R ζ=>by let[F,a,B,p,n',e,b1,b2,b3,b4,b5,b6,b7,b8]:=ζ;rwa[300 - n',3,F,a,B,p,n',2,e,b1,b2,b3,b4,b5,b6]];erw[12,ha,2,{_,az.of (s2^Fi)}]
    let' xU:η->St->Hp->ν:=λt σ H3=>∃(D:Zh)(a:θ (Key×V))(B p:Zc),σ=#v[?m,?ha,?g,?d,.τ (n:ο),B,p]/\au H H3/\H3 g\.Ε (ao (bX (F++D)))/\H3 d\.dK a/\Fs TT ws M (F++D) a/\∀r∈M.take t,M11.walk TT ę N∈F++D
    refine cS (xs:=ao (bX M)) xU
     {[],a,B,p,2,s2,[am9]▸U,hd2,[am9]▸l,λr hr=>by simp at hr} (λt σ H3 _ ζ=>by let[_,_,_,_,_,s,_]:=ζ;rwa[az.of (s^Fi)]) ?_ ?_
    .intro t y σ H3 ht C;rwa[bu ?_];intro S;let[D,a,B,p,Τ,s3,J,I,c,f]:=C;dsimp only[S];clear S;dsimp only[cU];rwa[kb ?_];intro ic Ey;let[z,Τ,hz]:=bR ht;let[r,hr,Τ]:=Vo hz;let hrm:=amD hr;let X:N∈F++D:=amV _ hi0;let[Tc,u,hu,ew]:=go N r (c.lt N X) hrm;let hm3:=s3^hm;let[bZ,afu,aaA]:=hFa.Δ s3
     let afp:@bZ=@TT:=by have:=aaA.1;unfold eY at ω;rw[amE,pI]at ω;rwa[ω]
     let ro:=TB r hrm;let g1:bZ[r]?\(bZ[r]'∅):=amB ∅
     change bZ[r]'∅=fp at g1;let Yu:=aaA.2 r fp Ś g1 (by unfold eY;rw[amQ,hu];rfl);let gF:(F++D)[n]?\N:=by rw[amP wx];rwa[gn]
     erw[12,m,A.bB,dx,112,hm3,fm T,T.vr,aaw,12,fl,11,?fp,22,az.of afu,bW g1,1212,g,11122,az.of J,cG (bT (x3 gF)),fp,11122,az.of Yu,cG (bT (ml (c.lt N X)))];rw[<-ew];let hRr:Rh TT ws M N (M11.walk TT ę N):={r,hrm,2}
     let hdn:∀(F2:Zh),M11.walk TT ę N∈F2->(∀x∈F++D,x∈F2)->∀r'∈M.take (t+ 1),M11.walk TT (wy ws r') N∈F2:=λF2 h1 h2 r' G=>by
      rw[anD,hr]at G;rcases amO.mp G with G|G
      .rwa[h2 _ (f r' G)]
      .let e:r'=r:=by simpa using G
       rw[e];rwa[h1]
     change M11.walk TT ę N=j at Tc hRr hdn ⊢;rwa[15,λ_ _ h=>h];erw[1212,d,12,dB.k (k:=Sum.ψ (j:ο)) I,12];cases hj:j∈F++D
     .let hv:¬bG a (Sum.ψ (j:ο):Key)=ε:=λz=>((c.kv j).mp z) hj
      cases q:bG a (Sum.ψ (j:ο):Key) with
      |ε=>exact absurd q hv
      |ι v=>exact dc {D,a,112,s3,J,I,c,hdn _ hj λx hx=>hx}
     .rw[(c.kv j).mpr hj];rwa[gC ?_];let afv:@(F++D)<=300:=amM (M11.et @TT _ c.nd c.lt) xZ;erw[1212,d,12,lL.k (k:=Sum.ψ (j:ο)) I (amS (show @a<=300 by have:=c.kl;omega) ⋯)];let s4:au H (υ H3 d (.dK (putK a (Sum.ψ (j:ο)) (.bl ρ)))):=λb o e=>by rw[aq (ax e nld)];rwa[s3^e]
      let KG:υ H3 d (.dK (putK a (Sum.ψ (j:ο)) (.bl ρ))) d\(.dK (putK a (Sum.ψ (j:ο)) (.bl ρ))):=aj;let TQ:υ H3 d (.dK (putK a (Sum.ψ (j:ο)) (.bl ρ))) g\(.Ε (ao (bX (F++D)))):=by rw[aq (bF J I f!"")];rwa[J]
      change υ H3 d _=H4 at s4 KG TQ ⊢;erw[12,.ψ {21,az.of TQ},12,g,1122,TQ,5]
      .rw[aD,ki];rwa[amS afv ⋯]
      erw[D++[j],1112,λb o e=>[aq (ax e BG)]▸s4^e,5,[aq (bF KG TQ f!"")]▸KG,5]
      .rw[aj,<-ans,Fg,ints_app];rfl
      .rw[<-ans];rwa[c.add X hRr Tc hj]
      .rwa[hdn _ (by simp) λx hx=>?_]
       rw[<-ans];rwa[amV _ hx]
    .intro σ H3 C;rwa[bu ?_];intro S;let[D,a,B,p,Τ,s3,J,I,c,f]:=C;dsimp only[S];clear S;rw[aD,ki,anJ]at f;rwa[121122,F++D,a,B,p,n+ 1,5,s3,J,I,c,by rw[amG];ext,λi O j hR=>?_,23]
     .rw[show ((n+ 1:η):ο)=(n:ο)+ 1 by ext];rfl
     .rw[θ.take_append_of_le_length ∅,anD,gn]at O;rcases amO.mp O with O|O
      .rwa[amV _ (Z i O j hR)]
      .let e:i=N:=by simpa using O
       subst e;let[r,hr,e2]:=hR;rw[e2];rwa[f r hr]
   .let hge:@F<=n:=by
     let h':¬(n:ο)<(@(ao (bX F)):ο):=λz=>h (anh z)
     rw[aD,ki]at h';ext
    rw[anE hge]at Z;rwa[F,a,B,p,12,s2,U,hd2,l,Z]
  intro Y H2 C;rwa[bu ?_];intro S;let[F,a,B,p,at_,Τ,s2,U,hd2,l,Z]:=C;dsimp only[S];clear S;let G4:=s2^hm;erw[12,g,12,.ψ (az.of U),12,m,A.bB,dx,112,G4,fm T,T.Ej,JA,2]
  let e:decide (V.τ (@(ao (bX F)):ο)=V.τ (@TT:ο))=decide (@F=@TT):=by rw[aD,ki,apQ];rwa[λz=>by injection z with z;ext,λz=>by rw[z]]
  rw[e];rwa[k F H2 s2 {l.nd,l.z,λx hx y hR=>Z x hx y hR,l.mn}]
def AI (a:Zb)(j:η):gY a ε (ι (j:ο))=a.take j:=by
 unfold gY;rw[HT.va];show (θ.drop 0 a).take (min j _ - 0)=_;rw[θ.drop_zero,η.sub_zero];cases b:j<=@a
 .rw[aom b]
 .rw[ape ∅,anJ,anE ∅]
def uQ (a:Zb)(j:η)(h:j<=@a):gY a (ι (j:ο)) ε=a.drop j:=by unfold gY;rw[HT.va,aom h];show (a.drop j).take (@a - j)=_;rw[anE ([anI]▸amK _)]
def dX {w:Zg}(h:M11.aH n (z::w)):(z≠0/\z.natAbs<=n)/\M11.aH n w:={h z (amR ..),λx a=>h x (amZ _ a)}
def Nw (s:ο)(w:Zg):M11.back (s::w)=M11.back w++[-s]:=by unfold M11.back;rw[aqj,am8];rfl
def Vs (k:η):M12.st (M11.flip k)= -M12.st k:=by
 unfold M12.st M11.flip;cases h:k % 2=0
 .rw[am1 h,am1 h,amY ∅];ext
 .rw[amY h,amY h,am1 ∅];ext
def Nx {f:η->η}(h:∀i j,i<n->j<n->f i=f j->i=j):((~~~n).Α f).Nodup:=aor.mpr (ao8 (λa b n e=>n (h β (anj.mp a) (anj.mp b) e)) apg)
def AJ (g:η->η->η)(s:ο)(w:Zg)(p:η):gw g (s::w) p=gw g w (g þ p):=rfl
section
variable {rs ps:Za3}{L x:Nat}{D:Nat->Prop}{g:Nat->Nat->Nat}
theorem Mv.dw (m:ã):∀{w:Zg}{p:η},M11.aH L w->D p->D (gw g w p)
 |[],_,_,a=>a
 |s::w,p,b,a=>m.dw (w:=w) (p:=g þ p) (dX b).2 (m.d p _ a (M11.gR (dX b).1))
def Mv.two (m:ã){s:ο}(a:s≠0/\s.natAbs<=L){p:η}(b:D p):g (M11.pl (-s)) (g þ p)=p:=by rw[M11.vk a.1];rwa[m.b p _ b (M11.gR a)]
theorem Mv.bw (m:ã):∀{w:Zg}{p:η},M11.aH L w->D p->gw g Ō (gw g w p)=p
 |[],_,_,_=>rfl
 |s::w,p,d,b=>by let[c,a]:=dX d;rw[Nw,eJ,AJ g s w,m.bw a (m.d p _ b (M11.gR c))];rwa[m.two c b]
theorem Mv.fold (m:ã):∀{ns u:Zg}{p:η},M11.aH L u->M11.aH L ns->D p->gw g (ns.foldl M16.sn u) p=gw g (u++ns) p
 |[],u,p,_,_,_=>by rw[am9];rfl
 |s::ns,u,p,i,l,h=>by
  let[k,a]:=dX l;let d:M11.aH L (M16.sn u s):=λy c=>(M16.XP c).Κ (i y) (λe=>e ▸ k)
  show gw g (ns.foldl M16.sn (M16.sn u s)) p=_;rw[m.fold d a h,eJ,eJ,AJ];rwa[an7 (gw g ns) ?_];rcases M16.GP u with rfl|⟨v,b,rfl⟩
  .rfl
  rw[M16.U0];cases f:b= -s
  .rw[am1 f,f,eJ];let j:M11.aH L v:=λy c=>i y (amV _ c)
   have:=m.two (s:=-s) {33} (m.dw j h);rw[aov]at ω;rwa[ω.Β]
  .rw[amY f,eJ];rfl
def Mv.thin (m:ã){w:Zg}{p:η}(a:Ĵ)(b:D p):gw g (M16.thin w) p=gw g w p:=m.fold (λ_ z=>by ext z) a b
def Mv.alike (m:ã){w u:Zg}{p:η}(b:Ĵ)(c:M11.aH L u)(a:D p)(e:M16.thin w=M16.thin u):gw g w p=gw g u p:=by rw[<-m.thin b a,e,m.thin c a]
end
def JB {K:Za1}{z:TT}{t:TE}{Q:VK}{rs:Zn}{us:Za3}(p:Zg->Μ)(h:H a\.Ε Ĉ)(j:cJ H rs us)(hz:@us<=5000)(C:∀(c:Hp) (r:Zs) (u:Zg) (R:Μ->Hp->ν),au H c->u∈us->c r\.Ε (ao u)->(∀l,au c l->R (p u) l)->z (ι ?r::D) c R)(N:∀(c:Hp) (r:Zs) (R:VK),R ?r c->t (ι ?r::D) c R)(E:∀b c d,au H c->c b=ε->cJ c d (us.filter p)->Q ?b (υ c b (.Ε (d.Α V.Η)))):w6 z t D Q (yd K a) H:=by
 let M:=j.1;erw[λi m ys c=>m=@rs - i/\i<=@rs/\∃d:Zn,ys=d.Α V.Η/\au H c/\cJ c d ((us.take i).filter p),⟨@rs,by simp,ani _,[],2,λ_ _ e=>e,{by simp,λi r S I=>by simp at I}⟩];rintro i m ys c ⟨rfl,T,d,Τ,s2,g⟩
 let O:@d<=i:=by let U:=g.1;let J:=anN p (us.take i);rw[anc]at J;ext
 cases f:i<@rs
 .let v:rs[i]?=ι rs[i]:=amB f
  let q:i<@us:=∅
  let o:us[i]?=ι us[i]:=amB q
  let y:=j.2 i β v o;rwa[.Ζ {iL (az.of (s2^h)) i ([amE]▸f),[amE]▸amS (show @d<=5000 by omega) ⋯,λx l L=>?_}];let[Τ,B]:=gb (az.of (s2^h)) i x l ([amE]▸f) L;rw[amQ,v]at B;let ex:V.Η rs[i]=x:=Za0 B;subst ex;rwa[C l γ s2 (amD o) (s2^y) λG k=>?_]
  let e:us.take (i+ 1)=us.take i++[us[i]]:=by rw[anD,o];rfl
  cases s:p us[i]with
  |ρ=>
   rwa[N G β {@rs - (i+ 1),32,f,d++[rs[i]],by rw[am8];rfl,s2.π k,5}];let n:([us[i]].filter p)=[us[i]]:=by rw[aod,s];rfl
   rw[e,aoj,n];rwa[(g.Δ k).snoc (k^s2^y)]
  |χ=>
   erw[@rs - (i+ 1),32,f,d,2,s2.π k];let n:([us[i]].filter p)=[]:=by rw[aod,s];rfl
   rw[e,aoj,n,am9];rwa[g.Δ k]
 .let e:i=@rs:=∅
  rwa[.ψ {5,[amE]▸amM (show @d<=5000 by omega) ⋯,λb F=>?_}]
  .have:=fi (K:=K) (az.of (s2^h));rw[amE,<-e]at ω;rwa[ω]
  .rw[anE ∅]at g;rwa[E b c d s2 F g]
structure Md (L:η)(D:η->ν)(g:η->η->η):ν where
 d:∀p k,D p->k<2* L->D (g k p)
 b:∀p k,D p->k<2* L->g (M11.flip k) (g k p)=p
def Hd (D:η->ν)(g:η->η->η)(R:Za3):ν:=∀w∈R,∀p,D p->gw g w p=p
def Md.mv {D:η->ν}{g:η->η->η}(m:Md n D g){x:η}(a:D x){R:Za3}(h:Hd D g R):Mv R [] n D g x:={a,m.d,m.b,h,λ_ z=>by ext z}
def Mv.md' {rs a:Za3}{x:η}{D:η->ν}{g:η->η->η}(m:Mv rs a n D g x):Md n D g:={m.d,m.b}
section
variable {L:Nat}{D:Nat->Prop}{g:Nat->Nat->Nat}
def Md.dw (m:ŧ){w:Zg}{p:η}(b:Ĵ)(a:D p):D (gw g w p):=(m.mv a (R:=[]) λ_ z=>by ext z).dw b a
def Md.bw (m:ŧ){w:Zg}{p:η}(b:Ĵ)(a:D p):gw g Ō (gw g w p)=p:=(m.mv a (R:=[]) λ_ z=>by ext z).bw b a
def Md.wb (m:ŧ){w:Zg}{p:η}(a:Ĵ)(b:D p):gw g w (gw g Ō p)=p:=by have:=m.bw (M11.eX a) b;rw[uN]at ω;rwa[ω]
def Md.alike (m:ŧ){w u:Zg}{p:η}(b:Ĵ)(c:M11.aH L u)(a:D p)(e:M16.thin w=M16.thin u):gw g w p=gw g u p:=(m.mv a (R:=[]) λ_ z=>by ext z).alike b c a e
end
def im (U:η->Zg)(z:ο):Zg:=if 0<z then U (z.natAbs - 1) else M11.back (U (z.natAbs - 1))
def i9 (L:η)(U:η->Zg):ν:=∀k,k<L->M11.aH L (U k)
def zI {U:η->Zg}(h:i9 n U){z:ο}(hz:z≠0/\z.natAbs<=n):M11.aH n (im U z):=by
 unfold im;split
 .rwa[h _ ∅]
 .rwa[M11.eX (h _ ∅)]
def Ny (U:η->Zg){z:ο}(h:z≠0):im U (-z)=M11.back (im U z):=by
 unfold im;rw[ο.natAbs_neg];cases a:0<z
 .rw[am1 a,amY ∅]
 .rw[amY a,am1 ∅,uN]
def iH {U:η->Zg}(h:i9 n U){w:Zg}(c:M11.aH n w):M11.aH n ó:=λs b=>by let[a,d,b]:=anS.mp b;rwa[zI h (c a d) s b]
def gU (g:η->η->η)(U:η->Zg)(k p:η):η:=gw g (im U Ż) p
theorem j6 (g:η->η->η)(U:η->Zg){L:η}:∀{w:Zg}{p:η},M11.aH L w->gw (gU g U) w p=gw g ó p
 |[],_,_=>rfl
 |s::w,p,h=>by let[b,a]:=dX h;rw[AJ,j6 g U a,show s::w=[s]++w from rfl,M16.dD,M16.fk,eJ];unfold gU;rw[vw b.1]
def Md.gU {D:η->ν}{g:η->η->η}(m:Md n D g){U:η->Zg}(h:i9 n U):Md n D (K75.gU g U):=by rwa[λp k b a=>m.dw (zI h (M12.rX a)) b,λp k b a=>?_];unfold K75.gU;rw[Vs,Ny U (M12.rX a).1];rwa[m.bw (zI h (M12.rX a)) b]
theorem oq {D:η->ν}{g:η->η->η}(m:Md n D g){U:η->Zg}(h:i9 n U)(e:∀k p,k<n->D p->gw g (U k) p=g (2* k) p):∀{w:Zg}{p:η},M11.aH n w->D p->gw g ó p=gw g w p
 |[],_,_,_=>rfl
 |s::w,p,l,a=>by
  let[o,c]:=dX l
  let one:gw g (im U s) p=g þ p:=by
   unfold im;cases b:0<s
   .rw[am1 b,e _ p ∅ a]
    congr 1
    unfold M11.pl;rw[am1 b];ext
   .rw[amY b];let d:s.natAbs - 1<n:=∅
    let f:=m.dw (M11.eX (h _ d)) a;let j:=m.wb (h _ d) a;rw[e β d f]at j;let i:=m.b _ (2* (s.natAbs - 1)) f ∅;rw[j]at i;rw[<-i]
    congr 1
    unfold M11.pl M11.flip;rw[amY b,am1 ∅];ext
  let hd:=m.d p _ a (M11.gR o);rw[show s::w=[s]++w from rfl,M16.dD,M16.fk,eJ,one,oq m h e c hd];rfl
def cp (U V:η->Zg)(k:η):Zg:=M16.fill (im U) (V k)
theorem BL (U:η->Zg){L:η}:∀{w:Zg},M11.aH L w->M11.back ó=M16.fill (im U) Ō
 |[],_=>rfl
 |s::w,h=>by let[b,a]:=dX h;rw[show s::w=[s]++w from rfl,M16.dD,M16.fk,E8,BL U a,E8,M16.dD,show M11.back [s]=[-s] from rfl,M16.fk,Ny U b.1]
theorem kM (U V:η->Zg){L:η}(a:i9 L V):∀{w:Zg},M11.aH L w->M16.fill (im U) (M16.fill (im V) w)=M16.fill (im (cp U V)) w
 |[],_=>rfl
 |s::w,h=>by
  let[c,b]:=dX h;rw[show s::w=[s]++w from rfl,M16.dD,M16.fk,M16.dD,M16.dD,M16.fk,kM U V a b]
  congr 1
  unfold im cp;split
  .rfl
  .rwa[(BL U (a _ ∅)).Β]
def jM {U V:η->Zg}(b:i9 n U)(c:i9 n V):i9 n (cp U V):=λk a=>iH b (c k a)
structure Tz (L:η)(A B:Za3)(U V:η->Zg):ν where
 sa:∀w∈A,M11.aH L w
 sb:∀w∈B,M11.aH L w
 u:i9 L U
 v:i9 L V
 a:∀D g,Md L D g->Hd D g B->Hd D (gU g U) A
 b:∀D g,Md L D g->Hd D g A->Hd D (gU g V) B
 c:∀D g,Md L D g->Hd D g B->∀k p,k<L->D p->gw g (cp U V k) p=g (2* k) p
 e:∀D g,Md L D g->Hd D g A->∀k p,k<L->D p->gw g (cp V U k) p=g (2* k) p
def TZ (L:η)(A B:Za3):ν:=∃U V,Tz L A B U V
def Tz.sym {A B:Za3}{U V:η->Zg}(t:ń):Tz n B A V U:={t.sb,t.sa,t.v,t.u,t.b,t.a,t.e,t.c}
def ju (k:η):Zg:=[((k+ 1:η):ο)]
def j1 (L:η):i9 L ju:=λk b s a=>[amI.mp a]▸{33}
def rD (g:η->η->η)(k p:η):gw g (ju k) p=g (2* k) p:=by
 show g (M11.pl _) p=_
 congr 1
 unfold M11.pl;rw[am1 ∅];ext
theorem ya:∀{L:η}{w:Zg},M11.aH L w->M16.fill (im ju) w=w
 |_,[],_=>rfl
 |L,s::w,h=>by
  let[b,a]:=dX h;rw[show s::w=[s]++w from rfl,M16.dD,M16.fk,ya a]
  congr 1
  unfold im ju;split
  .congr 1;ext
  .show [-((s.natAbs - 1+ 1:η):ο)]=[s]
   congr 1;ext
def Cu {A B:Za3}(i:∀w∈A,M11.aH n w)(f:∀w∈B,M11.aH n w)(h:∀D g,Md n D g->(Hd D g A↔Hd D g B)):Tz n A B ju ju:=by
 let a:∀{C:Za3}{D:η->ν}{g:η->η->η},(∀w∈C,M11.aH n w)->Hd D g C->Hd D (gU g ju) C:=λd h w c p j=>by rw[j6^d w c,ya (d w c)];rwa[h w c p j]
 let e:∀(g:η->η->η) k p,k<n->gw g (cp ju ju k) p=g (2* k) p:=λg k p b=>by unfold cp;rw[ya (j1 n k b),rD]
 rwa[i,f,j1 n,j1 n,λD g m o=>a i ((h D g m).mpr o),λD g m l=>a f ((h D g m).mp l),λD g _ _ k p b _=>e g k p b,λD g _ _ k p b _=>e g k p b]
def Tz.π {A B C:Za3}{U V X Y:η->Zg}(s:ń)(t:Tz n B C X Y):Tz n A C Ϲ (cp V Y):=by
 let go:∀{A B C:Za3}{U V X Y:η->Zg},Tz n A B U V->Tz n B C X Y->(∀D g,Md n D g->Hd D g C->Hd D (gU g Ϲ) A)/\(∀D g,Md n D g->Hd D g C->∀k p,k<n->D p->gw g (cp Ϲ (cp V Y) k) p=g (2* k) p):=λ{A B C U V X Y} s t=>by
  let f:∀{g:η->η->η}{w:Zg}{p:η},M11.aH n w->gw (gU (gU g X) U) w p=gw (gU g Ϲ) w p:=λ{g w p} a=>by rw[j6^a,j6^iH s.u a,kM X U s.u a,j6^a]
  rwa[λD g m h w a p d=>?_,λD g m h k p e d=>?_]
  .let c:=m.gU t.u;rw[<-f (s.sa w a)];rwa[s.a D _ c (t.a D g m h) w a p d]
  .let c:=m.gU t.u;let j:=t.a D g m h;unfold cp;let b:=t.v k e
   let i:M16.fill (im Ϲ) (M16.fill (im V) (Y k))=M16.fill (im X) (M16.fill (im (cp U V)) (Y k)):=by rw[<-kM U V s.v b,<-kM X U s.u (iH s.v b)]
   show gw g (M16.fill (im Ϲ) (M16.fill (im V) (Y k))) p=_;rw[i,<-j6 g X (iH (jM s.u s.v) b),oq c (jM s.u s.v) (s.c D _ c j) b d,j6 g X b];rwa[t.c D g m h k p e d]
 rwa[s.sa,t.sb,jM t.u s.u,jM s.v t.v,(go s t).1,(go t.sym s.sym).1,(go s t).2,(go t.sym s.sym).2]
def aca {A:Za3}{U V:η->Zg}(i:∀w∈A,M11.aH n w)(b:i9 n U)(d:i9 n V)(o:∀k,k<n->M16.thin (cp U V k)=M16.thin (ju k))(l:∀k,k<n->M16.thin (cp V U k)=M16.thin (ju k)):Tz n A (A.Α λw=>M16.fill (im U) w) U V:=by
 let j:∀{U V:η->Zg}{D:η->ν}{g:η->η->η},i9 n U->i9 n V->(∀k,k<n->M16.thin (cp U V k)=M16.thin (ju k))->Md n D g->∀k p,k<n->D p->gw g (cp U V k) p=g (2* k) p:=λb d h m k p c a=>by rw[m.alike (jM b d k c) (j1 n k c) a (h k c),rD]
 rwa[i,λw e=>?_,b,d,λD g m h w e p a=>?_,λD g m h w e p a=>?_,λD g m _ k p c a=>j b d o m k p c a,λD g m _ k p c a=>j d b l m k p c a]
 .let[u,f,Τ]:=anm.mp e;rwa[iH b (i u f)]
 .rw[j6^i w e];rwa[h _ (anm.mpr {w,e,2}) p a]
 .let[u,f,Τ]:=anm.mp e;rw[j6^(iH b (i u f)),kM V U b (i u f),oq m (jM d b) (j d b l m) (i u f) a];rwa[h u f p a]
def aaC {D:η->ν}{g:η->η->η}{R:Za3}{r:Zg}(f:R[i]?\r)(h:(∀j w,j≠i->R[j]?\w->∀p,D p->gw g w p=p)->((∀p,D p->gw g r p=p)↔∀p,D p->gw g l p=p)):Hd D g R↔Hd D g (R.take i++[l]++R.drop (i+ 1)):=by
 let k:=(amF.mp f).1
 let other:∀w,w∈R.take i++[l]++R.drop (i+ 1)↔w=l\/∃j,j≠i/\R[j]?\w:=λw=>by
  rw[ans,amO,amO,amI];constructor
  .rintro (q|q|q)
   .let[j,b]:=ant q;rw[apo]at b;split at b
    .rwa[.Ζ {j,3,b}]
    .ext b
   .rwa[.ψ q]
   .let[j,b]:=ant q;rw[apq]at b;rwa[.Ζ {13,b}]
  .rintro (q|⟨j,n,q⟩)
   .rwa[.Ζ (.ψ q)]
   .cases d:j<i
    .rwa[.ψ (amD (i:=j) ([apo,am1 d]▸q))]
    .rwa[.Ζ (.Ζ (amD (i:=j - (i+ 1)) ([apq,show i+ 1+ (j - (i+ 1))=j by ext]▸q)))]
 constructor
 .intro a w c;rcases (other w).mp c with rfl|⟨j,_,e⟩
  .rwa[(h λj w _ e=>a w Ÿ).mp (a r ŷ)]
  .rwa[a w Ÿ]
 .intro a w c;let os:∀j w,j≠i->R[j]?\w->∀p,D p->gw g w p=p:=λj w n e=>a w ((other w).mpr (.Ζ {j,n,e}))
  let[j,b]:=ant c;cases e:j=i
  .subst e;rw[f]at b;rw[<-Za0 b];rwa[(h os).mpr (a l ((other l).mpr (.ψ Τ)))]
  .rwa[os j w e b]
section
variable {L:Nat}{D:Nat->Prop}{g:Nat->Nat->Nat}
def Vt (m:ŧ){r:Zg}(b:M11.aH L r):(∀p,D p->gw g r p=p)↔∀p,D p->gw g (M11.back r) p=p:={λh p a=>by have:=m.bw b a;rwa [h p a]at ω,λh p a=>by have:=m.wb b a;rwa [h p a]at ω}
def AK (m:ŧ){a b:Zg}(d:M11.aH L a)(f:M11.aH L b):(∀p,D p->gw g (a++b) p=p)->∀p,D p->gw g (b++a) p=p:=λh p c=>by let e:=m.dw (M11.eX d) c;have:=h _ e;rw[eJ,m.wb d c]at ω;rw[eJ,ω,m.wb d c]
def Vu (m:ŧ){r s:Zg}(d:M11.aH L s)(h:∀p,D p->gw g s p=p)(c:M11.aH L r):(∀p,D p->gw g r p=p)↔∀p,D p->gw g (r++s) p=p:={λa p b=>by rw[eJ,a p b,h p b],λa p b=>by have:=a p b;rwa [eJ,h _ (m.dw c b)]at ω}
def Vv (m:ŧ){s:ο}{r:Zg}(j:s≠0/\s.natAbs<=L)(f:M11.aH L r):(∀p,D p->gw g r p=p)↔∀p,D p->gw g ([s]++r++[-s]) p=p:=by
 let d:M11.aH L [s]:=λt i=>by rw[amI.mp i];rwa[j]
 let h:M11.aH L [-s]:=M11.eX d;rwa[λa p c=>?_,λa=>?_]
 .rw[eJ,eJ,a _ (m.dw d c)];rwa[m.bw d c]
 .let q:=AK m (a:=[s]) (b:=r++[-s]) d (jr f h) (by rw[<-ans];rwa[a]);intro p c;have:=q p c;rw[eJ,eJ]at ω;let e:gw g [s] (gw g [-s] (gw g r p))=gw g r p:=m.wb d (m.dw f c);rw[e]at ω;rwa[ω]
end
def FT.md {R T:Za3}(f:FT R [] n m T):Md n (λi=>i<m) (M11.nx T):=(f.mv [] f.pos λ_ z=>by ext z).md'
def FT.hd {R T:Za3}(f:FT R [] n m T):Hd (λi=>i<m) (M11.nx T) R:=λw a p b=>f.r w a p b
def FT.zero {R T:Za3}(f:FT R [] n m T){u v:Zg}(i:M11.aH n u)(d:M11.aH n v)(e:M11.walk T u 0=M11.walk T v 0){p:η}(c:p<m):gw (M11.nx T) u p=gw (M11.nx T) v p:=by let[g,j,h]:=f.go (f.mv [] c λ_ z=>by ext z);let b:=h u 0 i f.pos;let a:=h v 0 d f.pos;rw[j]at b a;rwa[b.Β.π ((an7 g e).π a)]
def FT.along {R T Q F:Za3}(f:FT R [] n m T)(h:FT Q [] n i F){U:η->Zg}(j:i9 n U)(q:∀w∈R,M11.walk F ó 0=0):∃ d:η->η,d 0=0/\∀u,M11.aH n u->d (M11.walk T u 0)=M11.walk F (M16.fill (im U) u) 0:=by
 let l:∀w∈R,M11.aH n w:=λw c=>f.s w (amV _ c)
 let a:=h.md.gU j
 let hR:Hd (λb=>b<i) (gU Ė U) R:=λw c p o=>by rw[j6^l w c];rwa[h.zero (v:=[]) (iH j (l w c)) (λ_ z=>by ext z) (q w c) o]
 let[d,g,e]:=f.go (a.mv h.pos hR);rwa[d,g,λu k=>?_];rw[e u 0 k f.pos,g,j6^k];rfl
def Tz.at0 {A B F:Za3}{U V:η->Zg}(t:ń)(h:FT B [] n m F):∀w∈A,M11.walk F ó 0=0:=λw a=>by have:=t.a β h.md h.hd w a 0 h.pos;rw[j6^t.sa w a]at ω;rwa[ω]
def Tz.le {A B T F:Za3}{U V:η->Zg}(t:ń)(f:FT A [] n m T)(h:FT B [] n i F):m<=i:=by
 let[g,_,d]:=f.along h t.u (t.at0 h);let[l,_,k]:=h.along f t.v (t.sym.at0 f)
 let bk:∀a,a<m->l (g a)=a:=λa c=>by let[u,b,Τ]:=f.c a c;rw[d u b,k _ (iH t.u b),kM V U t.u b];rwa[oq f.md (jM t.v t.u) (t.e β f.md f.hd) b f.pos]
 let lt:∀a,a<m->g a<i:=λa c=>by let[u,b,Τ]:=f.c a c;rw[d u b];rwa[h.lt (iH t.u b) h.pos]
 have:=M11.et i ((~~~m).Α g) (Nx λa j c p e=>by rw[<-bk a c,e,bk j p]) λx o=>by let[a,c,Τ]:=anm.mp o;rwa[lt a (anj.mp c)]
 rwa [amE,anp]at ω
def Tz.eq {A B T F:Za3}{U V:η->Zg}(t:ń)(f:FT A [] n m T)(h:FT B [] n i F):m=i:=η.le_antisymm (t.le f h) (t.sym.le h f)
def Tz.home {A B F:Za3}{U V W:η->Zg}(t:ń)(h:FT B [] n m F)(hW:i9 n W)(e:∀k,k<n->M11.walk F (W k) 0=M11.walk F (U k) 0):(∀w∈A,M11.walk F ϝ 0=0)/\∀i,i<m->∃u,M11.aH n u/\M11.walk F Ϟ 0=i:=by
 let one:∀k p,k<n->p<m->gw Ė (W k) p=gw Ė (U k) p:=λk p a b=>h.zero (hW k a) (t.u k a) (e k a) b
 let g:∀{z:ο} {p},z≠0/\z.natAbs<=n->p<m->gw Ė (im W z) p=gw Ė (im U z) p:=λ{z p} hz b=>by
  unfold im;split
  .rwa[one _ p ∅ b]
  .let a:z.natAbs - 1<n:=∅
   let j:=h.md.dw (M11.eX (hW _ a)) b;let c:=h.md.wb (hW _ a) b;rw[one β a j]at c;let d:=h.md.bw (t.u _ a) j;rw[c]at d;rwa[d.Β]
 let all:∀(w:Zg)(p:η),M11.aH n w->p<m->gw Ė ϝ p=gw Ė ó p:=λw=>by
  induction w with
  |nil=>exact λ_ _ _=>rfl
  |cons s w r=>intro p o b;let[c,d]:=dX o;rw[show s::w=[s]++w from rfl,M16.dD,M16.dD,M16.fk,M16.fk,eJ,eJ,g c b];rwa[r _ d (h.md.dw (zI t.u c) b)]
 rwa[λw l=>(all w 0 (t.sa w l) h.pos).π (t.at0 h w l),λi q=>?_];let[u,f,Τ]:=h.c i q;rwa[M16.fill (im V) u,iH t.v f,(all _ 0 (iH t.v f) h.pos).π ?_];rw[kM U V t.v f];rwa[oq h.md (jM t.u t.v) (t.c β h.md h.hd) f h.pos]
def Nz {A B T F:Za3}{W X:η->Zg}(f:FT A [] n m T)(h:FT B [] n m F)(hW:i9 n W)(R:∀w∈A,M11.walk F ϝ 0=0)(N:∀i,i<m->∃u,M11.aH n u/\M11.walk F Ϟ 0=i):
 (∀i,i<m->∃j,j<m/\∀u,M11.aH n u->M11.walk T u 0=j->M11.walk F Ϟ 0=i)/\
 (i9 n X->(∀k,k<n->M11.walk F (cp W X k) 0=M11.nx F (2* k) 0)->(∀w∈B,M11.walk T (M16.fill (im X) w) 0=0)/\∀k,k<n->M11.walk T (cp X W k) 0=M11.nx T (2* k) 0):=by
 let[v,O,l]:=f.along h hW R
 let s:∀i,i<m->∃j,j<m/\v j=i:=λi t=>by let[u,I,e]:=N i t;rwa[_,f.lt I f.pos,(l u I).π e]
 let inj:∀i j,i<m->j<m->v i=v j->i=j:=by
  obtain⟨r,d⟩:∃ r:η->η,∀i,i<m->r i<m/\v (r i)=i:={λi=>if q:i<m then Classical.choose (s i q) else 0,λi t=>by simp only[dif_pos t];rwa[Classical.choose_spec (s i t)]};intro i j t M e;rwa[anY λc=>?_]
  let ex:∃k,(k=i\/k=j)/\∀a,a<m->r a≠k:=by
   cases q:r (v i)=i
   .rwa[j,.Ζ Τ,λa o z=>c (by let E:=(d a o).2;rw[z]at E;rw[<-q,e,E,z])]
   .rwa[i,.ψ Τ,λa o z=>q (by let E:=(d a o).2;rw[z]at E;rw[E,z])]
  let[k,g,U]:=ex
  have:=M11.et m (k::(~~~m).Α r) (anq.mpr {λq=>by
   let[a,o,z]:=anm.mp q
   rwa[U a (anj.mp o) z],Nx λa b o Q z=>by rw[<-(d a o).2,z,(d b Q).2]}) λx G=>by
   rcases amW.mp G with rfl|G
   .rcases g with rfl|rfl <;> assumption
   .let[a,o,Τ]:=anm.mp G;rwa[(d a (anj.mp o)).1]
  rw[amT,amE,anp]at ω;ext
 rwa[λi t=>?_,λy G=>?_]
 .let[j,M,e]:=s i t;rwa[j,M,λu I q=>by rw[<-l u I,q];rwa[e]]
 .let H:∀{w:Zg}{p:η},M11.aH n w->p<m->gw Ė (M16.fill (im (cp W X)) w) p=gw Ė w p:=λ{w p}=>oq h.md (jM hW y) λk p g S=>by have:=h.zero (jM hW y k g) (j1 n k g) ([G k g]▸(rD _ k 0).Β) S;rw[ω,rD]
  let D:∀{w:Zg},M11.aH n w->v (M11.walk T (M16.fill (im X) w) 0)=M11.walk F w 0:=λ{w} C=>by rw[l _ (iH y C),kM W X y C];rwa[H C h.pos]
  rwa[λw C=>?_,λk g=>?_]
  .let L:=h.s w (amV _ C);rwa[inj β (f.lt (iH y L) f.pos) f.pos ([D L,O]▸h.r w C 0 h.pos)]
  .let e:M11.nx T (2* k) 0=M11.walk T (ju k) 0:=(rD _ k 0).Β;rw[e];rwa[inj β (f.lt (jM y hW k g) f.pos) (f.lt (j1 n k g) f.pos) ?_]
   let q:M16.fill (im W) (ju k)=W k:=by
    unfold ju;rw[M16.fk];unfold im;rw[am1 ∅]
    congr 1
   rw[show M11.walk T (cp X W k) 0=M11.walk T (M16.fill (im X) (W k)) 0 from rfl,D (hW k g),l _ (j1 n k g),q]
def Vw {c:Type}{z:c}{R:c->c->ν}{F d:θ c}(h:M19.Sf z R F)(b:M19.Sf z R d):@F=@d:=θ.Perm.length_eq ((θ.perm_ext_iff_of_nodup h.nd b.nd).mpr λa=>{h.mn (·∈d) b.zm (λx y e r=>b.cl x e y r) a,b.mn (·∈F) h.zm (λx y e r=>h.cl x e y r) a})
def NB (T:Za3)(a:é)(h:Zh):ν:=∃F,M19.Sf 0 (Rh T a h) F/\@F=@T
def Fq {b:Zh}(h:bX B=bX b):B=b:=(θ.map_inj_right (λx y q=>∅)).mp h
def QX {us:é}{p:Zg->Μ}(h:cJ H F ((us.Α bX).filter p)):cJ H F ((us.filter λu=>p (bX u)).Α bX):=by rw[θ.filter_map]at h;rwa[h]
inductive NC (vs:Zb)(H:Hp)(Q:VK)(E_:XK):ν
 |mk (gq ta ra:Zs)(T:Za3)(L n:η)(rules:Za3):vs=[?gq,?ta]->H gq\.Θ [.τ n,?ra]->bz H ra rules->TabAt H ta T->M11.Tab L T->M12.Fc (2* L) T.flatten @T->n<=900->M20.cap @T n<=5000->@rules<=1000->(∀r∈rules,M11.aH n r/\@r<=1000)->(∀(ws:é)(l:Zs)(hs:é)(H':Hp),au H H'->LW L T ws->TabAt H' l (hs.Α bX)->(∀h,h∈hs↔h∈M20.qN T (wy ws) @T rules n/\NB T ws h)->Q ?l H')->NC vs H Q E_
def tm:T.nV.Ok P w base 6 NC:=by
 rwa[T.nV.on tf (λb9 AA outer s H vs Q E p h=>?_)]
 .let[gq,ta,ra,TT,L,n,rules,Τ,y,hRa,J,O,hF,hn,afr,ro,X,k]:=h
  refine{_,{{a8 (u6 (AH T) (p.mono (by decide)) Τ T.my.m T.my.F.kp T.my.b .nil jV #[1<<<0,0&&&ak]),bH 2 tf.nd (u9 (xK T) (vO T) (p.mono (by decide)) Τ T.Va T.hY.b .nil jV #[1]),bf (yB (fns:=[ė]) (ixs:=[2]) (cl:=_) Τ (cD (pc T.xH (Gb T) p #[2,0&&&ak,0&&&ak])) (b0 [(_,_)] Τ {Τ,Τ,Τ,Τ,Τ,True.intro} Τ) (λC s H ex=>(gS (pc T.pk (zH T) p #[1,0]))) (λC s H ex=>(pv 0)))}},?_}
  rwa[cF ?_];intro dA eD;let xZ:=O.top;let v:=O.pos;let[rs,M9,hrw]:=id J;let hlen:(@(rs.Α V.Η):ο)=(@TT:ο):=by rw[amE,hrw.1]
  rwa[12,ta,12,.ψ (az.of M9),12,gq,11122,bD.of y,2,@TT,n,an7 (λz=>[V.τ z,V.τ (n:ο)]) hlen,v,33,λhc=>?_,λz=>∅];rwa[12,λx I nx ndx vY=>?_]
  let s0:au H (υ (υ H I (.own x)) x (.ins A.bB I [])):=λb o e=>by rw[aq (ax e nx),aq (ax e ndx)];rwa[e]
  rwa[x,I,ta,TT,L,2,aj,J.Δ s0,O,hF,λfs fl d j H1 kp B g c M KW t nd hFa G=>{25}];let s1:au H H1:=λb o e=>kp b o (s0 b o e) (ax e nx)
  let nd0:H d=ε:=s0.free nd;let[bZ,m,f]:=id hFa;let M1:eH A.bB H1 x d TT j (λ_=>False):={{I,fl,fs,bZ,B,g,c,M,m,f,λz=>z,KW,λ_ _ z=>z},[],[],t,by simp,λr p=>by simp at p,2,λi=>.ψ {by simp,2}};rwa[1212,gq,11122,bD.of (s1^y),212,gq,11122,bD.of (s1^y),2,x,ra,d,TT,L,n,j,rules,2,hRa.Δ s1,M1,O,G,hn,hc,ro,X,λl H2 b2 hN=>?_];let[rs2,f1,f2,f3,f4]:=hN;let s2:au H H2:=λb o e=>b2 β (ax e nd0) (s1^e)
  let hx2:H2 x\(.ins A.bB I fs):=b2 β (bF B t f!"") B;let hF2:TabAt H2 fl (eY TT j):={bZ,b2 β (bF m t f!"") m,f.1,λi r row a b=>b2 β (bF (f.2 i r row a b) t f!"") (f.2 i r row a b)};let zG:∀r∈rules,∀s∈r,s≠0:=λr p s hs=>((X r p).1 s hs).1
  let Z:=M20.yE (T:=TT) (wy:=wy j) (N:=@TT) zG n;let Hc:=M20.DQ v hc
  let rB:@(M20.qN TT (wy j) @TT rules n)<=5000:=by
   have:@(M20.qN TT (wy j) @TT rules n)<=@(M20.oS @TT n):=by rw[Z];rwa[anN β]
   ext
  let U:∀h∈M20.qN TT (wy j) @TT rules n,@h=n/\∀x∈h,x<@TT:=λh hh=>by rw[Z]at hh;rwa[M20.oT (anA.mp hh).1]
  erw[l,2,{_,az.of f1}]
  classical
  rwa[JB (λu=>decide (∃h,u=bX h/\NB TT j h)) f1 f2 ([amE]▸rB) (λH3 r u R s3 hu p hR=>?_) (λH3 r R hR=>{12,hR}) (λD H3 qs s3 hD hdt=>?_)]
  .let[h,hh,Τ]:=anm.mp hu;let[RG,A8]:=U h hh;rwa[1212,x,r,I,fl,fs,TT,L,j,h,2,s3^hx2,g,c,hF2.Δ s3,O,G,p,A8,3,λF H4 s4 hC=>{125}]
   let e:decide (@F=@TT)=decide (∃h',bX h=bX h'/\NB TT j h'):=by rw[apQ];rwa[λq=>{h,2,F,hC,q},λζ=>?_];let[h',e,F',Y,q]:=ζ;rw[<-Fq e]at Y;rw[Vw hC Y];rwa[q]
   rw[e];rwa[hR H4 s4]
  .let S:au H3 (υ H3 D (.Ε (qs.Α V.Η))):=au.υ hD;rwa[k j D β ((s2.π s3).π S) G {qs,aj,(QX hdt).Δ S} λh=>?_]
   rw[anA,decide_eq_true_eq];rwa[and_congr_right λ_=>{λζ=>?_,λq=>{h,2,q}}];let[h',e,q]:=ζ;rwa[[Fq e]▸q]
inductive Ht (vs:Zb)(H:Hp)(Q:VK)(E_:XK):ν
 |mk (fa sa wa:Zs)(T F Im:Za3)(L:η):vs=[?fa,?sa,?wa]->TabAt H fa T->M11.Tab L T->M12.Fc (2* L) T.flatten @T->TabAt H sa F->M11.Tab L F->bz H wa Im->@Im=L->(∀u∈Im,M11.aH L u/\@u<=300)->(∀k,k<L->∃j,j<@T/\∀u,M11.aH L u->M11.walk T u 0=j->M11.walk F (M18.fill Im u) 0=M11.nx F (2* k) 0)->(∀(l:Zs)(X:Za3)(H':Hp),au H H'->bz H' l X->@X=L->(∀k w,X[k]?\w->M11.aH L w/\@w<=300/\M11.walk F ġ 0=M11.nx F (2* k) 0)->Q ?l H')->Ht vs H Q E_
structure WB (H0 H:Hp)(d:Zs)(ps:Zn)(g:η->η)(n:η)(kvs:θ (Key×V)):ν where
 s:au H0 H
 d:H d\(.dK kvs)
 l:@kvs<=n
 a:∀(z:ο) v,bG kvs ϧ\v->∃i p,i<n/\ps[i]?\p/\v=?p/\z=(g i:ο)
 b:∀i,i<n->∃v,bG kvs (Sum.ψ (g i:ο))\v
def qk {Im:Za3}{w:Zg}(c:∀u∈Im,M11.aH n u)(e:M11.aH @Im w):M11.aH n ġ:=λs a=>by
 let[z,d,a]:=anS.mp a;let d:=e z d
 let b:Im.Λ (z.natAbs - 1) []∈Im:=by rw[amH,amB (show z.natAbs - 1<@Im by omega)];rwa[aph _]
 unfold M18.ji at a;split at a
 .rwa[c _ b s a]
 .rwa[M11.eX (c _ b) s a]
theorem oi {H:Hp}:∀{ys:Zb}{P:η->Zg->ν},(∀(i:η)(v:V),ys[i]?\v->∃p w,v=?p/\H p\.Θ (ao w)/\P i w)->∃a b,ys=a.Α V.Η/\bO H a b/\∀i w,b[i]?\w->P i w
 |[],_,_=>{[],[],2,{2,(λi p w e=>by simp at e)},λi w e=>by simp at e}
 |y::ys,P,h=>by
  let[a,b,Τ,f,j]:=oi (ys:=ys) (P:=λi=>P (i+ 1)) λi v e=>h (i+ 1) v (by simpa using e)
  let[p,w,Τ,g,k]:=h 0 y rfl;rwa[p::a,w::b,2,{by rw[amT,amT,f.1],λi q u c d=>?_},λi u e=>?_]
  .cases i with
   |zero=>ext c;ext d;rwa[g]
   |succ i=>exact f.2 i q u (by simpa using c) (by simpa using d)
  .cases i with
   |zero=>ext e;rwa[k]
   |succ i=>exact j i u (by simpa using e)
def Ft:T.ux.Ok P w base 3 Ht:=by
 rwa[T.ux.on lA (λb9 AA outer s H vs Q E S h=>?_)]
 .let[fa,sa,wa,TT,F,Im,L,Τ,zE,hT,hFc,hSa,hF,hIa,TF,hIo,afw,k]:=h;let Y:=iZ S
  erw[_,{{bH 3 lA.nd eK,bU am5 Τ (cD (pc T.k6 (ny T) S #[0])) (du 4 lA.nd)
    {{jx Y (pv 3) (pc T.led (Nu T) S #[1,ak,pc T.uv (Fp T) S #[4,2]]) (pv 4) Τ}},bH 5 lA.nd (aK dF ((1|||ak)<<<0) ak),bf (eP (fns:=[Ķ,"second"]) (ixs:=[3,1]) (cl:=_) Τ (mG Τ T.fE #[ak,aK cZ (pv 5) ak]) (b0 [(_,_),(_,_)] Τ {2222222222,True.intro} Τ) (λC s H ex=>(lO Y (pv 1) (pc T.led (Nu T) S #[2,ak,bA #[0]]) (λ_ _=>rfl))))}}]
  rwa[gH ?_];intro jn dA eD;let xZ:=hT.top;let h40:=hT.Ae;let alh:=hF.top;let l:=hF.pos;rwa[λd hd=>?_]
  generalize e_:υ H d _=H0;let[s0,h0]:=cW e_ hd;rwa[12,fa,TT,L,2,zE.Δ s0,hT,hFc,λlw ws H1 s1 nlw EJ O=>?_];let[M,N,Hu]:=EJ;let jZ:@M=@TT:=by have:=Hu.1;rw[amE,O.lw.1]at ω;rwa[ω]
  let Hr:=s0.π s1
  let at_:∀{i p},M[i]?\p->∃u,ws[i]?\u/\H1 p\.Θ (ao (wd u))/\M11.aH L (wd u)/\M11.walk TT (wd u) 0=i/\@(wd u)<=300:=λ{i p} h=>by
   let J:i<@ws:=by have:=(amF.mp h).1;rw[O.lw.1];ext
   let e:ws[i]?=ι ws[i]:=amB J
   let[a1,a2,a3]:=O.ok i _ e;rwa[_,e,Hu.2 i p _ h (by rw[amQ,e];rfl),pL a1,a2,[zD]▸a3]
  let stI:∀u∈Im,M11.aH L u:=λu R=>(hIo u R).1
  obtain⟨g,hg⟩:∃g:η->η,∀i u,ws[i]?\u->g i=M11.walk F (M18.fill Im (wd u)) 0:={λi=>M11.walk F (M18.fill Im (wd (ws.Λ i []))) 0,λi u h=>by show M11.walk F (M18.fill Im (wd (ws.Λ i []))) 0=_;rw[amH,h];rfl}
  let hda:∀{G:Hp}{b:Zs}{xs:Zb}{c:θ (Key×V)},G b\.Θ xs->G d\.dK c->b≠d:=λU e2=>bF U e2 f!""
  erw[lw,2,{_,az.of N}];let nd1:H d=ε:=hd
  let' jo:η->St->Hp->ν:=λn σ G=>∃(c:θ (Key×V))(v4:Zc),σ=#v[?fa,?sa,?wa,?d,v4,ε]/\(∀b o,b≠d->H1 b\o->G b\o)/\WB H G d M g n c
  refine cS (xs:=M.Α V.Η) jo
   {[],ε,2,λ_ _ _ e=>e,Hr,s1^h0,amK _,(λz v e=>by ext e),λi J=>∅} (λn σ G _ ζ=>by let[_,_,_,f,_]:=ζ;rwa[az.of (f β (bF N (s1^h0) f!"") N)]) ?_ ?_
  .rintro n y σ G hn ⟨c,v4,Τ,f2,a⟩;dsimp only[cU];rwa[bV ?_];intro ic;rw[amQ]at hn
   obtain⟨p,hp,rfl⟩:∃p,M[n]?\p/\y=?p:=by
    cases e:M[n]? with
    |ε=>rw[e]at hn;ext hn
    |ι p=>rw[e]at hn;rwa[p,2,(Za0 hn).Β]
   let wx:=(amF.mp hp).1;let[u,R,TR,B,hwk,Yb]:=at_ hp;let MJ:=f2 β (hda TR (s1^h0)) TR;let hw2:bz G wa Im:=hIa.Δ a.s;rwa[1212121212,p,wa,wd u,Im,2,MJ,hw2,[TF]▸B,3,λu R=>(hIo u R).2,3,λq H3 m h3=>?_];let stf:=qk stI (by rw[TF];rwa[B]:M11.aH @Im (wd u));erw[sa,q,F,L,(0),M18.fill Im (wd u),2,(hSa.Δ a.s).Δ m,hF,l,h3,stf];let U:M11.walk F (M18.fill Im (wd u)) 0=g n:=(hg n u R).Β;rw[U];let wC:=m^a.d;erw[d,12,lL.k (k:=Sum.ψ ((g n:η):ο)) wC (amS (show @c<=300 by have:=a.l;omega) ⋯)];rwa[112,λb o n1 e=>[aq n1]▸m^f2 b o n1 e,λb o e=>[aq (ax e nd1)]▸m^a.s b o e,aj,amM (gE^_) (aqp a.l),λz v e=>?_,λi J=>?_]
   .rw[fJ]at e;split at e
    .rename_i q;injection q with q
     rwa[n,p,3,hp,(Za0 e).Β,q]
    .let[i,p',h1,h2]:=a.a z v e;rwa[i,p',3,h2]
   .rw[fJ];split
    .rwa[12]
    .rename_i q;cases To:i=n
     .rwa[absurd (by rw[To]) q]
     .rwa[a.b i ∅]
  .rintro σ G ⟨c,v4,Τ,f2,a⟩;rw[amE,jZ]at a;let hS2:=hSa.Δ a.s;let[rs,r0,Jy,g1,g2,g3,g4,g5]:=kK hS2 hF l;let eL:(@(ao Jy):ο) / 2=(L:ο):=by rw[aD,g4];ext
   erw[12,sa,11,?r0,22,az.of g1,bW (i:=0) g2,r0,12,.ψ (az.of g3),1122,{44}];rw[eL];erw[121122,(1),(L:ο)+ 1,2,{3333}];rw[show ((L:ο)+ 1 - 1).toNat=L by ext];rwa[jf L (λi=>.τ (1+ (i:ο))) (λH v i=>∃p w,v=?p/\H p\.Θ (ao w)/\M11.aH L w/\@w<=300/\M11.walk F ġ 0=M11.nx F (2* i) 0) (λ_ _ v i sm ζ=>by let[p,w,e,h,r]:=ζ;rwa[p,w,e,sm^h,r]) (amM (show L<=100 by omega) ⋯) (λi H3 _ J=>J) (λi x H3 H4 _ J y=>?_) (λH3 _=>amK _) (λi H3 Rr J m kk=>?_) (λD H3 ys m nD Hv S=>?_)]
   .let[U,e2]:=y
    first|rwa[U,e2]|rwa[e2,U]
   .let Y6:M11.aH L [1+ (i:ο)]:=λt ht=>by rw[amI.mp ht];rwa[33]
    rwa[121212,Za4 1,λq hq=>?_];let sq:=au.υ (o:=.Θ [.τ (1+ (i:ο))]) hq;erw[sa,q,F,L,(0),[1+ (i:ο)],2,(hS2.Δ m).Δ sq,hF,l,aj,Y6]
    let ew:M11.walk F [1+ (i:ο)] 0=M11.nx F (2* i) 0:=by
     show M11.nx F (M11.pl _) 0=_
     congr 1
     unfold M11.pl;rw[am1 ∅];ext
    rw[ew];let[j,hj,hjw]:=afw i J;obtain⟨p,hp⟩:∃p,M[j]?\p:={_,amB ∅}
    let[u,R,_,B,hwk,_]:=at_ hp;let gj:g j=M11.nx F (2* i) 0:=(hg j u R).π (hjw _ B hwk);let[v,hv]:=a.b j hj;rw[gj]at hv;let[i',p',h1,h2,Τ,h4]:=a.a _ v hv;let[u',hu',I,afx,_,Z]:=at_ h2;let hp3:=sq^(m^(f2 β (hda I (s1^h0)) I));let dg:=dB.k (k:=Sum.ψ ((M11.nx F (2* i) 0:η):ο)) (sq^m^a.d);rw[hv]at dg;rwa[d,12,dg,kk β sq {p',wd u',2,hp3,afx,Z,by rw[<-hg i' u' hu'];ext}]
   .let[qs,X,Τ,hX,hP]:=oi (P:=λi w=>M11.aH L w/\@w<=300/\M11.walk F ġ 0=M11.nx F (2* i) 0) S;let sD:=au.υ (o:=.Ε (qs.Α V.Η)) nD;rwa[k D X _ ((a.s.π m).π sD) {qs,aj,hX.Δ sD} (by rw[<-hX.1,<-Hv,amE]) hP]
theorem sub_len:∀{l m:Zh},l.Nodup->(∀x∈l,x∈m)->@l<=@m
 |[],m,_,_=>ani _
 |a::l,m,h,s=>by
  let[e,d]:=anq.mp h;let b:=s a amR;have:=sub_len (m:=m.erase a) d λx c=>(θ.mem_erase_of_ne (λz=>e (by rw[<-z];rwa[c]))).mpr (s x (amZ _ c))
  rw[aoE b]at ω;have:=θ.length_pos_of_mem b;rw[amT];ext
def aaF {l:Zh}{f:η->η}(b:l.Nodup)(c:∀x∈l,f x∈l)(inj:∀x y,x∈l->y∈l->f x=f y->x=y){y:η}(g:y∈l):∃x∈l,f x=y:=by
 rwa[anY λno=>?_]
 let h:(l.Α f).Nodup:=aor.mpr (ao8 (λd i n e=>n (inj β d i e)) b)
 have:=sub_len (l:=y::l.Α f) (m:=l) (anq.mpr {λq=>no (by let[x,a,e]:=anm.mp q;rwa[x,a,e]),h}) λx a=>by
  rcases amW.mp a with rfl|a
  .rwa[g]
  .let[z,j,Τ]:=anm.mp a;rwa[c z j]
 rw[amT,amE]at ω;ext
theorem Hw:∀{n:η}{h:Zh},@h=n->(∀x∈h,x<m)->h∈M20.oS m n
 |0,h,e,_=>by rw[θ.length_eq_zero_iff.mp e];rwa[amI.mpr Τ]
 |n+ 1,h,e,a=>by
  let b:h≠[]:=λz=>by rw[z]at e;ext e
  let eq:=aos b;rw[<-eq];rwa[anS.mpr {h.dropLast,Hw (by rw[θ.length_dropLast,e];rfl) λx c=>a x (θ.dropLast_subset _ c),anm.mpr {_,anj.mpr (a _ (θ.getLast_mem b)),2}}]
def acb:∀r,r<=16->∀n,n<=3->M20.cap r n<=5000:=⋯
def hW (a:é)(h:Zh)(k:η):Zg:=(h.Α (wy a)).Λ k []
def vx {a:é}{k r:η}(e:B[k]?\r):hW a B k=wy a r:=by unfold hW;rw[amH,amQ,e];rfl
def Fu {T:Za3}{a:é}(lw:LW n T a){r:η}(d:r<@T):M11.aH n (wy a r)/\M11.walk T (wy a r) 0=r/\@(wy a r)<=300:=by
 let e:a[r]?\(a[r]'([lw.lw.1]▸d)):=amB _
 let[b,c,f]:=lw.ok r _ e;unfold wy;rw[amH,e];rwa[pL b,c,[zD]▸f]
section
variable {L N:Nat}{A B F:Za3}{ws:List Zh}{h:Zh}
def JC {T:Za3}(b:LW L T ws)(d:@h=L)(a:∀x∈h,x<@T):i9 L (hW ws h):=λk c=>by
 let e:h[k]?\(h[k]'∅):=amB _
 rw[vx e];rwa[(Fu b (a _ (aph _))).1]
def ND {T:Za3}(c:∀r∈A,M11.aH L r):h∈M20.qN T (wy ws) @T A L↔(@h=L/\∀x∈h,x<@T)/\∀r∈A,M11.walk T (M16.fill į r) 0=0:=by
 rw[M20.yE (λr a s b=>(c r a s b).1),anA];rwa[and_congr {λq=>M20.oT q,λq=>Hw q.1 q.2} ?_];unfold M20.ok;rw[apR];rwa[forall_congr' λr=>forall_congr' λa=>?_]
 let d:M20.gl r<=L:=(M20.Cr r L).mpr λs b=>(c r a s b).2
 rw[anh d];rwa[anU]
def Hx (f:FT B [] L N F)(O:LW L F ws)(E:@h=L)(S:∀x∈h,x<@F):NB F ws h↔∀i,i<N->∃u,M11.aH L u/\M11.walk F (M16.fill į u) 0=i:=by
 let d:=JC O E S
 let fwd:∀{i j},Rh F ws h i j->∃k,k<L/\j=M11.walk F (hW ws h k) i:=λ{i j} ζ=>by
  let[r,T,e]:=ζ
  let[k,b]:=ant T;rwa[k,by rw[<-E];rwa[(amF.mp b).1],[vx b]▸e]
 let bwd:∀{i k},k<L->Rh F ws h i (M11.walk F (hW ws h k) i):=λ{i k} b=>by
  let e:h[k]?\(h[k]'∅):=amB _
  rwa[_,aph _,by rw[vx e]]
 let one:∀{k},k<L->M16.fill į (ju k)=hW ws h k:=λ{k} b=>by unfold ju;rw[M16.fk];unfold im;rw[am1 ∅];congr 1
 constructor
 .rintro ⟨G,C,e⟩ i V
  let lt:∀x∈G,x<N:=C.mn (·< N) f.pos λx y c r=>by let[k,b,Τ]:=fwd r;rwa[f.lt (d k b) c]
  let o:i∈G:=anY λno=>by
   have:=M11.et N (i::G) (anq.mpr {no,C.nd}) λx c=>by
    rcases amW.mp c with rfl|c
    .rwa[V]
    .rwa[lt x c]
   rw[amT,e,f.n]at ω;ext
  rwa[C.mn (λx=>∃u,M11.aH L u/\M11.walk F (M16.fill į u) 0=x) ⟨[],(λ_ z=>by ext z),2⟩ (λx y ζ r=>?_) i o];let[u,v,c]:=ζ;let[k,b,Τ]:=fwd r;rwa[u++ju k,jr v (j1 L k b),by rw[M16.dD,M11.gJ,c,one b]]
 .intro a;rwa[θ.range N,{apg,anj.mpr f.pos,λx c y r=>?_,λP J H x c=>?_},by rw[anp,f.n]]
  .let[k,b,Τ]:=fwd r;rwa[anj.mpr (f.lt (d k b) (anj.mp c))]
  .let[u,v,Τ]:=a x (anj.mp c)
   classical
   let t:∀(u:Zg)(p:η),M11.aH L u->p<N->P p->P (M11.walk F (M16.fill į u) p):=λu=>by
    induction u with
    |nil=>exact λ_ _ _ n=>n
    |cons s u X=>
     intro p U n g;let[Q,I]:=dX U;rw[show s::u=[s]++u from rfl,M16.dD,M16.fk,M11.gJ];rwa[X _ I (f.lt (zI d Q) n) ?_];unfold im;let b:s.natAbs - 1<L:=∅
     split
     .rwa[H β g (bwd b)]
     .let q:=aaF (l:=(~~~N).filter λx=>decide (P x)) (f:=M11.walk F (hW ws h (s.natAbs - 1))) (apg.filter _) (λx c=>by
       let[m,D]:=anA.mp c
       rwa[anA.mpr {anj.mpr (f.lt (d _ b) (anj.mp m)),anh (H β (ane D) (bwd b))}]) (λx y c R e=>by let m:=anj.mp (anA.mp c).1;let M:=anj.mp (anA.mp R).1;rw[<-(f.bk (d _ b) m).1,e,(f.bk (d _ b) M).1]) (y:=p) (anA.mpr {anj.mpr n,anh g})
      let[x,c,Τ]:=q;let[m,D]:=anA.mp c;rw[(f.bk (d _ b) (anj.mp m)).1];rwa[ane D]
   rwa[t u 0 v f.pos J]
def Vx {U V:η->Zg}(t:Tz L A B U V)(f:FT B [] L N F)(g:LW L F ws):∃h,h∈M20.qN F (wy ws) @F A L/\NB F ws h:=by
 let lt:∀k,k<L->M11.walk F (U k) 0<@F:=λk c=>by rw[f.n];rwa[f.lt (t.u k c) f.pos]
 let d:@((~~~L).Α λk=>M11.walk F (U k) 0)=L:=by rw[amE,anp]
 let i:∀x∈(~~~L).Α λk=>M11.walk F (U k) 0,x<@F:=λx j=>by let[k,c,Τ]:=anm.mp j;rwa[lt k (anj.mp c)]
 let[a,b]:=t.home f (JC g d i) λk c=>by
  let e:((~~~L).Α λk=>M11.walk F (U k) 0)[k]?\(M11.walk F (U k) 0):=by rw[amQ,an3 c];rfl
  rw[vx e];rwa[(Fu g (lt k c)).2.1]
 rwa[_,(ND t.sa).mpr {{d,i},a},(Hx f g d i).mpr b]
end
def FE (b:Za3)(L a:η):ν:=∃S,Fl b [] L a S/\∀c z,¬fh S L c z
def FE.no {rs:Za3}(h:FE rs n m)(a:∀u∈rs++[],∀z∈u,z∈bE (2* n)/\-z∈bE (2* n))(i:1<=m)(f:Fl rs [] n m S)(e:S.q=m){c:η}{z:ο}(g:fh S n c z):False:=by let[F,b,d]:=h;let k:=b.most a d f;let j:=(b.mL a i).1;rwa[d c z (((f.one a b ∅).1 c z).mp g)]
def TV (A B:Za3)(L:η)(W X:Za3):ν:=∀T N F M,FT A [] L N T->FT B [] L M F->(∀w∈A,M11.walk F (M18.fill W w) 0=0)/\(∀k,k<L->M11.walk T (M18.fill X (W.Λ k [])) 0=M11.nx T (2* k) 0)/\(∀w∈B,M11.walk T (M18.fill X w) 0=0)/\∀k,k<L->M11.walk F (M18.fill W (X.Λ k [])) 0=M11.nx F (2* k) 0
def FT.to {rs j T F:Za3}(f:FT rs [] n m T)(g:FT rs j n i F){u v:Zg}(k:M11.aH n u)(l:M11.aH n v)(e:M11.walk T u 0=M11.walk T v 0):M11.walk F u 0=M11.walk F v 0:=by let[c,d,h]:=f.go (g.mv [] g.pos λ_ z=>by ext z);let b:=h u 0 k f.pos;let a:=h v 0 l f.pos;rw[d]at b a;rwa[b.Β.π ((an7 c e).π a)]
def gD (X:Za3)(k:η):Zg:=X.Λ k []
def JD {X:Za3}(b:@X=n)(h:∀u∈X,M11.aH n u):i9 n (gD X):=λk a=>by unfold gD;rw[amH,amB ∅];rwa[h _ (aph _)]
def Vy {A B T F d X:Za3}(f:FT A [] n m T)(g:FT B [] n m F)(hW:i9 n (gD d))(h:i9 n (gD X))(l:∀w∈A,M11.walk F (M16.fill (im (gD d)) w) 0=0)(s:∀i,i<m->∃u,M11.aH n u/\M11.walk F (M16.fill (im (gD d)) u) 0=i)(r:∀k,k<n->M11.walk F (M16.fill (im (gD d)) (gD X k)) 0=M11.nx F (2* k) 0):TV A B n d X:=by
 intro y x v t q o;let[a,b]:=(Nz (X:=gD X) f g hW l s).2 h r;let j:∀(T:Za3) k,M11.nx T (2* k) 0=M11.walk T (ju k) 0:=λT k=>(rD _ k 0).Β
 let z:∀(T:Za3),M11.walk T [] 0=0:=λ_=>rfl
 let p:M11.aH n []:=λ_ z=>by ext z
 rwa[λw e=>?_,λk c=>?_,λw e=>?_,λk c=>?_]
 .rwa[g.to o (iH hW (f.s w (amV _ e))) p (l w e)]
 .rw[j];rwa[f.to q (jM h hW k c) (j1 n k c) (by rw[<-j];rwa[b k c])]
 .rwa[f.to q (iH h (g.s w (amV _ e))) p (a w e)]
 .rw[j];rwa[g.to o (jM hW h k c) (j1 n k c) (by rw[<-j];rwa[r k c])]
theorem uR {b c:Type}{f g:b->θ c}:∀{l:θ b},(∀x∈l,f x=g x)->l.flatMap f=l.flatMap g
 |[],_=>rfl
 |a::l,h=>by rw[aoz,aoz,h a amR,uR λx d=>h x (amZ _ d)]
inductive TX (vs:Zb)(H:Hp)(Q:VK)(E_:XK):ν
 |mk (o1 o2 r1 r2:Zs)(L lim:η)(A B:Za3)(U V:η->Zg):vs=[?o1,?o2,.τ lim]->H o1\.Θ [.τ L,?r1]->H o2\.Θ [.τ L,?r2]->bz H r1 A->bz H r2 B->1<=L->L<=3->1<=lim->lim<=16->@A<=40->@B<=40->(∀u∈A++B,@u<=300)->FE A L lim->FE B L lim->Tz L A B U V->(∀(q f b:Zs)(W X:Za3)(H':Hp),au H H'->H' q\.Θ [.str (tx [107,105,110]),?f,?b]->bz H' f W->bz H' b X->@W=L->@X=L->(∀u∈W++X,M11.aH L u/\@u<=300)->TV A B L W X->Q ?q H')->TX vs H Q E_
def aaG:T.pP.Ok P w base 12 TX:=by
 rwa[T.pP.on q9 (λb9 AA outer s H vs Q E I h=>?_)]
 .let[o1,o2,r1,r2,L,lim,A_,B_,U,V_,Τ,ho1,MY,hA,hB,O,TY,g,aaI,hAl,hBl,hlen,eA,eB,tz,k]:=h;let[tkd,hbd]:=T.fill.bd
  erw[_,{{bH 3 q9.nd ((u6 (dvs:=[V.str (tx [114,111,111,109,115])]) (AF T) (I.mono ⋯) Τ T.fill.m T.fill.kp hbd (.cons {12} .nil) jV #[0&&&ak,0&&&ak,bN ah,2])&&&ak),bH 4 q9.nd ((u6 (dvs:=[V.str (tx [114,111,111,109,115])]) (AF T) (I.mono ⋯) Τ T.fill.m T.fill.kp hbd (.cons {12} .nil) jV #[1&&&ak,1&&&ak,bN ah,2])&&&ak),bI (aX j3 (3<<<0) (4<<<0) (bh _))
    {{bf (bA #[fD (l:=[114,111,111,109,115]) Τ,3<<<0,4<<<0])}}
    bp,bH 5 q9.nd (pc T.nV (tm T) I #[0,4]),bI (aX dI (5<<<0) ak (bh _))
    {{bf (bA #[fD (l:=[111,110,116,111]) Τ,ak,(pc T.nV (tm T) I #[1,4])<<<0])}}
    bp,bH 6 q9.nd (pc T.k6 (ny T) I #[4]),mw (iy:=7) q9.nd Τ ź (fns:=[Ķ]) (ixs:=[6]) (cl:=_) Τ (cD (5|||ak)) (b0 [(_,_)] Τ ⟨22222,True.intro⟩ Τ) (λC s H ex=>(aU (j9 (K:=K) Τ) (pv 1) (pv 0) (λ_ _=>rfl))),bf (bA #[fD (l:=[107,105,110]) Τ,7,pc T.ux (Ft T) I #[3,4,7]])}}]
  rwa[xi ?_];intro By zo rn pG jn dA eD
  let zJ:∀u∈A_++[],E5 L u:=λu b=>by rw[am9]at b;rwa[amM (hlen u (amV _ b)) ⋯,tz.sa u b]
  let okB:∀u∈B_++[],E5 L u:=λu b=>by rw[am9]at b;rwa[amM (hlen u (amN _ b)) ⋯,tz.sb u b]
  let wkA:∀u∈A_++[],∀z∈u,z∈bE (2* L)/\-z∈bE (2* L):=λu b z hz=>((pK ∅ (zJ u b)).2 z hz).2
  let wkB:∀u∈B_++[],∀z∈u,z∈bE (2* L)/\-z∈bE (2* L):=λu b z hz=>((pK ∅ (okB u b)).2 z hz).2
  let hmA:=apO aaI hAl;let hmB:=apO aaI hBl;rwa[12,o1,11122,bD.of ho1,212,o1,11122,bD.of ho1,2,ani _,λY ne1=>{125}];let s1:=au.υ (o:=.Ε []) ne1;let we1:bz (υ H Y (.Ε [])) Y []:={[],aj,2,λi p w h=>by simp at h};change υ H Y _=H1 at s1 we1 ⊢;rwa[r1,Y,L,lim,A_,[],2,O,3,g,3,hA.Δ s1,we1,zJ,by simp only[ank];ext,3,ani _,λt1 tb pp1 S1 N1 H2 s2 fl1 hn1 SV m hN1 _=>?_,λd pp S H2 _ fl em ζ _ _=>by let[c,z,hg]:=ζ;rwa[eA.no wkA g fl em hg]];let[hm1,eL1]:=fl1.mL wkA g;rw[eL1]at m hN1;let[ali,f]:=fl1.ft wkA hn1 ∅ O ∅ hN1;change M24.fY (bP S1) (2* L) (M24.bC (bP S1) (2* L) 0 N1)=T1 at m f;erw[t1,11122,bD.of SV,2];let G:=s1.π s2;clear hN1 SV s1 we1 ne1;rwa[12,o2,11122,bD.of (G^MY),212,o2,11122,bD.of (G^MY),2,ani _,λJ ne2=>{125}];let s3:=au.υ (o:=.Ε []) ne2;let we2:bz (υ H2 J (.Ε [])) J []:={[],aj,2,λi p w h=>by simp at h};change υ H2 J _=H3 at s3 we2 ⊢;rwa[r2,J,L,lim,B_,[],2,O,3,g,3,hB.Δ (G.π s3),we2,okB,by simp only[ank];ext,3,ani _,λt2 sb pp2 S2 N2 H4 B fl2 S8 SN n hN2 _=>?_,λd pp S H2 _ fl em ζ _ _=>by let[c,z,hg]:=ζ;rwa[eB.no wkB g fl em hg]];let[G4,eL2]:=fl2.mL wkB g;rw[eL2]at n hN2;let[alj,a]:=fl2.ft wkB S8 ∅ O ∅ hN2;change M24.fY (bP S2) (2* L) (M24.bC (bP S2) (2* L) 0 N2)=T2 at n a;erw[t2,11122,bD.of SN,2];let s24:=s3.π B;let s04:=G.π s24;replace m:=m.Δ s24;clear hN2 SN s3 B we2 ne2 s24 G;obtain rfl:N1=N2:=tz.eq f a;let[x1,hx1,hy1]:=id m;let[x2,hx2,hy2]:=id n;let YW:@(x1.Α V.Η)=N1:=by rw[amE,hy1.1,f.n]
  let el2:@(x2.Α V.Η)=N1:=by rw[amE,hy2.1,a.n]
  rwa[12,tb,12,.ψ (az.of hx1),12,sb,12,.ψ (az.of hx2),212,nM (by rw[YW,el2]) ?_];rwa[1212,o1,sb,r1,T2,L,L,A_,2,s04^ho1,hA.Δ s04,n,a.t,a.f,3,acb _ (by rw[a.n];omega) _ TY,3,λr I=>{tz.sa r I,amM (hlen r (amV _ I)) ⋯},λws lf hs H5 s5 lw BG t=>?_];let[h0,Tf,aaR]:=Vx tz a lw;let aaS:=(t h0).mpr {Tf,aaR}
  obtain⟨h,F,rfl⟩:∃h F,hs=h::F:=by
   cases hs with
   |nil=>ext aaS
   |cons h F=>rwa[h,F,2]
  let[Tn,hon]:=(t h).mp amR;clear aaS Tf aaR t;let[⟨TN,R⟩,hgd]:=(ND tz.sa).mp Tn;let aau:=(Hx a lw TN R).mp hon;let stW:=JC lw TN R;let[bZ,hf1,MT]:=id BG;let alk:@bZ=@F+ 1:=by have:=MT.1;rw[amE]at ω;rwa[ω]
  obtain⟨p0,BM⟩:∃p0,bZ[0]?\p0:={_,amB ∅}
  let zG:H5 p0\(.Ε (ao (bX h))):=MT.2 0 p0 _ BM rfl;rwa[12,lf,12,.ψ (az.of hf1),212,cw (λq=>?_) (λ_=>?_)]
  .let q:=ane q;injection q with q
   rw[amE]at q;ext
  let Z:=n.Δ s5;rwa[12,sb,T2,L,2,Z,a.t,a.f,λwl ws2 H6 s6 n6 EJ lw2=>?_];obtain rfl:ws=ws2:=Y9 a.t a.f lw.lw lw2.lw;clear lw2;let[wps,pI,Nh]:=EJ;let afn:@wps=@T2:=by have:=Nh.1;rw[amE,lw.lw.1]at ω;rwa[ω]
  let N:=s6^zG;let Y2:@(ao (bX h))=L:=by rw[aD,ki,TN]
  erw[12,lf,11,?p0,22,az.of (s6^hf1),bW (i:=0) BM,p0,2,{_,az.of N}];rwa[jf L (λi=>(ao (bX h)).Λ i .non) (λH v i=>∃p w,v=?p/\H p\.Θ (ao w)/\w=hW ws h i) (λ_ _ v i sm ζ=>by let[p,w,e,hp,r]:=ζ;rwa[p,w,e,sm^hp,r]) (amM (show L<=100 by omega) ⋯) (λi H4 B M=>iL (az.of (B^N)) i ∅) (λi x H4 H5 B M y=>?_) (λH4 B=>by have:=fi (az.of (K:=K) (B^N));rw[Y2]at ω;rwa[ω]) (λi H4 Rr M B kk=>?_) (λD H7 ys s7 nD Hv I=>?_)]
  .let[Y,J]:=gb (az.of (B^N)) i x H5 ∅ y;rwa[Y,by rw[amH,J];rfl]
  .let e:h[i]?\(h[i]'∅):=amB _
   let hx:=R _ Ÿ;change h[i]'∅=r at e hx;let J:(ao (bX h)).Λ i .non=.τ (r:ο):=by rw[amH,bT (x3 e)];rfl
   rw[J];obtain⟨q,hq⟩:∃q,wps[r]?\q:={_,amB ∅}
   let eu:ws[r]?\(ws[r]'([lw.lw.1]▸hx)):=amB _
   let hqq:=Nh.2 r q _ hq (by rw[amQ,eu];rfl);rwa[1212,wl,11,?q,22,az.of (B^pI),bW hq,kk β (au.refl _) {q,12,B^hqq,5}];rw[vx e];unfold wy;rw[amH,eu];rfl
  .let[Nr,W,Τ,hW1,hW2]:=oi (P:=λi w=>w=hW ws h i) I;let hWl:@W=L:=by rw[<-hW1.1,<-Hv,amE]
   let s8:=au.υ (o:=.Ε (Nr.Α V.Η)) nD;let hD:bz (υ H7 D (.Ε (Nr.Α V.Η))) D W:={Nr,aj,hW1.Δ s8};change υ H7 D _=H8 at s8 hD ⊢;let Hy:=s6.π (s7.π s8)
   let gW:∀k,k<L->gD W k=hW ws h k:=λk hk=>by unfold gD;rw[amH,amB ∅];rwa[hW2 k _ (amB _)]
   let imE:∀{u:Zg},M11.aH L u->M16.fill (im (gD W)) u=M16.fill į u:=λ{u} b=>by
    unfold M16.fill;rwa[uR λz hz=>?_]
    have:=b z hz;unfold im;rw[gW _ ∅]
   let stD:i9 L (gD W):=λk hk=>by rw[gW k hk];rwa[stW k hk]
   let hWo:∀u∈W,M11.aH L u/\@u<=300:=λu b=>by
    let[i,M]:=ant b;let vW:=(amF.mp M).1;rw[hW2 i u M];let e:h[i]?\(h[i]'∅):=amB _
    rw[vx e];have:=Fu lw (R _ Ÿ);rwa[ω.1,ω.2.2]
   let RC:∀w∈A_,M11.walk T2 (M16.fill (im (gD W)) w) 0=0:=λw hw=>by rw[imE (tz.sa w hw)];rwa[hgd w hw]
   let C7:∀i,i<N1->∃u,M11.aH L u/\M11.walk T2 (M16.fill (im (gD W)) u) 0=i:=λi M=>by let[u,b,e]:=aau i M;rwa[u,b,[imE b]▸e]
   let sur:=(Nz (X:=gD W) f a stD RC C7).1;rwa[12121212,tb,sb,D,T1,T2,W,L,2,(m.Δ s5).Δ Hy,f.t,f.f,Z.Δ Hy,a.t,hD,hWl,hWo,λk hk=>?_,λbl X H9 s9 hX hXl hXo=>?_]
   .let lt:M11.nx T2 (2* k) 0<N1:=by have:=a.t.lt 0 (2* k) ([a.n]▸a.pos) ∅;rw[a.n]at ω;rwa[ω]
    let[j,hj,q]:=sur _ lt;rwa[j,[f.n]▸hj,q]
   rwa[Za4 3,λq hq=>?_];let s10:=au.υ (o:=.Θ [.str (tx [107,105,110]),?D,?bl]) hq
   let hXa:∀u∈X,M11.aH L u/\@u<=300:=λu b=>by let[i,M]:=ant b;rwa[(hXo i u M).1,(hXo i u M).2.1]
   let gX:∀k,k<L->∃w,X[k]?\w/\gD X k=w:=λk hk=>{_,amB ∅,by unfold gD;rw[amH,amB ∅];rfl}
   rwa[k q D bl W X _ (((s04.π s5).π Hy).π (s9.π s10)) aj ((hD.Δ s9).Δ s10) (hX.Δ s10) hWl hXl (λu b=>(amO.mp b).Κ (hWo u) (hXa u)) (Vy f a stD (JD hXl λu b=>(hXa u b).1) RC C7 λk hk=>?_)];let[w,Y,J]:=gX k hk;rw[J];rwa[(hXo k w Y).2.2]
def aaW:Sp:=λc H Q _=>∃(a:Zs)(ns:Zg),c=[?a]/\H a\.Θ (ao ns)/\@ns<=2000/\∀l b,au H b->b l\.Θ (ao ϣ)->Q ?l b
def aaX:V->V
 |.τ z=>.τ (0 - z)
 |v=>v
def uS:T.p9.Ok P w base 1 aaW:=by
 rwa[T.p9.on Em (λn v c s H u Q E B h=>?_) (len:=by rintro _ _ _ _ ⟨a,ns,Τ,_⟩;rfl)]
 .let[a,ns,Τ,r,hlen,k]:=h;erw[_,{{bf (cO fZ Τ T.jF anV #[eP (fns:=[]) (ixs:=[]) (cl:=[]) Τ (iK (Ki Uk (pv 0) iN iN (gT (fx dN ak)))) (b0 [] Τ True.intro Τ) (λC s H ex=>(aK fI ak (pv 0)))])}}];rwa[121212,a,12,r,222,λq j=>?_];let d:au H (υ H q (.Θ (ao ns).reverse)):=au.υ j;let b:υ H q (.Θ (ao ns).reverse) q\(.Θ (ao ns).reverse):=aj;change υ H q _=y at d b ⊢;let m:(ao ns).reverse.Ξ<=sizeLine:=by rw[aow,aD];rwa[amM hlen ⋯]
  erw[q,2,{_,bD.of b}];rwa[iq (ao ns).reverse aaX (CQ ŭ) (zR ŭ) (wU (bD.of (K:=K) b)) m (λi x f R t=>?_) (λD g=>?_)]
  .let[z,Τ,_]:=bR (ns:=ns.reverse) (by unfold ao at f ⊢;rw[apS];rwa[f]);rwa[121122,t]
  .rwa[D,12,.ψ {az.of aj,λl o=>?_}]
   let e:((ao ns).reverse.Α aaX)=ao ϣ:=by unfold ao M11.back;rw[<-apS,anu,anu];rwa[an4 λz _=>an7 V.τ (ο.zero_sub z)]
   rwa[k l _ ((d.π (au.υ g)).π (au.υ o)) (by rw[aj,e])]
inductive aaY (vs:Zb)(H:Hp)(Q:VK)(E_:XK):ν
 |mk (wa ia:Zs)(w:Zg)(Im:Za3):vs=[?wa,?ia]->H wa\.Θ (ao w)->bz H ia Im->M11.aH @Im w->@w<=300->(∀u∈Im,@u<=300)->@Im<=1000->(∀l H',au H H'->H' l\.Θ (ao ġ)->Q ?l H')->aaY vs H Q E_
def jR:T.hO.Ok P w base 2 aaY:=by
 rwa[T.hO.on fu (λb9 AA I s H vs Q E hr h=>?_)]
 .let[O,B,w,Im,Τ,g,F,G,pI,m,hIn,k]:=h
  refine{_,{{bH 2 fu.nd (bA ah),bU am5 Τ l3 (du 3 fu.nd)
    {{bL (bI (aX pR (pv 3) ak (bh _))
     {{bH 2 fu.nd (aK je (pv 2) (cO fZ Τ T.jF anV #[1|||(aK fI (pv 3) ak)]))}}
     {{bH 2 fu.nd (aK je (pv 2) (pc T.p9 (uS T) hr #[1|||(aK fI (aK fI ak (pv 3)) ak)]))}})}},bf (pv 2)}},?_}
  rwa[cF ?_];intro dA eD;let[v,r,o]:=id F;let jZ:@v=@Im:=o.1;rwa[ani _,λj L=>?_];let J:au H (υ H j (.Θ [])):=au.υ L;let R:υ H j (.Θ []) j\(.Θ (ao (M18.fill Im (w.take 0)))):=aj;change υ H j _=H0 at J R ⊢;erw[12,O,2,{_,bD.of (J^g)}]
  let' f:η->St->Hp->ν:=λn C c=>∃(q:Zs)(D:Zc),C=#v[?O,?B,?q,D]/\au H c/\c q\(.Θ (ao (M18.fill Im Ř)))
  rwa[cS (xs:=ao w) f {j,ε,2,J,R} (λn C c _ ζ=>by let[_,_,_,s,_]:=ζ;rwa[bD.of (s^g)]) ?_ ?_]
  .rintro n y C c hn ⟨q,D,Τ,s2,d⟩;dsimp only[cU];rwa[bV ?_];intro ic;let[z,Τ,b]:=bR hn;let hs:=G z ϙ;let wx:n<@w:=(amF.mp b).1;let u:Im[z.natAbs - 1]?\(Im[z.natAbs - 1]'∅):=amB ∅
   let x:v[z.natAbs - 1]?\(v[z.natAbs - 1]'∅):=amB ∅
   change Im[z.natAbs - 1]'∅=im at u;change v[z.natAbs - 1]'∅=t at x;let a:=s2^o.2 γ x u;let vW:=m im ϻ;let S:Im.Λ (z.natAbs - 1) []=im:=by rw[amH,u];rfl
   let i:=Fo (w:=w.take n) m;rw[anc]at i;let Y:@(M18.fill Im Ř)<=90000:=amM i (amM (apU 300 (show min n @w<=300 by omega)) ⋯);rwa[λ p N=>∃(q:Zs),p=#v[?O,?B,?q,.τ z]/\au H N/\N q\.Θ (ao (M18.fill Im (w.take (n+ 1)))),5,λ p N b=>by let[q,e,s,h]:=b;rwa[q,_,e,s,h]];rwa[12112212,cw (λh=>?_) (λh=>?_)]
   .let h:(0:ο)<z:=ane h;rwa[1212121122,B,11,?t,22,az.of (s2^r),([show z - 1=((z.natAbs - 1:η):ο) by ext]▸bW x),t,12,.Ζ ⟨bD.of a,5⟩];rwa[q,t,1122,d,a,[aD,aD]▸amM (show _<=100000 by omega) ⋯,λM H3 s3 U=>{M,2,s2.π s3,5}];rw[<-ints_app]at U;rw[U,qi b];unfold M18.ji;rw[am1 h,S]
   .let h:¬(0:ο)<z:=λq=>h (anh q)
    rwa[12121211221122,B,11,?t,22,az.of (s2^r),([show 0 - z - 1=((z.natAbs - 1:η):ο) by ext]▸bW x),t,im,2,a,3,λl H3 s3 h3=>?_];rwa[q,l,1122,s3^d,h3,[aD,aD,x9]▸amM (show _<=100000 by omega) ⋯,λM H4 Z X=>{M,2,s2.π (s3.π Z),5}];rw[<-ints_app]at X;rw[X,qi b];unfold M18.ji;rw[amY h,S]
  rintro C c ⟨q,D,Τ,s2,d⟩;rw[aD,anJ]at d;rwa[12,k q c s2 d]
inductive NF (vs:Zb)(H:Hp)(Q:VK)(E_:XK):ν
 |mk (a wa:Zs)(T:Za3)(L:η)(w:Zg):vs=[?a,?wa]->TabAt H a T->M11.Tab L T->H wa\.Θ (ao w)->M11.aH L w->Q (.τ ((M11.walk T w 0:η):ο)) H->NF vs H Q E_
def wF:T.sj.Ok P w base 1 NF:=by
 rwa[T.sj.on mD (λB O j s H N Q E S h=>?_)]
 .let[a,o,TT,L,u,Τ,x,tab,c,m,k]:=h
  refine{_,{{bH 2 mD.nd ak,bU am5 Τ (iK (pv 1)) (du 3 mD.nd)
    {{bH 2 mD.nd ((0|||2)|||(aK cZ (aK fI (aK jc ak (aY oC Τ T.zb aoW #[3])) ak) (cO Ks Τ T.Sl PyProof.Rows.boot_int #[zP nL (pv 3) ak (bh _)])))}},bf (pv 2)}},?_}
  rwa[cF ?_];intro J t;let F:=tab.pos;erw[12,o,2,{_,bD.of c}]
  let' b:η->St->Hp->ν:=λn d f=>∃v:Zc,d=#v[?a,?o,.τ ((M11.walk TT (u.take n) 0:η):ο),v]/\f=H
  rwa[cS (xs:=ao u) b {ε,22} (λi d f _ ζ=>by let[_,_,e]:=ζ;rwa[[e]▸bD.of c]) ?_ ?_]
  .rintro n y d f G ⟨v,Τ,rfl⟩;dsimp only[cU];rwa[bV ?_];intro M;let[z,Τ,l]:=bR G;let D:=m z (amD l);let[R,r,row,C,p,q,_,I]:=kK x tab (M11.iQ tab (sG n m) F)
   let g:2* (if z<0 then -z else z) - 2+ (if decide (z<0)=ρ then 1 else 0)=((M11.pl z:η):ο):=by
    unfold M11.pl;cases h:z<0
    .rw[am1 h,am1 (anh h),amY (show ¬ 0<z by omega)];ext
    .rw[amY h,amY (by rw[anG h];decide),am1 (show 0<z by omega)];ext
   erw[1212,a,11122,az.of C,bW p,12,z,21122,.ψ {44},1122121122121122];rw[g];erw[r,11122,az.of q,cG (bT (I _ (M11.gR D)))];rwa[_,by rw[uO l];rfl,2]
  rintro d f ⟨v,Τ,rfl⟩;rw[aD,anJ];rwa[12,k]
inductive Fv (vs:Zb)(H:Hp)(Q:VK)(E_:XK):ν
 |mk (ru:Zs)(L:η)(rs:Za3):vs=[.τ L,?ru]->1<=L->L<=40->bz H ru rs->(∀u∈rs,M11.aH L u/\@u<=1000)->@rs<=40->(∀H',au H H'->Q .non H')->(∀tb T N H',au H H'->TabAt H' tb T->FT rs [] L N T->FE rs L 16->Q ?tb H')->Fv vs H Q E_
def rE:T.mz.Ok P w base 12 Fv:=by
 rwa[T.mz.on jJ (λb9 AA y s H vs Q E hr h=>?_)]
 .let[M,L,c,Τ,b,Bx,C,j,ro,Y,Z]:=h;let[tkd,F]:=T.fill.bd
  erw[_,{{bH 2 jJ.nd dJ,bL (UY Τ Τ (UX (i:=2) jJ.nd Τ ź (Py (dvs:=[V.str (tx [114,111,111,109,115])]) (AF T) hr.Za5 Τ T.fill.m T.fill.kp F (.cons {12} .nil) #[0,1,bN ah,ak] (by decide) Τ Τ) Τ (by trivial))
    (XJ Τ T.Bv (λ_=>{{bH 2 jJ.nd dJ}})
    XG (by decide))),bI ğ
    {{bf dJ}}
    bp,bf (2&&&ak)}}]
  rwa[gH ?_];intro jn dA X;let ok:∀u∈c++[],E5 L u:=λu e=>by rw[am9]at e;rwa[(j u e).2,(j u e).1]
  let' l:St->Hp->ν:=λ f D=>au H D/\∃v,f=#v[.τ L,?M,ι v]/\(v=.non\/∃t a n N T,v=?t/\D t\.Θ [?a,?n]/\TabAt D a T/\FT c [] L N T/\FE c L 16)
  erw[l,5]
  .rwa[bV ?_];intro ic;rwa[1212,ani _,λm R=>?_];let s1:au H (υ H m (.Ε [])):=au.υ R;let k:bz (υ H m (.Ε [])) m []:={[],aj,2,λi p w h=>by simp at h};change υ H m _=G at s1 k ⊢;rwa[M,m,L,(16),c,[],2,b,344,C.Δ s1,k,ok,by simp only[ank];ext,3,ani _,λt a n S N H2 x B J r o O _=>?_,λd n S H2 x _ _ _ _ _=>?_]
   .let g:∀u∈c++[],∀z∈u,z∈bE (2* L)/\-z∈bE (2* L):=λu e z hz=>((pK ∅ (ok u e)).2 z hz).2
    let[hm,eL]:=B.mL g ⋯;rw[eL]at o O;let[U,ft]:=B.ft g J ∅ b ∅ O;rwa[s1.π x,12,.Ζ {t,a,n,N,12,r,o,ft,S,B,J}]
   .rwa[12,ρ,T.e_T,gC {s1.π x,12,.ψ Τ}]
  intro f G q;rwa[bu ?_];intro I;obtain⟨s1,v,Τ,rfl|⟨t,a,n,N,TT,Τ,r,o,ft,fe⟩⟩:=q;dsimp only[I];clear I
  .rwa[12212,gC (Y _ s1)]
  .rwa[12212,dc {12,t,11122,bD.of r,2,Z a TT N G s1 o ft fe}]
inductive Fw (vs:Zb)(H:Hp)(Q:VK)(E_:XK):ν
 |mk (l:Zs)(W:Za3)(L:η):vs=[?l,.τ @W,.τ L]->bz H l W->(∀u∈W,M11.aH L u)->Q (.bl ρ) H->Fw vs H Q E_
def tu:T.nX.Ok P w base 1 Fw:=by
 rwa[T.nX.on nu (λS AA G s H vs Q E hr h=>?_)]
 .let[l,W,L,Τ,hW,F,k]:=h
  refine{_,{{bL (bI (PW.pt (pQ (ot (gS (aY jd Τ T.eZ anM #[0,kj (v:=.ty À) Τ T.ib anF Τ]))) (tL (aX j3 (0<<<0) (pv 1) (bh _)))))
   {{bf iw}}
   bp),bU am5 Τ l9 (du 3 nu.nd)
    {{bI (ot (gS (aY jd Τ T.eZ anM #[3,kj (v:=.ty Ω) Τ T.jF anV Τ])))
     {{bf iw}}
     bp,bU am5 Τ (iK (pv 3)) (du 4 nu.nd)
     {{bL (bI (PW.pt (pQ (ot (gS (aY jd Τ T.eZ anM #[4,kj (v:=.ty ϟ) Τ T.Sl PyProof.Rows.boot_int Τ]))) (pQ (gS (aY jd Τ T.eZ anM #[4,kj (v:=.ty "bool") Τ T.XU PyProof.Rows.boot_bool Τ])) (pQ (aX dI (pv 4) ak (bh _)) (tL (aX pR (aY oC Τ T.zb aoW #[4]) (pv 2) (bh _)))))))
      {{bf iw}}
      bp)}}}},bf iw}},?_}
  rwa[cF ?_];intro dA O;let[B,b,j]:=id hW;let D:@B=@W:=j.1
  let' o:St->Hp->ν:=λ f J=>f=#v[?l,.τ @W,.τ L,ε,ε]/\J=H
  erw[o,5]
  .rwa[bV ?_];intro t;rwa[1211112,.Ε b,oH β,ρ,2,dc ?_];rwa[12,l,12,.ψ (az.of b),12212,nM (by rw[amE,D]) {22}]
  rintro f J ⟨rfl,rfl⟩;erw[12,l,2,{_,az.of b}]
  let' r:η->St->Hp->ν:=λn a m=>∃(C d:Zc),a=#v[?l,.τ @W,.τ L,C,d]/\m=J
  rwa[cS (xs:=B.Α V.Η) r {ε,ε,22} (λn a m _ ζ=>by let[_,_,_,e]:=ζ;rwa[[e]▸az.of b]) ?_ ?_]
  .rintro n y a m g ⟨C,d,Τ,rfl⟩;dsimp only[cU];rwa[kb ?_];intro t Ey;rw[amQ]at g
   obtain⟨p,M,rfl⟩:∃p,B[n]?\p/\y=?p:=by
    cases e:B[n]? with
    |ε=>rw[e]at g;ext g
    |ι p=>rw[e]at g;rwa[p,2,(Za0 g).Β]
   let U:=(amF.mp M).1;obtain⟨u,N⟩:∃u,W[n]?\u:={_,amB ∅}
   let c:=j.2 n p u M N;let I:=F u (amD N);rwa[1211112,.Θ c,oH β,ρ,2,dc ?_];erw[12,p,2,{_,bD.of c}]
   let' q:η->St->Hp->ν:=λi a x=>∃d:Zc,a=#v[?l,.τ @W,.τ L,?p,d]/\x=m
   rwa[cS (xs:=ao u) q {122} (λi a x _ ζ=>by let[_,_,e]:=ζ;rwa[[e]▸bD.of c]) ?_ ?_]
   .rintro i y a x Z ⟨v,Τ,rfl⟩;dsimp only[cU];rwa[bV ?_];intro t;let[z,Τ,R]:=bR Z;let Y:=I z (amD R);rwa[15,λ_ _ h=>h];rwa[1211112,.τ z,oH β,ρ,2,dc ?_];rwa[1211112,.τ z,CW _,χ,2,dc ?_];rwa[12212,cw (λh=>?_) (λ_=>?_)]
    .let h:=ane h;injection h with h
     rwa[absurd h Y.1]
    rwa[12,z,212112212,cw (λh=>?_) (λ_=>{122})];let h:(L:ο)<(if z<0 then -z else z):=ane h;exfalso
    split at h <;> ext
   .rintro a x ⟨v,Τ,rfl⟩;rwa[1122]
  .rintro a m ⟨C,d,Τ,rfl⟩;rwa[k]
inductive NK (vs:Zb)(H:Hp)(Q:VK)(E_:XK):ν
 |mk (ra fa ba ta oa:Zs)(R W X T F:Za3)(L:η):vs=[?ra,?fa,?ba,?ta,?oa]->bz H ra R->bz H fa W->bz H ba X->TabAt H ta T->TabAt H oa F->M11.Tab L T->M11.Tab L F->@W=L->@X=L->(∀u∈R++(W++X),M11.aH L u/\@u<=300)->(∀w∈R,M11.walk F (M18.fill W w) 0=0)->(∀k,k<L->M11.walk T (M18.fill X (W.Λ k [])) 0=M11.nx T (2* k) 0)->(∀H',au H H'->Q (.bl ρ) H')->NK vs H Q E_
def ql:T.lb.Ok P w base 3 NK:=by
 rwa[T.lb.on lB (λb9 AA outer s H vs Q E U h=>?_)]
 .let[Z,G,ba,O,oa,R,W,X,TT,F,L,Τ,hR,hW,hX,hT,hF,B,tF,g,m,a,h1,h2,k]:=h
  refine{_,{{bU am5 Τ l9 (du 5 lB.nd)
   {{bI (aX j3 (pc T.sj (wF T) U #[4,pc T.hO (jR T) U #[5,1]]) ak (bh _))
    {{bf iw}}
    bp}},bU am5 Τ (jb Τ T.fE #[1<<<0]) (du 6 lB.nd)
    {{bI (aX j3 (pc T.sj (wF T) U #[3,pc T.hO (jR T) U #[1|||6,2]]) ((3|||ak)|||(aK jc ak (pv 6))) (bh _))
     {{bf iw}}
     bp}},bf iw}},?_}
  rwa[cF ?_];intro dA eD;let[N,x,t]:=id hR;let[fs,r,M]:=id hW;let jZ:@N=@R:=t.1;let rB:@fs=@W:=M.1;let l40:=B.Ae;let l1:=B.let1;let stW:∀u∈W,M11.aH L u:=λu l=>(a u (amN _ (amV _ l))).1
  let stX:∀u∈X,M11.aH L u:=λu l=>(a u (amN _ (amN _ l))).1
  erw[12,Z,2,{_,az.of x}]
  let' o:η->St->Hp->ν:=λn c S=>∃Y:Zc,c=#v[?Z,?G,?ba,?O,?oa,Y,ε]/\au H S
  rwa[cS (xs:=N.Α V.Η) o {ε,2,au.refl _} (λn c S _ ζ=>by let[_,_,s]:=ζ;rwa[az.of (s^x)]) ?_ ?_]
  .rintro n y c S j ⟨Y,Τ,s2⟩;dsimp only[cU];rwa[bV ?_];intro ic;rw[amQ]at j
   obtain⟨p,I,rfl⟩:∃p,N[n]?\p/\y=?p:=by
    cases e:N[n]? with
    |ε=>rw[e]at j;ext j
    |ι p=>rw[e]at j;rwa[p,2,(Za0 j).Β]
   let wx:=(amF.mp I).1;obtain⟨u,l⟩:∃u,R[n]?\u:={_,amB ∅}
   let TR:=t.2 n p u I l;let D:=amD l;let d:=a u (amV _ D);rwa[121212,p,G,u,W,2,s2^TR,hW.Δ s2,[g]▸d.1,d.2,λv hv=>(a v (amN _ (amV _ hv))).2,3,λq C s3 h3=>?_];erw[oa,q,F,L,M18.fill W u,2,hF.Δ (s2.π s3),tF,h3,qk stW ([g]▸d.1),212];rw[h1 u D];rwa[nM Τ {12,s2.π s3}]
  rintro c S ⟨Y,Τ,s2⟩;erw[12,G,12,.ψ (az.of (s2^r)),(L:ο),by rw[amE,rB,g],33];rw[anb]
  let' z:η->St->Hp->ν:=λn c C=>∃v6:Zc,c=#v[?Z,?G,?ba,?O,?oa,Y,v6]/\au H C
  rwa[ik (lo:=0) (n:=L) z {ε,2,s2} ?_ ?_]
  .rintro n c C j ⟨v6,Τ,s3⟩;dsimp only[cU];rwa[bV ?_];intro ic;obtain⟨w,hw⟩:∃w,W[n]?\w:={_,amB ∅}
   obtain⟨p,I⟩:∃p,fs[n]?\p:={_,amB ∅}
   let hpw:=M.2 n p w I hw;let hwm:=amD hw;let f:=a w (amN _ (amV _ hwm));let b:=h2 n j;rw[amH,hw]at b;let b:M11.walk TT (M18.fill X w) 0=M11.nx TT (2* n) 0:=b;rw[ap3];rwa[121212,G,11,?p,22,az.of (s3^r),bW I,12,p,ba,w,X,2,s3^hpw,hX.Δ s3,[m]▸f.1,f.2,λv hv=>(a v (amN _ (amN _ hv))).2,3,λq H4 s4 h4=>?_];let J:=hT.Δ (s3.π s4);erw[O,q,TT,L,M18.fill X w,2,J,B,h4,qk stX ([m]▸f.1)];let[rs,r0,Jy,g1,g2,g3,g4,g5]:=kK J B B.pos;erw[12,O,11,?r0,22,az.of g1,bW (i:=0) g2,121122,.ψ {44},r0,11122,az.of g3,([show 2* (n:ο)=((2* n:η):ο) by ext]▸cG (bT (g5 (2* n) ∅))),212];rw[b];rwa[nM Τ {12,s3.π s4}]
  .rintro c C ⟨v6,Τ,s3⟩;rwa[k C s3]
def mq (z:ο){n:η}(h:0<n):∃x:η,z % (n:ο)=(x:ο)/\x<n:=by let a:=apB z (show (n:ο)≠0 by omega);let b:=aqe z (show (0:ο)<(n:ο) by omega);rwa[(z % (n:ο)).toNat,33]
structure j2 (L:η)(R:Za3):ν where
 n1:1<=@R
 n6:@R<=6
 w:∀u∈R,M11.aH L u/\@u<=8
structure Ch (L:η)(R:Za3)(i:η)(r r':Zg):ν where
 s:M11.aH L r'
 l:@r'<=8
 h:∀D g,Md L D g->(∀j w,j≠i->R[j]?\w->∀p,D p->gw g w p=p)->((∀p,D p->gw g r p=p)↔∀p,D p->gw g r' p=p)
section
variable {L:Nat}{R:Za3}{i:Nat}{r r':Zg}
def Ch.back (c:Ĺ):Ch L R i r (M11.back r'):={M11.eX c.s,[x9]▸c.l,λD g m o=>(c.h D g m o).π (Vt m c.s)}
def Ch.turn (c:Ĺ)(n:η):Ch L R i r (r'.drop n++r'.take n):=by
 let b:M11.aH L (r'.take n):=λz hz=>c.s z (aoZ hz)
 let a:M11.aH L (r'.drop n):=λz hz=>c.s z (θ.mem_of_mem_drop hz)
 let e:=an2 n r';rwa[jr a b,by rw[amG,anI,anc];have:=c.l;ext,λD g m o=>(c.h D g m o).π {λq=>AK m b a ([e]▸q),λq=>?_}];have:=AK m a b q;rw[e]at ω;rwa[ω]
def Ch.more (c:Ĺ){j:η}{w:Zg}(n:j≠i)(b:R[j]?\w)(a:Ĵ)(d:@r'+ @w<=8):Ch L R i r (r'++w):={jr c.s a,[amG]▸d,λD g m o=>(c.h D g m o).π (Vu m a (o j w n b) c.s)}
def Ch.conj (c:Ĺ){s:ο}(b:s≠0/\s.natAbs<=L)(d:@r'<=6):Ch L R i r ([s]++r'++[-s]):={jr (jr (λt a=>[amI.mp a]▸b) c.s) (λt a=>[amI.mp a]▸{33}),by rw[amG,amG];show 1+ @r'+ 1<=8;ext,λD g m o=>(c.h D g m o).π (Vv m b c.s)}
def Ch.set (c:Ĺ)(d:R[i]?\r)(k:j2 L R):TZ L R (R.take i++[r']++R.drop (i+ 1))/\j2 L (R.take i++[r']++R.drop (i+ 1)):=by
 let b:∀u∈R.take i++[r']++R.drop (i+ 1),M11.aH L u/\@u<=8:=λu a=>by
  rcases amO.mp a with a|a
  .rcases amO.mp a with a|a
   .rwa[k.w u (aoZ a)]
   .rw[amI.mp a];rwa[c.s,c.l]
  .rwa[k.w u (θ.mem_of_mem_drop a)]
 let e:=(amF.mp d).1;let n6:=k.n6;refine{{11,Cu (λu a=>(k.w u a).1) (λu a=>(b u a).1) λD g m=>aaC d (c.h D g m)},55,b} <;> rw[amG,amG,anc,anI] <;> simp only[amT,ank] <;> ext
def Ch.add (c:Ĺ)(f:R[i]?\r)(k:j2 L R)(h:@R<6):TZ L R (R++[r'])/\j2 L (R++[r']):=by
 let d:∀u∈R++[r'],M11.aH L u/\@u<=8:=λu b=>by
  rcases amO.mp b with b|b
  .rwa[k.w u b]
  .rw[amI.mp b];rwa[c.s,c.l]
 rwa[{11,Cu (λu b=>(k.w u b).1) (λu b=>(d u b).1) λD g m=>{λa u b=>?_,λa u b=>a u (amV _ b)}},by rw[amG];have:=k.n1;ext,[amG]▸h,d];rcases amO.mp b with b|b
 .rwa[a u b]
 .rw[amI.mp b];rwa[(c.h D g m λj w _ e=>a w Ÿ).mp (a r ŷ)]
end
def QY (r:Zg):∃n,gY (ao r) (ι 1) ε=ao (r.drop n)/\gY (ao r) ε (ι 1)=ao (r.take n):=by
 cases r with
 |nil=>rwa[(0),22]
 |cons a r=>
  erw[(1),5]
  .have:=uQ (ao (a::r)) 1 ([aD]▸aqp (ani _));rw[show (1:ο)=((1:η):ο) from rfl,ω];unfold ao;rw[aqs]
  .have:=AI (ao (a::r)) 1;rw[show (1:ο)=((1:η):ο) from rfl,ω];unfold ao;rw[aqr]
theorem BO {us:Za3}(n:η)(h:bO H F us):bO H (F.drop n) (us.drop n):=by rwa[by rw[anI,anI,h.1],λi p w a b=>?_];rw[apq]at a b;rwa[h.2 _ p w a b]
inductive BP (vs:Zb)(H:Hp)(Q:VK)(E_:XK):ν
 |mk (ra:Zs)(z:ο)(L:η)(R:Za3):vs=[?ra,.τ z,.τ L]->bz H ra R->j2 L R->1<=L->L<=3->(∀(l:Zs)(R':Za3)(H':Hp),au H H'->bz H' l R'->j2 L R'->TZ L R R'->Q ?l H')->BP vs H Q E_
def uT:T.k9.Ok P w base 2 BP:=by
 rwa[T.k9.on cE (λb9 AA outer s H vs Q E hr h=>?_)]
 .let[x,z,L,R,Τ,hR,ok,qe,TY,k]:=h
  refine{_,{{bH 3 cE.nd (aK cP Ý (0<<<0)),bH 4 cE.nd (aK cP Ý (0<<<0)),bH 5 cE.nd (aK cZ ak Q3),bH 6 cE.nd (0|||3),bL (bI È
    {{bH 6 cE.nd (pc T.p9 (uS T) hr #[6])}}
    bp),bL (bI È
    {{bH 6 cE.nd (aK je (iA rK (pv 6) (gT ak) iN) (iA rK (pv 6) iN (gT ak)))}}
    bp),bL (bI (PW.pt (tM È (tM (aX j3 (pv 3) (pv 4) (bh _)) (uX (aX Rf (aK cZ (6<<<0) ((0|||4)<<<0)) ak (bh _))))))
    {{bH 6 cE.nd (aK je (pv 6) (0|||4))}}
    bp),bL (bI (PW.pt (tM È (uX (aX Rf (6<<<0) ak (bh _)))))
    {{bH 6 cE.nd (aK je (aK je (bA #[5]) (pv 6)) (bA #[aK fI ak (pv 5)]))}}
    bp),bL (bI (PW.pt (tM È (uX (aX nL (0<<<0) ak (bh _)))))
    {{bf (aK qE (pv 0) (bN #[6]))}}
    bp),bf (aK qE (aK qE (iA qD (pv 0) iN (gT (pv 3))) (bN #[6])) (iA qD (pv 0) (gT Q2) iN))}},?_}
  rwa[Dq ?_];intro u_9 SM By zo rn pG jn dA eD;let[t,v,C]:=id hR;let jZ:@t=@R:=C.1;let n1:=ok.n1;let n6:=ok.n6;let G:(@(t.Α V.Η):ο)=(@t:ο):=by rw[amE]
  let[i,ei,hi]:=mq (z / 16) (n:=@t) ∅;let[j,ej,hj]:=mq (z / 128) (n:=@t) ∅;let[B,es,hs0]:=mq (z / 1024) (n:=L) ∅;erw[121122,{44},12,x,12,.ψ (az.of v),1122,(by rw[G];omega)];rw[G,ei];erw[121122,{44},12,x,12,.ψ (az.of v),1122,(by rw[G];omega)];rw[G,ej];erw[121122,{44},121122,(by show (0:ο)<(L:ο);omega),1122];rw[es];obtain⟨p0,BM⟩:∃p0,t[i]?\p0:={_,amB hi}
  obtain⟨r,hr⟩:∃r,R[i]?\r:={_,amB ∅}
  obtain⟨U,Z⟩:∃U,t[j]?\U:={_,amB hj}
  obtain⟨wj,O⟩:∃wj,R[j]?\wj:={_,amB ∅}
  let zG:=C.2 i p0 r BM hr;let hrj:=C.2 j U wj Z O;let M:=ok.w r (amD hr);let jok:=ok.w wj (amD O);erw[1212,x,11,?p0,22,az.of v,bW BM];obtain⟨p,b⟩:∃P:L2.St->Hp->ν,P=λ y H'=>∃q r',y=#v[?x,.τ z,.τ L,.τ (i:ο),.τ (j:ο),.τ (1+ (B:ο)),?q]/\au H H'/\H' q\.Θ (ao r')/\Ch L R i r r':={12}
  let h0:p #v[?x,.τ z,.τ L,.τ (i:ο),.τ (j:ο),.τ (1+ (B:ο)),?p0] H:=by rw[b];rwa[p0,r,2,au.refl _,zG,M.1,M.2,λ_ _ _ _=>Iff.rfl]
  erw[p,5]
  .rwa[121122,(by show (0:ο)<5;decide),212,cw (λ_=>?_) (λ_=>h0)];rwa[12,p0,r,2,zG,3,λl H1 s1 f=>?_];rw[b];let c:Ch L R i r r:={M.1,M.2,λ_ _ _ _=>Iff.rfl};rwa[l,12,s1,f,c.back]
  intro y H1 g;rw[b]at g;let[d,u,Τ,s1,f,m]:=g;erw[p,5]
  .rwa[121122,(by show (0:ο)<5;decide),212,cw (λ_=>?_) (λ_=>[b]▸{d,u,2,s1,f,m})];let[n,en1,en2]:=QY u;rwa[1212,d,12,f,λJ H2 s2 e2=>{1212,d,12,s2^f,λa3 H3 s3 e3=>?_}];rw[en1]at e2;rw[en2]at e3;let l8:=m.l;rwa[J,a3,1122,s3^e2,e3,[aD,aD,anI,anc]▸amM (show _<=100 by omega) ⋯,λX H4 s4 F=>?_];rw[<-ints_app]at F;rw[b];rwa[X,12,s1.π (s2.π (s3.π s4)),F,m.turn n]
  intro y H2 g;rw[b]at g;clear h0 s1 f m d u;let[d,u,Τ,s1,f,m]:=g;let l8:=m.l;let a:p #v[?x,.τ z,.τ L,.τ (i:ο),.τ (j:ο),.τ (1+ (B:ο)),?d] H2:=by rw[b];rwa[d,u,2,s1,f,m]
  erw[p,5]
  .rwa[121122,(by show (0:ο)<5;decide),212,cw (λ_=>?_) (λ_=>dc a)];rwa[1212212,cw (λh=>?_) (λ_=>dc a)];let nij:j≠i:=λe=>by rw[e]at h;simp at h
   rwa[12,d,12,.Ζ (bD.of f),1212,x,11,?U,22,az.of (s1^v),bW Z,U,12,.Ζ (bD.of (s1^hrj)),1122112212,cw (λh=>?_) (λ_=>a)];let h:(@(ao u):ο)+ (@(ao wj):ο)<=8:=ane h;rw[aD,aD]at h;rwa[121212,x,11,?U,22,az.of (s1^v),bW Z,d,U,1122,f,s1^hrj,[aD,aD]▸amM (show _<=100 by omega) ⋯,λX H4 s4 F=>?_];rw[<-ints_app]at F;rw[b];rwa[X,12,s1.π s4,F,m.more nij O jok.1 ∅]
  intro y H3 g;rw[b]at g;clear a s1 f m d u l8;let[d,u,Τ,s1,f,m]:=g;let l8:=m.l;let a:p #v[?x,.τ z,.τ L,.τ (i:ο),.τ (j:ο),.τ (1+ (B:ο)),?d] H3:=by rw[b];rwa[d,u,2,s1,f,m]
  erw[p,5]
  .rwa[121122,(by show (0:ο)<5;decide),212,cw (λ_=>?_) (λ_=>dc a)];rwa[12,d,12,.Ζ (bD.of f),112212,cw (λh=>?_) (λ_=>a)];let h:(@(ao u):ο)<=6:=ane h;rw[aD]at h;rwa[12,Za4 1,λJ n2=>{125}];generalize I:υ H3 J _=H4;obtain⟨s2,e2⟩:_/\_\(.Θ (ao [1+ (B:ο)])):=cW I n2;rwa[J,d,1122,e2,s2^f,[aD,aD]▸amM (show 1+ @u<=100 by omega) ⋯,λa3 H5 s3 e3=>?_];rw[<-ints_app]at e3;rwa[121122,Za4 1,λY n4=>?_];let s4:=au.υ (o:=.Θ [.τ (0 - (1+ (B:ο)))]) n4;let F:υ H5 Y (.Θ [.τ (0 - (1+ (B:ο)))]) Y\(.Θ (ao [-(1+ (B:ο))])):=by rw[aj,show 0 - (1+ (B:ο))= -(1+ (B:ο)) by ext];rfl
   change υ H5 Y _=H6 at s4 F ⊢;rwa[a3,Y,1122,s4^e3,F,[aD,aD,amG]▸amM (show 1+ @u+ 1<=100 by omega) ⋯,λX H7 s7 e7=>?_];rw[<-ints_app]at e7;rw[b];rwa[X,12,s1.π (s2.π (s3.π (s4.π s7))),e7,m.conj {33} ∅]
  intro y H4 g;rw[b]at g;clear a s1 f m d u l8;let[d,u,Τ,s1,f,m]:=g;let a:p #v[?x,.τ z,.τ L,.τ (i:ο),.τ (j:ο),.τ (1+ (B:ο)),?d] H4:=by rw[b];rwa[d,u,2,s1,f,m]
  let D:=s1^v;erw[p,5]
  .rwa[121122,(by show (0:ο)<5;decide),212,cw (λ_=>?_) (λ_=>dc a)];rwa[12,x,12,.ψ (az.of D),112212,cw (λh=>?_) (λ_=>a)];let h:(@(t.Α V.Η):ο)<6:=ane h;rw[amE]at h;rwa[1212,Za4 1,λJ n2=>?_];let s2:=au.υ (o:=.Ε [?d]) n2;rwa[x,J,1122,s2^D,aj,[amE]▸amM (show @t+ 1<=100 by omega) ⋯,λX n3=>?_];let s3:=s2.π (au.υ (o:=.Ε (t.Α V.Η++[?d])) n3);let[t1,t2]:=m.add hr ok ∅;rwa[k X β (s1.π s3) {t++[d],by rw[aj,am8];rfl,(C.Δ (s1.π s3)).snoc (s3^f)} t2 t1]
  intro y H5 g;rw[b]at g;clear a s1 f m d u D;let[d,u,Τ,s1,f,m]:=g;let N:=s1^v;rwa[121212,x,12,az.of N,λJ n2=>?_];rw[AI];generalize I:υ H5 J _=H6;let[s2,e2]:=cW I n2;rwa[12,Za4 1,λa3 n3=>?_];generalize I:υ H6 a3 _=H7;let[s3,e3]:=cW I n3;rwa[J,a3,1122,s3^e2,e3,[anc,amE]▸amM (show min i @t+ 1<=100 by omega) ⋯,λY n4=>?_];generalize I:υ H7 Y _=H8;let[s4,F]:=cW I n4;let Hy:=s2.π (s3.π s4);rwa[1212112212,x,12,az.of (Hy^N),λa5 n5=>?_];rw[show (i:ο)+ 1=((i+ 1:η):ο) by ext,uQ _ (i+ 1) ([amE]▸hi)];generalize I:υ H8 a5 _=H9;let[s6,e6]:=cW I n5;rwa[Y,a5,1122,s6^F,e6,[amG,anc,anI,amE]▸amM (show min i @t+ 1+ (@t - (i+ 1))<=100 by omega) ⋯,λa7 n7=>?_];let s7:=au.υ (o:=.Ε ((t.Α V.Η).take i++[?d]++(t.Α V.Η).drop (i+ 1))) n7;let S:=Hy.π (s6.π s7);let[t1,t2]:=m.set hr ok;let tt:=C.Δ (s1.π S);rwa[k a7 β (s1.π S) {t.take i++[d]++t.drop (i+ 1),by rw[aj,am8,am8,aqr,aqs];rfl,5} t2 t1];rwa[Fe ((BK i tt).snoc (S^f)) (BO (i+ 1) tt)]
def rF (L:η):Za3:=(~~~L).Α λk:η=>[(k:ο)+ 1]
def exL (L a b:η):Za3:=((rF L).set a [(b:ο)+ 1]).set b [(a:ο)+ 1]
def ivL (L a:η):Za3:=(rF L).set a [0 - (a:ο) - 1]
def muL (L a b:η):Za3:=(rF L).set a [(a:ο)+ 1,(b:ο)+ 1]
def mvL (L a b:η):Za3:=(rF L).set a [(a:ο)+ 1,-((b:ο)+ 1)]
structure BQ (L:η)(I:Za3):ν where
 l:@I=L
 w:∀u∈I,M11.aH L u/\@u<=2
 v:∃J:Za3,@J=L/\(∀u∈J,M11.aH L u)/\(∀k,k<L->M16.thin (cp (gD I) (gD J) k)=M16.thin (ju k))/\∀k,k<L->M16.thin (cp (gD J) (gD I) k)=M16.thin (ju k)
def AO (L:η)(I J:Za3):Μ:=decide (@I=L) && I.all (λu=>u.all (λs=>decide (s≠0/\s.natAbs<=L)) && decide (@u<=2)) && decide (@J=L) && J.all (λu=>u.all λs=>decide (s≠0/\s.natAbs<=L)) && (~~~L).all λk=>decide (M16.thin (cp (gD I) (gD J) k)=M16.thin (ju k)) && decide (M16.thin (cp (gD J) (gD I) k)=M16.thin (ju k))
def vy {I J:Za3}(h:AO n I J=ρ):BQ n I:=by unfold AO at h;simp only[an6,decide_eq_true_eq,apR,anj]at h;let[⟨⟨⟨a,b⟩,c⟩,d⟩,e]:=h;rwa[a,λu f=>{λs i=>(b u f).1 s i,(b u f).2},J,c,λu f s i=>d u f s i,λk g=>(e k g).1,λk g=>(e k g).2]
def aa2:∀L,L<4->BQ L (rF L):=by
 let a:∀L,L<4->AO L (rF L) (rF L)=ρ:=⋯
 rwa[λL h=>vy (a L h)]
def aa3:∀L,L<4->∀a,a<L->∀b,b<L->BQ L (exL L a b):=by
 let c:∀L,L<4->∀a,a<L->∀b,b<L->AO L (exL L a b) (exL L a b)=ρ:=⋯
 rwa[λL h a d b e=>vy (c L h a d b e)]
def aa4:∀L,L<4->∀a,a<L->BQ L (ivL L a):=by
 let b:∀L,L<4->∀a,a<L->AO L (ivL L a) (ivL L a)=ρ:=⋯
 rwa[λL h a c=>vy (b L h a c)]
def aa5:∀L,L<4->∀a,a<L->∀b,b<L->a≠b->BQ L (muL L a b):=by
 let c:∀L,L<4->∀a,a<L->∀b,b<L->a≠b->AO L (muL L a b) (mvL L a b)=ρ:=⋯
 rwa[λL h a d b e n=>vy (c L h a d b e n)]
def BQ.tz {I R:Za3}(a:BQ n I)(h:∀u∈R,M11.aH n u):TZ n R (R.Α λw=>M18.fill I w):=by let[J,b,e,c,f]:=a.v;rwa[11,aca (U:=gD I) (V:=gD J) h (JD a.l λu d=>(a.w u d).1) (JD b e) c f]
def Hz {R:Za3}(h:∀u∈R,M11.aH n u):TZ n R R:={11,Cu h h λ_ _ _=>Iff.rfl}
def TZ.π {A B C:Za3}(s:TZ n A B)(t:TZ n B C):TZ n A C:=by let[_,_,s]:=s;let[_,_,t]:=t;rwa[11,s.π t]
def Vz {R:Za3}(k:j2 n R):TZ n R (R.drop 1++R.take 1)/\j2 n (R.drop 1++R.take 1):=by
 let m:∀u,u∈R.drop 1++R.take 1↔u∈R:=λu=>by rw[amO,Or.comm,<-amO,an2]
 let c:∀u∈R.drop 1++R.take 1,M11.aH n u/\@u<=8:=λu b=>k.w u ((m u).mp b)
 let e:=k.n1;let d:=k.n6;refine{{11,Cu (λu b=>(k.w u b).1) (λu b=>(c u b).1) λD g _=>{λa u b=>a u ((m u).mp b),λa u b=>a u ((m u).mpr b)}},55,c} <;> rw[amG,anI,anc] <;> ext
inductive HB (vs:Zb)(H:Hp)(Q:VK)(E_:XK):ν
 |mk (ra:Zs)(z:ο)(L:η)(R:Za3):vs=[?ra,.τ z,.τ L]->bz H ra R->j2 L R->1<=L->L<=3->(∀(l:Zs)(R':Za3)(H':Hp),au H H'->bz H' l R'->j2 L R'->TZ L R R'->Q ?l H')->HB vs H Q E_
theorem qA:T.iW.Ok P w base 3 HB:=by
 rwa[T.iW.on dv (λb9 AA outer s H vs Q E hr h=>?_)]
 .let[ra,z,L,R,Τ,hR,ok,qe,TY,k]:=h
  refine{_,{{bI È
   {{bf (pc T.k9 (uT T) hr #[0,aK dF (pv 1) ak,2])}}
   bp,bH 3 dv.nd Q3,bH 4 dv.nd Q3,bH 5 dv.nd (eP (fns:=[]) (ixs:=[]) (cl:=[]) Τ (jb Τ T.fE #[2]) (b0 [] Τ True.intro Τ) (λC s H ex=>(bA #[aK cZ (pv 0) ak]))),bL (bI Ā
    {{jS (bA #[aK cZ (pv 4) ak]) ŉ,jS (bA #[aK cZ (pv 3) ak]) (kQ (pv 5) (pv 4) set_list)}}
    bp),bL (bI Ā
    {{jS (bA #[aK fI (aK fI ak (pv 3)) ak]) ŉ}}
    bp),bL (bI (PW.pt (tM Ā (uX (aX j3 (pv 3) (pv 4) (bh _)))))
    {{jS (bA #[aK cZ (pv 3) ak,aK cZ (pv 4) ak]) ŉ}}
    bp),bI Ā
    {{bf (aK qE (iA qD (pv 0) (gT ak) iN) (iA qD (pv 0) iN (gT ak)))}}
    bp,mw (iy:=6) dv.nd Τ ź (fns:=[Ť]) (ixs:=[5]) (cl:=_) Τ l9 (b0 [(_,_)] Τ {Τ,Τ,Τ,Τ,Τ,True.intro} Τ) (λC s H ex=>(pc T.hO (jR T) hr #[0,1])),bI (aX pR (aY (KZ Τ) Τ T.Jc PyProof.Rows.boot_max #[eP (fns:=[]) (ixs:=[]) (cl:=[]) Τ (cD (pv 6)) (b0 [] Τ True.intro Τ) (λC s H ex=>(aY (sL (K:=K) Τ) Τ T.cq ang #[0]))]) ak (bh _))
    {{bf (pv 0)}}
    bp,bf (pv 6)}},?_}
  rwa[K0 ?_];intro afy u_9 SM By zo rn pG jn dA eD;let[ps,DM,Hu]:=id hR;let jZ:@ps=@R:=Hu.1;let n1:=ok.n1;let n6:=ok.n6;let[a,ea,ha]:=mq (z / 8) (n:=L) ∅;let[b,eb,hb]:=mq (z / 64) (n:=L) ∅;rwa[121122,(by show (0:ο)<2;decide),212,cw (λ_=>?_) (λ_=>?_)]
  .rwa[12121122,{44},12,ra,_,L,R,2,hR,ok,qe,TY,k]
  erw[121122,{44},121122,(by show (0:ο)<(L:ο);omega)];rw[ea];erw[121122,{44},121122,(by show (0:ο)<(L:ο);omega)];rw[eb];obtain⟨v,ev⟩:∃v:ο,z / 2 % 4=v:={12};erw[12,(L:ο),233];rw[anb];rwa[jf L (λi=>.τ (i:ο)) (λH v i=>∃p w,v=?p/\H p\.Θ (ao w)/\w=[(i:ο)+ 1]) (λ_ _ v i sm ζ=>by let[p,w,e,h,r]:=ζ;rwa[p,w,e,sm^h,r]) (amM (show L<=100 by omega) ⋯) (λi H3 _ hi=>hi) (λi x H3 H4 _ hi y=>?_) (λH3 _=>amK _) (λi H3 Rr hi s3 kk=>?_) (λD H3 ys s3 nD Hv hr=>?_)]
  .let[G,M]:=y;rw[ap3]at *
   first|rwa[G,M]|rwa[M,G]
  .rwa[_,Τ,_,_,Τ,Τ,Za4 1,λq m=>kk β (au.υ m) {q,_,Τ,aj,Τ}]
  let[X,I,Τ,hI,hIe]:=oi (P:=λi w=>w=[(i:ο)+ 1]) hr;let TF:@I=L:=by rw[<-hI.1,<-Hv,amE]
  obtain rfl:I=rF L:=aox λi=>by
   cases e:I[i]? with
   |ε=>have:=aoB.mp e;rwa[(ana (by unfold rF;rw[amE,anp];omega)).Β]
   |ι w=>let vW:=(amF.mp e).1;unfold rF;rw[amQ,an3 ∅,hIe i w e];rfl
  generalize e_:υ H3 D _=H4;let[sD,hD]:=cW e_ nD;let nDH:H D=ε:=s3.free nD;replace hI:=hI.Δ sD;let s4:=s3.π sD;let nt:∀{f:Hp}{p:Zs}{xs ys:Zb},f p\.Θ xs->f D\.Ε ys->p≠D:=λG M=>bF G M f!""
  let put:∀{f:Hp}{jps:Zn}{J:Za3}{q:Zs}{w:Zg}{c:η},au H f->f D\.Ε (jps.Α V.Η)->bO f jps J->f q\.Θ (ao w)->c<@jps->au H (υ f D (.Ε ((jps.set c q).Α V.Η)))/\bO (υ f D (.Ε ((jps.set c q).Α V.Η))) (jps.set c q) (J.set c w):=λ{f jps J q w c} s h t m hc=>by
   rwa[λb o e=>[aq (ax e nDH)]▸s b o e,[am7,am7]▸t.1,λi p u G M=>?_];rw[θ.getElem?_set]at G M;let key:∀{p:Zs}{u:Zg},f p\.Θ (ao u)->υ f D (.Ε ((jps.set c q).Α V.Η)) p\(.Θ (ao u)):=λe=>by rw[aq (nt e h)];rwa[e]
   cases ec:c=i
   .rw[am1 ec,am1 ∅]at G;rw[am1 ec,am1 (by rw[<-t.1];omega)]at M;rw[<-Za0 G,<-Za0 M];rwa[key m]
   .rw[amY ec]at G M;rwa[key (t.2 i p u G M)]
  let hjl:@X=L:=by rw[hI.1];unfold rF;rw[amE,anp]
  obtain⟨P,hP⟩:∃P:ν->L2.St->Hp->ν,P=λcond fH H'=>∃(jps:Zn)(J:Za3),fH=#v[?ra,.τ z,.τ L,.τ (a:ο),.τ (b:ο),?D,ε]/\au H H'/\H' D\.Ε (jps.Α V.Η)/\bO H' jps J/\@jps=L/\BQ L J/\(cond->J=rF L):={12}
  let vt:∀{c:ο},decide (V.τ (z / 2 % 4)=V.τ c)=ρ->v=c:=λh=>by
   let h:=ane h;injection h with h
   ext
  erw[P (v≠0),5]
  .rwa[121122,{44},1122,(by show (0:ο)<4;decide),212,cw (λh=>?_) (λ_=>[hP]▸{X,rF L,2,s4,hD,hI,hjl,aa2 L ∅,λ_=>rfl})];let hv:=vt h;rwa[121122,Za4 1,λq m=>{1212,D,_,(a:ο),a,22,au.υ m β hD,jL (by rw[amE];omega),5}];let s5:=au.υ (o:=.Θ [.τ ((b:ο)+ 1)]) m;let[F,t6]:=put (w:=[(b:ο)+ 1]) (c:=a) (s4.π s5) (s5^hD) (hI.Δ s5) aj ∅;rw[<-ap2];let Hl:υ (υ H4 q (.Θ [.τ ((b:ο)+ 1)])) D (.Ε ((X.set a q).Α V.Η)) D\(.Ε ((X.set a q).Α V.Η)):=aj;change υ (υ H4 q (.Θ [.τ ((b:ο)+ 1)])) D (.Ε ((X.set a q).Α V.Η))=H6 at F t6 Hl ⊢;rwa[121122,Za4 1,λq2 Y=>{1212,D,_,(b:ο),b,22,au.υ Y β Hl,jL (by rw[amE,am7];omega),5}];let s7:=au.υ (o:=.Θ [.τ ((a:ο)+ 1)]) Y;let[s8,t8]:=put (w:=[(a:ο)+ 1]) (c:=b) (F.π s7) (s7^Hl) (t6.Δ s7) aj (by rw[am7];omega);rw[<-ap2,hP];rwa[112,s8,aj,t8,[am7,am7]▸hjl,aa3 L ∅ a ha b hb,λn=>absurd hv n]
  intro fH f g;rw[hP]at g;clear hI hD s4 sD hr hIe nD s3;let[jps,J,Τ,s5,d,t5,jl,N,ci]:=g;erw[P (v≠0/\v≠1),5]
  .rwa[121122,{44},1122,(by show (0:ο)<4;decide),212,cw (λh=>?_) (λ_=>[hP]▸{jps,J,2,s5,d,t5,jl,N,λc=>ci c.1})];let hv:=vt h;obtain rfl:=ci ∅;rwa[1211221122,Za4 1,λq m=>{1212,D,_,(a:ο),a,22,au.υ m β d,jL (by rw[amE];omega),5}];let F:=au.υ (o:=.Θ [.τ (0 - (a:ο) - 1)]) m;let[s7,t7]:=put (w:=[0 - (a:ο) - 1]) (c:=a) (s5.π F) (F^d) (t5.Δ F) aj ∅;rw[<-ap2,hP];rwa[112,s7,aj,t7,[am7]▸jl,aa4 L ∅ a ha,λc=>absurd hv c.2]
  intro fH H6 g;rw[hP]at g;clear s5 d t5 jl N ci jps J;let[jps,J,Τ,s5,d,t5,jl,N,ci]:=g;let g3:P False #v[?ra,.τ z,.τ L,.τ (a:ο),.τ (b:ο),?D,ε] H6:=by rw[hP];rwa[jps,J,2,s5,d,t5,jl,N,λc=>c.Κ]
  erw[P False,5]
  .rwa[121122,{44},1122,(by show (0:ο)<4;decide),212,cw (λh=>?_) (λ_=>dc g3)];let hv:=vt h;obtain rfl:=ci {33};rwa[1212212,cw (λh=>?_) (λ_=>g3)];let nab:a≠b:=λe=>by rw[e]at h;simp at h
   rwa[121122121122,Za4 2,λq m=>{1212,D,_,(a:ο),a,22,au.υ m β d,jL (by rw[amE];omega),5}];let F:=au.υ (o:=.Θ [.τ ((a:ο)+ 1),.τ ((b:ο)+ 1)]) m;let[s7,t7]:=put (w:=[(a:ο)+ 1,(b:ο)+ 1]) (c:=a) (s5.π F) (F^d) (t5.Δ F) aj ∅;rw[<-ap2,hP];rwa[112,s7,aj,t7,[am7]▸jl,aa5 L ∅ a ha b hb nab,λc=>c.Κ]
  intro fH H7 g;rw[hP]at g;clear g3 s5 d t5 jl N ci jps J;let[jps,J,Τ,s5,d,t5,jl,N,_]:=g;let B:=s5^DM;let afz:=Hu.Δ s5;rwa[121122,{44},1122,(by show (0:ο)<4;decide),212,cw (λ_=>?_) (λ_=>?_)]
  .rwa[1212,ra,12,az.of B,λa2 n2=>?_];rw[show (1:ο)=((1:η):ο) from rfl,uQ _ 1 (by rw[amE];omega)];generalize e_:υ H7 a2 _=H8;let[F,e6]:=cW e_ n2;rwa[1212,ra,12,az.of (F^B),λa3 n3=>?_];rw[AI];let s8:=au.υ (o:=.Ε ((ps.Α V.Η).take 1)) n3;rwa[a2,a3,1122,s8^e6,aj,[anc,anI,amE]▸amM (show @ps - 1+ min 1 @ps<=100 by omega) ⋯,λa4 n4=>?_];let s9:=(F.π s8).π (au.υ (o:=.Ε ((ps.Α V.Η).drop 1++(ps.Α V.Η).take 1)) n4);let[t1,t2]:=Vz ok;let tt:=Hu.Δ (s5.π s9);rwa[k a4 β (s5.π s9) {ps.drop 1++ps.take 1,by rw[aj,am8,aqr,aqs],Fe (BO 1 tt) (BK 1 tt)} t2 t1]
  erw[12,ra,2,{_,az.of B}];rwa[F9 (λw=>M18.fill J w) B afz ∅ (λH8 r u Rr s8 Z hr hR=>?_) (λD2 H8 qs s8 nD2 tq=>?_)]
  .rwa[1212,r,D,u,J,2,hr,{jps,s8^d,t5.Δ s8},[N.l]▸(ok.w u Z).1,amM (ok.w u Z).2 ⋯,λw hw=>amM (N.w w hw).2 ⋯,by rw[N.l];ext,λl H9 s9 h9=>hR l H9 s9 h9]
  generalize e_:υ H8 D2 _=H9;let[s9,U]:=cW e_ nD2;replace tq:=tq.Δ s9;let s79:=s8.π s9;let X9:@qs=@R:=by have:=tq.1;rw[amE]at ω;rwa[ω]
  let stR:∀u∈R,M11.aH L u:=λu Z=>(ok.w u Z).1
  let el:@(qs.Α V.Η)=@R:=by rw[amE,X9]
  erw[12,D2,2,{_,az.of U}];rwa[jf @R (λi=>(qs.Α V.Η).Λ i .non) (λ_ v i=>v=.τ (@((R.Α λw=>M18.fill J w).Λ i []):ο)) (λ_ _ _ _ _ h=>h) (amM (show @R<=100 by omega) ⋯) (λi H4 s4 hi=>iL (az.of (s4^U)) i ∅) (λi x H4 f s4 hi y=>?_) (λH4 s4=>by have:=fi (az.of (K:=K) (s4^U));rw[el]at ω;rwa[ω]) (λi H4 Rr hi s4 kk=>?_) (λD3 qf ys O nD3 Hv hr=>?_)]
  .let[G,M]:=gb (az.of (s4^U)) i x f ∅ y;rwa[G,by rw[amH,M];rfl]
  .obtain⟨q,m⟩:∃q,qs[i]?\q:={_,amB ∅}
   let ew:(R.Α λw=>M18.fill J w)[i]?\((R.Α λw=>M18.fill J w)[i]'([amE]▸hi)):=amB _
   let Y:=s4^tq.2 i q _ m ew;let e3:(qs.Α V.Η).Λ i .non=?q:=by rw[amH,amQ,m];rfl
   rw[e3];rwa[12,q,12,.Ζ (bD.of Y),kk β (au.refl _) ?_];rw[aD,amH,ew];rfl
  obtain rfl:ys=ao ((R.Α λw=>M18.fill J w).Α λw=>(@w:ο)):=by
   apply aox;intro j
   cases e:ys[j]? with
   |ε=>have:=aoB.mp e;rwa[(ana (by rw[aD,amE,amE];omega)).Β]
   |ι v=>
    let hj:=(amF.mp e).1;let ew:(R.Α λw=>M18.fill J w)[j]?\((R.Α λw=>M18.fill J w)[j]'(by rw[amE];omega)):=amB _
    rw[hr j v e,bT (by rw[amQ,ew];rfl),amH,ew];rfl
  let S:=au.υ (o:=.Ε (ao ((R.Α λw=>M18.fill J w).Α λw=>(@w:ο)))) nD3;rwa[D3,12,az.of aj,λe=>?_,λzz hz afA=>{112212,cw (λ_=>?_) (λh=>?_)}]
  .have:=an7 θ.Ξ e;rw[amE,amE]at ω;simp only[ank]at ω;ext
  .rwa[12,k ra R _ Ş (hR.Δ Ş) ok (Hz stR)]
  .let h:¬(8:ο)<zz:=λq=>h (anh q)
   rwa[12,k D2 (R.Α λw=>M18.fill J w) _ Ş {qs,S^O^U,tq.Δ (O.π S)} {[amE]▸n1,[amE]▸n6,λu Z=>{55}} (N.tz stR)]
   .let[w,hw,Τ]:=anm.mp Z;rwa[qk (λu Z=>(N.w u Z).1) ([N.l]▸stR w hw)]
   .have:=afA (@u:ο) (anm.mpr {u,Z,2});ext
def afB:Sp:=λb H Q _=>∃(n:η)(z:ο),b=[.τ n,.τ z]/\1<=n/\n<=8/\∀(q r:Zs)(L:η)(R:Za3)(a:Hp),au H a->a q\.Θ [.τ L,?r]->bz a r R->1<=L->L<=3->j2 L R->Q ?q a
def AQ (l:Zs)(H:Hp)(p:Zs):ν:=∃r L R,r≠l/\H p\.Θ [.τ ((L:η):ο),?r]/\bz H r R/\1<=L/\L<=3/\j2 L R
structure GS (H0 H:Hp)(l:Zs)(gs:Zn)(n:η):ν where
 s:au H0 H
 f:H0 l=ε
 h:H l\(.Ε (gs.Α V.Η))
 c:@gs<=n
 p:1<=@gs
 g:∀p∈gs,AQ l H p
def AQ.Δ (h:AQ a H b)(s:Đ):AQ a I b:=by let[r,L,R,f,e,c,d]:=h;rwa[r,L,R,f,s^e,c.Δ s,d]
theorem uU {H0:Hp}{l r q:Zs}{ps:Zn}{L:η}{R:Za3}(h:GS H0 H l F n)(s:Đ)(t:bO I ps R)(ok:j2 L R)(y:1<=L)(B:L<=3)(j:I r=ε)(x:υ I r (.Ε (ps.Α V.Η)) q=ε):υ (υ I r (.Ε (ps.Α V.Η))) q (.Θ [.τ (L:ο),?r]) l\.Ε (F.Α V.Η)/\GS H0 (υ (υ (υ I r (.Ε (ps.Α V.Η))) q (.Θ [.τ (L:ο),?r])) l (.Ε (F.Α V.Η++[?q]))) l (F++[q]) (n+ 1):=by
 let s1:=au.υ (o:=.Ε (ps.Α V.Η)) j;let v:υ I r (.Ε (ps.Α V.Η)) r\(.Ε (ps.Α V.Η)):=aj;let rl:r≠l:=λe=>by rw[e,s^h.h]at j;ext j
 change υ I r (.Ε (ps.Α V.Η))=u at *;let g:=au.υ (o:=.Θ [.τ (L:ο),?r]) x;let eq:υ u q (.Θ [.τ (L:ο),?r]) q\(.Θ [.τ (L:ο),?r]):=aj;change υ u q (.Θ [.τ (L:ο),?r])=m at *;let k:=s.π (s1.π g);let i:=k^h.h;let keep:∀{p},AQ l m p->AQ l (υ m l (.Ε (F.Α V.Η++[?q]))) p:=λ{p} ζ=>by let[r,L,R,a,b,⟨ps,c,d⟩,e]:=ζ;rwa[r,L,R,a,[aq (bF b i f!"")]▸b,{ps,[aq a]▸c,QN d i},e]
 rwa[i,λb o e=>[aq (ax e h.f)]▸(h.s.π k) b o e,h.f,by rw[aj,am8];rfl,[amG]▸aqp h.c,[amG]▸η.le_add_left β,λp f=>?_];rcases amO.mp f with f|f
 .rwa[keep ((h.g p f).Δ k)]
 .rw[amI.mp f];rwa[keep {r,L,R,rl,eq,{ps,g^v,t.Δ (s1.π g)},y,B,ok}]
def sH:bO H [] []:={2,λi p w h=>by simp at h}
def rp (w:Zg)(n:η):Zg:=(θ.replicate n w).flatten
def qm {w:Zg}{L:η}(b:Ĵ)(h:@w* n<=8):M11.aH L (rp w n)/\@(rp w n)<=8:={λs a=>b s (QO a),by unfold rp;rw[BH];rwa[h]}
def HC (h:1<=n):M11.aH n [1]:=λs a=>[amI.mp a]▸{4,h}
def s2_ (h:2<=n):M11.aH n [2]:=λs a=>[amI.mp a]▸{4,h}
seal L2.PE L2.PS L2.iY L2.PA L2.PT
def yb:T.m3.Ok P w base 1 afB:=by
 rwa[T.m3.on eS (λb9 AA outer s H vs Q E hr h=>?_) (len:=by rintro _ _ _ _ ⟨n,z,Τ,_⟩;rfl)]
 .let[n,z,Τ,hn1,hn8,k]:=h
  erw[_,{{bH 2 eS.nd (aK g9 (bA #[ak]) (pv 0)),bH 3 eS.nd (aK dF (pv 0) ak),bH 4 eS.nd (aK dF (pv 0) ak),bH 5 eS.nd (bN #[bA #[ak,bN #[2]],bA #[ak,bN #[2,bA #[ak]]]]),bU am5 Τ (mG Τ T.fE #[ak,aK cZ (pv 0) ak]) (du 6 eS.nd)
    {{bL (bI (aX dI (aK cP (pv 0) (pv 6)) ak (bh _))
     {{a8 (df amX am2 am3 bS (pv 5) #[bA #[ak,bN #[aK g9 (bA #[ak]) (pv 6),aK g9 (bA #[ak]) (aK dF (pv 0) (pv 6)),bA #[ak,ak,fx dN ak,fx dN ak]]]])}}
     bp)}},bL (bI (aX dI Ţ ak (bh _))
    {{a8 (df amX am2 am3 bS (pv 5) #[bA #[ak,bN #[aK g9 (bA #[ak]) (pv 3),bA #[ak,ak],bA #[ak,ak,ak,ak]]]]),a8 (df amX am2 am3 bS (pv 5) #[bA #[ak,bN #[bA #[ak,ak],bA #[ak,ak],aK g9 (bA #[ak,ak]) (pv 3)]]])}}
    bp),bL (bI (aX dI Ţ ak (bh _))
    {{a8 (df amX am2 am3 bS (pv 5) #[bA #[ak,bN #[aK g9 (bA #[ak]) (pv 3),aK je (aK g9 (bA #[ak]) (pv 4)) (bA #[fx dN ak,fx dN ak]),bA #[fx dN ak,ak,ak,ak]]]])}}
    bp),bL (bI (aX dI (pv 0) ak (bh _))
    {{a8 (df amX am2 am3 bS (pv 5) #[bA #[ak,bN (ae (bA #[ak,ak]) (ae (bA #[ak,ak]) (ae (bA #[ak,ak]) (ae (aK g9 (bA #[ak,ak]) ak) (ae (aK g9 (bA #[ak,ak]) ak) (ae (aK g9 (bA #[ak,ak]) ak) ah DE) DE) DE) Fm) Fm) Fm)]])}}
    bp),bL (bI (aX dI (pv 0) ak (bh _))
    {{a8 (df amX am2 am3 bS (pv 5) #[bA #[ak,bN #[bA #[ak,ak,ak],bA #[ak,ak],aK g9 (bA #[ak,ak]) ak]]])}}
    bp),bf (5|||(aK cP (pv 1) (5<<<0)))}}]
  rwa[Dq ?_];intro u_9 SM By zo rn pG jn dA eD;rwa[Za4 1,λw0 Ti=>{125}];generalize d:υ H w0 _=H1;obtain⟨s0,e0⟩:_/\_\(.Θ (ao [1])):=cW d Ti;rwa[w0,1122,e0,33,[aD,anb]▸amM (show 1* n<=100 by omega) ⋯,λf H2 s1 e1=>?_];rw[anb,kh]at e1;let s02:=s0.π s1;let e1:H2 f\(.Θ (ao (rp [1] n))):=e1;erw[121122,{44}];erw[121122,{44}];rwa[12,Za4 1,λr1 nr1=>{Za4 2,λq1 nq1=>?_}];let a1:=au.υ (o:=.Ε [?f]) nr1;let b1:υ H2 r1 (.Ε [?f]) r1\(.Ε ([f].Α V.Η)):=aj;change υ H2 r1 _=H3 at a1 b1 nq1 ⊢;generalize d:υ H3 q1 _=H4;obtain⟨a2,b2⟩:_/\_\(.Θ [.τ ((1:η):ο),?r1]):=cW d nq1;rwa[12,Za4 1,λw2 wz=>{Za4 2,λr2 TL=>{Za4 2,λq2 T3=>{Za4 2,λl U=>?_}}}];let a3:=au.υ (o:=.Θ [.τ 2]) wz;let b3:υ H4 w2 (.Θ [.τ 2]) w2\(.Θ (ao [2])):=aj;change υ H4 w2 _=H5 at a3 b3 TL T3 U ⊢;let a4:=au.υ (o:=.Ε [?f,?w2]) TL;let b4:υ H5 r2 (.Ε [?f,?w2]) r2\(.Ε ([f,w2].Α V.Η)):=aj;change υ H5 r2 _=H6 at a4 b4 T3 U ⊢;let a5:=au.υ (o:=.Θ [.τ 2,?r2]) T3;let b5:υ H6 q2 (.Θ [.τ 2,?r2]) q2\(.Θ [.τ ((2:η):ο),?r2]):=aj;change υ H6 q2 _=H7 at a5 b5 U ⊢;generalize d:υ H7 l _=H8;obtain⟨a6,b6⟩:_/\_\(.Ε ([q1,q2].Α V.Η)):=cW d U;let N:=a1.π (a2.π (a3.π (a4.π a5)));let lf:H l=ε:=(s02.π N).free U;let r1l:r1≠l:=λe=>by rw[<-e,a5^a4^a3^a2^b1]at U;ext U
  let r2l:r2≠l:=λe=>by rw[<-e,a5^b4]at U;ext U
  let f1:=qm (w:=[1]) (n:=n) (L:=1) (HC ⋯) (by show 1* n<=8;omega);let f2:=qm (w:=[1]) (n:=n) (L:=2) (HC ⋯) (by show 1* n<=8;omega)
  let g8:GS H H8 l [q1,q2] 2:=by
   rwa[s02.π (N.π a6),lf,b6,amK _,by show 1<=2;decide,λp hp=>?_];rcases amW.mp hp with rfl|hp
   .rwa[r1,(1),[rp [1] n],r1l,a6^a5^a4^a3^b2,{[f],a6^a5^a4^a3^a2^b1,sH.snoc (a6^N^e1)},by decide,by decide,by show 1<=1;decide,by show 1<=6;decide,λu j=>by rw[amI.mp j];rwa[f1]]
   .rw[amI.mp hp]
    exact{r2,(2),[rp [1] n,[2]],r2l,a6^b5,{[f,w2],a6^a5^b4,(sH.snoc (a6^N^e1)).snoc (a6^a5^a4^b3)},by decide,by decide,by show 1<=2;decide,by show 2<=6;decide,λu j=>by
     rcases amW.mp j with rfl|j
     .rwa[f2]
     .rw[amI.mp j];rwa[s2_ (by decide),by show 1<=8;decide]}
  clear b6 r2l r1l lf N a6 a5 b5 a4 b4 a3 b3 a2 b2 a1 b1 U T3 TL wz nq1 nr1 e1 s02 s1 s0 e0;erw[121122,(2),(n:ο)+ 1,2,{3333}]
  let' jo:η->St->Hp->ν:=λi σ H'=>∃(t:Zn)(v6:Zc),σ=#v[.τ n,.τ z,?f,.τ ((n:ο) / 2),.τ ((n:ο) / 4),?l,v6]/\GS H H' l t (2+ i)
  rwa[ik (lo:=2) (n:=((n:ο)+ 1 - 2).toNat) jo {[q1,q2],ε,2,g8} ?_ ?_]
  .rintro i σ H9 hi ⟨t,v6,Τ,b⟩;dsimp only[cU];rwa[bV ?_];intro ic;rwa[λ v H'=>∃(t:Zn),v=#v[.τ n,.τ z,?f,.τ ((n:ο) / 2),.τ ((n:ο) / 4),?l,.τ (2+ (i:ο))]/\GS H H' l t (2+ i+ 1),5,λ v H' hz=>by let[t,e,g]:=hz;rwa[t,_,e,g]];rwa[12121122,(by show (0:ο)<2+ (i:ο);omega),212,cw (λ_=>?_) (λ_=>{t,2,b.s,b.f,b.h,η.le_succ_of_le b.c,b.p,b.g})];rwa[12,.ψ {21,az.of b.h},Za4 1,λu1 m1=>{125}];generalize d:υ H9 u1 _=K1;obtain⟨c1,d1⟩:_/\_\(.Θ (ao [1])):=cW d m1;rwa[u1,1122,d1,33,[aD]▸amM (show 1* (2+ (i:ο)).toNat<=100 by omega) ⋯,λF K2 c2 J=>?_];rw[show (2+ (i:ο)).toNat=2+ i by ext,kh]at J;obtain⟨m,em,hm⟩:∃m:η,(n:ο) / (2+ (i:ο))=(m:ο)/\m<=n:={n / (2+ i),[show (2+ (i:ο))=((2+ i:η):ο) by ext]▸(ο.natCast_ediv n (2+ i)).Β,η.div_le_self β};rwa[Za4 1,λu2 m2=>{12121122,{33},5}];rw[em];generalize d:υ K2 u2 _=K3;obtain⟨I,d3⟩:_/\_\(.Θ (ao [2])):=cW d m2;rwa[u2,1122,d3,33,[aD,anb]▸amM (show 1* m<=100 by omega) ⋯,λB K4 c4 d4=>?_];rw[anb,kh]at d4;rwa[1212,Za4 4,λC Z=>?_];generalize d:υ K4 C _=K5;obtain⟨M,d5⟩:_/\_\(.Θ (ao [1,2,-1,-2])):=cW d Z;rwa[Za4 3,λr3 S=>{Za4 2,λO m5=>?_}];let c25:=I.π (c4.π M);let ts:bO K5 [F,B,C] [rp [1] (2+ i),rp [2] m,[1,2,-1,-2]]:=((sH.snoc (c25^J)).snoc (M^d4)).snoc d5
   let D:j2 2 [rp [1] (2+ i),rp [2] m,[1,2,-1,-2]]:={by show 1<=3;decide,by show 3<=6;decide,λu j=>by
    rcases amW.mp j with rfl|j
    .rwa[qm (HC (by decide)) (by show 1* (2+ i)<=8;omega)]
    rcases amW.mp j with rfl|j
    .rwa[qm (s2_ (by decide)) (by show 1* m<=8;omega)]
    .rw[amI.mp j];rwa[by unfold M11.aH;decide,by show 4<=8;decide]}
   let[x,y]:=uU (l:=l) (r:=r3) (q:=O) (ps:=[F,B,C]) (L:=2) b (c1.π (c2.π c25)) ts D ⋯ ⋯ S m5;let gc:=b.c;rwa[l,1122,x,[amE]▸amS (show @t<=100 by omega) ⋯,12,y]
  rintro σ H9 ⟨t,v6,Τ,b⟩;replace b:GS H H9 l t 9:={b.s,b.f,b.h,by have:=b.c;ext,b.p,b.g};obtain⟨P,hP⟩:∃P:η->L2.St->Hp->ν,P=λc v H'=>∃(t:Zn),v=#v[.τ n,.τ z,?f,.τ ((n:ο) / 2),.τ ((n:ο) / 4),?l,v6]/\GS H H' l t c:={12}
  let up:∀{c c':η}{t:Zn}{H':Hp},c<=c'->GS H H' l t c->P c' #v[.τ n,.τ z,?f,.τ ((n:ο) / 2),.τ ((n:ο) / 4),?l,v6] H':=λh g=>by rw[hP];rwa[12,g.s,g.f,g.h,amM g.c h,g.p,g.g]
  obtain⟨h,eh,hh⟩:∃h:η,(n:ο) / 2=(h:ο)/\h<=4:={n / 2,33};obtain⟨q4,eq4,hq4⟩:∃h:η,(n:ο) / 4=(h:ο)/\h<=2:={n / 4,33};let sd:∀(L:η)(w:Zg),(w.all λs=>decide (s≠0/\s.natAbs<=L))=ρ->M11.aH L w:=λL w e s hs=>ane (apR.mp e s hs)
  erw[P 11,5]
  .rwa[121122,(by show (0:ο)<2;decide),212,cw (λ_=>?_) (λ_=>up ⋯ b)];rw[eh];rwa[12,.ψ {21,az.of b.h},Za4 1,λu1 m1=>{125}];generalize d:υ H9 u1 _=K1;obtain⟨c1,d1⟩:_/\_\(.Θ (ao [1])):=cW d m1;rwa[u1,1122,d1,33,[aD,anb]▸amM (show 1* h<=100 by omega) ⋯,λF K2 c2 J=>?_];rw[anb,kh]at J;rwa[Za4 2,λB m2=>{Za4 4,λC Z=>?_}];let I:=au.υ (o:=.Θ [.τ 2,.τ 2]) m2;let d3:υ K2 B (.Θ [.τ 2,.τ 2]) B\(.Θ (ao [2,2])):=aj;change υ K2 B _=K3 at I d3 Z ⊢;generalize d:υ K3 C _=K5;obtain⟨M,d5⟩:_/\_\(.Θ (ao [1,2,1,2])):=cW d Z;rwa[Za4 3,λr3 S=>{Za4 2,λO m5=>?_}];let ts:bO K5 [F,B,C] [rp [1] h,[2,2],[1,2,1,2]]:=((sH.snoc (M^I^J)).snoc (M^d3)).snoc d5
   let D:j2 2 [rp [1] h,[2,2],[1,2,1,2]]:={by show 1<=3;decide,by show 3<=6;decide,λu j=>by
    rcases amW.mp j with rfl|j
    .rwa[qm (HC (by decide)) (by show 1* h<=8;omega)]
    rcases amW.mp j with rfl|j
    .rwa[sd^by decide,by show 2<=8;decide]
    .rw[amI.mp j];rwa[sd β ⋯,by show 4<=8;decide]}
   let[x,y]:=uU (l:=l) (r:=r3) (q:=O) (ps:=[F,B,C]) (L:=2) b (c1.π (c2.π (I.π M))) ts D ⋯ ⋯ S m5;let gc:=b.c;erw[l,1122,x,[amE]▸amS (show @t<=100 by omega) ⋯];let gen:∀{X Y:Hp}{i7:Zn}{c:η},GS H X l i7 c->X=Y->GS H Y l i7 c:=λg e=>e ▸ g
   generalize eK6:υ (υ (υ K5 r3 _) O _) l _=K6;replace y:GS H K6 l (t++[O]) 10:=gen y eK6;clear eK6;rwa[12,.ψ {21,az.of y.h},Za4 2,λG m6=>{Za4 2,λx5 m7=>{Za4 2,λx6 m8=>{125}}}];let c6:=au.υ (o:=.Θ [.τ 1,.τ 1]) m6;let d6:υ K6 G (.Θ [.τ 1,.τ 1]) G\(.Θ (ao [1,1])):=aj;change υ K6 G _=K7 at c6 d6 m7 m8 ⊢;let c7:=au.υ (o:=.Θ [.τ 2,.τ 2]) m7;let d7:υ K7 x5 (.Θ [.τ 2,.τ 2]) x5\(.Θ (ao [2,2])):=aj;change υ K7 x5 _=K8 at c7 d7 m8 ⊢;generalize d:υ K8 x6 _=K9;obtain⟨c8,d8⟩:_/\_\(.Θ (ao [1,2])):=cW d m8;rwa[x6,1122,d8,33,[aD,anb]▸amM (show 2* h<=100 by omega) ⋯,λx7 K10 c9 d9=>?_];rw[anb,kh]at d9;rwa[Za4 3,λr4 m9=>{Za4 2,λq5 m10=>?_}];let c89:=c8.π c9;let ts2:bO K10 [G,x5,x7] [[1,1],[2,2],rp [1,2] h]:=((sH.snoc (c89^c7^d6)).snoc (c89^d7)).snoc d9
   let afC:j2 2 [[1,1],[2,2],rp [1,2] h]:={by show 1<=3;decide,by show 3<=6;decide,λu j=>by
    rcases amW.mp j with rfl|j
    .rwa[sd^by decide,by show 2<=8;decide]
    rcases amW.mp j with rfl|j
    .rwa[sd^by decide,by show 2<=8;decide]
    .rw[amI.mp j];rwa[qm (sd β ⋯) (by show 2* h<=8;omega)]}
   let[x',y']:=uU (l:=l) (r:=r4) (q:=q5) (ps:=[G,x5,x7]) (L:=2) y (c6.π (c7.π c89)) ts2 afC ⋯ ⋯ m9 m10;let gc':=y.c;erw[l,1122,x',[amE]▸amS (show @(t++[O])<=100 by omega) ⋯];have:=up (c':=11) ⋯ y';rw[eh]at ω;rwa[ω]
  intro v qf g;rw[hP]at g;clear b t;let[t,Τ,b]:=g;erw[P 12,5]
  .rwa[121122,(by show (0:ο)<4;decide),212,cw (λ_=>?_) (λ_=>up ⋯ b)];rw[eh,eq4];rwa[12,.ψ {21,az.of b.h},Za4 1,λu1 m1=>{125}];generalize d:υ qf u1 _=K1;obtain⟨c1,d1⟩:_/\_\(.Θ (ao [1])):=cW d m1;rwa[u1,1122,d1,33,[aD,anb]▸amM (show 1* h<=100 by omega) ⋯,λF K2 c2 J=>?_];rw[anb,kh]at J;rwa[Za4 1,λu2 m2=>{125}];generalize d:υ K2 u2 _=K3;obtain⟨I,d3⟩:_/\_\(.Θ (ao [1])):=cW d m2;rwa[u2,1122,d3,33,[aD,anb]▸amM (show 1* q4<=100 by omega) ⋯,λB K4 c4 d4=>?_];rw[anb,kh]at d4;rwa[1212,Za4 2,λu3 Z=>?_];generalize d:υ K4 u3 _=K5;obtain⟨M,d5⟩:_/\_\(.Θ (ao [-2,-2])):=cW d Z;let lr:@(rp [1] q4)=q4:=by unfold rp;rw[BH];rwa[η.one_mul _]
   rwa[B,u3,1122,M^d4,d5,[aD,aD]▸amM (show @(rp [1] q4)+ 2<=100 by omega) ⋯,λC K6 c6 d6=>?_];rw[<-ints_app]at d6;rwa[12,Za4 4,λG S=>?_];generalize d:υ K6 G _=K7;obtain⟨c7,d7⟩:_/\_\(.Θ (ao [-2,1,2,1])):=cW d S;rwa[Za4 3,λr3 m5=>{Za4 2,λO m6=>?_}];let c37:=I.π (c4.π (M.π (c6.π c7)));let ts:bO K7 [F,C,G] [rp [1] h,rp [1] q4++[-2,-2],[-2,1,2,1]]:=((sH.snoc (c37^J)).snoc (c7^d6)).snoc d7
   let D:j2 2 [rp [1] h,rp [1] q4++[-2,-2],[-2,1,2,1]]:={by show 1<=3;decide,by show 3<=6;decide,λu j=>by
    rcases amW.mp j with rfl|j
    .rwa[qm (HC (by decide)) (by show 1* h<=8;omega)]
    rcases amW.mp j with rfl|j
    .rwa[λs hs=>(amO.mp hs).Κ ((qm (w:=[1]) (n:=q4) (HC (by decide)) (by show 1* q4<=8;omega)).1 s) (sd 2 [-2,-2] (by decide) s),by rw[amG,lr];show q4+ 2<=8;ext]
    .rw[amI.mp j];rwa[sd β ⋯,by show 4<=8;decide]}
   let[x,y]:=uU (l:=l) (r:=r3) (q:=O) (ps:=[F,C,G]) (L:=2) b (c1.π (c2.π c37)) ts D ⋯ ⋯ m5 m6;let gc:=b.c;erw[l,1122,x,[amE]▸amS (show @t<=100 by omega) ⋯];have:=up (c':=12) ⋯ y;rw[eh,eq4]at ω;rwa[ω]
  intro v Bz g;rw[hP]at g;clear b t;let[t,Τ,b]:=g;erw[P 13,5]
  .rwa[12212,cw (λ_=>?_) (λ_=>up ⋯ b)];rwa[12,.ψ {21,az.of b.h},Za4 2,λF m1=>{Za4 2,λB m2=>{Za4 2,λC Z=>{Za4 2,λG S=>?_}}}];let c1:=au.υ (o:=.Θ [.τ 1,.τ 1]) m1;let d1:υ Bz F (.Θ [.τ 1,.τ 1]) F\(.Θ (ao [1,1])):=aj;change υ Bz F _=K1 at c1 d1 m2 Z S ⊢;let c2:=au.υ (o:=.Θ [.τ 2,.τ 2]) m2;let J:υ K1 B (.Θ [.τ 2,.τ 2]) B\(.Θ (ao [2,2])):=aj;change υ K1 B _=K2 at c2 J Z S ⊢;let I:=au.υ (o:=.Θ [.τ 3,.τ 3]) Z;let d3:υ K2 C (.Θ [.τ 3,.τ 3]) C\(.Θ (ao [3,3])):=aj;change υ K2 C _=K3 at I d3 S ⊢;generalize d:υ K3 G _=K4;obtain⟨c4,d4⟩:_/\_\(.Θ (ao [1,2])):=cW d S;rwa[G,1122,d4,33,by show 2* 2<=sizeLine;decide,λy1 K5 e4 f4=>?_];replace f4:K5 y1\(.Θ (ao (rp [1,2] 2))):=f4;rwa[Za4 2,λx5 m5=>?_];generalize d:υ K5 x5 _=K6;obtain⟨M,d5⟩:_/\_\(.Θ (ao [1,3])):=cW d m5;rwa[x5,1122,d5,33,by show 2* 2<=sizeLine;decide,λy2 K7 e5 f5=>?_];replace f5:K7 y2\(.Θ (ao (rp [1,3] 2))):=f5;rwa[Za4 2,λx6 m6=>?_];generalize d:υ K7 x6 _=K8;obtain⟨c6,d6⟩:_/\_\(.Θ (ao [2,3])):=cW d m6;rwa[x6,1122,d6,33,by show 2* 2<=sizeLine;decide,λy3 K9 e6 f6=>?_];replace f6:K9 y3\(.Θ (ao (rp [2,3] 2))):=f6;rwa[Za4 6,λr3 m7=>{Za4 2,λO m8=>?_}];let g6:=c6.π e6;let g5:=(M.π e5).π g6;let g4:=(c4.π e4).π g5;let ts:bO K9 [F,B,C,y1,y2,y3] [[1,1],[2,2],[3,3],rp [1,2] 2,rp [1,3] 2,rp [2,3] 2]:=(((((sH.snoc (g4^I^c2^d1)).snoc (g4^I^J)).snoc (g4^d3)).snoc (g5^f4)).snoc (g6^f5)).snoc f6
   let D:j2 3 [[1,1],[2,2],[3,3],rp [1,2] 2,rp [1,3] 2,rp [2,3] 2]:={by show 1<=6;decide,by show 6<=6;decide,λu j=>by
    let a:([[1,1],[2,2],[3,3],rp [1,2] 2,rp [1,3] 2,rp [2,3] 2].all λu=>(u.all λs=>decide (s≠0/\s.natAbs<=3)) && decide (@u<=8))=ρ:=⋯
    have:=(an6 β).mp (apR.mp a u j);rwa[sd 3 u ω.1,ane ω.2]}
   let[x,y]:=uU (l:=l) (r:=r3) (q:=O) (ps:=[F,B,C,y1,y2,y3]) (L:=3) b (c1.π (c2.π (I.π g4))) ts D ⋯ ⋯ m7 m8;let gc:=b.c;rwa[l,1122,x,[amE]▸amS (show @t<=100 by omega) ⋯,up (c':=13) ⋯ y]
  intro v SD g;rw[hP]at g;clear b t;let[t,Τ,b]:=g;erw[P 13,5]
  .rwa[12212,cw (λh=>?_) (λ_=>up ⋯ b)];let h:=ane h;injection h with h
   ext
  intro v GZ g;rw[hP]at g;clear b t;let[t,Τ,b]:=g;let gp:=b.p;let[i,ei,hi]:=mq z (n:=@t) ∅;obtain⟨p,hp⟩:∃p,t[i]?\p:={_,amB hi}
  let[r,L,R,_,h2,h3,h4,h5,h6]:=b.g p (amD hp);rwa[121212,l,12,.ψ (az.of b.h),1122,(by rw[amE];omega),l,11,?p,22,az.of b.h,([amE,ei]▸bW hp),k p r L R _ b.s h2 h3 h4 h5 h6]
unseal L2.PE L2.PS L2.iY L2.PA L2.PT
def Fd (b:Za3)(L:η)(H:Hp)(v:V):ν:=v=.non\/∃a T N,v=?a/\TabAt H a T/\FT b [] L N T/\FE b L 16
def Fd.Δ {rs:Za3}(h:Fd rs n H q)(s:Đ):Fd rs n I q:=h.Ρ id λζ=>by let[a,T,N,e,c,b]:=ζ;rwa[a,T,N,e,c.Δ s,b]
def abd:T.law.Ok P w base 13 (Ct K):=by
 rwa[T.law.on jm (λb9 AA outer s H vs Q E hr h=>?_) (len:=by rintro _ _ _ _ ⟨a,ns,Τ,_⟩;rfl)]
 .let[a,ns,Τ,hS,hlen,k]:=h
  erw[_,{{bH 1 jm.nd (pc T.si (wD T) hr #[pc T.Av (Jw T) hr #[0,ak],ak]),jS (pc T.m3 (yb T) hr #[aK cZ ak (aK cP Ý ak),aK dF (pv 1) ak]) (oy Τ (dM (du 2 jm.nd) (dM (du 3 jm.nd) lH))),bH 4 jm.nd (cO gZ Τ T.ib anF #[3]),bU am5 Τ (cD (iA qD (pv 0) (gT ak) (gT ak))) (du 5 jm.nd)
    {{bH 4 jm.nd (pc T.iW (qA T) hr #[4,pc T.si (wD T) hr #[5,ak],2])}},bH 6 jm.nd (bN #[3,4]),bL (bI È
    {{bH 6 jm.nd (bN #[4,3])}}
    bp),bH 7 jm.nd (bN #[pc T.mz (rE T) hr #[2,cO gZ Τ T.ib anF #[6|||ak]],pc T.mz (rE T) hr #[2,cO gZ Τ T.ib anF #[6|||ak]]]),bL (bI (PW.pt (pQ (aX oz (7|||ak) dJ (bh _)) (tL (aX oz (7|||ak) dJ (bh _)))))
    {{bf iw}}
    bp),bH 8 jm.nd (pc T.pP (aaG T) hr #[bA #[2,cO gZ Τ T.ib anF #[6|||ak]],bA #[2,cO gZ Τ T.ib anF #[6|||ak]],ak]),bL (bI (PW.pt (pQ (ot (gS (aY jd Τ T.eZ anM #[8,kj (v:=.ty Ω) Τ T.jF anV Τ]))) (pQ (aX j3 (8<<<0) ak (bh _)) (tL (aX j3 (8&&&ak) (fD (l:=[107,105,110]) Τ) (bh _))))))
    {{bf iw}}
    bp),bL (bI (PW.pt (pQ (ot (gS (pc T.nX (tu T) hr #[8&&&ak,2,2]))) (tL (ot (gS (pc T.nX (tu T) hr #[8&&&ak,2,2]))))))
    {{bf iw}}
    bp),bI (ot (gS (pc T.lb (ql T) hr #[6|||ak,8&&&ak,8&&&ak,7|||ak,7|||ak])))
    {{bf iw}}
    bp,bf (pc T.lb (ql T) hr #[6|||ak,8&&&ak,8&&&ak,7|||ak,7|||ak])}}]
  rwa[La ?_];intro alm aln afy u_9 SM By zo rn pG jn dA eD;replace hS:az K H a (ao ns):=hS;rwa[12,a,ns,(0),2,hS,4,λy=>{y,(4),244,λz hz=>?_}];rwa[121122,{44},1122,(by show (0:ο)<8;decide),1122121122,{44},(1+ z / 2 % 8).toNat,_,by rw[show (((1+ z / 2 % 8).toNat:η):ο)=1+ z / 2 % 8 by ext];rfl,33,λq r L R H1 s1 hq hR L1 L3 ok=>?_];erw[q,12,bD.of hq,21121122];let[rp,EZ,zx]:=id hR;rwa[12,r,12,.ψ (az.of EZ),λo no=>?_];let s2:=au.υ (o:=.Ε (rp.Α V.Η)) no;let ho:bz (υ H1 o (.Ε (rp.Α V.Η))) o R:={rp,aj,zx.Δ s2};change υ H1 o _=H2 at s2 ho ⊢;replace hR:=hR.Δ s2;replace hS:=s2.seq (s1.seq hS);clear s1 s2 hq no EZ zx;rwa[121212,a,12,hS,λb nb=>?_];obtain⟨ms,em⟩:∃ms:Zg,gY (ao ns) (ι 1) (ι 63)=ao ms:={(ns.drop (HT.cC @(ao ns) 0 (ι 1))).take (HT.cC @(ao ns) @(ao ns) (ι 63) - HT.cC @(ao ns) 0 (ι 1)),by unfold gY ao;rw[aqr,aqs]};rw[em];generalize e_:υ H2 b _=H3;let[s3,qb]:=cW e_ nb;replace hR:=hR.Δ s3;replace ho:=ho.Δ s3;clear em nb s3 hS;erw[b,2,{_,az.of qb}]
  let' jo:η->St->Hp->ν:=λi σ n=>∃(o:Zs)(R':Za3)(v5:Zc),σ=#v[?a,.τ z,.τ L,?r,?o,v5,ε,ε,ε]/\au H3 n/\bz n o R'/\j2 L R'/\TZ L R R'
  rwa[cS (xs:=ao ms) jo {o,R,ε,2,au.refl _,ho,ok,Hz λu C=>(ok.w u C).1} (λi σ n _ ζ=>by let[_,_,_,_,s,_]:=ζ;rwa[az.of (s^qb)]) ?_ ?_]
  .intro i v σ H4 hi D;rwa[bu ?_];intro q_;let[o,R',v5,Τ,s4,w4,NM,NP]:=D;dsimp only[q_];clear q_;dsimp only[cU];rwa[bV ?_];intro ic;let[zc,Τ,hzc]:=bR hi;rwa[1212,zc,(1),244,λy hy=>{12,o,y,L,R',2,w4,NM,L1,L3,λl R2 H5 s5 w5 ok5 tz5=>?_}];rwa[l,R2,12,s4.π s5,w5,ok5,NP.π tz5]
  intro σ H4 D;rwa[bu ?_];intro q_;let[o,R',v5,Τ,s4,w4,NM,NP]:=D;dsimp only[q_];clear q_;replace hR:=hR.Δ s4;clear s4 qb ho;rwa[1212,Za4 2,λg ng=>?_];generalize e_:υ H4 g _=H5;obtain⟨s5,I⟩:_/\_\(.Ε ([r,o].Α V.Η)):=cW e_ ng;replace hR:=hR.Δ s5;replace w4:=w4.Δ s5;clear s5 ng
  let' Qz:St->Hp->ν:=λ m n=>∃(g g0 g1:Zs)(A B:Za3),m=#v[?a,.τ z,.τ L,?r,?o,v5,?g,ε,ε]/\n g\.Ε ([g0,g1].Α V.Η)/\bz n g0 A/\bz n g1 B/\j2 L A/\j2 L B/\TZ L A B
  erw[Qz,5]
  .rwa[bV ?_];intro ic;rwa[121122,(by show (0:ο)<2;decide),212,cw (λ_=>?_) (λ_=>{g,r,o,R,R',2,I,hR,w4,ok,NM,NP})];rwa[1212,Za4 2,λg2 ng2=>?_];let s6:=au.υ (o:=.Ε [?o,?r]) ng2;let[U,V_,t]:=NP;rwa[g2,o,r,R',R,2,aj,w4.Δ s6,hR.Δ s6,NM,ok,11,t.sym]
  clear hR w4 NM NP I;intro σ H6 D;rwa[bu ?_];intro q_;let[g,g0,g1,A_,B_,Τ,I,wA,wB,zJ,Z,tz]:=D;dsimp only[q_];clear q_;let[pA,NQ,NR]:=id wA;let[pB,S,HD]:=id wB;let fA:∀u∈A_,M11.aH L u/\@u<=1000:=λu C=>{(zJ.w u C).1,amM (zJ.w u C).2 ⋯}
  let fB:∀u∈B_,M11.aH L u/\@u<=1000:=λu C=>{(Z.w u C).1,amM (Z.w u C).2 ⋯}
  let a6:=zJ.n6;let b6:=Z.n6
  suffices main:∀v0 v1 t H7,au H6 H7->Fd A_ L H7 v0->Fd B_ L H7 v1->H7 t\.Ε [v0,v1]->By { nx:=λ_ n=>Q .non n,rt:=Q } #v[?a,.τ z,.τ L,?r,?o,v5,?g,?t,ε] H7 by
   rwa[1212,g,11,?g0,22,az.of I,2,g0,12,.ψ (az.of NQ),λc0 n0=>?_];let s7:=au.υ (o:=.Ε Ϸ) n0;let w7:bz (υ H6 c0 (.Ε Ϸ)) c0 A_:={pA,aj,NR.Δ s7};change υ H6 c0 _=H7 at s7 w7 ⊢;rwa[c0,L,A_,2,L1,3,w7,fA,3,λH8 s8=>?_,λO T N H8 s8 h1 h2 h3=>?_]
   .let f0:Fd A_ L H8 .non:=.ψ rfl;let e:=s7.π s8;rwa[1212,g,11,?g1,22,az.of (e^I),2,g1,12,.ψ (az.of (e^S)),λJ n1=>?_];let p:=au.υ (o:=.Ε Ň) n1;let w9:bz (υ H8 J (.Ε Ň)) J B_:={pB,aj,HD.Δ (e.π p)};change υ H8 J _=H9 at p w9 ⊢;rwa[J,L,B_,2,L1,3,w9,fB,3,λqf c=>{Za4 2,λt nt=>main β t _ (((e.π p).π c).π Ĕ) ((f0.Δ (p.π c)).Δ Ĕ) (.ψ Τ) aj},λtb1 T1 N1 qf c k1 k2 k3=>{Za4 2,λt nt=>main β t _ (((e.π p).π c).π Ĕ) ((f0.Δ (p.π c)).Δ Ĕ) (.Ζ {tb1,T1,N1,2,k1.Δ Ĕ,k2,k3}) aj}]
   .let f0:Fd A_ L H8 ?O:=.Ζ {O,T,N,2,h1,h2,h3};let e:=s7.π s8;rwa[1212,g,11,?g1,22,az.of (e^I),2,g1,12,.ψ (az.of (e^S)),λJ n1=>?_];let p:=au.υ (o:=.Ε Ň) n1;let w9:bz (υ H8 J (.Ε Ň)) J B_:={pB,aj,HD.Δ (e.π p)};change υ H8 J _=H9 at p w9 ⊢;rwa[J,L,B_,2,L1,3,w9,fB,3,λqf c=>{Za4 2,λt nt=>main β t _ (((e.π p).π c).π Ĕ) ((f0.Δ (p.π c)).Δ Ĕ) (.ψ Τ) aj},λtb1 T1 N1 qf c k1 k2 k3=>{Za4 2,λt nt=>main β t _ (((e.π p).π c).π Ĕ) ((f0.Δ (p.π c)).Δ Ĕ) (.Ζ {tb1,T1,N1,2,k1.Δ Ĕ,k2,k3}) aj}]
  intro v0 v1 t H7 s7 f0 f1 G
  let' afD:St->Hp->ν:=λ m n=>(∃O T N sb F M,m=#v[?a,.τ z,.τ L,?r,?o,v5,?g,?t,ε]/\n t\.Ε [?O,?sb]/\TabAt n O T/\FT A_ [] L N T/\FE A_ L 16/\TabAt n sb F/\FT B_ [] L M F/\FE B_ L 16)/\n=H7
  erw[afD,5]
  .rwa[bV ?_];intro ic;rcases f0 with rfl|⟨O,T,N,Τ,t0,NT,fe0⟩
   .rwa[_,Τ,t,_,_,.non,Τ,Τ,az.of G,Τ,Τ,_,Τ,gC (gC (k _))]
   rcases f1 with rfl|⟨sb,F,M,Τ,t1,NV,fe1⟩
   .rwa[_,Τ,t,_,_,?O,Τ,Τ,az.of G,Τ,Τ,_,Τ,dc {_,Τ,t,_,_,.non,Τ,Τ,az.of G,Τ,Τ,_,Τ,gC (k _)}]
   rwa[_,Τ,t,_,_,?O,Τ,Τ,az.of G,Τ,Τ,_,Τ,dc {_,Τ,t,_,_,?sb,Τ,Τ,az.of G,Τ,Τ,_,Τ,dc {{O,T,N,sb,F,M,Τ,G,t0,NT,fe0,t1,NV,fe1},Τ}}]
  clear f0 f1 G;intro m H8 D;rwa[bu ?_];intro q_;let[⟨O,T0,N,sb,F,M,Τ,G,T4,NT,fe0,hF,NV,fe1⟩,Τ]:=D;dsimp only[q_];clear q_;replace I:=s7^I;replace NQ:=s7^NQ;replace S:=s7^S;replace NR:=NR.Δ s7;replace HD:=HD.Δ s7;clear s7;rwa[1212,g,11,?g0,22,az.of I,2,g0,12,.ψ (az.of NQ),λc0 n0=>{Za4 2,λp0 Mr=>?_}];let p:=au.υ (o:=.Ε Ϸ) n0;let w9:bz (υ H8 c0 (.Ε Ϸ)) c0 A_:={pA,aj,NR.Δ p};change υ H8 c0 _=H9 at p w9 Mr ⊢;generalize e_:υ H9 p0 _=qf;let[c,BM]:=cW e_ Mr;let x:=p.π c;rwa[1212,g,11,?g1,22,az.of (x^I),2,g1,12,.ψ (az.of (x^S)),λJ n1=>{Za4 2,λp1 np1=>?_}];let Y:=au.υ (o:=.Ε Ň) n1;let w11:bz (υ qf J (.Ε Ň)) J B_:={pB,aj,(HD.Δ x).Δ Y};change υ qf J _=Bz at Y w11 np1 ⊢;generalize e_:υ Bz p1 _=SD;let[NW,E0]:=cW e_ np1;let abh:=x.π (Y.π NW);let[U,V_,tzz]:=id tz;rwa[p0,p1,c0,J,L,(16),A_,B_,U,V_,2,NW^Y^BM,E0,((w9.Δ c).Δ Y).Δ NW,w11.Δ NW,L1,L3,4433,λu C=>(amO.mp C).Κ (λq=>amM (zJ.w u q).2 ⋯) (λq=>amM (Z.w u q).2 ⋯),fe0,fe1,tzz,λq f b W X GZ Ng hq wf wb lW lX T5 kk=>?_];let d:=abh.π Ng;replace I:=d^I;replace G:=d^G;replace T4:=T4.Δ d;replace hF:=hF.Δ d;let wA':bz GZ g0 A_:={pA,d^NQ,NR.Δ d};let wB':bz GZ g1 B_:={pB,d^S,HD.Δ d};clear d abh Ng NW Y x c p BM E0 w9 w11
  let' afE:St->Hp->ν:=λ m n=>m=#v[?a,.τ z,.τ L,?r,?o,v5,?g,?t,?q]/\n=GZ
  erw[afE,5]
  .rwa[bV ?_];intro ic;rwa[1211112,.Θ hq,oH β,ρ,2,dc ?_];rwa[12,q,12,.Ζ (bD.of hq),212,nM Τ ?_];rwa[12,q,11122,bD.of hq,2212,nM Τ {22}]
  rintro m X7 ⟨rfl,rfl⟩;let E5:∀u∈W,M11.aH L u:=λu C=>(T5 u (amV _ C)).1
  let Lx:∀u∈X,M11.aH L u:=λu C=>(T5 u (amN _ C)).1
  let[k1,k2,k3,k4]:=kk T0 N F M NT NV
  let' afF:St->Hp->ν:=λ m n=>m=#v[?a,.τ z,.τ L,?r,?o,v5,?g,?t,?q]/\n=X7
  erw[afF,5]
  .rwa[bV ?_];intro ic;rwa[12,q,11,?f,22,bD.of hq,21212,f,W,L,by rw[lW];rfl,wf,E5,ρ,2,dc ?_];rwa[12,q,11,?b,22,bD.of hq,21212,b,X,L,by rw[lX];rfl,wb,Lx,ρ,2,dc {22}]
  rintro m H15 ⟨rfl,rfl⟩;rwa[12,g,11,?g0,22,az.of I,212,q,11,?f,22,bD.of hq,212,q,11,?b,22,bD.of hq,212,t,11,?O,22,az.of G,212,t,11,?sb,22,az.of G,2,g0,f,b,O,sb,A_,W,X,T0,F,L,2,wA',wf,wb,T4,hF,NT.t,NV.t,lW,lX,λu C=>(amO.mp C).Κ (λq=>{(zJ.w u q).1,amM (zJ.w u q).2 ⋯}) (T5 u),k1,k2,λH16 j=>{ρ,2,dc ?_}];rwa[12,g,11,?g1,22,az.of (j^I),212,q,11,?b,22,bD.of (j^hq),212,q,11,?f,22,bD.of (j^hq),212,t,11,?sb,22,az.of (j^G),212,t,11,?O,22,az.of (j^G),2,g1,b,f,sb,O,B_,X,W,F,T0,L,2,wB'.Δ j,wb.Δ j,wf.Δ j,hF.Δ j,T4.Δ j,NV.t,NT.t,lX,lW,λu C=>(amO.mp C).Κ (λq=>{(Z.w u q).1,amM (Z.w u q).2 ⋯}) (λq=>T5 u ((amO.mp q).Κ (amN _) (amV _))),k3,k4,λn s=>k _]
end
def all_mk {l:PySem.W.OpenLaw}(k:M "law"=ι ?a){b d c i g j f h f1 f2 f3 f4 f5 f6 f7 f8 f9 Mh Q C f13 f14 SG t J f18 f19 f20 n f22 W U f25 f26 D f28 V f30 f31 f32 f33 f34 f35 f36 z f38 E f40 f41 f42 f43 f44 f45 f46 f47 f48 F f50 H Y f53 f54 y f56 L f58 Z f60 f61 f62 f63 f64 f65 f66 f67 f68:Zs}{d1 d2 d3 d4 d5 d6 d7 d8 d9 d10 B d12 q d14 d15 N d17 r u d20 d21 d22 d23 d24 d25 d26 d27 d28 d29 d30 d31 X d33 d34 I x d37 d38 A d40 d41 S d43 d44 d45 d46 d47 d48 O d50 d51 d52 o d54 d55 d56 d57 d58 d59 G m d62 d63 d64 R d66 P d68:Ă}{p:Tok}(T:Txt K M {f1,d1,f2,d2,f3,d3,f4,d4,f5,d5,f6,d6,f7,d7,f8,d8,f9,d9,Mh,d10,Q,B,C,d12,f13,q,f14,d14,SG,d15,t,N,J,d17,f18,r,f19,u,f20,d20,n,d21,f22,d22,W,d23,U,d24,f25,d25,f26,d26,D,d27,f28,d28,V,d29,f30,d30,f31,d31,f32,X,f33,d33,f34,d34,f35,I,f36,x,z,d37,f38,d38,E,A,f40,d40,f41,d41,f42,S,f43,d43,f44,d44,f45,d45,f46,d46,f47,d47,f48,d48,F,O,f50,d50,H,d51,Y,d52,f53,o,f54,d54,y,d55,f56,d56,L,d57,f58,d58,Z,d59,f60,G,f61,m,f62,d62,f63,d63,f64,d64,f65,R,f66,d66,f67,P,f68,d68,p,b,d,c,i,g,j,f,h})
 :∃fd:FuncData,(∀(s:Zu)(v:Zt),BindsTo s fd ⟨[v],[]⟩ [(î,v)])/\∀base:Heap,K.In base->base.Ns mainGlobals M->eG l.prog w K M base (dG l.prog w) 13 a fd [î] (Ct K):=by let e:=k.Β.π T.law.m;ext e;let[kV,doc,pm,an,b9,ct,e]:=T.law.fd;rwa[_,λs v=>[e]▸.of_eq Τ,λbase _ _=>abd T]
def walk {l:PySem.W.OpenLaw}{loose:Zp}{m:(Ι->Zl)->Heap->ν}{g:World->Heap->ν}{d:DefRec}{K:Params->Za1}(q:l.most\63)(c:d.params.defaults=[])(o:∀(w:Ĩ) (h:ċ),g w h->(K w.params).In h)(F:∀(w:Ĩ) (b:Ι->Zl) (e:Zs) (h:ċ),(K w.params).In h->h.Ns mainGlobals b->b d.name\?e->∃fd:FuncData,(∀(s:Zu) (u:Zt),BindsTo s fd ⟨[u],[]⟩ [(î,u)])/\∀base:Heap,(K w.params).In base->base.Ns mainGlobals b->eG l.prog w (K w.params) b base (dG l.prog w) 13 e fd [î] (Ct (K w.params))):
 PySem.W.WalkO P loose m g l.row.toRowW d [] (λf j=>PySem.call f j):=L2.Uh (n:=63) (k:=13) (x:=î) (CX:=λw=>(dG l.prog w)) (sp:=λw=>Ct (K w.params)) q ⋯ c {244} o F (λ_ _ a i p _ r=>{a,i,2,r,p,λ_=>rfl}) λ_ _ _ _ _ z=>R6 z
end K75
end Lake
open PySem PySem.W PyProof.Rows
namespace PySem.W.Fast
example:=Q tw11304316819485178629 tw6837537065577880626 tw17606051879162624463 tw6344063994654463613 tw15166126433423736809 tw16614459637099493038 tw845508379867065517 tw8755806673884356816 tw9730476308199050103 tw9184025328502223086 tw6755677351888382387 tw3944728848570792528 tw8657382832109018840 tw14487438437360740264 tw2300719183887305653 tw12612638682658232116 tw15260900566679806264 tw6285061052036061364 tw6253115672473160042 tw3656020155028236698 tw12573131306966166708 tw128190162358747749 tw1211655387986295286 tw2210674913388809745 tw3531380731429814327 tw1513135142156558824 tw2660603122954216334 tw3592067509342165490 tw14209485115545112780 tw9207308003623843683 tw3183669907686147864 tw5318847651426418726 tw8769449303814090414 tw12246956682605418479 tw14828787707821396037 tw4696769994929902163 tw18318130758945213316 tw7475893665158051436 tw5415101735950097008 tw9716637149647842391 tw17406252026229023746 tw16645557559659016566 tw5293030927160046928 tw8888376276039164001 tw10436153386992999152 tw16455704601664592457 tw2075873681614498792 tw17973760399209442998 tw14872434249352041272 tw11256168173936195821 tw7487944784661148999 tw8605711876434140720 tw15804148476656914560 tw10162051615808531777 tw15706291527673773106 tw6014714593818681634 tw14244156032443967736 tw3175999777009373836 tw11680276353020687940 tw16390176781164870073 tw9350146840778541214 tw13113841159554723868 tw2495208554536630134 tw9126862562791956222 tw8606852012366668204 tw10581438912308990473 tw8595324371072958973 tw17994015796813187506 tw17806672284449650714 tw12588969324634499678 tw5614559736617372529 tw13798627657693085956 tw11482159975729637871 tw17778391203767301888 tw9226926388142492796 tw12035296824259551270 tw10177275919131459436 tw13795878764423653351 tw16103653642368664130 tw607937322120794383 tw7196566385601111757 tw8871657731217716228 tw15198413199617310274 tw1405249613220073679 tw16061758078566861939 tw7634040195747662944 tw14934502973178382555 tw5495139603738306148 tw8525120386963875929 tw14715255136214025193 tw4448972750054029382 tw15408022376810253091 tw17293995865813984876 tw18226810928438171731 tw9662398473031331113 tw8976968570887966072 tw3502251071671300493 tw12779707138861935579 tw15189235828961566954 tw10179918321662180143 tw7701470241964437137 tw3812921194580866598 tw18319226576687986747 tw13890602511355750602 tw6614394076924528721 tw17754368965961199618 tw6860063978342058563 tw2629794954335862631 tw8367883900724870290 tw4459533286412541892 tw2751223640809004130 tw15171685805430556487 tw3928892244703691498 tw13889457402100849533 tw7106774393747582838 tw18272571573552579444 tw12516184089241130067 tw12123205788106657116 tw1993631672120217533 tw7872465827569203172 tw15714658163167808113 tw15356496950818516041 tw17055866853849847575 tw8506283494793530918 tw4092986176726412526 tw13966288611313913806 tw15597031326985241023 tw12983852407195024703 tw1251189836841494227 tw10104086233341196830 tw1767784431915501327 tw2674538957084927953 tw13636915008047797481 tw6240335454370599183 tw16313781162818497907 tw1838404848932834049 tw14435705863925627655 tw9839281925431890037 tw4822164838352708161 tw5894766780516362406 tw9081951821467148026 tw17323448838812320133 tw8467546300363446747 tw8982126776876010633 tw5878418115923256888 tw3044117650558358913 tw12084881492400499088 tw7637056519717744513 tw2211840300115210692 tw16387245595512523163 tw9960998565251400096 tw18100541060206226006 tw16474449106703875274 tw15225648897375295388 tw16284951147033294946 tw2131499545508528861 tw10378273192403218846 tw1425024128472275000 tw3994122374841442048 tw13025979077042802617 tw5978537963444876158 tw9731226242790264941 tw2071530434446125849 tw5007059269149859032 tw4490679431395451754 tw2919486418846200873 tw1497194777801453016 tw14765323889585321183 tw17469139860162432178 tw3265340626839021330 tw11947966281124094960 tw8142517531110603380 tw13023434241641563276 tw2768592830543728763 tw9116661462571654077 tw9368800249854484096 tw16426250879910033776 tw14967979168097866380 tw16424479255927894855 tw11279273266766156995 tw16448094290918014575 tw2616560439874090782 tw10848284487190926271 tw7693314715144015639 tw348515113055100228 tw4557552596910077291 tw10500067256417712409 tw8132369407814304491 tw14679652444808117541 tw2948476417341081612 tw3192079416745263989 tw17752955693342967698 tw14029125704842146719 tw12834030002878279791 tw1569859051779879992 tw15689285360528856522 tw11174511812509957759 tw16521434571146816626 tw8261372243316396253 tw12398336559716260632 tw11628123012516138519 tw3767328441182669617 tw3004948545719932038 tw14333252402859185259 tw9672678265444833068 tw9890813275605613007 tw10455046428398731473 tw8886838314367020650 tw16871536357643131513 tw14333052778627899430 tw11801321557546658922 tw8536025376412153861 tw11811024201896182164 tw16442145023915492621 tw17088101231693224358 tw6451597377370902468 tw18314996325584430514 tw7101679665775096834 tw6823512376439477039 tw12733927989683537643 tw2067327962936350703 tw7933726759556364700 tw7573769927299597061 tw1828655487399953239 tw13082573555937095144 tw13368447161143275270 tw18340503065154506847 tw8327207826085201684 tw9796213357766904307 tw17884416760683018172 tw7338921879537886721 tw15413882955398422895 tw6412780553081645977 tw2566426498425142915 tw17240667814891532977 tw11686687126708703113 tw18318510039867516234 tw14178668271568573622 tw15851463493454165781 tw10816678672477748608 tw11135247107318117749 tw11553029381719718637 tw5578238035298442586 tw12576347515592861559 tw579155415702121055 tw9896170791837761948 tw13706682999556544722 tw2870689177179901286 tw2208854991637644590 tw810729541153255320 tw3780105940736349541 tw9116387255377659526 tw7651698549161425550 tw637561836066875079 tw3974010144223304710 tw3375967946307249344 tw12480057862249349306 tw12433265706004086187 tw11606006707072590657 tw11261786087330943719 tw10918760991185018427 tw10366484712270098908 tw4961255879371724186 tw13294815724816109587 tw7469168059492028752 tw7162028441564867261 tw15328609309609288720 tw11758161448970657816 tw15167165638812608267 tw999236656356475243 tw5877308779335007781 tw5163738707892111655 tw1313339690943090001 tw10133985017959540610 tw6481099700995930201 tw9954510172714479714 tw9619499309258427674 tw9409802394364947272 tw916964930482324429 tw9136537207306852182 tw8412840571842029868 tw8087934261210647884 tw7702567790400451902 tw7563817219727851423 tw6710893778731997176 tw6360359740443913191 tw546037911421553319 tw4253379629093920283 tw3373099052564014387 tw3198104825969076495 tw3039817226587659352 tw2710796768287997454 tw2612252558506623931 tw1694414759862835108 tw15822224745629286251 tw15548427491735005511 tw14464997779545762420 tw14195966312190626366 tw13174342099675236434 tw12050277502849672560 tw11598837873098199445 tw10750517099976703218 tw10594778553760054555 tw4512468052472124820 tw17203932788104324198 tw5194523906105436455 tw16058494888065521180 tw10222242935689721307 tw6758236805279163969 tw936392569604048664 tw4111210680506174037 tw285697991291251156 tw16082213715480375267 tw15829779228641951533 tw1448751564500697308 tw14298849478754518046 tw11081636612316762612 tw14050448294442673330 tw8216019251129515133 tw11092141377033069025 tw9420326837333028224 tw6208897514654350741 tw5339552155739589761 tw139863758997726939 tw8670900198321050978 tw4985058548157836268 tw3118084234460257678 tw1435207091426697279 tw9754095811895674033 tw8229218455293584070 tw8204132674524526333 tw5346858874418101369 tw5331399441398791158 tw491162933925887361 tw4899614005493835024 tw488713945571372626 tw4057353469367715272 tw3876957878360514574 tw344345661510920626 tw3397854167452225063 tw3300672895353750792 tw3088383315443109093 tw18324608197177745636 tw17686748735531500069 tw1714064846490742061 tw1693051767544189163 tw16593217707773032342 tw16591566974540743829 tw15910080758195259471 tw15780521278658873189 tw1557996595239174237 tw14883122878000906059 tw1458166229535268975 tw14578082935156530757 tw14361846140884627588 tw13618924302392272036 tw13345575696036653058 tw13249703220463415496 tw12834822936654556233 tw12511783620532275685 tw12446413096100819547 tw12302067238453920097 tw11146507319292185859 tw10061842810845266142 tw3917237621930890783 tw9218518468264281663 tw6630131284264169715 tw4234515375229549515 tw3930346409660757633 tw3753818467157900717 tw15615776037305795618 tw11272968503016533074 tw15952371445475998484 tw12739982353788013224 tw5350095508760446322 tw4340806799089032447 tw14095190772430496179 tw13846139350679041818 tw10926799098482881659 tw6270709589863288370 tw6559406440053389550 tw17999330281524575120 tw17645338380792198429 tw8907862405116241260 tw7664071477710302306 tw7107438717561051662 tw6159428770306111199 tw5853682958404206250 tw5050792788253865303 tw11250635250786837226 tw2827711002812878705 tw17016237515211339427 tw7637893763051559681 tw7627881170029936998 tw6840554116581331712 tw6553381826160023474 tw444480440832017893 tw2784359876235279991 tw2038932536002308650 tw18322712308550086476
end PySem.W.Fast
end
open Lake
set_option maxRecDepth 100000 in
set_option maxHeartbeats 0 in
theorem PySem.Challenge.cw_cosetyard_k75_whole_told_otherwise_holds : PySem.Challenge.rw_cosetyard_k75_whole_told_otherwise.Holds := by
  w_on; o_law; k_head;(case hw => w_witness2)
  k_fill
  refine K75.walk (l := PySem.Challenge.rw_cosetyard_k75_whole_told_otherwise) rfl rfl (fun w h Y => PySem.W.km_in_of Y) ?F
  case F =>
    intro w mg fa h KX G hmg
    refine' K75.all_mk hmg ⟨?D1,?D2,?D3,?D4,?D5,?D6,?D7,?D8,?D9,?D10,?D11,?D12,?D13,?D14,?D15,?D16,?D17,?D18,?D19,?D20,?D21,?D22,?D23,?D24,?D25,?D26,?D27,?D28,?D29,?D30,?D31,?D32,?D33,?D34,?D35,?D36,?D37,?D38,?D39,?D40,?D41,?D42,?D43,?D44,?D45,?D46,?D47,?D48,?D49,?D50,?D51,?D52,?D53,?D54,?D55,?D56,?D57,?D58,?D59,?D60,?D61,?D62,?D63,?D64,?D65,?D66,?D67,?D68,?g1,?z1,?z2,?z3,?z4,?z5,?z6,?z7,?z8,?z9,?z10,?z11,?z12,?z13,?z14,?z15,?y_YardError,?y_TooMany,?y_TooGreat,?y_Order,?y_Rooms,?y_Going,?y_Closing,?y_Moves,_,_,_,_,_,_,_,_,_,_,_,_,_,_,_,_,_,_,_,_,_,_,_,_,_,_,_,_,_,_,_,_,_,_,_,_,_,_,_,_,_,_,_,_,_,_,_,_,_,_,_,_,_,_,_,_,_,_,_,_,_,_,_,_,_,_,_,_,_,_,_,_⟩
    all_goals try dsimp only
    (case y_YardError|y_TooMany|y_TooGreat|y_Order|y_Rooms|y_Going|y_Closing|y_Moves|g1 => refine' PySem.W.mg_of KX G ?a;(case a => k_is))
    (case D1|D7|D16|D21|D23|D24|D26|D32|D33|D36 => refine' L2.Def.of KX G ?_ ?_ ?_ ?_ (fun _ _ _ _ _ _ _ hl => by obtain ⟨_, _, _, rfl⟩ := L2.args_is3 hl; rfl);all_goals try k_is)
    (case D2|D3|D4|D6|D8|D9|D11|D12|D15|D19|D20|D22|D30|D38 => refine' L2.Def.of KX G ?_ ?_ ?_ ?_ (fun _ _ _ _ _ _ _ hl => by obtain ⟨_, rfl⟩ := L2.args_is1 hl; rfl);all_goals try k_is)
    (case D5|D10|D14|D17|D18|D25|D27|D28|D29|D31|D34|D35 => refine' L2.Def.of KX G ?_ ?_ ?_ ?_ (fun _ _ _ _ _ _ _ hl => by obtain ⟨_, _, rfl⟩ := L2.args_is2 hl; rfl);all_goals try k_is)
    (case D13 => refine' L2.DDef.of KX G ?_ ?_ ?_ ?_ ?_ (fun _ _ _ _ _ _ _ hl => by obtain ⟨_, _, _, _, _, rfl⟩ := L2.args_is5 hl; exact ⟨_, rfl, rfl⟩) (fun _ _ _ _ _ _ _ hl => by obtain ⟨_, _, _, _, rfl⟩ := L2.args_is4 (Nat.succ.inj hl); exact ⟨_, rfl, rfl⟩);all_goals try k_is)
    (case D37 => refine' L2.Def.of KX G ?_ ?_ ?_ ?_ (fun _ _ _ _ _ _ _ hl => by obtain ⟨_, _, _, _, _, rfl⟩ := L2.args_is5 hl; rfl);all_goals try k_is)
    (case D39|D47|D51|D56|D58|D64|D66|D68 => refine' L2.MDef.of ?_ ?_ ?_ ?_ ?_ (fun _ _ _ _ _ _ _ hl => by obtain ⟨_, _, _, rfl⟩ := L2.args_is3 hl; rfl);all_goals try k_is)
    (case D40|D43|D45|D49|D63 => refine' L2.MDef.of ?_ ?_ ?_ ?_ ?_ (fun _ _ _ _ _ _ _ hl => by obtain ⟨_, _, _, _, rfl⟩ := L2.args_is4 hl; rfl);all_goals try k_is)
    (case D41|D42|D44|D48|D50|D53|D54|D55|D59|D62|D67 => refine' L2.MDef.of ?_ ?_ ?_ ?_ ?_ (fun _ _ _ _ _ _ _ hl => by obtain ⟨_, _, rfl⟩ := L2.args_is2 hl; rfl);all_goals try k_is)
    (case D46|D52|D60|D61 => refine' L2.MDef.of ?_ ?_ ?_ ?_ ?_ (fun _ _ _ _ _ _ _ hl => by obtain ⟨_, rfl⟩ := L2.args_is1 hl; rfl);all_goals try k_is)
    (case D57 => refine' L2.MDef.of ?_ ?_ ?_ ?_ ?_ (fun _ _ _ _ _ _ _ hl => by obtain ⟨_, _, _, _, _, rfl⟩ := L2.args_is5 hl; rfl);all_goals try k_is)
    (case D65 => refine' L2.MDef.of ?_ ?_ ?_ ?_ ?_ (fun _ _ _ _ _ _ _ hl => by obtain ⟨_, _, _, _, _, _, rfl⟩ := L2.args_is6 hl; rfl);all_goals try k_is)
    (case z1|z2|z3|z4|z5|z6|z7|z8|z9|z10|z11|z12|z13|z14|z15 => refine' PySem.W.mg_none_of KX G ?a;(case a => k_is))
    all_goals first|k_is|kit_is|kts_exm|kernel_rfl
